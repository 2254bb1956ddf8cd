/- Parts of a proof. -/
import Derived.Test.YtipahfcaplbifaaGreatDoorZ02
import Derived.RegionTactic
import Derived.ChangeAlike
import Derived.Lib.SmallJoins
import Derived.StillTailTactics
import Derived.OwnWalk
set_option linter.unusedVariables false
set_option linter.unusedSimpArgs false
set_option maxHeartbeats 60000000
set_option maxRecDepth 100000
namespace Go.Proofs.YtipahfcaplbifaaGreatDoor
section
open Go.RowKit
inductive FT where
 | mk (kind c:Int) (t:List (Int×Int)) (ks:List FT)
instance:Inhabited FT:=⟨.mk 0 0 [] []⟩
def FT.kind:FT→Int | .mk k _ _ _=>k
def FT.c:FT→Int | .mk _ c _ _=>c
def FT.t:FT→List (Int×Int) | .mk _ _ t _=>t
def FT.ks:FT→List FT | .mk _ _ _ ks=>ks
def top (l:List Nat):Nat:=l.foldr max 0
theorem lt_top {m:Nat}{l:List Nat}:m<top l↔∃x∈l,m<x:=by
 induction l with
 | nil=>simp[top]
 | cons a r ih=>
   have e:top (a :: r)=max a (top r):=rfl
   rw[e]
   constructor
   ·intro h
    by_cases h1:m<a
    ·exact⟨a,by simp,h1⟩
    ·obtain⟨x,hx,hm⟩:=ih.1 (by omega)
     exact⟨x,by simp[hx],hm⟩
   ·rintro⟨x,hx,hm⟩
    rcases List.mem_cons.1 hx with rfl | hx
    ·omega
    ·have:=ih.2 ⟨x,hx,hm⟩
     omega
def dep:Nat→FT→Nat
 | 0,_=>0
 | n+1,f=>1+top (f.ks.map (dep n))
def siz:Nat→FT→Nat
 | 0,_=>0
 | n+1,f=>1+(f.ks.map (siz n)).sum
theorem dep_zero (n:Nat)(f:FT):0<dep (n+1) f:=by unfold dep;omega
theorem dep_succ {n m:Nat}{f:FT}:m+1<dep (n+1) f↔∃i,i<f.ks.length∧m<dep n (f.ks.getD i default):=by
 rw[show dep (n+1) f=1+top (f.ks.map (dep n)) from rfl,show m+1<1+top (f.ks.map (dep n))↔m<top (f.ks.map (dep n)) by omega,lt_top]
 constructor
 ·rintro⟨x,hx,hm⟩
  obtain⟨k,hk,rfl⟩:=List.mem_map.1 hx
  obtain⟨i,hi,rfl⟩:=List.getElem_of_mem hk
  exact⟨i,hi,by rw[List.getD_eq_getElem?_getD,List.getElem?_eq_getElem hi];exact hm⟩
 ·rintro⟨i,hi,hm⟩
  rw[List.getD_eq_getElem?_getD,List.getElem?_eq_getElem hi]at hm
  exact⟨_,List.mem_map.2 ⟨_,List.getElem_mem hi,rfl⟩,hm⟩
def sizTo (n:Nat)(ks:List FT)(i:Nat):Nat:=((ks.take i).map (siz n)).sum
theorem sizTo_zero (n:Nat)(ks:List FT):sizTo n ks 0=0:=rfl
theorem sizTo_succ (n:Nat)(ks:List FT)(i:Nat)(h:i<ks.length):sizTo n ks (i+1)=sizTo n ks i+siz n (ks.getD i default):=by
 unfold sizTo
 rw[List.take_succ_eq_append_getElem h,List.map_append,List.sum_append]
 simp[List.getD_eq_getElem?_getD,h]
theorem sizTo_len (n:Nat)(f:FT):siz (n+1) f=1+sizTo n f.ks f.ks.length:=by unfold siz sizTo;rw[List.take_length]
theorem sizTo_mono (n:Nat)(ks:List FT){i j:Nat}(h:i≤j):sizTo n ks i≤sizTo n ks j:=by
 induction h with
 | refl=>exact Nat.le_refl _
 | @step j h ih=>
   by_cases hj:j<ks.length
   ·rw[sizTo_succ n ks j hj];omega
   ·unfold sizTo at ih⊢
    rw[List.take_of_length_le (show ks.length≤j+1 by omega)]
    rw[List.take_of_length_le (show ks.length≤j by omega)]at ih
    exact ih
theorem siz_pos (n:Nat)(f:FT):0<siz (n+1) f:=by unfold siz;omega
def ownV (k c t l:Int)(sn:Bool):Bool:=
 if k=0∨k=1 then(c == 0 && t == 0) && l == 0
 else if k=2∨k=3 then sn && l == 0
 else if k=4 then(c == 0 && t == 0) && l == 1
 else if k=5∨k=6 then c == 0 && t == 0
 else false
def ownF (f:FT):Bool:=ownV f.kind f.c f.t.length f.ks.length (snd f.c f.t)
def sndF:Nat→FT→Bool
 | 0,_=>false
 | n+1,f=>ownF f && decide (∀i,i<f.ks.length→sndF n (f.ks.getD i default)=true)
theorem sndF_no {n:Nat}{f:FT}{i:Nat}(hi:i<f.ks.length)(h:sndF n (f.ks.getD i default)=false):sndF (n+1) f=false:=by
 show(ownF f && decide (∀i,i<f.ks.length→sndF n (f.ks.getD i default)=true))=false
 rw[decide_eq_false (fun hh=>by rw[hh i hi]at h;cases h),Bool.and_false]
theorem sndF_yes {n:Nat}{f:FT}(h:∀i,i<f.ks.length→sndF n (f.ks.getD i default)=true):sndF (n+1) f=ownF f:=by
 show(ownF f && decide (∀i,i<f.ks.length→sndF n (f.ks.getD i default)=true))=ownF f
 rw[decide_eq_true h,Bool.and_true]
def FLies (B:Nat)(w:World):Nat→FT→List Value→Prop
 | 0,_,_=>False
 | n+1,f,cs=>∃(ta:Option Addr) (tcap:Nat) (ka:Option Addr) (kcap:Nat),cs=[.int .i64 f.kind,.int .i64 f.c,.slice ta f.t.length tcap,.slice ka f.ks.length kcap]∧
    Lies B w ta f.t∧f.t.length≤9223372036854775807∧f.ks.length≤9223372036854775807∧
    ∀i,i<f.ks.length→∃b off c0 c1 c2 c3,ka=some ⟨b,off,none⟩∧b<B∧w.cell? ⟨b,off+i*4,none⟩=some c0∧w.cell? ⟨b,off+i*4+1,none⟩=some c1∧w.cell? ⟨b,off+i*4+2,none⟩=some c2∧w.cell? ⟨b,off+i*4+3,none⟩=some c3∧
     FLies B w n (f.ks.getD i default) [c0,c1,c2,c3]
theorem FLies.form {B:Nat}{w:World}:∀ {n:Nat} {f:FT} {c0 c1 c2 c3:Value},FLies B w n f [c0,c1,c2,c3]→∃(k c:Int) (ta:Option Addr) (tn tcap:Nat) (ka:Option Addr) (kn kcap:Nat),c0= .int .i64 k∧c1= .int .i64 c∧c2= .slice ta tn tcap∧c3= .slice ka kn kcap
 | 0,_,_,_,_,_,h=>h.elim
 | n+1,f,_,_,_,_,⟨ta,tcap,ka,kcap,h1,_⟩=>by
   simp only[List.cons.injEq,and_true]at h1
   exact⟨_,_,_,_,_,_,_,_,h1.1,h1.2.1,h1.2.2.1,h1.2.2.2⟩
theorem FLies.below {B:Nat}{w w':World}(hb:Below B w w'):∀ {n:Nat} {f:FT} {cs:List Value},FLies B w n f cs→FLies B w' n f cs
 | 0,_,_,h=>h
 | n+1,f,cs,⟨ta,tcap,ka,kcap,h1,h2,h3,h4,h5⟩=>⟨ta,tcap,ka,kcap,h1,h2.below hb,h3,h4,fun i hi=>by
   obtain⟨b,off,c0,c1,c2,c3,e,hlt,g0,g1,g2,g3,hf⟩:=h5 i hi
   exact⟨b,off,c0,c1,c2,c3,e,hlt,(hb.cell (p:=⟨b,off+i*4,none⟩) hlt).trans g0,(hb.cell (p:=⟨b,off+i*4+1,none⟩) hlt).trans g1,(hb.cell (p:=⟨b,off+i*4+2,none⟩) hlt).trans g2,(hb.cell (p:=⟨b,off+i*4+3,none⟩) hlt).trans g3,hf.below hb⟩⟩
theorem FLies.mono {B B':Nat}{w:World}(hB:B≤B'):∀ {n:Nat} {f:FT} {cs:List Value},FLies B w n f cs→FLies B' w n f cs
 | 0,_,_,h=>h
 | n+1,f,cs,⟨ta,tcap,ka,kcap,h1,h2,h3,h4,h5⟩=>⟨ta,tcap,ka,kcap,h1,h2.mono hB,h3,h4,fun i hi=>by
   obtain⟨b,off,c0,c1,c2,c3,e,hlt,g0,g1,g2,g3,hf⟩:=h5 i hi
   exact⟨b,off,c0,c1,c2,c3,e,Nat.lt_of_lt_of_le hlt hB,g0,g1,g2,g3,hf.mono hB⟩⟩
end
section
open Go.RowKit
theorem dep_int {n:Nat}{m:Int}{f:FT}(h0:0≤m)(h1:m≠0):m<(dep (n+1) f:Int)↔∃i,i<f.ks.length∧m - 1<(dep n (f.ks.getD i default):Int):=by
 obtain⟨k,rfl⟩:∃k:Nat,m=(k+1:Nat):=⟨(m - 1).toNat,by omega⟩
 have:=dep_succ (n:=n) (m:=k) (f:=f)
 constructor
 ·intro h
  obtain⟨i,hi,hd⟩:=this.1 (by omega)
  exact⟨i,hi,by omega⟩
 ·rintro⟨i,hi,hd⟩
  have:=this.2 ⟨i,hi,by omega⟩
  omega
theorem deeper_any:∀(n:Nat) (f:FT) (cs:List Value) (m:Int) (w:World),0≤m→m≤1048576→FLies w.heap.size w n f cs→
 Calls Tryz.prog 68 #[.agg cs.toArray,.int .i64 m] w fun e w'=>e= .returned (.bool (decide (m<(dep n f:Int))))∧Below w.heap.size w w'
 | 0,_,_,_,_,_,_,h=>h.elim
 | n+1,f,cs,m,w,h0,h1,h=>by
   have IH:=deeper_any n
   obtain⟨ta,tcap,ka,kcap,rfl,_,_,hk4,hks⟩:=h
   have HB0:Hid (Below w.heap.size w (w.alloc (.cells #[.int .i64 f.kind,.int .i64 f.c,.slice ta f.t.length tcap,.slice ka f.ks.length kcap] 39))):=(Below.refl _ w).alloc (Nat.le_refl _) _
   by_cases hm:m=0
   ·subst hm
    have hd:decide ((0:Int)<(dep (n+1) f:Int))=true:=by have:=dep_zero n f;simp;omega
    rw[hd]
    clear IH hks hd
    go_enter Tryz.func68,Tryz.ntmps68
    go_wp2
    go_ret
    exact⟨rfl,HB0.out⟩
   ·have HD:=Lib.hid (dep_int (n:=n) (f:=f) h0 hm)
    have HI:=Lib.hid IH
    have HK:=Lib.hid hks
    have hme:(m == 0)=false:=by simpa using hm
    generalize hr:decide (m<(dep (n+1) f:Int))=r
    have HR:=Lib.hid hr
    clear IH hks hr
    generalize f.kind=fk at HB0
    generalize f.c=fc at HB0
    generalize f.t.length=ft at HB0
    generalize hl:f.ks.length=len at HB0 HK HD hk4
    clear hl
    go_enter Tryz.func68,Tryz.ntmps68
    go_wp2
    go_loopw [12] (fun i wr=>∃k:Nat,k≤len∧i= .int .i64 k∧Hid (∀j,j<k→(dep n (f.ks.getD j default):Int)≤m - 1)∧Below w.heap.size w wr) (fun i _=>len - (intOf i).toNat)
    case atStart=>exact⟨0,Nat.zero_le _,rfl,fun j hj=>absurd hj (Nat.not_lt_zero j),HB0.out⟩
    case round=>
     obtain⟨k,hk,rfl,hno,hb⟩:=hrel
     by_cases hlt:k<len
     ·obtain⟨b,off,c0,c1,c2,c3,rfl,hblt,g0,g1,g2,g3,hf⟩:=HK.out k hlt
      rw[←hb.cell (p:=⟨b,_,none⟩) hblt]at g0 g1 g2 g3
      obtain⟨ck,cc,cta,ctn,ctcap,cka,ckn,ckcap,rfl,rfl,rfl,rfl⟩:=hf.form
      have hb2:=hb.alloc hb.size (.cells #[.int .i64 ck,.int .i64 cc,.slice cta ctn ctcap,.slice cka ckn ckcap] 39)
      have hih:=HI.out (f.ks.getD k default) _ (m - 1) _ (by omega) (by omega) ((hf.below hb2).mono hb2.size)
      by_cases hd:m - 1<(dep n (f.ks.getD k default):Int)
      ·have hr:r=true:=by rw[←HR.out];exact decide_eq_true (HD.out.2 ⟨k,hlt,hd⟩)
       rw[decide_eq_true hd]at hih
       subst hr
       clear hd hf hno
       go_wp2_with fail
       refine hih.mono ?_
       rintro e w1 ⟨rfl,hb1⟩
       have HB1:=Lib.hid (hb2.trans (hb1.mono hb2.size))
       clear g0 g1 g2 g3 hih hb1 hb2
       go_wp2
       go_ret
       exact⟨rfl,HB1.out⟩
      ·rw[decide_eq_false hd]at hih
       have hno2:Hid (∀j,j<k+1→(dep n (f.ks.getD j default):Int)≤m - 1):=fun j hj=>by
        by_cases ej:j=k
        ·rw[ej];omega
        ·exact hno.out j (by omega)
       clear hd hf hno
       go_wp2_with fail
       refine hih.mono ?_
       rintro e w1 ⟨rfl,hb1⟩
       have HB1:=Lib.hid (hb2.trans (hb1.mono hb2.size))
       clear g0 g1 g2 g3 hih hb1 hb2
       go_wp2
       go_roundw
       case rel=>exact⟨k+1,by omega,by go_num,hno2,HB1.out⟩
       case measure=>simp[intOf];omega
     ·have hr:r=false:=by
       rw[←HR.out]
       refine decide_eq_false fun h=> ?_
       obtain⟨i,hi,hd⟩:=HD.out.1 h
       have:=hno.out i (by omega);omega
      subst hr
      clear hno
      go_wp2
      go_ret
      exact⟨rfl,hb⟩
theorem sizTo_le (n:Nat)(f:FT)(k:Nat):1+sizTo n f.ks k≤siz (n+1) f:=by
 rw[sizTo_len]
 by_cases h:k≤f.ks.length
 ·have:=sizTo_mono n f.ks h;omega
 ·have:=sizTo_mono n f.ks (show f.ks.length≤k by omega)
  have e:sizTo n f.ks k=sizTo n f.ks f.ks.length:=by
   unfold sizTo;rw[List.take_of_length_le (by omega),List.take_length]
  omega
def cnt (s:Nat)(m:Int):Int:=if(s:Int)≤m then s else m+1
theorem count_any:∀(n:Nat) (f:FT) (cs:List Value) (m:Int) (w:World),0≤m→m≤1048576→FLies w.heap.size w n f cs→
 Calls Tryz.prog 69 #[.agg cs.toArray,.int .i64 m] w fun e w'=>e= .returned (.int .i64 (cnt (siz n f) m))∧Below w.heap.size w w'
 | 0,_,_,_,_,_,_,h=>h.elim
 | n+1,f,cs,m,w,h0,h1,h=>by
   have IH:=count_any n
   obtain⟨ta,tcap,ka,kcap,rfl,_,_,hk4,hks⟩:=h
   have HB0:Hid (Below w.heap.size w (w.alloc (.cells #[.int .i64 f.kind,.int .i64 f.c,.slice ta f.t.length tcap,.slice ka f.ks.length kcap] 39))):=(Below.refl _ w).alloc (Nat.le_refl _) _
   have HI:=Lib.hid IH
   have HK:=Lib.hid hks
   have HLE:=Lib.hid (sizTo_le n f)
   have HLN:=Lib.hid (sizTo_len n f)
   have HST:=Lib.hid (sizTo_succ n f.ks)
   have S0:Hid ((1:Int)=cnt (1+sizTo n f.ks 0) m):=by
    show _=_
    unfold cnt
    rw[sizTo_zero]
    split<;>omega
   generalize hr:cnt (siz (n+1) f) m=r
   have HR:=Lib.hid hr
   clear IH hks hr
   generalize f.kind=fk at HB0
   generalize f.c=fc at HB0
   generalize f.t.length=ft at HB0
   generalize hl:f.ks.length=len at HB0 HK hk4 HST HLN
   clear hl
   go_enter Tryz.func69,Tryz.ntmps69
   go_wp2
   go_loopw [5,11] (fun s i wr=>∃(k:Nat) (v:Int),k≤len∧i= .int .i64 k∧s= .int .i64 v∧1≤v∧v≤m+1∧Hid (v=cnt (1+sizTo n f.ks k) m)∧Below w.heap.size w wr) (fun _ i _=>len - (intOf i).toNat)
   case atStart=>exact⟨0,1,Nat.zero_le _,rfl,rfl,by omega,by omega,S0,HB0.out⟩
   case round=>
    obtain⟨k,v,hk,rfl,rfl,hv1,hv2,hv,hb⟩:=hrel
    by_cases hlt:k<len
    ·obtain⟨b,off,c0,c1,c2,c3,rfl,hblt,g0,g1,g2,g3,hf⟩:=HK.out k hlt
     rw[←hb.cell (p:=⟨b,_,none⟩) hblt]at g0 g1 g2 g3
     obtain⟨ck,cc,cta,ctn,ctcap,cka,ckn,ckcap,rfl,rfl,rfl,rfl⟩:=hf.form
     have hb2:=hb.alloc hb.size (.cells #[.int .i64 ck,.int .i64 cc,.slice cta ctn ctcap,.slice cka ckn ckcap] 39)
     by_cases hvm:m<v
     ·have hr:r=v:=by
       have h1:=HLE.out k
       have h2:=hv.out
       rw[←HR.out]
       unfold cnt at h2⊢
       split at h2<;>split<;>omega
      subst hr
      clear hv hf
      go_wp2_with fail
      go_ret
      exact⟨rfl,hb2⟩
     ·have hih:=HI.out (f.ks.getD k default) _ (m - v) _ (by omega) (by omega) ((hf.below hb2).mono hb2.size)
      have hs:=HST.out k hlt
      have hv3:Hid (v+cnt (siz n (f.ks.getD k default)) (m - v)=cnt (1+sizTo n f.ks (k+1)) m):=by
       have h2:=hv.out
       show _=_
       unfold cnt at h2⊢
       rw[hs]
       split at h2<;>split<;>split<;>omega
      have hc1:0≤cnt (siz n (f.ks.getD k default)) (m - v)∧cnt (siz n (f.ks.getD k default)) (m - v)≤m - v+1:=by
       unfold cnt
       split<;>omega
      generalize cnt (siz n (f.ks.getD k default)) (m - v)=u at hih hv3 hc1
      clear hs hf hv
      go_wp2_with fail
      refine hih.mono ?_
      rintro e w1 ⟨rfl,hb1⟩
      have HB1:=Lib.hid (hb2.trans (hb1.mono hb2.size))
      clear g0 g1 g2 g3 hih hb1 hb2
      go_wp2
      go_roundw
      case rel=>exact⟨k+1,v+u,by omega,by go_num,by go_num,by omega,by omega,hv3,HB1.out⟩
      case measure=>simp[intOf];omega
    ·have hr:r=v:=by
      have h1:=HLN.out
      have h2:=hv.out
      obtain rfl:k=len:=by omega
      rw[←HR.out,h2,h1]
     subst hr
     clear hv
     go_wp2
     go_ret
     exact⟨rfl,hb⟩
end
section
open Go.RowKit
theorem ndeeper_any:∀(n:Nat) (f:FT) (cs:List Value) (m:Int) (w:World),0≤m→m≤1048576→FLies w.heap.size w n f cs→
 Calls Tryz.prog 83 #[.agg cs.toArray,.int .i64 m] w fun e w'=>e= .returned (.bool (decide (m<(dep n f:Int))))∧Below w.heap.size w w'
 | 0,_,_,_,_,_,_,h=>h.elim
 | n+1,f,cs,m,w,h0,h1,h=>by
   have IH:=ndeeper_any n
   obtain⟨ta,tcap,ka,kcap,rfl,_,_,hk4,hks⟩:=h
   have HB0:Hid (Below w.heap.size w (w.alloc (.cells #[.int .i64 f.kind,.int .i64 f.c,.slice ta f.t.length tcap,.slice ka f.ks.length kcap] 39))):=(Below.refl _ w).alloc (Nat.le_refl _) _
   by_cases hm:m=0
   ·subst hm
    have hd:decide ((0:Int)<(dep (n+1) f:Int))=true:=by have:=dep_zero n f;simp;omega
    rw[hd]
    clear IH hks hd
    go_enter Tryz.func83,Tryz.ntmps83
    go_wp2
    go_ret
    exact⟨rfl,HB0.out⟩
   ·have HD:=Lib.hid (dep_int (n:=n) (f:=f) h0 hm)
    have HI:=Lib.hid IH
    have HK:=Lib.hid hks
    have hme:(m == 0)=false:=by simpa using hm
    generalize hr:decide (m<(dep (n+1) f:Int))=r
    have HR:=Lib.hid hr
    clear IH hks hr
    generalize f.kind=fk at HB0
    generalize f.c=fc at HB0
    generalize f.t.length=ft at HB0
    generalize hl:f.ks.length=len at HB0 HK HD hk4
    clear hl
    go_enter Tryz.func83,Tryz.ntmps83
    go_wp2
    go_loopw [12] (fun i wr=>∃k:Nat,k≤len∧i= .int .i64 k∧Hid (∀j,j<k→(dep n (f.ks.getD j default):Int)≤m - 1)∧Below w.heap.size w wr) (fun i _=>len - (intOf i).toNat)
    case atStart=>exact⟨0,Nat.zero_le _,rfl,fun j hj=>absurd hj (Nat.not_lt_zero j),HB0.out⟩
    case round=>
     obtain⟨k,hk,rfl,hno,hb⟩:=hrel
     by_cases hlt:k<len
     ·obtain⟨b,off,c0,c1,c2,c3,rfl,hblt,g0,g1,g2,g3,hf⟩:=HK.out k hlt
      rw[←hb.cell (p:=⟨b,_,none⟩) hblt]at g0 g1 g2 g3
      obtain⟨ck,cc,cta,ctn,ctcap,cka,ckn,ckcap,rfl,rfl,rfl,rfl⟩:=hf.form
      have hb2:=hb.alloc hb.size (.cells #[.int .i64 ck,.int .i64 cc,.slice cta ctn ctcap,.slice cka ckn ckcap] 39)
      have hih:=HI.out (f.ks.getD k default) _ (m - 1) _ (by omega) (by omega) ((hf.below hb2).mono hb2.size)
      by_cases hd:m - 1<(dep n (f.ks.getD k default):Int)
      ·have hr:r=true:=by rw[←HR.out];exact decide_eq_true (HD.out.2 ⟨k,hlt,hd⟩)
       rw[decide_eq_true hd]at hih
       subst hr
       clear hd hf hno
       go_wp2_with fail
       refine hih.mono ?_
       rintro e w1 ⟨rfl,hb1⟩
       have HB1:=Lib.hid (hb2.trans (hb1.mono hb2.size))
       clear g0 g1 g2 g3 hih hb1 hb2
       go_wp2
       go_ret
       exact⟨rfl,HB1.out⟩
      ·rw[decide_eq_false hd]at hih
       have hno2:Hid (∀j,j<k+1→(dep n (f.ks.getD j default):Int)≤m - 1):=fun j hj=>by
        by_cases ej:j=k
        ·rw[ej];omega
        ·exact hno.out j (by omega)
       clear hd hf hno
       go_wp2_with fail
       refine hih.mono ?_
       rintro e w1 ⟨rfl,hb1⟩
       have HB1:=Lib.hid (hb2.trans (hb1.mono hb2.size))
       clear g0 g1 g2 g3 hih hb1 hb2
       go_wp2
       go_roundw
       case rel=>exact⟨k+1,by omega,by go_num,hno2,HB1.out⟩
       case measure=>simp[intOf];omega
     ·have hr:r=false:=by
       rw[←HR.out]
       refine decide_eq_false fun h=> ?_
       obtain⟨i,hi,hd⟩:=HD.out.1 h
       have:=hno.out i (by omega);omega
      subst hr
      clear hno
      go_wp2
      go_ret
      exact⟨rfl,hb⟩
theorem ncount_any:∀(n:Nat) (f:FT) (cs:List Value) (m:Int) (w:World),0≤m→m≤1048576→FLies w.heap.size w n f cs→
 Calls Tryz.prog 84 #[.agg cs.toArray,.int .i64 m] w fun e w'=>e= .returned (.int .i64 (cnt (siz n f) m))∧Below w.heap.size w w'
 | 0,_,_,_,_,_,_,h=>h.elim
 | n+1,f,cs,m,w,h0,h1,h=>by
   have IH:=ncount_any n
   obtain⟨ta,tcap,ka,kcap,rfl,_,_,hk4,hks⟩:=h
   have HB0:Hid (Below w.heap.size w (w.alloc (.cells #[.int .i64 f.kind,.int .i64 f.c,.slice ta f.t.length tcap,.slice ka f.ks.length kcap] 39))):=(Below.refl _ w).alloc (Nat.le_refl _) _
   have HI:=Lib.hid IH
   have HK:=Lib.hid hks
   have HLE:=Lib.hid (sizTo_le n f)
   have HLN:=Lib.hid (sizTo_len n f)
   have HST:=Lib.hid (sizTo_succ n f.ks)
   have S0:Hid ((1:Int)=cnt (1+sizTo n f.ks 0) m):=by
    show _=_
    unfold cnt
    rw[sizTo_zero]
    split<;>omega
   generalize hr:cnt (siz (n+1) f) m=r
   have HR:=Lib.hid hr
   clear IH hks hr
   generalize f.kind=fk at HB0
   generalize f.c=fc at HB0
   generalize f.t.length=ft at HB0
   generalize hl:f.ks.length=len at HB0 HK hk4 HST HLN
   clear hl
   go_enter Tryz.func84,Tryz.ntmps84
   go_wp2
   go_loopw [5,11] (fun s i wr=>∃(k:Nat) (v:Int),k≤len∧i= .int .i64 k∧s= .int .i64 v∧1≤v∧v≤m+1∧Hid (v=cnt (1+sizTo n f.ks k) m)∧Below w.heap.size w wr) (fun _ i _=>len - (intOf i).toNat)
   case atStart=>exact⟨0,1,Nat.zero_le _,rfl,rfl,by omega,by omega,S0,HB0.out⟩
   case round=>
    obtain⟨k,v,hk,rfl,rfl,hv1,hv2,hv,hb⟩:=hrel
    by_cases hlt:k<len
    ·obtain⟨b,off,c0,c1,c2,c3,rfl,hblt,g0,g1,g2,g3,hf⟩:=HK.out k hlt
     rw[←hb.cell (p:=⟨b,_,none⟩) hblt]at g0 g1 g2 g3
     obtain⟨ck,cc,cta,ctn,ctcap,cka,ckn,ckcap,rfl,rfl,rfl,rfl⟩:=hf.form
     have hb2:=hb.alloc hb.size (.cells #[.int .i64 ck,.int .i64 cc,.slice cta ctn ctcap,.slice cka ckn ckcap] 39)
     by_cases hvm:m<v
     ·have hr:r=v:=by
       have h1:=HLE.out k
       have h2:=hv.out
       rw[←HR.out]
       unfold cnt at h2⊢
       split at h2<;>split<;>omega
      subst hr
      clear hv hf
      go_wp2_with fail
      go_ret
      exact⟨rfl,hb2⟩
     ·have hih:=HI.out (f.ks.getD k default) _ (m - v) _ (by omega) (by omega) ((hf.below hb2).mono hb2.size)
      have hs:=HST.out k hlt
      have hv3:Hid (v+cnt (siz n (f.ks.getD k default)) (m - v)=cnt (1+sizTo n f.ks (k+1)) m):=by
       have h2:=hv.out
       show _=_
       unfold cnt at h2⊢
       rw[hs]
       split at h2<;>split<;>split<;>omega
      have hc1:0≤cnt (siz n (f.ks.getD k default)) (m - v)∧cnt (siz n (f.ks.getD k default)) (m - v)≤m - v+1:=by
       unfold cnt
       split<;>omega
      generalize cnt (siz n (f.ks.getD k default)) (m - v)=u at hih hv3 hc1
      clear hs hf hv
      go_wp2_with fail
      refine hih.mono ?_
      rintro e w1 ⟨rfl,hb1⟩
      have HB1:=Lib.hid (hb2.trans (hb1.mono hb2.size))
      clear g0 g1 g2 g3 hih hb1 hb2
      go_wp2
      go_roundw
      case rel=>exact⟨k+1,v+u,by omega,by go_num,by go_num,by omega,by omega,hv3,HB1.out⟩
      case measure=>simp[intOf];omega
    ·have hr:r=v:=by
      have h1:=HLN.out
      have h2:=hv.out
      obtain rfl:k=len:=by omega
      rw[←HR.out,h2,h1]
     subst hr
     clear hv
     go_wp2
     go_ret
     exact⟨rfl,hb⟩
end
section
open Go.RowKit
def flat (l:List (Int×Int)):List Value:=l.flatMap fun m=>[.int .i64 m.1,.int .i64 m.2]
theorem flat_len (l:List (Int×Int)):(flat l).length=l.length*2:=by
 induction l with
 | nil=>rfl
 | cons a r ih=>simp[flat]at ih⊢;omega
theorem flat_append (l r:List (Int×Int)):flat (l ++ r)=flat l ++ flat r:=by simp[flat]
theorem flat_get:∀(l:List (Int×Int)) (i:Nat),i<l.length→(flat l)[i*2]? =some (.int .i64 (l.getD i (0,0)).1)∧(flat l)[i*2+1]? =some (.int .i64 (l.getD i (0,0)).2)
 | a :: r,0,_=>⟨rfl,rfl⟩
 | a :: r,i+1,h=>by
   have:=flat_get r i (by simpa using h)
   have e:flat (a :: r)= .int .i64 a.1 :: .int .i64 a.2 :: flat r:=rfl
   rw[e,show(i+1)*2=i*2+1+1 by omega]
   simpa using this
def Row (B:Nat)(l:List (Int×Int))(v:Value)(w:World):Prop:=w.ownsRow B 92 2 v l.length (flat l)
theorem Row.lies {B:Nat}{l:List (Int×Int)}{v:Value}{w:World}(h:Row B l v w):∃a cap,v= .slice a l.length cap∧Lies w.heap.size w a l∧(a=none→l.length=0∧cap=0):=by
 have hc:=fun g=>World.ownsRow.cells h (g:=g)
 have hlt:=World.ownsRow.lt h
 obtain⟨_,h1 | ⟨g,cap,cur,hv,h2⟩⟩:=h
 ·refine⟨none,0,by rw[h1.1,h1.2],fun i hi=>by omega,fun _=>⟨h1.2,rfl⟩⟩
 ·subst hv
  refine⟨some ⟨g,0,none⟩,cap,rfl,fun i hi=>⟨g,0,rfl,(hlt g rfl).2, ?_, ?_⟩,fun e=>by cases e⟩
  ·have:=hc g rfl (i*2) _ (flat_get l i hi).1
   rwa [show(⟨g,0,none⟩:Addr).add (i*2)=⟨g,0+i*2,none⟩ by unfold Addr.add;split<;>simp_all]at this
  ·have:=hc g rfl (i*2+1) _ (flat_get l i hi).2
   rwa [show(⟨g,0,none⟩:Addr).add (i*2+1)=⟨g,0+i*2+1,none⟩ by unfold Addr.add;simp]at this
theorem Tryz.infoMono:(Tryz.prog.info? 92).map (fun i=>(i.zero,i.size,i.bytes))=some (some (.agg #[.int .i64 0,.int .i64 0]),2,16):=by kernel_rfl
theorem Lies.news {B:Nat}{w:World}{a:Addr}{l:List (Int×Int)}(h:Lies B w (some a) l):∀j u,(flat l)[j]? =some u→w.cell? (a.add j)=some u:=by
 intro j u hj
 have hjl:j<l.length*2:=by rw[←flat_len];exact(List.getElem?_eq_some_iff.1 hj).1
 obtain⟨b,off,ha,_,h1,h2⟩:=h (j / 2) (by omega)
 injection ha with ha
 subst ha
 have hg:=flat_get l (j / 2) (by omega)
 rcases Nat.mod_two_eq_zero_or_one j with hm | hm
 ·have e:j / 2*2=j:=by omega
  rw[e]at hg h1
  rw[hg.1]at hj
  injection hj with hj
  subst hj
  unfold Addr.add
  split
  ·rename_i h0;subst h0;simpa using h1
  ·exact h1
 ·have e:j / 2*2+1=j:=by omega
  rw[Nat.add_assoc,e]at h2
  rw[e]at hg
  rw[hg.2]at hj
  injection hj with hj
  subst hj
  unfold Addr.add
  rw[if_neg (by omega)]
  exact h2
theorem flat_cells (l:List (Int×Int)):∀u∈flat l,u.oneCell'=true:=by
 intro u hu
 simp only[flat,List.mem_flatMap]at hu
 obtain⟨m,_,hm⟩:=hu
 simp at hm
 rcases hm with rfl | rfl<;>rfl
def RowEnd (B:Nat)(l:List (Int×Int))(w:World)(e:Ending)(w':World):Prop:=∃v,e= .returned v∧Row B l v w'∧Below B w w'
theorem take_snoc (l:List (Int×Int))(k:Nat)(h:k<l.length):l.take (k+1)=l.take k ++ [l.getD k (0,0)]:=by
 rw[List.take_succ_eq_append_getElem h]
 simp[List.getD_eq_getElem?_getD,h]
theorem Row.alloc {B:Nat}{l:List (Int×Int)}{v:Value}{w:World}(h:Row B l v w)(o:Obj):Row B l v (w.alloc o):=World.ownsRow.alloc h o
theorem cell_two_new' (w:World)(x y:Value)(t:TypeId):∀j u,[x,y][j]? =some u→(w.alloc (.cells #[x,y] t)).cell? ((⟨w.heap.size,0,none⟩:Addr).add j)=some u:=by
 intro j u hj
 match j,hj with
 | 0,hj=>simp at hj;subst hj;simp[Addr.add]
 | 1,hj=>simp at hj;subst hj;simp[Addr.add]
theorem drop_any (a:Option Addr)(n cap:Nat)(l:List (Int×Int))(w:World)(hn:l.length=n)(hm:n≤8192)(hl:Lies w.heap.size w a l):
 Calls Tryz.prog 109 #[.slice a n cap] w (RowEnd w.heap.size (l.filter fun m=>m.2 != 0) w):=by
 obtain⟨i0,hi,hz0,hz1,hz2⟩:=info_parts Tryz.infoMono
 have HN:=Lib.hid hn
 have HL:=Lib.hid hl
 clear hn hl
 go_enter Tryz.func109,Tryz.ntmps109
 go_wp2
 go_loopw [3,8] (fun s i wr=>∃k:Nat,k≤n∧i= .int .i64 k∧Hid (Row w.heap.size ((l.take k).filter fun m=>m.2 != 0) s wr)∧Below w.heap.size w wr) (fun _ i _=>n - (intOf i).toNat)
 case atStart=>exact⟨0,Nat.zero_le _,rfl,World.ownsRow_nil _ _ _ _,Below.refl _ _⟩
 case round=>
  obtain⟨k,hk,rfl,hrow,hb⟩:=hrel
  by_cases hlt:k<n
  ·obtain⟨b,off,rfl,hblt,c1,c2⟩:=(HL.out.below hb) k (by rw[HN.out];exact hlt)
   have hts:=take_snoc l k (by rw[HN.out];exact hlt)
   have hlen:((l.take k).filter fun m=>m.2 != 0).length≤k:=Nat.le_trans (List.length_filter_le _ _) (by rw[List.length_take];omega)
   generalize hg:l.getD k (0,0)=m at c1 c2 hts
   obtain⟨v,u⟩:=m
   by_cases hu:u=0
   ·have HT:Hid ((l.take (k+1)).filter (fun m=>m.2 != 0)=(l.take k).filter fun m=>m.2 != 0):=by
     show _=_;rw[hts,List.filter_append];simp[hu]
    subst hu
    clear hts hg
    have hrow2:Hid (Row w.heap.size ((l.take (k+1)).filter fun m=>m.2 != 0) u3 wr):=by show Row _ _ _ _;rw[HT.out];exact hrow.out
    go_wp2
    go_roundw
    case rel=>exact⟨k+1,by omega,by go_num,hrow2.out.alloc _,hb.alloc hb.size _⟩
    case measure=>simp[intOf];omega
   ·have hu2:(u != 0)=true:=by simpa using hu
    have HT:Hid ((l.take (k+1)).filter (fun m=>m.2 != 0)=((l.take k).filter fun m=>m.2 != 0) ++ [(v,u)]):=by
     show _=_;rw[hts,List.filter_append];simp[hu]
    generalize (l.take k).filter (fun m=>m.2 != 0)=r at hrow hlen HT
    clear hts hg
    go_wp2_with (at_builtin;refine wpList_append_own _ rfl _ _ 34 rfl w.heap.size 92 i0 _ 2 16 Tryz.underlying34 hi hz0 hz1 hz2 rfl (by decide) u3 r.length (flat r) rfl ((hrow.out.alloc _).alloc _) ⟨wr.heap.size+1,0,none⟩ 1 1 [.int .i64 v,.int .i64 u] rfl rfl ?c2 ?c3 ?c4 ?c5 ?c6 ?_)
    case c3=>exact⟨rfl,rfl⟩
    case c4=>unfold maxLen;omega
    case c5=>omega
    case c6=>have:=hb.size;simp;omega
    intro v' w1 hown' hgrow _
    have HO:Hid (Row w.heap.size ((l.take (k+1)).filter fun m=>m.2 != 0) v' w1):=by
     show Row _ _ _ _
     rw[HT.out]
     unfold Row
     rw[List.length_append,flat_append]
     exact hown'
    have HB:Below w.heap.size w w1:=((hb.alloc hb.size _).alloc (by have:=hb.size;simp;omega) _).grown hgrow (by have:=hb.size;simp;omega) (fun k hk=>(World.ownsRow.lt hrow.out k hk).1)
    clear hown' hgrow hrow
    go_wp2
    go_roundw
    case rel=>exact⟨k+1,by omega,by go_num,HO,HB⟩
    case measure=>simp[intOf];omega
  ·have HT:Hid (Row w.heap.size (l.filter fun m=>m.2 != 0) u3 wr):=by
    have:=hrow.out
    rwa [List.take_of_length_le (by rw[HN.out];omega)]at this
   clear hrow
   go_wp2
   go_ret
   exact⟨_,rfl,HT.out,hb⟩
end
section
open Go.RowKit
def togStep (r:List (Int×Int))(m:Int×Int):List (Int×Int):=
 match r.getLast? with
 | some p=>if p.1=m.1 then r.dropLast ++ [(p.1,p.2+m.2)] else r ++ [m]
 | none=>r ++ [m]
theorem togStep_nil (m:Int×Int):togStep [] m=[m]:=rfl
theorem togStep_eq (r:List (Int×Int))(v k u:Int):togStep (r ++ [(v,k)]) (v,u)=r ++ [(v,k+u)]:=by
 unfold togStep;simp
theorem togStep_ne (r:List (Int×Int))(p:Int×Int)(m:Int×Int)(h:p.1≠m.1):togStep (r ++ [p]) m=(r ++ [p]) ++ [m]:=by
 unfold togStep;simp[h]
def tog (l:List (Int×Int)):List (Int×Int):=l.foldl togStep []
theorem tog_snoc (l:List (Int×Int))(m:Int×Int):tog (l ++ [m])=togStep (tog l) m:=by unfold tog;rw[List.foldl_append];rfl
theorem snoc_cases {α:Type}(r:List α):r=[]∨∃r' p,r=r' ++ [p]:=by
 rcases List.eq_nil_or_concat r with h | ⟨a,b,h⟩
 ·exact .inl h
 ·exact .inr ⟨a,b,by rw[h,List.concat_eq_append]⟩
def Bd (M:Int)(l:List (Int×Int)):Prop:=∀m∈l, -M≤m.2∧m.2≤M
theorem Bd.step {M B:Int}{r:List (Int×Int)}{m:Int×Int}(h:Bd M r)(hM:0≤M)(hB: -B≤m.2∧m.2≤B):Bd (M+B) (togStep r m):=by
 obtain⟨v,u⟩:=m
 rcases snoc_cases r with rfl | ⟨r',⟨pv,pk⟩,rfl⟩
 ·rw[togStep_nil];intro x hx;simp at hx;subst hx;simp only at hB⊢;omega
 ·have hp:=h (pv,pk) (by simp)
  by_cases e:pv=v
  ·subst e
   rw[togStep_eq]
   intro x hx
   rcases List.mem_append.1 hx with hx | hx
   ·have:=h x (by simp[hx]);simp only at hB;omega
   ·simp at hx;subst hx;simp only at hB hp⊢;omega
  ·rw[togStep_ne _ _ _ e]
   intro x hx
   rcases List.mem_append.1 hx with hx | hx
   ·have:=h x hx;simp only at hB;omega
   ·simp at hx;subst hx;simp only at hB⊢;omega
theorem tog_bd (B:Int)(hB:0≤B)(l:List (Int×Int))(h:Bd B l):∀k,k≤l.length→Bd (k*B) (tog (l.take k))
 | 0,_=>by intro m hm;simp[tog]at hm
 | k+1,hk=>by
   rw[take_snoc l k (by omega),tog_snoc]
   have h1:=tog_bd B hB l h k (by omega)
   have h2:=h (l.getD k (0,0)) (by rw[List.getD_eq_getElem?_getD,List.getElem?_eq_getElem (by omega)];simp)
   have:=h1.step (Int.mul_nonneg (by omega) hB) h2
   rwa [show((k+1:Nat):Int)*B=k*B+B by rw[Int.natCast_add,Int.add_mul];simp]
theorem tog_len (l:List (Int×Int)):∀k,k≤l.length→(tog (l.take k)).length≤k
 | 0,_=>by simp[tog]
 | k+1,hk=>by
   have h1:=tog_len l k (by omega)
   rw[take_snoc l k (by omega),tog_snoc]
   generalize tog (l.take k)=r at h1
   generalize l.getD k (0,0)=m
   obtain⟨v,u⟩:=m
   rcases snoc_cases r with rfl | ⟨r',⟨pv,pk⟩,rfl⟩
   ·simp[togStep_nil]
   ·simp at h1
    by_cases e:pv=v
    ·subst e;rw[togStep_eq];simp;omega
    ·rw[togStep_ne _ _ _ e];simp;omega
theorem flat_last (r:List (Int×Int))(v k:Int):(flat (r ++ [(v,k)]))[r.length*2]? =some (.int .i64 v)∧(flat (r ++ [(v,k)]))[r.length*2+1]? =some (.int .i64 k):=by
 have:=flat_get (r ++ [(v,k)]) r.length (by simp)
 simpa using this
theorem flat_set (r:List (Int×Int))(v k x:Int):(flat (r ++ [(v,k)])).set (r.length*2+1) (.int .i64 x)=flat (r ++ [(v,x)]):=by
 rw[flat_append,flat_append,List.set_append_right _ _ (by rw[flat_len];omega),flat_len,show r.length*2+1 - r.length*2=1 by omega]
 rfl
theorem two_at' (w:World)(o:Obj)(q:Nat)(x y:Value)(t:TypeId):∀j u,[x,y][j]? =some u→(((w.alloc o).drewN q).alloc (.cells #[x,y] t)).cell? ((⟨w.heap.size+1,0,none⟩:Addr).add j)=some u:=by
 intro j u hj
 have h:=cell_two_new' ((w.alloc o).drewN q) x y t j u hj
 have e:((w.alloc o).drewN q).heap.size=w.heap.size+1:=by
  show(w.alloc o).heap.size=_
  simp
 rwa [e]at h
theorem ownsRow_drewN {w:World}{base:Nat}{e:TypeId}{size:Nat}{v:Value}{n:Nat}{xs:List Value}(h:w.ownsRow base e size v n xs)(k:Nat):(w.drewN k).ownsRow base e size v n xs:=h
theorem together_any (a:Option Addr)(n cap:Nat)(l:List (Int×Int))(w:World)(hn:l.length=n)(hm:n≤8192)(hl:Lies w.heap.size w a l)(hbd:Bd 4398046511104 l):
 Calls Tryz.prog 110 #[.slice a n cap] w (RowEnd w.heap.size (tog l) w):=by
 obtain⟨i0,hi,hz0,hz1,hz2⟩:=info_parts Tryz.infoMono
 have HN:=Lib.hid hn
 have HL:=Lib.hid hl
 have HBD:=Lib.hid hbd
 clear hn hl hbd
 go_enter Tryz.func110,Tryz.ntmps110
 go_wp2
 go_loopw [3,9] (fun s i wr=>∃k:Nat,k≤n∧i= .int .i64 k∧Hid (Row w.heap.size (tog (l.take k)) s wr)∧Below w.heap.size w wr) (fun _ i _=>n - (intOf i).toNat)
 case atStart=>exact⟨0,Nat.zero_le _,rfl,World.ownsRow_nil _ _ _ _,Below.refl _ _⟩
 case round=>
  obtain⟨k,hk,rfl,hrow,hb⟩:=hrel
  by_cases hlt:k<n
  ·obtain⟨b,off,rfl,hblt,c1,c2⟩:=(HL.out.below hb) k (by rw[HN.out];exact hlt)
   have hts:=take_snoc l k (by rw[HN.out];exact hlt)
   have hbdk:=tog_bd _ (by decide) l HBD.out k (by rw[HN.out];exact hk)
   have hlen:=tog_len l k (by rw[HN.out];exact hk)
   have hbm:=HBD.out (l.getD k (0,0)) (by rw[List.getD_eq_getElem?_getD,List.getElem?_eq_getElem (by rw[HN.out];exact hlt)];simp)
   have htog:=tog_snoc (l.take k) (l.getD k (0,0))
   rw[←hts]at htog
   clear hts
   generalize hg:l.getD k (0,0)=m at c1 c2 hbm htog
   clear hg
   obtain⟨v,u⟩:=m
   generalize tog (l.take k)=r at hrow hlen hbdk htog
   rcases snoc_cases r with rfl | ⟨r',⟨pv,pk⟩,rfl⟩
   ·have HT:Hid (tog (l.take (k+1))=[] ++ [(v,u)]):=htog.trans (togStep_nil _)
    clear htog
    rcases Joins.ownsRow_forms hrow.out with ⟨rfl,_⟩ | ⟨g,cap',rfl⟩
    ·have HR:Hid (wr.ownsRow w.heap.size 92 2 (.slice none 0 0) 0 []):=hrow.out
     clear hrow
     go_wp2_with fail
     go_quiet (fail)
     go_wp2_with (at_builtin;refine wpList_append_own _ rfl _ _ 34 rfl w.heap.size 92 i0 _ 2 16 Tryz.underlying34 hi hz0 hz1 hz2 rfl (by decide) (.slice none 0 0) 0 (flat ([]:List (Int×Int))) rfl (World.ownsRow.alloc (ownsRow_drewN (World.ownsRow.alloc HR.out _) _) _) ⟨wr.heap.size+1,0,none⟩ 1 1 [.int .i64 v,.int .i64 u] rfl rfl ?c2 ?c3 ?c4 ?c5 ?c6 ?_)
     case c2=>exact fun j x hj=>two_at' wr _ nq _ _ _ j x hj
     case c3=>first | exact⟨rfl,rfl⟩ | exact flat_cells [(v,u)]
     case c4=>unfold maxLen;omega
     case c5=>omega
     case c6=>have:=hb.size;simp;omega
     intro v' w1 hown' hgrow _
     have HO:Hid (Row w.heap.size (tog (l.take (k+1))) v' w1):=by
      show Row _ _ _ _
      rw[HT.out]
      unfold Row
      rw[List.length_append,flat_append]
      exact hown'
     have HB:Below w.heap.size w w1:=((below_drewN (hb.alloc hb.size _) _).alloc (by have:=hb.size;simp;omega) _).grown hgrow (by have:=hb.size;simp;omega) (fun j hj=>(World.ownsRow.lt HR.out j hj).1)
     clear hown' hgrow HR
     go_wp2
     go_roundw
     case rel=>exact⟨k+1,by omega,by go_num,HO,HB⟩
     case measure=>simp[intOf];omega
    ·have HR:Hid (wr.ownsRow w.heap.size 92 2 (.slice (some ⟨g,0,none⟩) 0 cap') 0 []):=hrow.out
     clear hrow
     simp only[List.length_nil]
     go_wp2_with fail
     go_quiet (fail)
     go_wp2_with (at_builtin;refine wpList_append_own _ rfl _ _ 34 rfl w.heap.size 92 i0 _ 2 16 Tryz.underlying34 hi hz0 hz1 hz2 rfl (by decide) (.slice (some ⟨g,0,none⟩) 0 cap') 0 (flat ([]:List (Int×Int))) rfl (World.ownsRow.alloc (ownsRow_drewN (World.ownsRow.alloc HR.out _) _) _) ⟨wr.heap.size+1,0,none⟩ 1 1 [.int .i64 v,.int .i64 u] rfl rfl ?c2 ?c3 ?c4 ?c5 ?c6 ?_)
     case c2=>exact fun j x hj=>two_at' wr _ nq _ _ _ j x hj
     case c3=>first | exact⟨rfl,rfl⟩ | exact flat_cells [(v,u)]
     case c4=>unfold maxLen;omega
     case c5=>omega
     case c6=>have:=hb.size;simp;omega
     intro v' w1 hown' hgrow _
     have HO:Hid (Row w.heap.size (tog (l.take (k+1))) v' w1):=by
      show Row _ _ _ _
      rw[HT.out]
      unfold Row
      rw[List.length_append,flat_append]
      exact hown'
     have HB:Below w.heap.size w w1:=((below_drewN (hb.alloc hb.size _) _).alloc (by have:=hb.size;simp;omega) _).grown hgrow (by have:=hb.size;simp;omega) (fun j hj=>(World.ownsRow.lt HR.out j hj).1)
     clear hown' hgrow HR
     go_wp2
     go_roundw
     case rel=>exact⟨k+1,by omega,by go_num,HO,HB⟩
     case measure=>simp[intOf];omega
   ·obtain⟨g,cap',rfl⟩:=Joins.ownsRow_form hrow.out (by simp)
    have hrl:(r' ++ [(pv,pk)]).length=r'.length+1:=by simp
    obtain⟨q,hq⟩:∃q,q=r'.length:=⟨_,rfl⟩
    rw[hrl,←hq]at hlen
    have HR:Hid (wr.ownsRow w.heap.size 92 2 (.slice (some ⟨g,0,none⟩) (q+1) cap') (q+1) (flat (r' ++ [(pv,pk)]))):=by
     have:=hrow.out;unfold Row at this;rw[hrl,←hq]at this;exact this
    have hp1:=(World.ownsRow.cellAt HR.out (q*2) (by omega)).trans (hq ▸ (flat_last r' pv pk).1)
    have hp2:=(World.ownsRow.cellAt HR.out (q*2+1) (by omega)).trans (hq ▸ (flat_last r' pv pk).2)
    have hpf:=World.ownsRow.frozenAt HR.out (q*2+1)
    have hglt:=(World.ownsRow.lt HR.out g rfl)
    have hpk:=hbdk (pv,pk) (by simp)
    rw[hrl,←hq]
    have HQ:=Lib.hid hq
    clear hrow hq hrl
    have hw1:IntKind.i64.wrap ((q:Int)+1 - 1)=q:=by rw[show(q:Int)+1 - 1=q by omega];exact IntWalk.i64_in _ (by omega)
    have hw2:IntKind.i64.wrap (q:Int)=q:=IntWalk.i64_in _ (by omega)
    have hg2:g<wr.heap.size:=hglt.2
    by_cases e:pv=v
    ·subst e
     have HT:Hid (tog (l.take (k+1))=r' ++ [(pv,pk+u)]):=htog.trans (togStep_eq _ _ _ _)
     have hbk: -(8192*4398046511104)≤pk∧pk≤8192*4398046511104:=by
      simp only at hpk
      have:(k:Int)*4398046511104≤8192*4398046511104:=Int.mul_le_mul_of_nonneg_right (by omega) (by omega)
      omega
     clear htog hpk hbdk
     simp only at hbm
     go_wp2_with fail
     go_quiet (fail)
     go_wp2_with fail
     go_region
     have HO:Hid (∀W:World,W.ownsRow w.heap.size 92 2 (.slice (some ⟨g,0,none⟩) (q+1) cap') (q+1) (flat (r' ++ [(pv,pk)]))→Row w.heap.size (tog (l.take (k+1))) (.slice (some ⟨g,0,none⟩) (q+1) cap') (W.setCell ⟨g,q*2+1,none⟩ (.int .i64 (pk+u)))):=fun W hW=>by
      have h1:=(World.ownsRow.stored hW (q*2+1) (.int .i64 (pk+u))).1
      rw[HQ.out,flat_set]at h1
      rw[HT.out]
      unfold Row
      rw[List.length_append,HQ.out]
      exact h1
     go_wp2
     go_roundw
     case rel=>exact⟨k+1,by omega,by go_num,HO.out _ (ownsRow_drewN (World.ownsRow.alloc HR.out _) (nq+1)),(below_drewN (hb.alloc hb.size _) (nq+1)).setCell (p:=⟨g,q*2+1,none⟩) hglt.1 _⟩
     case measure=>simp[intOf];omega
    ·have HT:Hid (tog (l.take (k+1))=(r' ++ [(pv,pk)]) ++ [(v,u)]):=htog.trans (togStep_ne _ _ _ e)
     have e':(pv == v)=false:=by simpa using e
     clear htog e
     go_wp2_with fail
     go_quiet (fail)
     go_wp2_with (at_builtin;refine wpList_append_own _ rfl _ _ 34 rfl w.heap.size 92 i0 _ 2 16 Tryz.underlying34 hi hz0 hz1 hz2 rfl (by decide) (.slice (some ⟨g,0,none⟩) (q+1) cap') (q+1) (flat (r' ++ [(pv,pk)])) rfl (World.ownsRow.alloc (ownsRow_drewN (World.ownsRow.alloc HR.out _) _) _) ⟨wr.heap.size+1,0,none⟩ 1 1 [.int .i64 v,.int .i64 u] rfl rfl ?c2 ?c3 ?c4 ?c5 ?c6 ?_)
     case c2=>exact fun j x hj=>two_at' wr _ nq _ _ _ j x hj
     case c3=>first | exact⟨rfl,rfl⟩ | exact flat_cells [(v,u)]
     case c4=>unfold maxLen;omega
     case c5=>omega
     case c6=>have:=hb.size;simp;omega
     intro v' w1 hown' hgrow _
     have HO:Hid (Row w.heap.size (tog (l.take (k+1))) v' w1):=by
      show Row _ _ _ _
      rw[HT.out]
      unfold Row
      rw[List.length_append,flat_append,List.length_append,←HQ.out]
      exact hown'
     have HB:Below w.heap.size w w1:=((below_drewN (hb.alloc hb.size _) _).alloc (by have:=hb.size;simp;omega) _).grown hgrow (by have:=hb.size;simp;omega) (fun j hj=>(World.ownsRow.lt HR.out j hj).1)
     clear hown' hgrow HR
     go_wp2
     go_roundw
     case rel=>exact⟨k+1,by omega,by go_num,HO,HB⟩
     case measure=>simp[intOf];omega
  ·have HT:Hid (Row w.heap.size (tog l) u3 wr):=by
    have:=hrow.out
    rwa [List.take_of_length_le (by rw[HN.out];omega)]at this
   clear hrow
   go_wp2
   go_ret
   exact⟨_,rfl,HT.out,hb⟩
end
section
def coef (l:List (Int×Int))(v:Int):Int:=(l.map fun m=>if m.1=v then m.2 else 0).sum
theorem coef_nil (v:Int):coef [] v=0:=rfl
theorem coef_cons (m:Int×Int)(l:List (Int×Int))(v:Int):coef (m :: l) v=(if m.1=v then m.2 else 0)+coef l v:=by simp[coef]
theorem coef_append (l r:List (Int×Int))(v:Int):coef (l ++ r) v=coef l v+coef r v:=by simp[coef,List.sum_append]
theorem coef_perm {l r:List (Int×Int)}(h:l.Perm r)(v:Int):coef l v=coef r v:=by
 induction h with
 | nil=>rfl
 | cons x _ ih=>rw[coef_cons,coef_cons,ih]
 | swap x y l=>simp only[coef_cons];omega
 | trans _ _ h1 h2=>exact h1.trans h2
theorem coef_none {l:List (Int×Int)}{v:Int}(h:∀m∈l,m.1≠v):coef l v=0:=by
 induction l with
 | nil=>rfl
 | cons m r ih=>rw[coef_cons,if_neg (h m (by simp)),ih (fun x hx=>h x (by simp[hx]))];rfl
def Up (l:List (Int×Int)):Prop:=l.Pairwise fun a b=>a.1<b.1
structure IsSum (l R:List (Int×Int)):Prop where
 up:Up R
 nz:∀m∈R,m.2≠0
 eq:∀v,coef R v=coef l v
theorem up_head {m:Int×Int}{r:List (Int×Int)}(h:Up (m :: r)):coef r m.1=0:=
 coef_none fun x hx=>by have:=(List.pairwise_cons.1 h).1 x hx;omega
theorem sum_unique:∀ {R S:List (Int×Int)},Up R→Up S→(∀m∈R,m.2≠0)→(∀m∈S,m.2≠0)→(∀v,coef R v=coef S v)→R=S
 | [],[],_,_,_,_,_=>rfl
 | [],b :: s,_,hS,_,nS,h=>by
   have:=h b.1
   rw[coef_nil,coef_cons,if_pos rfl,up_head hS]at this
   have:=nS b (by simp)
   omega
 | a :: r,[],hR,_,nR,_,h=>by
   have:=h a.1
   rw[coef_nil,coef_cons,if_pos rfl,up_head hR]at this
   have:=nR a (by simp)
   omega
 | a :: r,b :: s,hR,hS,nR,nS,h=>by
   have na:=nR a (by simp)
   have nb:=nS b (by simp)
   have hr:=List.pairwise_cons.1 hR
   have hs:=List.pairwise_cons.1 hS
   have e1:a.1=b.1:=by
    by_cases hlt:a.1<b.1
    ·have:=h a.1
     rw[coef_cons,if_pos rfl,up_head hR,coef_cons,if_neg (by omega),coef_none (fun x hx=>by have:=hs.1 x hx;omega)]at this
     omega
    ·by_cases hgt:b.1<a.1
     ·have:=h b.1
      rw[coef_cons,if_neg (by omega),coef_none (fun x hx=>by have:=hr.1 x hx;omega),coef_cons,if_pos rfl,up_head hS]at this
      omega
     ·omega
   have e2:a.2=b.2:=by
    have:=h a.1
    rw[coef_cons,if_pos rfl,up_head hR,coef_cons,if_pos e1.symm,e1,up_head hS]at this
    omega
   have e:a=b:=Prod.ext e1 e2
   subst e
   rw[sum_unique hr.2 hs.2 (fun x hx=>nR x (by simp[hx])) (fun x hx=>nS x (by simp[hx])) (fun v=>by
    have:=h v
    rw[coef_cons,coef_cons]at this
    omega)]
theorem IsSum.unique {l R S:List (Int×Int)}(h:IsSum l R)(k:IsSum l S):R=S:=sum_unique h.up k.up h.nz k.nz fun v=>(h.eq v).trans (k.eq v).symm
theorem IsSum.perm {l l' R:List (Int×Int)}(h:IsSum l R)(hp:l.Perm l'):IsSum l' R:=⟨h.up,h.nz,fun v=>(h.eq v).trans (coef_perm hp v)⟩
theorem coef_up {R:List (Int×Int)}(h:Up R){m:Int×Int}(hm:m∈R):coef R m.1=m.2:=by
 induction R with
 | nil=>cases hm
 | cons a r ih=>
   rcases List.mem_cons.1 hm with rfl | hm
   ·rw[coef_cons,if_pos rfl,up_head h];omega
   ·have hr:=List.pairwise_cons.1 h
    rw[coef_cons,if_neg (by have:=hr.1 m hm;omega),ih hr.2 hm];omega
theorem IsSum.comes {l R:List (Int×Int)}(h:IsSum l R){m:Int×Int}(hm:m∈R):∃x∈l,x.1=m.1:=by
 by_cases hx:∃x∈l,x.1=m.1
 ·exact hx
 ·have h1:=coef_up h.up hm
  rw[h.eq,coef_none (fun x hx1 hx2=>hx ⟨x,hx1,hx2⟩)]at h1
  exact absurd h1.symm (h.nz m hm)
theorem togStep_up {r:List (Int×Int)}{m:Int×Int}(h:Up r)(hle:∀p∈r,p.1≤m.1):
 Up (togStep r m)∧(∀p∈togStep r m,p.1≤m.1)∧∀v,coef (togStep r m) v=coef r v+(if m.1=v then m.2 else 0):=by
 obtain⟨mv,mk⟩:=m
 rcases snoc_cases r with rfl | ⟨r',⟨pv,pk⟩,rfl⟩
 ·refine⟨by rw[togStep_nil];simp[Up],fun p hp=> ?_,fun v=> ?_⟩
  ·rw[togStep_nil]at hp;simp at hp;subst hp;exact Int.le_refl _
  ·rw[togStep_nil,coef_cons,coef_nil];omega
 ·have hp:=hle (pv,pk) (by simp)
  have hpair:=List.pairwise_append.1 h
  by_cases e:pv=mv
  ·subst e
   rw[togStep_eq]
   refine⟨List.pairwise_append.2 ⟨hpair.1,by simp,fun a ha b hb=> ?_⟩,fun p hp=> ?_,fun v=> ?_⟩
   ·simp at hb;subst hb;exact hpair.2.2 a ha (pv,pk) (by simp)
   ·rcases List.mem_append.1 hp with hp | hp
    ·exact hle p (by simp[hp])
    ·simp at hp;subst hp;exact Int.le_refl _
   ·rw[coef_append,coef_append,coef_cons,coef_cons,coef_nil]
    by_cases hv:pv=v<;>simp[hv]<;>omega
  ·rw[togStep_ne _ _ _ e]
   refine⟨List.pairwise_append.2 ⟨h,by simp,fun a ha b hb=> ?_⟩,fun p hp=> ?_,fun v=> ?_⟩
   ·simp at hb;subst hb
    rcases List.mem_append.1 ha with ha | ha
    ·have:=hpair.2.2 a ha (pv,pk) (by simp);simp only at this hp⊢;omega
    ·simp at ha;subst ha;simp only at hp⊢;omega
   ·rcases List.mem_append.1 hp with hp | hp
    ·exact hle p hp
    ·simp at hp;subst hp;exact Int.le_refl _
   ·rw[coef_append,coef_cons,coef_nil];omega
def Asc (l:List (Int×Int)):Prop:=∀i j,i<j→j<l.length→(l.getD i (0,0)).1≤(l.getD j (0,0)).1
theorem tog_up (l:List (Int×Int))(h:Asc l):∀k,k≤l.length→Up (tog (l.take k))∧(∀p∈tog (l.take k),∀j,k≤j→j<l.length→p.1≤(l.getD j (0,0)).1)∧∀v,coef (tog (l.take k)) v=coef (l.take k) v
 | 0,_=>⟨by simp[tog,Up],fun p hp=>by simp[tog]at hp,fun v=>by simp[tog]⟩
 | k+1,hk=>by
   obtain⟨h1,h2,h3⟩:=tog_up l h k (by omega)
   obtain⟨g1,g2,g3⟩:=togStep_up (m:=l.getD k (0,0)) h1 (fun p hp=>h2 p hp k (Nat.le_refl _) (by omega))
   rw[take_snoc l k (by omega),tog_snoc]
   refine⟨g1,fun p hp j hj hjl=> ?_,fun v=> ?_⟩
   ·exact Int.le_trans (g2 p hp) (h k j (by omega) hjl)
   ·rw[g3,coef_append,h3,coef_cons,coef_nil];omega
theorem coef_filter (l:List (Int×Int))(v:Int):coef (l.filter fun m=>m.2 != 0) v=coef l v:=by
 induction l with
 | nil=>rfl
 | cons m r ih=>
   by_cases h:m.2=0
   ·rw[List.filter_cons_of_neg (by simp[h]),ih,coef_cons];simp[h]
   ·rw[List.filter_cons_of_pos (by simp[h]),coef_cons,coef_cons,ih]
theorem tog_isSum (l:List (Int×Int))(h:Asc l):IsSum l ((tog l).filter fun m=>m.2 != 0):=by
 have:=tog_up l h l.length (Nat.le_refl _)
 rw[List.take_length]at this
 exact⟨this.1.filter _,fun m hm=>by have:=(List.mem_filter.1 hm).2;simpa using this,fun v=>(coef_filter _ v).trans (this.2.2 v)⟩
end
section
open Go.RowKit
def LiesQ (S:Nat→Prop)(w:World)(a:Option Addr)(l:List (Int×Int)):Prop:=
 ∀i,i<l.length→∃b off,a=some ⟨b,off,none⟩∧S b∧w.cell? ⟨b,off+i*2,none⟩=some (.int .i64 (l.getD i (0,0)).1)∧w.cell? ⟨b,off+i*2+1,none⟩=some (.int .i64 (l.getD i (0,0)).2)
def FLiesQ (S:Nat→Prop)(w:World):Nat→FT→List Value→Prop
 | 0,_,_=>False
 | n+1,f,cs=>∃(ta:Option Addr) (tcap:Nat) (ka:Option Addr) (kcap:Nat),cs=[.int .i64 f.kind,.int .i64 f.c,.slice ta f.t.length tcap,.slice ka f.ks.length kcap]∧
    LiesQ S w ta f.t∧f.t.length≤9223372036854775807∧f.ks.length≤9223372036854775807∧
    ∀i,i<f.ks.length→∃b off c0 c1 c2 c3,ka=some ⟨b,off,none⟩∧S b∧w.cell? ⟨b,off+i*4,none⟩=some c0∧w.cell? ⟨b,off+i*4+1,none⟩=some c1∧w.cell? ⟨b,off+i*4+2,none⟩=some c2∧w.cell? ⟨b,off+i*4+3,none⟩=some c3∧
     FLiesQ S w n (f.ks.getD i default) [c0,c1,c2,c3]
theorem LiesQ.lies {S:Nat→Prop}{w:World}{B:Nat}{a:Option Addr}{l:List (Int×Int)}(hS:∀b,S b→b<B)(h:LiesQ S w a l):Lies B w a l:=fun i hi=>by
 obtain⟨b,off,e,hb,r⟩:=h i hi
 exact⟨b,off,e,hS b hb,r⟩
theorem FLiesQ.lies {S:Nat→Prop}{w:World}{B:Nat}(hS:∀b,S b→b<B):∀ {n:Nat} {f:FT} {cs:List Value},FLiesQ S w n f cs→FLies B w n f cs
 | 0,_,_,h=>h
 | n+1,f,cs,⟨ta,tcap,ka,kcap,h1,h2,h3,h4,h5⟩=>⟨ta,tcap,ka,kcap,h1,h2.lies hS,h3,h4,fun i hi=>by
   obtain⟨b,off,c0,c1,c2,c3,e,hb,g0,g1,g2,g3,hf⟩:=h5 i hi
   exact⟨b,off,c0,c1,c2,c3,e,hS b hb,g0,g1,g2,g3,hf.lies hS⟩⟩
theorem LiesQ.keep {S S':Nat→Prop}{w w':World}{a:Option Addr}{l:List (Int×Int)}(hS:∀b,S b→S' b)(hk:∀b o,S b→w'.cell? ⟨b,o,none⟩=w.cell? ⟨b,o,none⟩)(h:LiesQ S w a l):LiesQ S' w' a l:=fun i hi=>by
 obtain⟨b,off,e,hb,r1,r2⟩:=h i hi
 exact⟨b,off,e,hS b hb,(hk _ _ hb).trans r1,(hk _ _ hb).trans r2⟩
theorem FLiesQ.keep {S S':Nat→Prop}{w w':World}(hS:∀b,S b→S' b)(hk:∀b o,S b→w'.cell? ⟨b,o,none⟩=w.cell? ⟨b,o,none⟩):∀ {n:Nat} {f:FT} {cs:List Value},FLiesQ S w n f cs→FLiesQ S' w' n f cs
 | 0,_,_,h=>h
 | n+1,f,cs,⟨ta,tcap,ka,kcap,h1,h2,h3,h4,h5⟩=>⟨ta,tcap,ka,kcap,h1,h2.keep hS hk,h3,h4,fun i hi=>by
   obtain⟨b,off,c0,c1,c2,c3,e,hb,g0,g1,g2,g3,hf⟩:=h5 i hi
   exact⟨b,off,c0,c1,c2,c3,e,hS b hb,(hk _ _ hb).trans g0,(hk _ _ hb).trans g1,(hk _ _ hb).trans g2,(hk _ _ hb).trans g3,hf.keep hS hk⟩⟩
theorem FLiesQ.four {S:Nat→Prop}{w:World}:∀ {n:Nat} {f:FT} {cs:List Value},FLiesQ S w n f cs→∃c0 c1 c2 c3,cs=[c0,c1,c2,c3]
 | 0,_,_,h=>h.elim
 | _+1,_,_,⟨_,_,_,_,h1,_⟩=>⟨_,_,_,_,h1⟩
theorem flat4_get:∀(css:List (List Value)),(∀c∈css,c.length=4)→∀i j,i<css.length→j<4→css.flatten[i*4+j]? =(css.getD i [])[j]?
 | [],_,i,_,hi,_=>absurd hi (Nat.not_lt_zero i)
 | c :: r,h,0,j,_,hj=>by
   have h1:=h c (by simp)
   rw[List.flatten_cons,Nat.zero_mul,Nat.zero_add,List.getElem?_append_left (by omega)]
   rfl
 | c :: r,h,i+1,j,hi,hj=>by
   have h1:=h c (by simp)
   rw[List.flatten_cons,List.getElem?_append_right (by omega),show(i+1)*4+j - c.length=i*4+j by omega,flat4_get r (fun x hx=>h x (by simp[hx])) i j (by simpa using hi) hj]
   rfl
end
section
open Go.RowKit
theorem Tryz.infoForm:(Tryz.prog.info? 39).map (fun i=>(i.zero,i.size,i.bytes))=some (some (.agg #[.int .i64 0,.int .i64 0,.slice none 0 0,.slice none 0 0]),4,64):=by kernel_rfl
end
end Go.Proofs.YtipahfcaplbifaaGreatDoor
