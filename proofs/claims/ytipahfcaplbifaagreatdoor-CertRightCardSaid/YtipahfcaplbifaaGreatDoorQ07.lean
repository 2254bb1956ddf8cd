/- Parts of a proof. -/
import Derived.Test.YtipahfcaplbifaaGreatDoorQ02
set_option linter.unusedVariables false
set_option linter.unusedSimpArgs false
set_option maxHeartbeats 60000000
set_option maxRecDepth 100000
namespace Go.Proofs.YtipahfcaplbifaaGreatDoor
section
open Go.RowKit
theorem dep_int {n:Nat}{m:Int}{f:FT}(h0:0≤m)(h1:m≠0):m<(dep (n+1) f:Int)↔∃i,i<f.ks.length∧m - 1<(dep n (f.ks.getD i default):Int):=by
 obtain⟨k,rfl⟩:∃k:Nat,m=(k+1:Nat):=⟨(m - 1).toNat,by omega⟩
 have:=dep_succ (n:=n) (m:=k) (f:=f)
 constructor
 ·intro h
  obtain⟨i,hi,hd⟩:=this.1 (by omega)
  exact⟨i,hi,by omega⟩
 ·rintro⟨i,hi,hd⟩
  have:=this.2 ⟨i,hi,by omega⟩
  omega
theorem deeper_any:∀(n:Nat) (f:FT) (cs:List Value) (m:Int) (w:World),0≤m→m≤1048576→FLies w.heap.size w n f cs→
  Calls Tryz.prog 68 #[.agg cs.toArray,.int .i64 m] w fun e w'=>e= .returned (.bool (decide (m<(dep n f:Int))))∧Below w.heap.size w w'
 | 0,_,_,_,_,_,_,h=>h.elim
 | n+1,f,cs,m,w,h0,h1,h=>by
  have IH:=deeper_any n
  obtain⟨ta,tcap,ka,kcap,rfl,_,_,hk4,hks⟩:=h
  have HB0:Hid (Below w.heap.size w (w.alloc (.cells #[.int .i64 f.kind,.int .i64 f.c,.slice ta f.t.length tcap,.slice ka f.ks.length kcap] 39))):=(Below.refl _ w).alloc (Nat.le_refl _) _
  by_cases hm:m=0
  ·subst hm
   have hd:decide ((0:Int)<(dep (n+1) f:Int))=true:=by have:=dep_zero n f;simp;omega
   rw[hd]
   clear IH hks hd
   go_enter Tryz.func68,Tryz.ntmps68
   go_wp2
   go_ret
   exact⟨rfl,HB0.out⟩
  ·have HD:=Lib.hid (dep_int (n:=n) (f:=f) h0 hm)
   have HI:=Lib.hid IH
   have HK:=Lib.hid hks
   have hme:(m == 0)=false:=by simpa using hm
   generalize hr:decide (m<(dep (n+1) f:Int))=r
   have HR:=Lib.hid hr
   clear IH hks hr
   generalize f.kind=fk at HB0
   generalize f.c=fc at HB0
   generalize f.t.length=ft at HB0
   generalize hl:f.ks.length=len at HB0 HK HD hk4
   clear hl
   go_enter Tryz.func68,Tryz.ntmps68
   go_wp2
   go_loopw [12] (fun i wr=>∃k:Nat,k≤len∧i= .int .i64 k∧Hid (∀j,j<k→(dep n (f.ks.getD j default):Int)≤m - 1)∧Below w.heap.size w wr) (fun i _=>len - (intOf i).toNat)
   case atStart=>exact⟨0,Nat.zero_le _,rfl,fun j hj=>absurd hj (Nat.not_lt_zero j),HB0.out⟩
   case round=>
    obtain⟨k,hk,rfl,hno,hb⟩:=hrel
    by_cases hlt:k<len
    ·obtain⟨b,off,c0,c1,c2,c3,rfl,hblt,g0,g1,g2,g3,hf⟩:=HK.out k hlt
     rw[←hb.cell (p:=⟨b,_,none⟩) hblt]at g0 g1 g2 g3
     obtain⟨ck,cc,cta,ctn,ctcap,cka,ckn,ckcap,rfl,rfl,rfl,rfl⟩:=hf.form
     have hb2:=hb.alloc hb.size (.cells #[.int .i64 ck,.int .i64 cc,.slice cta ctn ctcap,.slice cka ckn ckcap] 39)
     have hih:=HI.out (f.ks.getD k default) _ (m - 1) _ (by omega) (by omega) ((hf.below hb2).mono hb2.size)
     by_cases hd:m - 1<(dep n (f.ks.getD k default):Int)
     ·have hr:r=true:=by rw[←HR.out];exact decide_eq_true (HD.out.2 ⟨k,hlt,hd⟩)
      rw[decide_eq_true hd]at hih
      subst hr
      clear hd hf hno
      go_wp2_with fail
      refine hih.mono ?_
      rintro e w1 ⟨rfl,hb1⟩
      have HB1:=Lib.hid (hb2.trans (hb1.mono hb2.size))
      clear g0 g1 g2 g3 hih hb1 hb2
      go_wp2
      go_ret
      exact⟨rfl,HB1.out⟩
     ·rw[decide_eq_false hd]at hih
      have hno2:Hid (∀j,j<k+1→(dep n (f.ks.getD j default):Int)≤m - 1):=fun j hj=>by
       by_cases ej:j=k
       ·rw[ej];omega
       ·exact hno.out j (by omega)
      clear hd hf hno
      go_wp2_with fail
      refine hih.mono ?_
      rintro e w1 ⟨rfl,hb1⟩
      have HB1:=Lib.hid (hb2.trans (hb1.mono hb2.size))
      clear g0 g1 g2 g3 hih hb1 hb2
      go_wp2
      go_roundw
      case rel=>exact⟨k+1,by omega,by go_num,hno2,HB1.out⟩
      case measure=>simp[intOf];omega
    ·have hr:r=false:=by
      rw[←HR.out]
      refine decide_eq_false fun h=> ?_
      obtain⟨i,hi,hd⟩:=HD.out.1 h
      have:=hno.out i (by omega);omega
     subst hr
     clear hno
     go_wp2
     go_ret
     exact⟨rfl,hb⟩
theorem sizTo_le (n:Nat)(f:FT)(k:Nat):1+sizTo n f.ks k≤siz (n+1) f:=by
 rw[sizTo_len]
 by_cases h:k≤f.ks.length
 ·have:=sizTo_mono n f.ks h;omega
 ·have:=sizTo_mono n f.ks (show f.ks.length≤k by omega)
  have e:sizTo n f.ks k=sizTo n f.ks f.ks.length:=by
   unfold sizTo;rw[List.take_of_length_le (by omega),List.take_length]
  omega
def cnt (s:Nat)(m:Int):Int:=if(s:Int)≤m then s else m+1
theorem count_any:∀(n:Nat) (f:FT) (cs:List Value) (m:Int) (w:World),0≤m→m≤1048576→FLies w.heap.size w n f cs→
  Calls Tryz.prog 69 #[.agg cs.toArray,.int .i64 m] w fun e w'=>e= .returned (.int .i64 (cnt (siz n f) m))∧Below w.heap.size w w'
 | 0,_,_,_,_,_,_,h=>h.elim
 | n+1,f,cs,m,w,h0,h1,h=>by
  have IH:=count_any n
  obtain⟨ta,tcap,ka,kcap,rfl,_,_,hk4,hks⟩:=h
  have HB0:Hid (Below w.heap.size w (w.alloc (.cells #[.int .i64 f.kind,.int .i64 f.c,.slice ta f.t.length tcap,.slice ka f.ks.length kcap] 39))):=(Below.refl _ w).alloc (Nat.le_refl _) _
  have HI:=Lib.hid IH
  have HK:=Lib.hid hks
  have HLE:=Lib.hid (sizTo_le n f)
  have HLN:=Lib.hid (sizTo_len n f)
  have HST:=Lib.hid (sizTo_succ n f.ks)
  have S0:Hid ((1:Int)=cnt (1+sizTo n f.ks 0) m):=by
   show _=_
   unfold cnt
   rw[sizTo_zero]
   split<;>omega
  generalize hr:cnt (siz (n+1) f) m=r
  have HR:=Lib.hid hr
  clear IH hks hr
  generalize f.kind=fk at HB0
  generalize f.c=fc at HB0
  generalize f.t.length=ft at HB0
  generalize hl:f.ks.length=len at HB0 HK hk4 HST HLN
  clear hl
  go_enter Tryz.func69,Tryz.ntmps69
  go_wp2
  go_loopw [5,11] (fun s i wr=>∃(k:Nat) (v:Int),k≤len∧i= .int .i64 k∧s= .int .i64 v∧1≤v∧v≤m+1∧Hid (v=cnt (1+sizTo n f.ks k) m)∧Below w.heap.size w wr) (fun _ i _=>len - (intOf i).toNat)
  case atStart=>exact⟨0,1,Nat.zero_le _,rfl,rfl,by omega,by omega,S0,HB0.out⟩
  case round=>
   obtain⟨k,v,hk,rfl,rfl,hv1,hv2,hv,hb⟩:=hrel
   by_cases hlt:k<len
   ·obtain⟨b,off,c0,c1,c2,c3,rfl,hblt,g0,g1,g2,g3,hf⟩:=HK.out k hlt
    rw[←hb.cell (p:=⟨b,_,none⟩) hblt]at g0 g1 g2 g3
    obtain⟨ck,cc,cta,ctn,ctcap,cka,ckn,ckcap,rfl,rfl,rfl,rfl⟩:=hf.form
    have hb2:=hb.alloc hb.size (.cells #[.int .i64 ck,.int .i64 cc,.slice cta ctn ctcap,.slice cka ckn ckcap] 39)
    by_cases hvm:m<v
    ·have hr:r=v:=by
      have h1:=HLE.out k
      have h2:=hv.out
      rw[←HR.out]
      unfold cnt at h2⊢
      split at h2<;>split<;>omega
     subst hr
     clear hv hf
     go_wp2_with fail
     go_ret
     exact⟨rfl,hb2⟩
    ·have hih:=HI.out (f.ks.getD k default) _ (m - v) _ (by omega) (by omega) ((hf.below hb2).mono hb2.size)
     have hs:=HST.out k hlt
     have hv3:Hid (v+cnt (siz n (f.ks.getD k default)) (m - v)=cnt (1+sizTo n f.ks (k+1)) m):=by
      have h2:=hv.out
      show _=_
      unfold cnt at h2⊢
      rw[hs]
      split at h2<;>split<;>split<;>omega
     have hc1:0≤cnt (siz n (f.ks.getD k default)) (m - v)∧cnt (siz n (f.ks.getD k default)) (m - v)≤m - v+1:=by
      unfold cnt
      split<;>omega
     generalize cnt (siz n (f.ks.getD k default)) (m - v)=u at hih hv3 hc1
     clear hs hf hv
     go_wp2_with fail
     refine hih.mono ?_
     rintro e w1 ⟨rfl,hb1⟩
     have HB1:=Lib.hid (hb2.trans (hb1.mono hb2.size))
     clear g0 g1 g2 g3 hih hb1 hb2
     go_wp2
     go_roundw
     case rel=>exact⟨k+1,v+u,by omega,by go_num,by go_num,by omega,by omega,hv3,HB1.out⟩
     case measure=>simp[intOf];omega
   ·have hr:r=v:=by
     have h1:=HLN.out
     have h2:=hv.out
     obtain rfl:k=len:=by omega
     rw[←HR.out,h2,h1]
    subst hr
    clear hv
    go_wp2
    go_ret
    exact⟨rfl,hb⟩
end
section
open Go.RowKit
theorem ndeeper_any:∀(n:Nat) (f:FT) (cs:List Value) (m:Int) (w:World),0≤m→m≤1048576→FLies w.heap.size w n f cs→
  Calls Tryz.prog 83 #[.agg cs.toArray,.int .i64 m] w fun e w'=>e= .returned (.bool (decide (m<(dep n f:Int))))∧Below w.heap.size w w'
 | 0,_,_,_,_,_,_,h=>h.elim
 | n+1,f,cs,m,w,h0,h1,h=>by
  have IH:=ndeeper_any n
  obtain⟨ta,tcap,ka,kcap,rfl,_,_,hk4,hks⟩:=h
  have HB0:Hid (Below w.heap.size w (w.alloc (.cells #[.int .i64 f.kind,.int .i64 f.c,.slice ta f.t.length tcap,.slice ka f.ks.length kcap] 39))):=(Below.refl _ w).alloc (Nat.le_refl _) _
  by_cases hm:m=0
  ·subst hm
   have hd:decide ((0:Int)<(dep (n+1) f:Int))=true:=by have:=dep_zero n f;simp;omega
   rw[hd]
   clear IH hks hd
   go_enter Tryz.func83,Tryz.ntmps83
   go_wp2
   go_ret
   exact⟨rfl,HB0.out⟩
  ·have HD:=Lib.hid (dep_int (n:=n) (f:=f) h0 hm)
   have HI:=Lib.hid IH
   have HK:=Lib.hid hks
   have hme:(m == 0)=false:=by simpa using hm
   generalize hr:decide (m<(dep (n+1) f:Int))=r
   have HR:=Lib.hid hr
   clear IH hks hr
   generalize f.kind=fk at HB0
   generalize f.c=fc at HB0
   generalize f.t.length=ft at HB0
   generalize hl:f.ks.length=len at HB0 HK HD hk4
   clear hl
   go_enter Tryz.func83,Tryz.ntmps83
   go_wp2
   go_loopw [12] (fun i wr=>∃k:Nat,k≤len∧i= .int .i64 k∧Hid (∀j,j<k→(dep n (f.ks.getD j default):Int)≤m - 1)∧Below w.heap.size w wr) (fun i _=>len - (intOf i).toNat)
   case atStart=>exact⟨0,Nat.zero_le _,rfl,fun j hj=>absurd hj (Nat.not_lt_zero j),HB0.out⟩
   case round=>
    obtain⟨k,hk,rfl,hno,hb⟩:=hrel
    by_cases hlt:k<len
    ·obtain⟨b,off,c0,c1,c2,c3,rfl,hblt,g0,g1,g2,g3,hf⟩:=HK.out k hlt
     rw[←hb.cell (p:=⟨b,_,none⟩) hblt]at g0 g1 g2 g3
     obtain⟨ck,cc,cta,ctn,ctcap,cka,ckn,ckcap,rfl,rfl,rfl,rfl⟩:=hf.form
     have hb2:=hb.alloc hb.size (.cells #[.int .i64 ck,.int .i64 cc,.slice cta ctn ctcap,.slice cka ckn ckcap] 39)
     have hih:=HI.out (f.ks.getD k default) _ (m - 1) _ (by omega) (by omega) ((hf.below hb2).mono hb2.size)
     by_cases hd:m - 1<(dep n (f.ks.getD k default):Int)
     ·have hr:r=true:=by rw[←HR.out];exact decide_eq_true (HD.out.2 ⟨k,hlt,hd⟩)
      rw[decide_eq_true hd]at hih
      subst hr
      clear hd hf hno
      go_wp2_with fail
      refine hih.mono ?_
      rintro e w1 ⟨rfl,hb1⟩
      have HB1:=Lib.hid (hb2.trans (hb1.mono hb2.size))
      clear g0 g1 g2 g3 hih hb1 hb2
      go_wp2
      go_ret
      exact⟨rfl,HB1.out⟩
     ·rw[decide_eq_false hd]at hih
      have hno2:Hid (∀j,j<k+1→(dep n (f.ks.getD j default):Int)≤m - 1):=fun j hj=>by
       by_cases ej:j=k
       ·rw[ej];omega
       ·exact hno.out j (by omega)
      clear hd hf hno
      go_wp2_with fail
      refine hih.mono ?_
      rintro e w1 ⟨rfl,hb1⟩
      have HB1:=Lib.hid (hb2.trans (hb1.mono hb2.size))
      clear g0 g1 g2 g3 hih hb1 hb2
      go_wp2
      go_roundw
      case rel=>exact⟨k+1,by omega,by go_num,hno2,HB1.out⟩
      case measure=>simp[intOf];omega
    ·have hr:r=false:=by
      rw[←HR.out]
      refine decide_eq_false fun h=> ?_
      obtain⟨i,hi,hd⟩:=HD.out.1 h
      have:=hno.out i (by omega);omega
     subst hr
     clear hno
     go_wp2
     go_ret
     exact⟨rfl,hb⟩
theorem ncount_any:∀(n:Nat) (f:FT) (cs:List Value) (m:Int) (w:World),0≤m→m≤1048576→FLies w.heap.size w n f cs→
  Calls Tryz.prog 84 #[.agg cs.toArray,.int .i64 m] w fun e w'=>e= .returned (.int .i64 (cnt (siz n f) m))∧Below w.heap.size w w'
 | 0,_,_,_,_,_,_,h=>h.elim
 | n+1,f,cs,m,w,h0,h1,h=>by
  have IH:=ncount_any n
  obtain⟨ta,tcap,ka,kcap,rfl,_,_,hk4,hks⟩:=h
  have HB0:Hid (Below w.heap.size w (w.alloc (.cells #[.int .i64 f.kind,.int .i64 f.c,.slice ta f.t.length tcap,.slice ka f.ks.length kcap] 39))):=(Below.refl _ w).alloc (Nat.le_refl _) _
  have HI:=Lib.hid IH
  have HK:=Lib.hid hks
  have HLE:=Lib.hid (sizTo_le n f)
  have HLN:=Lib.hid (sizTo_len n f)
  have HST:=Lib.hid (sizTo_succ n f.ks)
  have S0:Hid ((1:Int)=cnt (1+sizTo n f.ks 0) m):=by
   show _=_
   unfold cnt
   rw[sizTo_zero]
   split<;>omega
  generalize hr:cnt (siz (n+1) f) m=r
  have HR:=Lib.hid hr
  clear IH hks hr
  generalize f.kind=fk at HB0
  generalize f.c=fc at HB0
  generalize f.t.length=ft at HB0
  generalize hl:f.ks.length=len at HB0 HK hk4 HST HLN
  clear hl
  go_enter Tryz.func84,Tryz.ntmps84
  go_wp2
  go_loopw [5,11] (fun s i wr=>∃(k:Nat) (v:Int),k≤len∧i= .int .i64 k∧s= .int .i64 v∧1≤v∧v≤m+1∧Hid (v=cnt (1+sizTo n f.ks k) m)∧Below w.heap.size w wr) (fun _ i _=>len - (intOf i).toNat)
  case atStart=>exact⟨0,1,Nat.zero_le _,rfl,rfl,by omega,by omega,S0,HB0.out⟩
  case round=>
   obtain⟨k,v,hk,rfl,rfl,hv1,hv2,hv,hb⟩:=hrel
   by_cases hlt:k<len
   ·obtain⟨b,off,c0,c1,c2,c3,rfl,hblt,g0,g1,g2,g3,hf⟩:=HK.out k hlt
    rw[←hb.cell (p:=⟨b,_,none⟩) hblt]at g0 g1 g2 g3
    obtain⟨ck,cc,cta,ctn,ctcap,cka,ckn,ckcap,rfl,rfl,rfl,rfl⟩:=hf.form
    have hb2:=hb.alloc hb.size (.cells #[.int .i64 ck,.int .i64 cc,.slice cta ctn ctcap,.slice cka ckn ckcap] 39)
    by_cases hvm:m<v
    ·have hr:r=v:=by
      have h1:=HLE.out k
      have h2:=hv.out
      rw[←HR.out]
      unfold cnt at h2⊢
      split at h2<;>split<;>omega
     subst hr
     clear hv hf
     go_wp2_with fail
     go_ret
     exact⟨rfl,hb2⟩
    ·have hih:=HI.out (f.ks.getD k default) _ (m - v) _ (by omega) (by omega) ((hf.below hb2).mono hb2.size)
     have hs:=HST.out k hlt
     have hv3:Hid (v+cnt (siz n (f.ks.getD k default)) (m - v)=cnt (1+sizTo n f.ks (k+1)) m):=by
      have h2:=hv.out
      show _=_
      unfold cnt at h2⊢
      rw[hs]
      split at h2<;>split<;>split<;>omega
     have hc1:0≤cnt (siz n (f.ks.getD k default)) (m - v)∧cnt (siz n (f.ks.getD k default)) (m - v)≤m - v+1:=by
      unfold cnt
      split<;>omega
     generalize cnt (siz n (f.ks.getD k default)) (m - v)=u at hih hv3 hc1
     clear hs hf hv
     go_wp2_with fail
     refine hih.mono ?_
     rintro e w1 ⟨rfl,hb1⟩
     have HB1:=Lib.hid (hb2.trans (hb1.mono hb2.size))
     clear g0 g1 g2 g3 hih hb1 hb2
     go_wp2
     go_roundw
     case rel=>exact⟨k+1,v+u,by omega,by go_num,by go_num,by omega,by omega,hv3,HB1.out⟩
     case measure=>simp[intOf];omega
   ·have hr:r=v:=by
     have h1:=HLN.out
     have h2:=hv.out
     obtain rfl:k=len:=by omega
     rw[←HR.out,h2,h1]
    subst hr
    clear hv
    go_wp2
    go_ret
    exact⟨rfl,hb⟩
end
end Go.Proofs.YtipahfcaplbifaaGreatDoor
