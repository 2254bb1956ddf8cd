/- Parts of a proof. -/
import Derived.Test.YtipahfcaplbifaaGreatDoorZ02
import Derived.Test.YtipahfcaplbifaaGreatDoorZ06
import Derived.Test.YtipahfcaplbifaaGreatDoorZ13
import Derived.Maps.Own
import Derived.Maps.OwnOps
import Derived.Maps.Views
import Derived.Lib.SmallJoins
import Derived.ProofKit
set_option linter.unusedVariables false
set_option linter.unusedSimpArgs false
set_option maxHeartbeats 60000000
set_option maxRecDepth 100000
namespace Go.Proofs.YtipahfcaplbifaaGreatDoor
section
open Go.RowKit
theorem top_snoc (l:List Nat)(x:Nat):top (l ++ [x])=max (top l) x:=by
 induction l with
 | nil=>show max x 0=max 0 x;omega
 | cons a r ih=>
   have e1:top (a :: (r ++ [x]))=max a (top (r ++ [x])):=rfl
   have e2:top (a :: r)=max a (top r):=rfl
   rw[List.cons_append,e1,e2,ih];omega
def topTo (n:Nat)(ks:List FT)(i:Nat):Nat:=top ((ks.take i).map (dep n))
theorem topTo_succ (n:Nat)(ks:List FT)(i:Nat)(h:i<ks.length):topTo n ks (i+1)=max (topTo n ks i) (dep n (ks.getD i default)):=by
 unfold topTo
 rw[List.take_succ_eq_append_getElem h,List.map_append,List.map_cons,List.map_nil,top_snoc]
 simp[List.getD_eq_getElem?_getD,h]
theorem topTo_len (n:Nat)(f:FT):dep (n+1) f=1+topTo n f.ks f.ks.length:=by
 show 1+top _=_
 unfold topTo;rw[List.take_length]
def minI (s:Nat)(m:Int):Int:=if(s:Int)≤m then s else m
theorem rdepth_any:∀(n:Nat) (f:FT) (cs:List Value) (m:Int) (w:World),0≤m→m≤1048576→FLies w.heap.size w n f cs→
 Calls Tryz.prog 92 #[.agg cs.toArray,.int .i64 m] w fun e w'=>e= .returned (.int .i64 (cnt (dep n f) m))∧Below w.heap.size w w'
 | 0,_,_,_,_,_,_,h=>h.elim
 | n+1,f,cs,m,w,h0,h1,h=>by
   have IH:=rdepth_any n
   obtain⟨ta,tcap,ka,kcap,rfl,_,_,hk4,hks⟩:=h
   have HI:=Lib.hid IH
   have HK:=Lib.hid hks
   have HLN:=Lib.hid (topTo_len n f)
   have HST:=Lib.hid (topTo_succ n f.ks)
   have HB0:Hid (Below (w.heap.size+1) (w.alloc (.cells #[.int .i64 f.kind,.int .i64 f.c,.slice ta f.t.length tcap,.slice ka f.ks.length kcap] 39)) (w.alloc (.cells #[.int .i64 f.kind,.int .i64 f.c,.slice ta f.t.length tcap,.slice ka f.ks.length kcap] 39))):=Below.refl _ _
   have S0:Hid ((0:Int)=minI (topTo n f.ks 0) m):=by
    show _=_
    unfold minI topTo
    simp[top]
    omega
   have HZ:Hid (m=0→cnt (dep (n+1) f) m=1):=fun e=>by
    have:=dep_zero n f
    unfold cnt
    rw[if_neg (by omega),e];rfl
   generalize hr:cnt (dep (n+1) f) m=r
   have HR:=Lib.hid hr
   rw[hr]at HZ
   clear IH hks hr
   generalize f.kind=fk at HB0
   generalize f.c=fc at HB0
   generalize f.t.length=ft at HB0
   generalize hl:f.ks.length=len at HB0 HK hk4 HST HLN
   clear hl
   go_enter Tryz.func92,Tryz.ntmps92
   go_wp2
   go_loopw [5,6] (fun s i wr=>∃(k:Nat) (v:Int),k≤len∧i= .int .i64 k∧s= .int .i64 v∧0≤v∧v≤m∧Hid (v=minI (topTo n f.ks k) m)∧Below (w.heap.size+1) (w.alloc (.cells #[.int .i64 fk,.int .i64 fc,.slice ta ft tcap,.slice ka len kcap] 39)) wr) (fun _ i _=>len - (intOf i).toNat)
   case atStart=>exact⟨0,0,Nat.zero_le _,rfl,rfl,by omega,by omega,S0,HB0.out⟩
   case round=>
    obtain⟨k,v,hk,rfl,rfl,hv1,hv2,hv,hbx⟩:=hrel
    have hb:Below w.heap.size w wr:=((Below.refl _ w).alloc (Nat.le_refl _) _).trans (hbx.mono (by omega))
    have bz:w.heap.size<wr.heap.size:=by have:=hbx.size;simp at this;omega
    have q3:wr.cell? ⟨w.heap.size,3,none⟩=some (.slice ka len kcap):=by rw[hbx.cell (p:=⟨w.heap.size,3,none⟩) (by simp)];simp
    by_cases hm:m=0
    ·have hr:r=v+1:=by rw[HZ.out hm];omega
     subst hr
     clear hv HI HK HZ
     have hm2:decide (0<m)=false:=by simp;omega
     by_cases hlt:k<len
     ·go_wp2_with fail
      go_ret
      exact⟨rfl,hb⟩
     ·go_wp2_with fail
      go_ret
      exact⟨rfl,hb⟩
    ·by_cases hlt:k<len
     ·obtain⟨b,off,c0,c1,c2,c3,rfl,hblt,g0,g1,g2,g3,hf⟩:=HK.out k hlt
      rw[←hb.cell (p:=⟨b,_,none⟩) hblt]at g0 g1 g2 g3
      obtain⟨ck,cc,cta,ctn,ctcap,cka,ckn,ckcap,rfl,rfl,rfl,rfl⟩:=hf.form
      have hih:=HI.out (f.ks.getD k default) _ (m - 1) wr (by omega) (by omega) ((hf.below hb).mono hb.size)
      have hs:=HST.out k hlt
      have hu:0≤cnt (dep n (f.ks.getD k default)) (m - 1)∧cnt (dep n (f.ks.getD k default)) (m - 1)≤m:=by unfold cnt;split<;>omega
      have hv3:Hid ((if v<cnt (dep n (f.ks.getD k default)) (m - 1) then cnt (dep n (f.ks.getD k default)) (m - 1) else v)=minI (topTo n f.ks (k+1)) m):=by
       have h2:=hv.out
       show _=_
       rw[hs]
       unfold cnt minI at*
       split at h2<;>split<;>split<;>(try split)<;>(try split)<;>omega
      generalize cnt (dep n (f.ks.getD k default)) (m - 1)=u at hih hv3 hu
      have hm2:0<m:=by omega
      clear hs hf hv HZ
      go_wp2_with fail
      refine hih.mono ?_
      rintro e w1 ⟨rfl,hb1⟩
      have HB1:=Lib.hid (hbx.trans (hb1.mono (by omega)))
      clear g0 g1 g2 g3 hih hb1 hb hbx q3
      by_cases hvu:v<u
      ·have hv4:Hid (u=minI (topTo n f.ks (k+1)) m):=hv3.out.symm.trans (by rw[if_pos hvu]) |>.symm
       clear hv3
       go_wp2_with fail
       go_roundw
       case rel=>exact⟨k+1,u,by omega,by go_num,rfl,by omega,by omega,hv4,HB1.out⟩
       case measure=>simp[intOf];omega
      ·have hv4:Hid (v=minI (topTo n f.ks (k+1)) m):=hv3.out.symm.trans (by rw[if_neg hvu]) |>.symm
       clear hv3
       go_wp2_with fail
       go_roundw
       case rel=>exact⟨k+1,v,by omega,by go_num,rfl,by omega,by omega,hv4,HB1.out⟩
       case measure=>simp[intOf];omega
     ·have hr:r=v+1:=by
       have h1:=HLN.out
       have h2:=hv.out
       obtain rfl:k=len:=by omega
       rw[←HR.out,h1]
       unfold cnt minI at*
       split at h2<;>split<;>omega
      subst hr
      clear hv HI HK HZ
      go_wp2_with fail
      go_ret
      exact⟨rfl,hb⟩
def szV (s:Nat)(m:Int):Int:=if(s:Int)≤m then m - s else -1
theorem rsize_any:∀(n:Nat) (f:FT) (cs:List Value) (m:Int) (w:World),0≤m→m≤1048576→FLies w.heap.size w n f cs→
 Calls Tryz.prog 93 #[.agg cs.toArray,.int .i64 m] w fun e w'=>e= .returned (.int .i64 (szV (siz n f) m))∧Below w.heap.size w w'
 | 0,_,_,_,_,_,_,h=>h.elim
 | n+1,f,cs,m,w,h0,h1,h=>by
   have IH:=rsize_any n
   obtain⟨ta,tcap,ka,kcap,rfl,_,_,hk4,hks⟩:=h
   have HI:=Lib.hid IH
   have HK:=Lib.hid hks
   have HLE:=Lib.hid (sizTo_le n f)
   have HLN:=Lib.hid (sizTo_len n f)
   have HST:=Lib.hid (sizTo_succ n f.ks)
   have HB0:Hid (Below (w.heap.size+1) (w.alloc (.cells #[.int .i64 f.kind,.int .i64 f.c,.slice ta f.t.length tcap,.slice ka f.ks.length kcap] 39)) (w.alloc (.cells #[.int .i64 f.kind,.int .i64 f.c,.slice ta f.t.length tcap,.slice ka f.ks.length kcap] 39))):=Below.refl _ _
   have S0:Hid (m - 1=szV (1+sizTo n f.ks 0) m):=by
    show _=_
    unfold szV
    rw[sizTo_zero]
    split<;>omega
   generalize hr:szV (siz (n+1) f) m=r
   have HR:=Lib.hid hr
   clear IH hks hr
   generalize f.kind=fk at HB0
   generalize f.c=fc at HB0
   generalize f.t.length=ft at HB0
   generalize hl:f.ks.length=len at HB0 HK hk4 HST HLN
   clear hl
   go_enter Tryz.func93,Tryz.ntmps93
   go_wp2
   go_loopw [1,5] (fun s i wr=>∃(k:Nat) (v:Int),k≤len∧i= .int .i64 k∧s= .int .i64 v∧ -1≤v∧v≤m∧Hid (v=szV (1+sizTo n f.ks k) m)∧Below (w.heap.size+1) (w.alloc (.cells #[.int .i64 fk,.int .i64 fc,.slice ta ft tcap,.slice ka len kcap] 39)) wr) (fun _ i _=>len - (intOf i).toNat)
   case atStart=>exact⟨0,m - 1,Nat.zero_le _,rfl,rfl,by omega,by omega,S0,HB0.out⟩
   case round=>
    obtain⟨k,v,hk,rfl,rfl,hv1,hv2,hv,hbx⟩:=hrel
    have hb:Below w.heap.size w wr:=((Below.refl _ w).alloc (Nat.le_refl _) _).trans (hbx.mono (by omega))
    have bz:w.heap.size<wr.heap.size:=by have:=hbx.size;simp at this;omega
    have q3:wr.cell? ⟨w.heap.size,3,none⟩=some (.slice ka len kcap):=by rw[hbx.cell (p:=⟨w.heap.size,3,none⟩) (by simp)];simp
    by_cases hlt:k<len
    ·by_cases hvn:v<0
     ·have hr:r=v:=by
       have h1:=HLE.out k
       have h2:=hv.out
       rw[←HR.out]
       unfold szV at h2⊢
       split at h2<;>split<;>omega
      subst hr
      clear hv HI HK
      go_wp2_with fail
      go_ret
      exact⟨rfl,hb⟩
     ·obtain⟨b,off,c0,c1,c2,c3,rfl,hblt,g0,g1,g2,g3,hf⟩:=HK.out k hlt
      rw[←hb.cell (p:=⟨b,_,none⟩) hblt]at g0 g1 g2 g3
      obtain⟨ck,cc,cta,ctn,ctcap,cka,ckn,ckcap,rfl,rfl,rfl,rfl⟩:=hf.form
      have hih:=HI.out (f.ks.getD k default) _ v wr (by omega) (by omega) ((hf.below hb).mono hb.size)
      have hs:=HST.out k hlt
      have hu: -1≤szV (siz n (f.ks.getD k default)) v∧szV (siz n (f.ks.getD k default)) v≤m:=by unfold szV;split<;>omega
      have hv3:Hid (szV (siz n (f.ks.getD k default)) v=szV (1+sizTo n f.ks (k+1)) m):=by
       have h2:=hv.out
       show _=_
       unfold szV at h2⊢
       rw[hs]
       split at h2<;>split<;>split<;>omega
      generalize szV (siz n (f.ks.getD k default)) v=u at hih hv3 hu
      clear hs hf hv
      go_wp2_with fail
      refine hih.mono ?_
      rintro e w1 ⟨rfl,hb1⟩
      have HB1:=Lib.hid (hbx.trans (hb1.mono (by omega)))
      clear g0 g1 g2 g3 hih hb1 hb hbx q3
      go_wp2
      go_roundw
      case rel=>exact⟨k+1,u,by omega,by go_num,rfl,by omega,by omega,hv3,HB1.out⟩
      case measure=>simp[intOf];omega
    ·have hr:r=v:=by
      have h1:=HLN.out
      have h2:=hv.out
      obtain rfl:k=len:=by omega
      rw[←HR.out,h2,h1]
     subst hr
     clear hv HI HK
     go_wp2_with fail
     go_ret
     exact⟨rfl,hb⟩
end
section
open Go.RowKit
theorem made_0 (n:Nat)(f:FT)(cs:List Value)(w:World)(IH:∀(f:FT) (cs:List Value) (w:World),FLies w.heap.size w n f cs→Calls Tryz.prog 85 #[.agg cs.toArray] w fun e w'=>e= .returned (.bool (madeF n f))∧Below w.heap.size w w')
 (h:FLies w.heap.size w (n+1) f cs) (hk:f.kind=0):
 Calls Tryz.prog 85 #[.agg cs.toArray] w fun e w'=>e= .returned (.bool (madeF (n+1) f))∧Below w.heap.size w w':=by
 have FL:=fun W (hb:Below w.heap.size w W)=>(h.below hb).mono hb.size
 obtain⟨ta,tcap,ka,kcap,rfl,hlt,ht4,hk4,hks⟩:=h
 have B0:=Lib.hid (box_start w f.kind f.c ta ka f.t.length tcap f.ks.length kcap)
 have hb:=Lib.hid (fun W hb=>bare_any (n+1) f _ W (FL W hb))
 rw[madeF_0 (by omega)]
 rw[hk]at B0 hb
 rw[hk]
 generalize bareF f=b at hb
 generalize f.c=fc at B0 hb
 generalize f.t.length=ft at B0 hb
 generalize f.ks.length=len at B0 hb hk4
 clear IH FL hks hlt ht4 hk
 cases b with
 | false=>
   go_enter Tryz.func85,Tryz.ntmps85
   go_wp2_with fail
   refine(hb.out _ B0.out.bel).mono ?_
   rintro e w1 ⟨rfl,hb1⟩
   have T1:=Lib.hid (B0.out.below hb1 B0.out.lt)
   clear hb1
   go_wp2_with fail
   go_ret
   exact⟨rfl,T1.out.bel⟩
 | true=>
   go_enter Tryz.func85,Tryz.ntmps85
   go_wp2_with fail
   refine(hb.out _ B0.out.bel).mono ?_
   rintro e w1 ⟨rfl,hb1⟩
   have T1:=Lib.hid (B0.out.below hb1 B0.out.lt)
   clear hb1
   obtain⟨l1,p0,p1,p2,p3,_⟩:=T1.out
   go_wp2_with fail
   go_ret
   exact⟨ret_bool (by first | rfl | exact len0 _ | exact len1 _ | (simp;done) | (rw[len0];simp;done) | (rw[len1];simp;done)),T1.out.bel⟩
theorem made_1 (n:Nat)(f:FT)(cs:List Value)(w:World)(IH:∀(f:FT) (cs:List Value) (w:World),FLies w.heap.size w n f cs→Calls Tryz.prog 85 #[.agg cs.toArray] w fun e w'=>e= .returned (.bool (madeF n f))∧Below w.heap.size w w')
 (h:FLies w.heap.size w (n+1) f cs) (hk:f.kind=1):
 Calls Tryz.prog 85 #[.agg cs.toArray] w fun e w'=>e= .returned (.bool (madeF (n+1) f))∧Below w.heap.size w w':=by
 have FL:=fun W (hb:Below w.heap.size w W)=>(h.below hb).mono hb.size
 obtain⟨ta,tcap,ka,kcap,rfl,hlt,ht4,hk4,hks⟩:=h
 have B0:=Lib.hid (box_start w f.kind f.c ta ka f.t.length tcap f.ks.length kcap)
 have hb:=Lib.hid (fun W hb=>bare_any (n+1) f _ W (FL W hb))
 rw[madeF_0 (by omega)]
 rw[hk]at B0 hb
 rw[hk]
 generalize bareF f=b at hb
 generalize f.c=fc at B0 hb
 generalize f.t.length=ft at B0 hb
 generalize f.ks.length=len at B0 hb hk4
 clear IH FL hks hlt ht4 hk
 cases b with
 | false=>
   go_enter Tryz.func85,Tryz.ntmps85
   go_wp2_with fail
   refine(hb.out _ B0.out.bel).mono ?_
   rintro e w1 ⟨rfl,hb1⟩
   have T1:=Lib.hid (B0.out.below hb1 B0.out.lt)
   clear hb1
   go_wp2_with fail
   go_ret
   exact⟨rfl,T1.out.bel⟩
 | true=>
   go_enter Tryz.func85,Tryz.ntmps85
   go_wp2_with fail
   refine(hb.out _ B0.out.bel).mono ?_
   rintro e w1 ⟨rfl,hb1⟩
   have T1:=Lib.hid (B0.out.below hb1 B0.out.lt)
   clear hb1
   obtain⟨l1,p0,p1,p2,p3,_⟩:=T1.out
   go_wp2_with fail
   go_ret
   exact⟨ret_bool (by first | rfl | exact len0 _ | exact len1 _ | (simp;done) | (rw[len0];simp;done) | (rw[len1];simp;done)),T1.out.bel⟩
theorem made_2 (n:Nat)(f:FT)(cs:List Value)(w:World)(IH:∀(f:FT) (cs:List Value) (w:World),FLies w.heap.size w n f cs→Calls Tryz.prog 85 #[.agg cs.toArray] w fun e w'=>e= .returned (.bool (madeF n f))∧Below w.heap.size w w')
 (h:FLies w.heap.size w (n+1) f cs) (hk:f.kind=2):
 Calls Tryz.prog 85 #[.agg cs.toArray] w fun e w'=>e= .returned (.bool (madeF (n+1) f))∧Below w.heap.size w w':=by
 have FL:=fun W (hb:Below w.heap.size w W)=>(h.below hb).mono hb.size
 obtain⟨ta,tcap,ka,kcap,rfl,hlt,ht4,hk4,hks⟩:=h
 have B0:=Lib.hid (box_start w f.kind f.c ta ka f.t.length tcap f.ks.length kcap)
 have hb:=Lib.hid (fun W (hb:Below w.heap.size w W)=>canonical_any f.c ta f.t.length tcap f.t W rfl ht4 ((hlt.below hb).mono hb.size))
 rw[madeF_2 hk]
 rw[hk]at B0⊢
 generalize canF f.c f.t=b at hb
 generalize f.c=fc at B0 hb
 generalize f.t.length=ft at B0 hb
 generalize f.ks.length=len at B0 hk4
 clear IH FL hks hlt ht4 hk
 cases b with
 | false=>
   go_enter Tryz.func85,Tryz.ntmps85
   go_wp2_with fail
   refine(hb.out _ B0.out.bel).mono ?_
   rintro e w1 ⟨rfl,hb1⟩
   have T1:=Lib.hid (B0.out.below hb1 B0.out.lt)
   clear hb1
   go_wp2_with fail
   go_ret
   exact⟨rfl,T1.out.bel⟩
 | true=>
   go_enter Tryz.func85,Tryz.ntmps85
   go_wp2_with fail
   refine(hb.out _ B0.out.bel).mono ?_
   rintro e w1 ⟨rfl,hb1⟩
   have T1:=Lib.hid (B0.out.below hb1 B0.out.lt)
   clear hb1
   obtain⟨l1,p0,p1,p2,p3,_⟩:=T1.out
   go_wp2_with fail
   go_ret
   exact⟨ret_bool (by first | rfl | exact len0 _ | exact len1 _ | (simp;done) | (rw[len0];simp;done) | (rw[len1];simp;done)),T1.out.bel⟩
theorem made_4 (n:Nat)(f:FT)(cs:List Value)(w:World)(IH:∀(f:FT) (cs:List Value) (w:World),FLies w.heap.size w n f cs→Calls Tryz.prog 85 #[.agg cs.toArray] w fun e w'=>e= .returned (.bool (madeF n f))∧Below w.heap.size w w')
 (h:FLies w.heap.size w (n+1) f cs) (hk:f.kind=4):
 Calls Tryz.prog 85 #[.agg cs.toArray] w fun e w'=>e= .returned (.bool (madeF (n+1) f))∧Below w.heap.size w w':=by
 have FL:=fun W (hb:Below w.heap.size w W)=>(h.below hb).mono hb.size
 obtain⟨ta,tcap,ka,kcap,rfl,hlt,ht4,hk4,hks⟩:=h
 have B0:=Lib.hid (box_start w f.kind f.c ta ka f.t.length tcap f.ks.length kcap)
 have hb:=Lib.hid (fun W hb=>bare_any (n+1) f _ W (FL W hb))
 rw[madeF_4 hk]
 rw[hk]at B0 hb
 rw[hk]
 generalize bareF f=b at hb
 cases b with
 | false=>
   rw[Bool.false_and]
   generalize f.c=fc at B0 hb
   generalize f.t.length=ft at B0 hb
   generalize f.ks.length=len at B0 hb hk4
   clear IH FL hks hlt ht4 hk
   go_enter Tryz.func85,Tryz.ntmps85
   go_wp2_with fail
   refine(hb.out _ B0.out.bel).mono ?_
   rintro e w1 ⟨rfl,hb1⟩
   have T1:=Lib.hid (B0.out.below hb1 B0.out.lt)
   clear hb1
   go_wp2_with fail
   go_ret
   exact⟨rfl,T1.out.bel⟩
 | true=>
   rw[Bool.true_and]
   by_cases hl:f.ks.length=1
   ·obtain⟨b,off,c0,c1,c2,c3,rfl,hblt,g0,g1,g2,g3,hf⟩:=hks 0 (by omega)
    obtain⟨m,hm⟩:∃m,n=m+1:=by
     cases n with
     | zero=>exact hf.elim
     | succ m=>exact⟨m,rfl⟩
    subst hm
    obtain⟨tc,tccap,kc,kccap,e,_⟩:=hf
    simp only[List.cons.injEq,and_true]at e
    obtain⟨rfl,rfl,rfl,rfl⟩:=e
    have hih:=Lib.hid (fun W (hb:Below w.heap.size w W)=>IH (f.ks.getD 0 default) _ W (by
     have hf0:=(hks 0 (by omega))
     obtain⟨b',off',d0,d1,d2,d3,e,_,u0,u1,u2,u3,hff⟩:=hf0
     injection e with e
     injection e with e1 e2 _
     subst e1 e2
     rw[g0]at u0;rw[g1]at u1;rw[g2]at u2;rw[g3]at u3
     injection u0 with u0;injection u1 with u1;injection u2 with u2;injection u3 with u3
     subst u0 u1 u2 u3
     exact(hff.below hb).mono hb.size))
    rw[decide_eq_true hl,Bool.true_and]
    rw[hl]at B0 hb
    rw[hl]
    simp only[Nat.zero_mul,Nat.add_zero]at g0 g1 g2 g3
    generalize madeF (m+1) (f.ks.getD 0 default)=u at hih
    generalize (f.ks.getD 0 default).kind=kk at g0 hih
    generalize (f.ks.getD 0 default).c=kc' at g1 hih
    generalize (f.ks.getD 0 default).t.length=kt at g2 hih
    generalize (f.ks.getD 0 default).ks.length=kl at g3 hih
    have HG:=Lib.hid (fun W (hb:Below w.heap.size w W)=>And.intro ((hb.cell (p:=⟨b,off,none⟩) hblt).trans g0) (And.intro ((hb.cell (p:=⟨b,off+1,none⟩) hblt).trans g1) (And.intro ((hb.cell (p:=⟨b,off+2,none⟩) hblt).trans g2) ((hb.cell (p:=⟨b,off+3,none⟩) hblt).trans g3))))
    generalize f.c=fc at B0 hb
    generalize f.t.length=ft at B0 hb
    clear IH FL hks hlt ht4 hk hk4 hl g0 g1 g2 g3
    by_cases hkk:kk=2
    ·rw[decide_eq_true hkk,Bool.true_and]
     subst hkk
     go_enter Tryz.func85,Tryz.ntmps85
     go_wp2_with fail
     refine(hb.out _ B0.out.bel).mono ?_
     rintro e w1 ⟨rfl,hb1⟩
     have T1:=Lib.hid (B0.out.below hb1 B0.out.lt)
     clear hb1
     obtain⟨l1,p0,p1,p2,p3,_⟩:=T1.out
     obtain⟨g0,g1,g2,g3⟩:=HG.out _ T1.out.bel
     go_wp2_with fail
     refine(hih.out _ T1.out.bel).mono ?_
     rintro e w2 ⟨rfl,hb2⟩
     have T2:=Lib.hid (T1.out.below hb2 T1.out.lt)
     clear hb2 g0 g1 g2 g3 l1 p0 p1 p2 p3
     go_wp2_with fail
     go_ret
     exact⟨ret_bool (by first | rfl | exact len0 _ | exact len1 _ | (simp;done) | (rw[len0];simp;done) | (rw[len1];simp;done)),T2.out.bel⟩
    ·rw[decide_eq_false hkk,Bool.false_and]
     have hk2:(kk == 2)=false:=by simpa using hkk
     go_enter Tryz.func85,Tryz.ntmps85
     go_wp2_with fail
     refine(hb.out _ B0.out.bel).mono ?_
     rintro e w1 ⟨rfl,hb1⟩
     have T1:=Lib.hid (B0.out.below hb1 B0.out.lt)
     clear hb1
     obtain⟨l1,p0,p1,p2,p3,_⟩:=T1.out
     obtain⟨g0,g1,g2,g3⟩:=HG.out _ T1.out.bel
     go_wp2_with fail
     go_ret
     exact⟨ret_bool (by first | rfl | exact len0 _ | exact len1 _ | (simp;done) | (rw[len0];simp;done) | (rw[len1];simp;done)),T1.out.bel⟩
   ·rw[decide_eq_false hl,Bool.false_and]
    have hl2:((f.ks.length:Int) == 1)=false:=by rw[len1];exact decide_eq_false hl
    generalize f.c=fc at B0 hb
    generalize f.t.length=ft at B0 hb
    generalize f.ks.length=len at B0 hb hk4 hl2
    clear IH FL hks hlt ht4 hk hl
    go_enter Tryz.func85,Tryz.ntmps85
    go_wp2_with fail
    refine(hb.out _ B0.out.bel).mono ?_
    rintro e w1 ⟨rfl,hb1⟩
    have T1:=Lib.hid (B0.out.below hb1 B0.out.lt)
    clear hb1
    obtain⟨l1,p0,p1,p2,p3,_⟩:=T1.out
    go_wp2_with fail
    go_ret
    exact⟨ret_bool (by first | rfl | exact len0 _ | exact len1 _ | (simp;done) | (rw[len0];simp;done) | (rw[len1];simp;done)),T1.out.bel⟩
theorem made_5 (n:Nat)(f:FT)(cs:List Value)(w:World)(IH:∀(f:FT) (cs:List Value) (w:World),FLies w.heap.size w n f cs→Calls Tryz.prog 85 #[.agg cs.toArray] w fun e w'=>e= .returned (.bool (madeF n f))∧Below w.heap.size w w')
 (h:FLies w.heap.size w (n+1) f cs) (hk:f.kind=5):
 Calls Tryz.prog 85 #[.agg cs.toArray] w fun e w'=>e= .returned (.bool (madeF (n+1) f))∧Below w.heap.size w w':=by
 have FL:=fun W (hb:Below w.heap.size w W)=>(h.below hb).mono hb.size
 obtain⟨ta,tcap,ka,kcap,rfl,hlt,ht4,hk4,hks⟩:=h
 have B0:=Lib.hid (box_start w f.kind f.c ta ka f.t.length tcap f.ks.length kcap)
 have hb:=Lib.hid (fun W hb=>bare_any (n+1) f _ W (FL W hb))
 rw[madeF_5 (by omega)]
 have HI:=Lib.hid IH
 have HK:=Lib.hid hks
 have HY:Hid ((∀i,i<f.ks.length→madeF n (f.ks.getD i default)=true)→(decide (∀i,i<f.ks.length→madeF n (f.ks.getD i default)=true) && bareF f)=bareF f):=fun h=>by rw[decide_eq_true h,Bool.true_and]
 have HNO:Hid (∀i,i<f.ks.length→madeF n (f.ks.getD i default)=false→(decide (∀i,i<f.ks.length→madeF n (f.ks.getD i default)=true) && bareF f)=false):=fun i hi h=>by
  rw[decide_eq_false (fun hh=>by rw[hh i hi]at h;cases h),Bool.false_and]
 generalize hr:(decide (∀i,i<f.ks.length→madeF n (f.ks.getD i default)=true) && bareF f)=r at HY HNO
 clear hr
 rw[hk]at B0 hb
 rw[hk]
 generalize bareF f=b at hb HY
 generalize f.c=fc at B0 hb
 generalize f.t.length=ft at B0 hb
 generalize hl:f.ks.length=len at B0 hb hk4 HK HY HNO
 clear IH FL hks hlt ht4 hk hl
 go_enter Tryz.func85,Tryz.ntmps85
 go_wp2_with fail
 go_loopw [60] (fun i wr=>∃k:Nat,k≤len∧i= .int .i64 k∧Hid (∀j,j<k→madeF n (f.ks.getD j default)=true)∧Hid (Box w wr w.heap.size 5 fc ta ft tcap ka len kcap)) (fun i _=>len - (intOf i).toNat)
 case atStart=>exact⟨0,Nat.zero_le _,rfl,fun j hj=>absurd hj (Nat.not_lt_zero j),B0⟩
 case round=>
  obtain⟨k,hk,rfl,hok,hbx⟩:=hrel
  obtain⟨bz,p0,p1,p2,p3,hbw⟩:=hbx.out
  by_cases hlt:k<len
  ·obtain⟨b',off,c0,c1,c2,c3,rfl,hblt,g0,g1,g2,g3,hf⟩:=HK.out k hlt
   rw[←hbw.cell (p:=⟨b',_,none⟩) hblt]at g0 g1 g2 g3
   obtain⟨ck,cc,cta,ctn,ctcap,cka,ckn,ckcap,rfl,rfl,rfl,rfl⟩:=hf.form
   have hb2:Below wr.heap.size wr (wr.alloc (.cells #[.int .i64 ck,.int .i64 cc,.slice cta ctn ctcap,.slice cka ckn ckcap] 39)):=(Below.refl _ _).alloc (Nat.le_refl _) _
   have hbw2:=hbw.trans (hb2.mono hbw.size)
   have hih:=HI.out (f.ks.getD k default) _ _ ((hf.below hbw2).mono hbw2.size)
   have HB2:=Lib.hid hb2
   have hno:=Lib.hid (HNO.out k hlt)
   have hy:Hid (madeF n (f.ks.getD k default)=true→∀j,j<k+1→madeF n (f.ks.getD j default)=true):=fun h j hj=>by
    by_cases ej:j=k
    ·rw[ej];exact h
    ·exact hok.out j (by omega)
   generalize madeF n (f.ks.getD k default)=u at hih hno hy
   clear hf hb2 hbw2 hok
   cases u with
   | true=>
     have hy2:=Lib.hid (hy.out rfl)
     clear hy hno
     go_wp2_with fail
     refine hih.mono ?_
     rintro e w1 ⟨rfl,hb1⟩
     have BX:=Lib.hid ((hbx.out.below HB2.out bz).below hb1 (by have:=HB2.out.size;omega))
     clear g0 g1 g2 g3 hih hb1 p0 p1 p2 p3 hbw
     go_wp2_with fail
     go_roundw
     case rel=>exact⟨k+1,by omega,by go_num,hy2,BX⟩
     case measure=>simp[intOf];omega
   | false=>
     have hr:r=false:=hno.out rfl
     subst hr
     clear hy hno
     go_wp2_with fail
     refine hih.mono ?_
     rintro e w1 ⟨rfl,hb1⟩
     have BX:=Lib.hid ((hbx.out.below HB2.out bz).below hb1 (by have:=HB2.out.size;omega))
     clear g0 g1 g2 g3 hih hb1 p0 p1 p2 p3 hbw
     go_wp2_with fail
     go_ret
     exact⟨rfl,BX.out.bel⟩
  ·have hr:r=b:=HY.out (fun i hi=>hok.out i (by omega))
   subst hr
   clear hok
   go_wp2_with fail
   refine(hb.out _ hbw).mono ?_
   rintro e w1 ⟨rfl,hb1⟩
   have BX:=Lib.hid (hbx.out.below hb1 bz)
   clear hb1 p0 p1 p2 p3 hbw
   go_wp2_with fail
   go_ret
   exact⟨rfl,BX.out.bel⟩
theorem made_6 (n:Nat)(f:FT)(cs:List Value)(w:World)(IH:∀(f:FT) (cs:List Value) (w:World),FLies w.heap.size w n f cs→Calls Tryz.prog 85 #[.agg cs.toArray] w fun e w'=>e= .returned (.bool (madeF n f))∧Below w.heap.size w w')
 (h:FLies w.heap.size w (n+1) f cs) (hk:f.kind=6):
 Calls Tryz.prog 85 #[.agg cs.toArray] w fun e w'=>e= .returned (.bool (madeF (n+1) f))∧Below w.heap.size w w':=by
 have FL:=fun W (hb:Below w.heap.size w W)=>(h.below hb).mono hb.size
 obtain⟨ta,tcap,ka,kcap,rfl,hlt,ht4,hk4,hks⟩:=h
 have B0:=Lib.hid (box_start w f.kind f.c ta ka f.t.length tcap f.ks.length kcap)
 have hb:=Lib.hid (fun W hb=>bare_any (n+1) f _ W (FL W hb))
 rw[madeF_5 (by omega)]
 have HI:=Lib.hid IH
 have HK:=Lib.hid hks
 have HY:Hid ((∀i,i<f.ks.length→madeF n (f.ks.getD i default)=true)→(decide (∀i,i<f.ks.length→madeF n (f.ks.getD i default)=true) && bareF f)=bareF f):=fun h=>by rw[decide_eq_true h,Bool.true_and]
 have HNO:Hid (∀i,i<f.ks.length→madeF n (f.ks.getD i default)=false→(decide (∀i,i<f.ks.length→madeF n (f.ks.getD i default)=true) && bareF f)=false):=fun i hi h=>by
  rw[decide_eq_false (fun hh=>by rw[hh i hi]at h;cases h),Bool.false_and]
 generalize hr:(decide (∀i,i<f.ks.length→madeF n (f.ks.getD i default)=true) && bareF f)=r at HY HNO
 clear hr
 rw[hk]at B0 hb
 rw[hk]
 generalize bareF f=b at hb HY
 generalize f.c=fc at B0 hb
 generalize f.t.length=ft at B0 hb
 generalize hl:f.ks.length=len at B0 hb hk4 HK HY HNO
 clear IH FL hks hlt ht4 hk hl
 go_enter Tryz.func85,Tryz.ntmps85
 go_wp2_with fail
 go_loopw [60] (fun i wr=>∃k:Nat,k≤len∧i= .int .i64 k∧Hid (∀j,j<k→madeF n (f.ks.getD j default)=true)∧Hid (Box w wr w.heap.size 6 fc ta ft tcap ka len kcap)) (fun i _=>len - (intOf i).toNat)
 case atStart=>exact⟨0,Nat.zero_le _,rfl,fun j hj=>absurd hj (Nat.not_lt_zero j),B0⟩
 case round=>
  obtain⟨k,hk,rfl,hok,hbx⟩:=hrel
  obtain⟨bz,p0,p1,p2,p3,hbw⟩:=hbx.out
  by_cases hlt:k<len
  ·obtain⟨b',off,c0,c1,c2,c3,rfl,hblt,g0,g1,g2,g3,hf⟩:=HK.out k hlt
   rw[←hbw.cell (p:=⟨b',_,none⟩) hblt]at g0 g1 g2 g3
   obtain⟨ck,cc,cta,ctn,ctcap,cka,ckn,ckcap,rfl,rfl,rfl,rfl⟩:=hf.form
   have hb2:Below wr.heap.size wr (wr.alloc (.cells #[.int .i64 ck,.int .i64 cc,.slice cta ctn ctcap,.slice cka ckn ckcap] 39)):=(Below.refl _ _).alloc (Nat.le_refl _) _
   have hbw2:=hbw.trans (hb2.mono hbw.size)
   have hih:=HI.out (f.ks.getD k default) _ _ ((hf.below hbw2).mono hbw2.size)
   have HB2:=Lib.hid hb2
   have hno:=Lib.hid (HNO.out k hlt)
   have hy:Hid (madeF n (f.ks.getD k default)=true→∀j,j<k+1→madeF n (f.ks.getD j default)=true):=fun h j hj=>by
    by_cases ej:j=k
    ·rw[ej];exact h
    ·exact hok.out j (by omega)
   generalize madeF n (f.ks.getD k default)=u at hih hno hy
   clear hf hb2 hbw2 hok
   cases u with
   | true=>
     have hy2:=Lib.hid (hy.out rfl)
     clear hy hno
     go_wp2_with fail
     refine hih.mono ?_
     rintro e w1 ⟨rfl,hb1⟩
     have BX:=Lib.hid ((hbx.out.below HB2.out bz).below hb1 (by have:=HB2.out.size;omega))
     clear g0 g1 g2 g3 hih hb1 p0 p1 p2 p3 hbw
     go_wp2_with fail
     go_roundw
     case rel=>exact⟨k+1,by omega,by go_num,hy2,BX⟩
     case measure=>simp[intOf];omega
   | false=>
     have hr:r=false:=hno.out rfl
     subst hr
     clear hy hno
     go_wp2_with fail
     refine hih.mono ?_
     rintro e w1 ⟨rfl,hb1⟩
     have BX:=Lib.hid ((hbx.out.below HB2.out bz).below hb1 (by have:=HB2.out.size;omega))
     clear g0 g1 g2 g3 hih hb1 p0 p1 p2 p3 hbw
     go_wp2_with fail
     go_ret
     exact⟨rfl,BX.out.bel⟩
  ·have hr:r=b:=HY.out (fun i hi=>hok.out i (by omega))
   subst hr
   clear hok
   go_wp2_with fail
   refine(hb.out _ hbw).mono ?_
   rintro e w1 ⟨rfl,hb1⟩
   have BX:=Lib.hid (hbx.out.below hb1 bz)
   clear hb1 p0 p1 p2 p3 hbw
   go_wp2_with fail
   go_ret
   exact⟨rfl,BX.out.bel⟩
theorem made_x (n:Nat)(f:FT)(cs:List Value)(w:World)(IH:∀(f:FT) (cs:List Value) (w:World),FLies w.heap.size w n f cs→Calls Tryz.prog 85 #[.agg cs.toArray] w fun e w'=>e= .returned (.bool (madeF n f))∧Below w.heap.size w w')
 (h:FLies w.heap.size w (n+1) f cs) (hk:¬(f.kind=0∨f.kind=1)∧f.kind≠2∧f.kind≠4∧¬(f.kind=5∨f.kind=6)):
 Calls Tryz.prog 85 #[.agg cs.toArray] w fun e w'=>e= .returned (.bool (madeF (n+1) f))∧Below w.heap.size w w':=by
 have FL:=fun W (hb:Below w.heap.size w W)=>(h.below hb).mono hb.size
 obtain⟨ta,tcap,ka,kcap,rfl,hlt,ht4,hk4,hks⟩:=h
 have B0:=Lib.hid (box_start w f.kind f.c ta ka f.t.length tcap f.ks.length kcap)
 rw[madeF_x hk]
 have e0:(f.kind == 0)=false:=by simp;omega
 have e1:(f.kind == 1)=false:=by simp;omega
 have e2:(f.kind == 2)=false:=by simp;omega
 have e4:(f.kind == 4)=false:=by simp;omega
 have e5:(f.kind == 5)=false:=by simp;omega
 have e6:(f.kind == 6)=false:=by simp;omega
 clear IH FL hks hlt ht4 hk
 generalize f.kind=fk at B0 e0 e1 e2 e4 e5 e6
 generalize f.c=fc at B0
 generalize f.t.length=ft at B0
 generalize f.ks.length=len at B0 hk4
 go_enter Tryz.func85,Tryz.ntmps85
 go_wp2_with fail
 go_ret
 exact⟨rfl,B0.out.bel⟩
theorem made_any:∀(n:Nat) (f:FT) (cs:List Value) (w:World),FLies w.heap.size w n f cs→
 Calls Tryz.prog 85 #[.agg cs.toArray] w fun e w'=>e= .returned (.bool (madeF n f))∧Below w.heap.size w w'
 | 0,_,_,_,h=>h.elim
 | n+1,f,cs,w,h=>by
   have IH:=made_any n
   by_cases h0:f.kind=0
   ·exact made_0 n f cs w IH h h0
   by_cases h1:f.kind=1
   ·exact made_1 n f cs w IH h h1
   by_cases h2:f.kind=2
   ·exact made_2 n f cs w IH h h2
   by_cases h4:f.kind=4
   ·exact made_4 n f cs w IH h h4
   by_cases h5:f.kind=5
   ·exact made_5 n f cs w IH h h5
   by_cases h6:f.kind=6
   ·exact made_6 n f cs w IH h h6
   exact made_x n f cs w IH h ⟨by omega,h2,h4,by omega⟩
end
namespace Cut
open Go.RowKit
theorem cwithin_any (n m:Int)(w:World)(h0:0≤m)(h1:m≤4398046511104):
 Calls Tryz.prog 134 #[.int .i64 n,.int .i64 m] w fun e w'=>e= .returned (.bool (wi n m))∧w=w':=by
 have hw:IntKind.i64.wrap (-m)= -m:=IntWalk.i64_in _ (by omega)
 by_cases a: -m≤n
 ·by_cases b:n≤m
  ·rw[wi_t ⟨a,b⟩]
   go_enter Tryz.func134,Tryz.ntmps134
   go_wp2
   go_ret
   exact⟨rfl,rfl⟩
  ·rw[wi_f (by omega)]
   go_enter Tryz.func134,Tryz.ntmps134
   go_wp2
   go_ret
   exact⟨rfl,rfl⟩
 ·rw[wi_f (by omega)]
  go_enter Tryz.func134,Tryz.ntmps134
  go_wp2
  go_ret
  exact⟨rfl,rfl⟩
theorem cup_any (c g:Int)(w:World)(hg:1≤g)(hc: -1125899906842624≤c∧c≤1125899906842624):
 Calls Tryz.prog 157 #[.int .i64 c,.int .i64 g] w fun e w'=>e= .returned (.int .i64 (upI c g))∧w=w':=by
 have hg0:g≠0:=by omega
 have hb:=tdiv_in (c:=c) (g:=g) (B:=1125899906842624) (by omega)
 by_cases h:0<c.tmod g
 ·have e:upI c g=c.tdiv g+1:=by unfold upI;rw[if_pos h]
  rw[e]
  go_enter Tryz.func157,Tryz.ntmps157
  go_wp2
  go_ret
  exact⟨rfl,rfl⟩
 ·have e:upI c g=c.tdiv g:=by unfold upI;rw[if_neg h]
  rw[e]
  go_enter Tryz.func157,Tryz.ntmps157
  go_wp2
  go_ret
  exact⟨rfl,rfl⟩
def partK (n:Int)(p:Int×Int):Int:=if p.1<0∨n≤p.1 then 6 else if p.2<1∨4096<p.2 then 1 else 0
def partsK (n:Int)(ps:List (Int×Int)):Nat→Int
 | 0=>0
 | k+1=>if partsK n ps k=0 then partK n (ps.getD k (0,0)) else partsK n ps k
def stepK (n:Int)(ps:List (Int×Int))(div:Int):Int:=
 if 64<ps.length then 2 else if partsK n ps ps.length=0 then(if div<1∨1073741824<div then 1 else 0) else partsK n ps ps.length
theorem partsK_stay {n:Int}{ps:List (Int×Int)}{k m:Nat}(h:partsK n ps k≠0)(hm:k≤m):partsK n ps m=partsK n ps k:=by
 induction hm with
 | refl=>rfl
 | @step m hm ih=>show(if partsK n ps m=0 then _ else _)=_;rw[if_neg (by rw[ih];exact h),ih]
def codeV (k:Int):Value:=if k=0 then .nilIface else .iface 60 (.int .i64 k)
theorem ccheck_any (n:Int)(a:Option Addr)(len cap:Nat)(ps:List (Int×Int))(div:Int)(w:World)(hn:ps.length=len)(hm:len≤9223372036854775807)(hl:Lies w.heap.size w a ps):
 Calls Tryz.prog 131 #[.int .i64 n,.agg #[.slice a len cap,.int .i64 div]] w fun e w'=>e= .returned (codeV (stepK n ps div))∧Below w.heap.size w w':=by
 have HB0:Hid (Below w.heap.size w (w.alloc (.cells #[.slice a len cap,.int .i64 div] 104))):=(Below.refl _ w).alloc (Nat.le_refl _) _
 have P0:Hid (∀W,Below (w.heap.size+1) (w.alloc (.cells #[.slice a len cap,.int .i64 div] 104)) W→W.cell? ⟨w.heap.size,0,none⟩=some (.slice a len cap)∧W.cell? ⟨w.heap.size,1,none⟩=some (.int .i64 div)):=fun W hb=>
  ⟨by rw[hb.cell (p:=⟨w.heap.size,0,none⟩) (Nat.lt_succ_self _)];simp,by rw[hb.cell (p:=⟨w.heap.size,1,none⟩) (Nat.lt_succ_self _)];simp⟩
 have HL:=Lib.hid hl
 have HN:=Lib.hid hn
 clear hl
 by_cases h64:64<len
 ·have e:codeV (stepK n ps div)= .iface 60 (.int .i64 2):=by unfold stepK;rw[if_pos (by omega)];rfl
  rw[e]
  go_enter Tryz.func131,Tryz.ntmps131
  go_wp2
  go_ret
  exact⟨rfl,HB0.out⟩
 ·have HE:Hid (stepK n ps div=if partsK n ps len=0 then(if div<1∨1073741824<div then 1 else 0) else partsK n ps len):=by
   show _=_
   unfold stepK
   rw[if_neg (by omega),hn]
  have Z1:w.heap.size+1=(w.alloc (.cells #[.slice a len cap,.int .i64 div] 104)).heap.size:=by simp
  generalize stepK n ps div=K at HE⊢
  clear hn
  go_enter Tryz.func131,Tryz.ntmps131
  go_wp2
  generalize w.alloc (.cells #[.slice a len cap,.int .i64 div] 104)=w1 at HB0 P0 Z1⊢
  go_loopw [15] (fun i wr=>∃(k:Nat),k≤len∧i= .int .i64 k∧Hid (partsK n ps k=0)∧Hid (Below w1.heap.size w1 wr)) (fun i _=>len - (intOf i).toNat)
  case atStart=>exact⟨0,Nat.zero_le _,rfl,rfl,Below.refl _ _⟩
  case round=>
   obtain⟨k,hk,rfl,h0,hb⟩:=hrel
   have HB:=Lib.hid (HB0.out.trans (hb.out.mono HB0.out.size))
   by_cases hlt:k<len
   ·obtain⟨b,off,rfl,hblt,c1,c2⟩:=(HL.out.below HB.out) k (by rw[HN.out];exact hlt)
    have HBA:=Lib.hid (hb.out.alloc hb.out.size (.cells #[.int .i64 (ps.getD k (0,0)).1,.int .i64 (ps.getD k (0,0)).2] 193))
    have HP:Hid (partsK n ps (k+1)=partK n (ps.getD k (0,0))):=by show(if partsK n ps k=0 then _ else _)=_;rw[if_pos h0.out]
    have HST:Hid (partK n (ps.getD k (0,0))≠0→K=partK n (ps.getD k (0,0))):=fun h=>by
     have h2:=partsK_stay (m:=len) (by rw[HP.out];exact h) (show k+1≤len by omega)
     rw[HE.out,if_neg (by rw[h2,HP.out];exact h),h2,HP.out]
    have HPK:Hid (partK n (ps.getD k (0,0))=if(ps.getD k (0,0)).1<0∨n≤(ps.getD k (0,0)).1 then 6 else if(ps.getD k (0,0)).2<1∨4096<(ps.getD k (0,0)).2 then 1 else 0):=rfl
    generalize partK n (ps.getD k (0,0))=pk at HP HST HPK
    generalize (ps.getD k (0,0)).1=x at c1 HPK HBA
    generalize (ps.getD k (0,0)).2=y at c2 HPK HBA
    have HEND:Hid (Below w.heap.size w (wr.alloc (.cells #[.int .i64 x,.int .i64 y] 193))):=HB0.out.trans (HBA.out.mono HB0.out.size)
    by_cases hx:x<0∨n≤x
    ·have e:K=6:=by rw[HST.out (by rw[HPK.out,if_pos hx];decide),HPK.out,if_pos hx]
     subst e
     by_cases hx1:x<0
     ·go_wp2
      go_ret
      exact⟨rfl,HEND.out⟩
     ·have hx2:n≤x:=by omega
      go_wp2
      go_ret
      exact⟨rfl,HEND.out⟩
    ·have hx1:¬x<0:=by omega
     have hx2:¬n≤x:=by omega
     by_cases hy:y<1∨4096<y
     ·have e:K=1:=by rw[HST.out (by rw[HPK.out,if_neg hx,if_pos hy];decide),HPK.out,if_neg hx,if_pos hy]
      subst e
      by_cases hy1:y<1
      ·go_wp2
       go_ret
       exact⟨rfl,HEND.out⟩
      ·have hy2:4096<y:=by omega
       go_wp2
       go_ret
       exact⟨rfl,HEND.out⟩
     ·have hy1:¬y<1:=by omega
      have hy2:¬ 4096<y:=by omega
      have H1:Hid (partsK n ps (k+1)=0):=by show _=_;rw[HP.out,HPK.out,if_neg hx,if_neg hy]
      go_wp2
      go_roundw
      case rel=>exact⟨k+1,by omega,by go_num,H1,HBA⟩
      case measure=>simp[intOf];omega
   ·obtain rfl:k=len:=by omega
    obtain⟨_,p1⟩:=P0.out _ (by rw[Z1];exact hb.out)
    have hK:=HE.out
    rw[if_pos h0.out]at hK
    by_cases hd1:div<1
    ·rw[if_pos (.inl hd1)]at hK
     subst hK
     go_wp2
     go_ret
     exact⟨rfl,HB.out⟩
    ·by_cases hd2:1073741824<div
     ·rw[if_pos (.inr hd2)]at hK
      subst hK
      go_wp2
      go_ret
      exact⟨rfl,HB.out⟩
     ·rw[if_neg (by omega)]at hK
      subst hK
      go_wp2
      go_ret
      exact⟨rfl,HB.out⟩
end Cut
section
open Go.RowKit
def isF (n:Nat)(f:FT):Bool:=decide (dep n f≤128) && (decide (siz n f≤20480) && madeF n f)
theorem nis_any (n:Nat)(f:FT)(cs:List Value)(w:World)(h:FLies w.heap.size w n f cs):
 Calls Tryz.prog 52 #[.agg cs.toArray] w fun e w'=>e= .returned (.bool (isF n f))∧Below w.heap.size w w':=by
 have FL:=fun W (hb:Below w.heap.size w W)=>(h.below hb).mono hb.size
 cases n with
 | zero=>exact h.elim
 | succ n=>
   obtain⟨ta,tcap,ka,kcap,rfl,_⟩:=h
   have hd:=Lib.hid (fun W hb=>ndeeper_any (n+1) f _ 128 W (by omega) (by omega) (FL W hb))
   have hc:=Lib.hid (fun W hb=>ncount_any (n+1) f _ 20480 W (by omega) (by omega) (FL W hb))
   have hm:=Lib.hid (fun W hb=>made_any (n+1) f _ W (FL W hb))
   have T0:=Lib.hid (box_start w f.kind f.c ta ka f.t.length tcap f.ks.length kcap)
   unfold isF
   clear FL
   generalize dep (n+1) f=d at hd
   generalize siz (n+1) f=s at hc
   generalize madeF (n+1) f=b at hm
   generalize f.kind=fk at T0 hd hc hm
   generalize f.c=fc at T0 hd hc hm
   generalize f.t.length=ft at T0 hd hc hm
   generalize f.ks.length=fl at T0 hd hc hm
   by_cases h1:d≤128
   ·have e1:decide ((128:Int)<(d:Int))=false:=by simp;omega
    rw[e1]at hd
    rw[decide_eq_true h1,Bool.true_and]
    by_cases h2:s≤20480
    ·have e2:cnt s 20480=s:=by unfold cnt;rw[if_pos (by omega)]
     rw[e2]at hc
     rw[decide_eq_true h2,Bool.true_and]
     have h2':(s:Int)≤20480:=by omega
     go_enter Tryz.func52,Tryz.ntmps52
     go_wp2_with fail
     refine(hd.out _ T0.out.bel).mono ?_
     rintro e w1 ⟨rfl,hb1⟩
     have T1:=Lib.hid (T0.out.below hb1 T0.out.lt)
     clear hb1
     obtain⟨l1,p0,p1,p2,p3,_⟩:=T1.out
     go_wp2_with fail
     refine(hc.out _ T1.out.bel).mono ?_
     rintro e w2 ⟨rfl,hb2⟩
     have T2:=Lib.hid (T1.out.below hb2 T1.out.lt)
     clear hb2 l1 p0 p1 p2 p3
     obtain⟨l2,p0,p1,p2,p3,_⟩:=T2.out
     go_wp2_with fail
     refine(hm.out _ T2.out.bel).mono ?_
     rintro e w3 ⟨rfl,hb3⟩
     have T3:=Lib.hid (T2.out.below hb3 T2.out.lt)
     clear hb3 l2 p0 p1 p2 p3
     cases b
     all_goals
      go_wp2_with fail
      go_ret
      exact⟨rfl,T3.out.bel⟩
    ·have e2:cnt s 20480=20481:=by unfold cnt;rw[if_neg (by omega)];rfl
     rw[e2]at hc
     rw[decide_eq_false h2,Bool.false_and]
     clear hm
     go_enter Tryz.func52,Tryz.ntmps52
     go_wp2_with fail
     refine(hd.out _ T0.out.bel).mono ?_
     rintro e w1 ⟨rfl,hb1⟩
     have T1:=Lib.hid (T0.out.below hb1 T0.out.lt)
     clear hb1
     obtain⟨l1,p0,p1,p2,p3,_⟩:=T1.out
     go_wp2_with fail
     refine(hc.out _ T1.out.bel).mono ?_
     rintro e w2 ⟨rfl,hb2⟩
     have T2:=Lib.hid (T1.out.below hb2 T1.out.lt)
     clear hb2 l1 p0 p1 p2 p3
     go_wp2_with fail
     go_ret
     exact⟨rfl,T2.out.bel⟩
   ·have e1:decide ((128:Int)<(d:Int))=true:=by simp;omega
    rw[e1]at hd
    rw[decide_eq_false h1,Bool.false_and]
    clear hm hc
    go_enter Tryz.func52,Tryz.ntmps52
    go_wp2_with fail
    refine(hd.out _ T0.out.bel).mono ?_
    rintro e w1 ⟨rfl,hb1⟩
    have T1:=Lib.hid (T0.out.below hb1 T0.out.lt)
    clear hb1
    go_wp2_with fail
    go_ret
    exact⟨rfl,T1.out.bel⟩
end
namespace Cut
open Go.RowKit Go.Maps
def LLies (B:Nat)(w:World)(a:Option Addr)(ls:List (Int×List (Int×Int))):Prop:=
 ∀i,i<ls.length→∃b off ta tcap,a=some ⟨b,off,none⟩∧b<B∧w.cell? ⟨b,off+i*2,none⟩=some (.int .i64 (ls.getD i (0,[])).1)∧w.cell? ⟨b,off+i*2+1,none⟩=some (.slice ta (ls.getD i (0,[])).2.length tcap)∧Lies B w ta (ls.getD i (0,[])).2
def lineAt (ls:List (Int×List (Int×Int)))(ps:List (Int×Int))(k:Nat):Int×List (Int×Int):=ls.getD (ps.getD k (0,0)).1.toNat (0,[])
def timesL (x:Int)(l:List (Int×Int)):List (Int×Int):=l.map fun m=>(m.1,m.2*x)
def cTo (ls:List (Int×List (Int×Int)))(ps:List (Int×Int)):Nat→Int
 | 0=>0
 | k+1=>cTo ls ps k+(lineAt ls ps k).1*(ps.getD k (0,0)).2
def tTo (ls:List (Int×List (Int×Int)))(ps:List (Int×Int)):Nat→List (Int×Int)
 | 0=>[]
 | k+1=>tTo ls ps k ++ timesL (ps.getD k (0,0)).2 (lineAt ls ps k).2
def partsOk (ls:List (Int×List (Int×Int)))(ps:List (Int×Int)):Prop:=
 ps.length≤64∧∀k,k<ps.length→(0≤(ps.getD k (0,0)).1∧(ps.getD k (0,0)).1.toNat<ls.length)∧(1≤(ps.getD k (0,0)).2∧(ps.getD k (0,0)).2≤4096)∧snd (lineAt ls ps k).1 (lineAt ls ps k).2=true
theorem coef_in {l:List (Int×Int)}{M:Int}(hM:0≤M)(h:∀m∈l, -M≤m.2∧m.2≤M)(v:Int): -(l.length*M)≤coef l v∧coef l v≤l.length*M:=by
 induction l with
 | nil=>rw[coef_nil];simp
 | cons m r ih=>
   have h1:=ih (fun x hx=>h x (by simp[hx]))
   have h2:=h m (by simp)
   rw[coef_cons]
   have e:((m :: r).length:Int)*M=r.length*M+M:=by rw[List.length_cons];push_cast;rw[Int.add_mul,Int.one_mul]
   rw[e]
   split<;>omega
theorem timesL_len (x:Int)(l:List (Int×Int)):(timesL x l).length=l.length:=by simp[timesL]
theorem timesL_in {c x:Int}{l:List (Int×Int)}(hs:snd c l=true)(hx:1≤x∧x≤4096):∀m∈timesL x l, -4398046511104≤m.2∧m.2≤4398046511104:=fun m hm=>by
 obtain⟨p,hp,rfl⟩:=List.mem_map.1 hm
 obtain⟨i,hi,rfl⟩:=List.getElem_of_mem hp
 have:=okAt_in ((snd_iff.1 hs).2.2 i hi)
 rw[List.getD_eq_getElem?_getD,List.getElem?_eq_getElem hi,Option.getD_some]at this
 have h1: -1073741824*x≤(l[i]).2*x:=Int.mul_le_mul_of_nonneg_right (by omega) (by omega)
 have h2:(l[i]).2*x≤1073741824*x:=Int.mul_le_mul_of_nonneg_right (by omega) (by omega)
 show -4398046511104≤(l[i]).2*x∧(l[i]).2*x≤4398046511104
 omega
theorem tTo_in {ls:List (Int×List (Int×Int))}{ps:List (Int×Int)}(h:partsOk ls ps):∀k,k≤ps.length→(tTo ls ps k).length≤k*64∧∀m∈tTo ls ps k, -4398046511104≤m.2∧m.2≤4398046511104
 | 0,_=>⟨Nat.le_refl _,fun m hm=>by cases hm⟩
 | k+1,hk=>by
   obtain⟨h1,h2⟩:=tTo_in h k (by omega)
   obtain⟨_,hx,hs⟩:=h.2 k (by omega)
   refine⟨?_,fun m hm=> ?_⟩
   ·show(tTo ls ps k ++ _).length≤_
    rw[List.length_append,timesL_len]
    have:=(snd_iff.1 hs).2.1
    omega
   ·rcases List.mem_append.1 hm with hm | hm
    ·exact h2 m hm
    ·exact timesL_in hs hx m hm
theorem cTo_in {ls:List (Int×List (Int×Int))}{ps:List (Int×Int)}(h:partsOk ls ps):∀k,k≤ps.length→ -(k*4398046511104:Int)≤cTo ls ps k∧cTo ls ps k≤k*4398046511104
 | 0,_=>by show _≤(0:Int)∧(0:Int)≤_;omega
 | k+1,hk=>by
   have h1:=cTo_in h k (by omega)
   obtain⟨_,hx,hs⟩:=h.2 k (by omega)
   have hc:=(snd_iff.1 hs).1
   unfold wi at hc
   have hc': -1073741824≤(lineAt ls ps k).1∧(lineAt ls ps k).1≤1073741824:=by simpa using hc
   have h3: -1073741824*(ps.getD k (0,0)).2≤(lineAt ls ps k).1*(ps.getD k (0,0)).2:=Int.mul_le_mul_of_nonneg_right hc'.1 (by omega)
   have h4:(lineAt ls ps k).1*(ps.getD k (0,0)).2≤1073741824*(ps.getD k (0,0)).2:=Int.mul_le_mul_of_nonneg_right hc'.2 (by omega)
   show _≤cTo ls ps k+_∧cTo ls ps k+_≤_
   push_cast
   omega
theorem timesL_take {x:Int}{l:List (Int×Int)}{j:Nat}(h:j<l.length)(v:Int):coef (timesL x (l.take (j+1))) v=coef (timesL x (l.take j)) v+(if(l.getD j (0,0)).1=v then(l.getD j (0,0)).2*x else 0):=by
 rw[take_snoc l j h]
 unfold timesL
 rw[List.map_append,coef_append]
 show _+coef [_] v=_
 rw[coef_cons,coef_nil,Int.add_zero]
theorem Tryz.lawInt:Keyed Tryz.prog 3:=int_keyed Tryz.underlying3
theorem Tryz.zeroInt (w:World):(zeroValue 3).run Tryz.prog w= .ok (.int .i64 0) w:=by kernel_rfl
structure Sums (T:List (Int×Int))(n B:Nat)(w:World):Prop where
 ex:∃D:DataW Unit,w.ownsMap Tryz.prog 3 (plainElem Tryz.prog 3) B n D∧∀v,D.atKey (.int .i64 v) (.lit (.int .i64 0))= .lit (.int .i64 (coef T v))
end Cut
section
open Go.RowKit
theorem gAt_pos {c:Int}{l:List (Int×Int)}(hs:snd c l=true):∀n,0<n→n≤l.length→1≤gAt l n
 | 0,h,_=>by omega
 | n+1,_,h=>by
   have hk:=(okAt_in ((snd_iff.1 hs).2.2 n (by omega))).2.1
   have:0<Nat.gcd (gAt l n).natAbs (l.getD n (0,0)).2.natAbs:=Nat.gcd_pos_of_pos_right _ (by omega)
   show 1≤((Nat.gcd (gAt l n).natAbs (l.getD n (0,0)).2.natAbs:Nat):Int)
   omega
theorem redL_get (g:Int)(l:List (Int×Int))(k:Nat)(h:k<l.length):(redL g l).getD k (0,0)=((l.getD k (0,0)).1,(l.getD k (0,0)).2.tdiv g):=by
 unfold redL
 simp[List.getD_eq_getElem?_getD,h]
structure FB (W:World)(M:Nat):Prop where
 r0:W.cell? ⟨M,0,none⟩=some (.int .i64 0)
 r1:W.cell? ⟨M,1,none⟩=some (.int .i64 0)
 r2:W.cell? ⟨M,2,none⟩=some (.slice none 0 0)
 r3:W.cell? ⟨M,3,none⟩=some (.slice none 0 0)
 fz:∀o,W.frozen? ⟨M,o,none⟩=false
theorem FB.below {W W':World}{M B:Nat}(h:FB W M)(hb:Below B W W')(hM:M<B):FB W' M:=
 ⟨(hb.cell (p:=⟨M,0,none⟩) hM).trans h.r0,(hb.cell (p:=⟨M,1,none⟩) hM).trans h.r1,(hb.cell (p:=⟨M,2,none⟩) hM).trans h.r2,(hb.cell (p:=⟨M,3,none⟩) hM).trans h.r3,fun o=>(hb.frozen (p:=⟨M,o,none⟩) hM).trans (h.fz o)⟩
theorem fb_new (W:World)(N:Nat)(hN:W.heap.size=N):FB (W.alloc (.cells #[.int .i64 0,.int .i64 0,.slice none 0 0,.slice none 0 0] 39)) N:=by
 subst hN
 have hb:=heap_alloc_new W (.cells #[.int .i64 0,.int .i64 0,.slice none 0 0,.slice none 0 0] 39)
 exact⟨by rw[cell_of_row _ _ _ _ _ _ hb];rfl,by rw[cell_of_row _ _ _ _ _ _ hb];rfl,by rw[cell_of_row _ _ _ _ _ _ hb];rfl,by rw[cell_of_row _ _ _ _ _ _ hb];rfl,fun o=>frozen_of_row _ _ _ _ _ hb⟩
theorem res4 {W:World}{No:Nat}(h:FB W No)(x0 x1 x2 x3:Value):
 let W':=(((W.setCell ⟨No,0,none⟩ x0).setCell ⟨No,1,none⟩ x1).setCell ⟨No,2,none⟩ x2).setCell ⟨No,3,none⟩ x3
 W'.cell? ⟨No,0,none⟩=some x0∧W'.cell? ⟨No,1,none⟩=some x1∧W'.cell? ⟨No,2,none⟩=some x2∧W'.cell? ⟨No,3,none⟩=some x3:=by
 refine⟨?_, ?_, ?_, ?_⟩
 ·rw[World.cell?_setCell_other _ _ _ _ (by simp),World.cell?_setCell_other _ _ _ _ (by simp),World.cell?_setCell_other _ _ _ _ (by simp)]
  exact World.cell?_setCell_same _ _ _ h.r0
 ·rw[World.cell?_setCell_other _ _ _ _ (by simp),World.cell?_setCell_other _ _ _ _ (by simp)]
  refine World.cell?_setCell_same _ _ _ (u:= .int .i64 0) ?_
  rw[World.cell?_setCell_other _ _ _ _ (by simp)];exact h.r1
 ·rw[World.cell?_setCell_other _ _ _ _ (by simp)]
  refine World.cell?_setCell_same _ _ _ (u:= .slice none 0 0) ?_
  rw[World.cell?_setCell_other _ _ _ _ (by simp),World.cell?_setCell_other _ _ _ _ (by simp)];exact h.r2
 ·refine World.cell?_setCell_same _ _ _ (u:= .slice none 0 0) ?_
  rw[World.cell?_setCell_other _ _ _ _ (by simp),World.cell?_setCell_other _ _ _ _ (by simp),World.cell?_setCell_other _ _ _ _ (by simp)];exact h.r3
theorem Row.set4 {B:Nat}{l:List (Int×Int)}{v:Value}{W:World}(h:Row B l v W)(No:Nat)(hne:v.ownBlock≠some No)(x0 x1 x2 x3:Value):
 Row B l v ((((W.setCell ⟨No,0,none⟩ x0).setCell ⟨No,1,none⟩ x1).setCell ⟨No,2,none⟩ x2).setCell ⟨No,3,none⟩ x3):=by
 have k:∀(W:World) (o:Nat) (x:Value),W.grownBy (W.setCell ⟨No,o,none⟩ x) (some No):=fun W o x=>⟨rfl,rfl,rfl,Nat.le_of_eq (World.size_setCell _ _ _).symm,fun q _ hq=>Below.heap_setCell _ _ _ _ (fun e=>hq (by rw[e]))⟩
 exact World.ownsRow.kept (World.ownsRow.kept (World.ownsRow.kept (World.ownsRow.kept h (k _ _ _) (.inr hne)) (k _ _ _) (.inr hne)) (k _ _ _) (.inr hne)) (k _ _ _) (.inr hne)
theorem below4 {w W:World}{B No:Nat}(h:Below B w W)(hB:B≤No)(x0 x1 x2 x3:Value):Below B w ((((W.setCell ⟨No,0,none⟩ x0).setCell ⟨No,1,none⟩ x1).setCell ⟨No,2,none⟩ x2).setCell ⟨No,3,none⟩ x3):=
 (((h.setCell (p:=⟨No,0,none⟩) hB _).setCell (p:=⟨No,1,none⟩) hB _).setCell (p:=⟨No,2,none⟩) hB _).setCell (p:=⟨No,3,none⟩) hB _
theorem Row.monoG {B B':Nat}{l:List (Int×Int)}{v:Value}{w:World}(h:Row B l v w)(hB:B'≤B):Row B' l v w:=Joins.ownsRow_le h hB
theorem literal_pos (c:Int)(a:Option Addr)(n cap:Nat)(l:List (Int×Int))(w:World)(hn:l.length=n)(hl:Lies w.heap.size w a l)(hs:snd c l=true)(h0:0<n)(hp:0<(l.getD 0 (0,0)).2.tdiv (gAt l n)):
 Calls Tryz.prog 111 #[.agg #[.int .i64 c,.slice a n cap]] w fun e w'=>∃v,e= .returned (.tuple #[.agg #[.int .i64 2,.int .i64 (upI c (gAt l n)),v,.slice none 0 0],.nilIface])∧Row w.heap.size (redL (gAt l n) l) v w'∧Below w.heap.size w w':=by
 have hg1:=gAt_pos hs n h0 (by omega)
 have n64:n≤64:=by have:=(snd_iff.1 hs).2.1;omega
 have HCK:=Lib.hid (fun W (hb:Below w.heap.size w W)=>check_yes c a n cap l W hn ((hl.below hb).mono hb.size) hs)
 have HRE:=Lib.hid (fun W (hb:Below w.heap.size w W)=>reduced_any c a n cap l W hn ((hl.below hb).mono hb.size) hs h0 hg1)
 have hlen:(redL (gAt l n) l).length=n:=by unfold redL;rw[List.length_map,hn]
 have hget:=redL_get (gAt l n) l 0 (by omega)
 have hb1:Below w.heap.size w (w.alloc (.cells #[.int .i64 c,.slice a n cap] 36)):=(Below.refl _ w).alloc (Nat.le_refl _) _
 have B0:Hid (Below w.heap.size w ((w.alloc (.cells #[.int .i64 c,.slice a n cap] 36)).alloc (.cells #[.int .i64 0,.int .i64 0,.slice none 0 0,.slice none 0 0] 39))):=hb1.alloc hb1.size _
 have F0:=Lib.hid (fb_new (w.alloc (.cells #[.int .i64 c,.slice a n cap] 36)) (w.heap.size+1) (by simp))
 have L0:Hid (((w.alloc (.cells #[.int .i64 c,.slice a n cap] 36)).alloc (.cells #[.int .i64 0,.int .i64 0,.slice none 0 0,.slice none 0 0] 39)).cell? ⟨w.heap.size,0,none⟩=some (.int .i64 c)∧((w.alloc (.cells #[.int .i64 c,.slice a n cap] 36)).alloc (.cells #[.int .i64 0,.int .i64 0,.slice none 0 0,.slice none 0 0] 39)).cell? ⟨w.heap.size,1,none⟩=some (.slice a n cap)):=by
  have hb2:=(Below.refl (w.alloc (.cells #[.int .i64 c,.slice a n cap] 36)).heap.size (w.alloc (.cells #[.int .i64 c,.slice a n cap] 36))).alloc (Nat.le_refl _) (.cells #[.int .i64 0,.int .i64 0,.slice none 0 0,.slice none 0 0] 39)
  exact⟨by rw[hb2.cell (p:=⟨w.heap.size,0,none⟩) (by simp)];simp,by rw[hb2.cell (p:=⟨w.heap.size,1,none⟩) (by simp)];simp⟩
 clear hb1 hs hl hn
 generalize gAt l n=g at HRE hlen hget hp
 generalize upI c g=u at HRE
 generalize redL g l=R at HRE hlen hget
 go_enter Tryz.func111,Tryz.ntmps111
 have n1:=fun W=>Tryz.neNil W
 obtain⟨l0,l1⟩:=L0.out
 go_wp2_with fail
 refine(HCK.out _ B0.out).mono ?_
 rintro e w2 ⟨rfl,hb2⟩
 have hz2:w.heap.size+1<w2.heap.size:=by have:=hb2.size;simp at this;omega
 have B2:=Lib.hid (B0.out.trans (hb2.mono B0.out.size))
 have F2:=Lib.hid (F0.out.below hb2 (by simp))
 have d0:w2.cell? ⟨w.heap.size,0,none⟩=some (.int .i64 c):=(hb2.cell (p:=⟨w.heap.size,0,none⟩) (by simp;omega)).trans l0
 have d1:w2.cell? ⟨w.heap.size,1,none⟩=some (.slice a n cap):=(hb2.cell (p:=⟨w.heap.size,1,none⟩) (by simp;omega)).trans l1
 have en:((n:Int) == 0)=false:=by rw[len0];exact decide_eq_false (by omega)
 clear hb2 l0 l1
 go_wp2_with fail
 refine(HRE.out _ B2.out).mono ?_
 rintro e w3 ⟨v3,rfl,hrow3,hb3⟩
 obtain⟨a3,cap3,rfl,hlies3,_⟩:=hrow3.lies
 rw[hlen]at hrow3
 obtain⟨b3,off3,ea,hbl3,g1,g2⟩:=hlies3 0 (by omega)
 rw[hget]at g2
 simp only[Nat.zero_mul,Nat.add_zero]at g1 g2
 subst ea
 have hw3:w2.heap.size≤w3.heap.size:=hb3.size
 have hba:Below w3.heap.size w3 (w3.alloc (.cells #[.int .i64 u,.slice (some ⟨b3,off3,none⟩) n cap3] 36)):=(Below.refl _ w3).alloc (Nat.le_refl _) _
 have g2a:(w3.alloc (.cells #[.int .i64 u,.slice (some ⟨b3,off3,none⟩) n cap3] 36)).cell? ⟨b3,off3+1,none⟩=some (.int .i64 ((l.getD 0 (0,0)).2.tdiv g)):=(hba.cell (p:=⟨b3,off3+1,none⟩) hbl3).trans g2
 have R3:Hid (Row w.heap.size R (.slice (some ⟨b3,off3,none⟩) n cap3) (w3.alloc (.cells #[.int .i64 u,.slice (some ⟨b3,off3,none⟩) n cap3] 36))):=(Row.alloc hrow3 _).monoG B2.out.size
 have RO:Hid ((Value.slice (some ⟨b3,off3,none⟩) n cap3).ownBlock≠some (w.heap.size+1)):=fun e=>by
  have:=(World.ownsRow.lt hrow3 _ e).1;omega
 have B3:=Lib.hid ((B2.out.trans (hb3.mono B2.out.size)).alloc (Nat.le_trans B2.out.size hw3) (.cells #[.int .i64 u,.slice (some ⟨b3,off3,none⟩) n cap3] 36))
 have F3:=Lib.hid ((F2.out.below hb3 hz2).below hba (Nat.lt_of_lt_of_le hz2 hw3))
 clear hrow3 hlies3 g1 g2 hb3 hba d0 d1
 rw[hlen]
 generalize (l.getD 0 (0,0)).2.tdiv g=K at g2a hp
 obtain⟨r0,r1,r2,r3,rf⟩:=F3.out
 go_wp2_with fail
 clear r0 r1 r2 r3 rf g2a
 refine bodyPost_ret (v:= .tuple #[.agg #[.int .i64 2,.int .i64 u,.slice (some ⟨b3,off3,none⟩) n cap3,.slice none 0 0],.nilIface]) ?_ rfl ⟨_,rfl,R3.out.set4 (w.heap.size+1) RO.out _ _ _ _,below4 B3.out (Nat.le_succ _) _ _ _ _⟩
 obtain⟨e0,e1,e2,e3⟩:=res4 F3.out (.int .i64 2) (.int .i64 u) (.slice (some ⟨b3,off3,none⟩) n cap3) (.slice none 0 0)
 simp[results,Tryz.results111,go_sem,e0,e1,e2,e3]
end
end Go.Proofs.YtipahfcaplbifaaGreatDoor
