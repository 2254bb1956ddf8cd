/- Parts of a proof. -/
import Derived.Test.YtjbkhdbjdahbiaaGreatDoorQ03
import Derived.LaidEql
import Derived.Deep.RegionHeld3
set_option linter.unusedVariables false
set_option linter.unusedSimpArgs false
set_option maxHeartbeats 60000000
set_option maxRecDepth 100000
namespace Go.Proofs.YtjbkhdbjdahbiaaGreatDoor
namespace Lf
open Go.RowKit
def same (c d:Int)(l m:List (Int×Int)):Bool:=decide (c=d) && decide (l=m)
theorem list_eq_of {l m:List (Int×Int)}(hl:l.length=m.length)(h:∀i,i<l.length→l.getD i (0,0)=m.getD i (0,0)):l=m:=by
 apply List.ext_getElem hl
 intro i h1 h2
 have:=h i h1
 rw[List.getD_eq_getElem?_getD,List.getElem?_eq_getElem h1,List.getD_eq_getElem?_getD,List.getElem?_eq_getElem h2]at this
 simpa using this
theorem Tryz.neMono (x y u v:Int)(w:World):(binOp .neq 84 (.agg #[.int .i64 x,.int .i64 y]) (.agg #[.int .i64 u,.int .i64 v])).run Tryz.prog w= .ok (.bool (!(x == u && y == v))) w:=by
 simp[go_sem]
 by_cases h1:x=u<;>by_cases h2:y=v<;>simp[h1,h2]
theorem same_any (c d:Int)(a b:Option Addr)(na nb capa capb:Nat)(l m:List (Int×Int))(w:World)(hna:l.length=na)(hnb:m.length=nb)(hma:na≤9223372036854775807)(hmb:nb≤9223372036854775807)(hla:Lies w.heap.size w a l)(hlb:Lies w.heap.size w b m):
 Calls Tryz.prog 36 #[.agg #[.int .i64 c,.slice a na capa],.agg #[.int .i64 d,.slice b nb capb]] w fun e w'=>e= .returned (.bool (same c d l m))∧Below w.heap.size w w':=by
 have HB0:Hid (Below w.heap.size w ((w.alloc (.cells #[.int .i64 c,.slice a na capa] 25)).alloc (.cells #[.int .i64 d,.slice b nb capb] 25))):=((Below.refl _ w).alloc (Nat.le_refl _) _).alloc (by simp) _
 by_cases hcd:c=d
 ·subst hcd
  have hcc:(c != c)=false:=by simp
  by_cases hnn:na=nb
  ·subst hnn
   have hnn':((na:Int) != (na:Int))=false:=by simp
   have HS:Hid (∀r,(r=true↔∀i,i<na→l.getD i (0,0)=m.getD i (0,0))→same c c l m=r):=fun r hr=>by
    unfold same
    rw[decide_eq_true rfl,Bool.true_and,Bool.eq_iff_iff,hr]
    simp only[decide_eq_true_eq]
    exact⟨fun h i _=>by rw[h],fun h=>list_eq_of (by omega) (fun i hi=>h i (by omega))⟩
   have HNA:=Lib.hid hna
   have HNB:=Lib.hid hnb
   have HLA:=Lib.hid hla
   have HLB:=Lib.hid hlb
   clear hna hnb hla hlb
   go_enter Tryz.func36,Tryz.ntmps36
   go_wp2
   go_loopw [5] (fun i wr=>∃k:Nat,k≤na∧i= .int .i64 k∧Hid (∀j,j<k→l.getD j (0,0)=m.getD j (0,0))∧Hid (∃q,wr=((w.alloc (.cells #[.int .i64 c,.slice a na capa] 25)).alloc (.cells #[.int .i64 c,.slice b na capb] 25)).drewN q)) (fun i _=>na - (intOf i).toNat)
   case atStart=>exact⟨0,Nat.zero_le _,rfl,fun j hj=>absurd hj (Nat.not_lt_zero j),0,rfl⟩
   case round=>
    obtain⟨k,hk,rfl,hok,hw⟩:=hrel
    obtain⟨q,hw⟩:=hw.out
    subst hw
    by_cases hlt:k<na
    ·obtain⟨ab,aoff,rfl,hab,a1,a2⟩:=(HLA.out.below HB0.out) k (by rw[HNA.out];exact hlt)
     obtain⟨bb,boff,rfl,hbb,b1,b2⟩:=(HLB.out.below HB0.out) k (by rw[HNB.out];exact hlt)
     have a1':∀q,(((w.alloc (.cells #[.int .i64 c,.slice (some ⟨ab,aoff,none⟩) na capa] 25)).alloc (.cells #[.int .i64 c,.slice (some ⟨bb,boff,none⟩) na capb] 25)).drewN q).cell? ⟨ab,aoff+k*2,none⟩=some (.int .i64 (l.getD k (0,0)).1):=fun _=>a1
     by_cases e:l.getD k (0,0)=m.getD k (0,0)
     ·have hok2:Hid (∀j,j<k+1→l.getD j (0,0)=m.getD j (0,0)):=fun j hj=>by
       by_cases ej:j=k
       ·rw[ej];exact e
       ·exact hok.out j (by omega)
      rw[←e]at b1 b2
      generalize l.getD k (0,0)=p at a1 a2 b1 b2 e a1'
      obtain⟨v,u⟩:=p
      clear e
      have hne:∀W,(binOp .neq 84 (.agg #[.int .i64 v,.int .i64 u]) (.agg #[.int .i64 v,.int .i64 u])).run Tryz.prog W= .ok (.bool false) W:=fun W=>by rw[Tryz.neMono];simp
      have hbw1:ab<w.heap.size:=hab
      have hbw2:bb<w.heap.size:=hbb
      go_wp2_with fail
      go_quiet (fail)
      go_wp2
      go_roundw
      case rel=>exact⟨k+1,by omega,by go_num,hok2,⟨_,rfl⟩⟩
      case measure=>simp[intOf];omega
     ·have hF:=Lib.hid (HS.out false ⟨fun h=>absurd h (by decide),fun h=>absurd (h k hlt) e⟩)
      generalize l.getD k (0,0)=p at a1 a2 e a1'
      generalize m.getD k (0,0)=p' at b1 b2 e
      obtain⟨v,u⟩:=p
      obtain⟨v',u'⟩:=p'
      have hne:∀W,(binOp .neq 84 (.agg #[.int .i64 v,.int .i64 u]) (.agg #[.int .i64 v',.int .i64 u'])).run Tryz.prog W= .ok (.bool true) W:=fun W=>by
       rw[Tryz.neMono]
       have:(v == v' && u == u')=false:=by
        rw[Bool.eq_false_iff]
        intro h
        simp only[Bool.and_eq_true,beq_iff_eq]at h
        exact e (by rw[h.1,h.2])
       rw[this];rfl
      clear e
      have hbw1:ab<w.heap.size:=hab
      have hbw2:bb<w.heap.size:=hbb
      go_wp2_with fail
      go_quiet (fail)
      go_wp2
      go_ret
      exact⟨ret_bool hF.out.symm,below_drewN (below_drewN HB0.out q) nq⟩
    ·have HF:=Lib.hid (HS.out true ⟨fun _ i hi=>hok.out i (by omega),fun _=>rfl⟩)
     go_wp2
     go_ret
     exact⟨ret_bool HF.out.symm,below_drewN HB0.out q⟩
  ·have hnn':((na:Int) != (nb:Int))=true:=by simp;omega
   have HS:Hid (same c c l m=false):=by
    show _=_
    unfold same
    rw[decide_eq_false (p:=l=m) (fun h=>by subst h;omega)];simp
   clear hna hnb hla hlb
   go_enter Tryz.func36,Tryz.ntmps36
   go_wp2
   go_ret
   exact⟨ret_bool HS.out.symm,HB0.out⟩
 ·have hcc:(c != d)=true:=by simpa using hcd
  have HS:Hid (same c d l m=false):=by
   show _=_
   unfold same
   rw[decide_eq_false hcd];rfl
  clear hna hnb hla hlb
  go_enter Tryz.func36,Tryz.ntmps36
  go_wp2
  go_ret
  exact⟨ret_bool HS.out.symm,HB0.out⟩
end Lf
namespace Lf
open Go.RowKit
structure Box (w W:World)(N:Nat)(k c:Int)(ta:Option Addr)(tn tcap:Nat)(ka:Option Addr)(kn kcap:Nat):Prop where
 lt:N<W.heap.size
 c0:W.cell? ⟨N,0,none⟩=some (.int .i64 k)
 c1:W.cell? ⟨N,1,none⟩=some (.int .i64 c)
 c2:W.cell? ⟨N,2,none⟩=some (.slice ta tn tcap)
 c3:W.cell? ⟨N,3,none⟩=some (.slice ka kn kcap)
 bel:Below N w W
theorem Box.below {w W W':World}{N B:Nat}{k c:Int}{ta ka:Option Addr}{tn tcap kn kcap:Nat}(h:Box w W N k c ta tn tcap ka kn kcap)(hb:Below B W W')(hB:N<B):Box w W' N k c ta tn tcap ka kn kcap:=
 ⟨Nat.lt_of_lt_of_le h.lt hb.size,(hb.cell (p:=⟨N,0,none⟩) hB).trans h.c0,(hb.cell (p:=⟨N,1,none⟩) hB).trans h.c1,(hb.cell (p:=⟨N,2,none⟩) hB).trans h.c2,(hb.cell (p:=⟨N,3,none⟩) hB).trans h.c3,h.bel.trans (hb.mono (by omega))⟩
theorem box_start (w:World)(k c:Int)(ta ka:Option Addr)(tn tcap kn kcap:Nat):Box w (w.alloc (.cells #[.int .i64 k,.int .i64 c,.slice ta tn tcap,.slice ka kn kcap] 38)) w.heap.size k c ta tn tcap ka kn kcap:=
 ⟨by simp,by simp,by simp,by simp,by simp,(Below.refl _ w).alloc (Nat.le_refl _) _⟩
end Lf
namespace Lf
open Go.RowKit
theorem same_self (c:Int)(l:List (Int×Int)):same c c l l=true:=by unfold same;simp
theorem same2_any:∀(n:Nat) (f:FT) (csa csb:List Value) (w:World),FLies w.heap.size w n f csa→FLies w.heap.size w n f csb→
 Calls Tryz.prog 15 #[.agg csa.toArray,.agg csb.toArray] w fun e w'=>e= .returned (.bool true)∧Below w.heap.size w w'
 | 0,_,_,_,_,h,_=>h.elim
 | n+1,f,csa,csb,w,ha,hb=>by
   have IH:=same2_any n
   obtain⟨ta,tcap,ka,kcap,rfl,hlta,ht4,hk4,hksa⟩:=ha
   obtain⟨tb,tcapb,kb,kcapb,rfl,hltb,_,_,hksb⟩:=hb
   have hsz:(w.alloc (.cells #[.int .i64 f.kind,.int .i64 f.c,.slice ta f.t.length tcap,.slice ka f.ks.length kcap] 38)).heap.size=w.heap.size+1:=by simp
   have hbB:=box_start (w.alloc (.cells #[.int .i64 f.kind,.int .i64 f.c,.slice ta f.t.length tcap,.slice ka f.ks.length kcap] 38)) f.kind f.c tb kb f.t.length tcapb f.ks.length kcapb
   rw[hsz]at hbB
   have B0:=Lib.hid (And.intro ((box_start w f.kind f.c ta ka f.t.length tcap f.ks.length kcap).below hbB.bel (Nat.lt_succ_self _)) hbB)
   have HS:=Lib.hid (fun W (hb:Below w.heap.size w W)=>same_any f.c f.c ta tb f.t.length f.t.length tcap tcapb f.t f.t W rfl rfl ht4 ht4 ((hlta.below hb).mono hb.size) ((hltb.below hb).mono hb.size))
   rw[same_self]at HS
   have HI:=Lib.hid IH
   have HA:=Lib.hid hksa
   have HB:=Lib.hid hksb
   have e1:(f.kind != f.kind)=false:=by simp
   have e2:((f.ks.length:Int) != (f.ks.length:Int))=false:=by simp
   clear IH hksa hksb hlta hltb hsz hbB
   generalize f.kind=fk at B0 e1
   generalize f.c=fc at B0 HS
   generalize f.t.length=ft at B0 HS ht4
   generalize hl:f.ks.length=len at B0 HA HB hk4 e2
   clear hl
   generalize hw1:w.alloc (.cells #[.int .i64 fk,.int .i64 fc,.slice ta ft tcap,.slice ka len kcap] 38)=w1 at B0
   have L0:=B0.out.2.lt
   obtain⟨_,p0,p1,p2,p3,bela⟩:=B0.out.1
   obtain⟨_,r0,r1,r2,r3,_⟩:=B0.out.2
   have BA:=Lib.hid bela
   clear bela
   subst hw1
   go_enter Tryz.func15,Tryz.ntmps15
   go_wp2_with fail
   refine(HS.out _ BA.out).mono ?_
   rintro e w2 ⟨rfl,hb2⟩
   have T2:=Lib.hid (And.intro (B0.out.1.below hb2 (Nat.lt_of_succ_lt L0)) (B0.out.2.below hb2 L0))
   clear hb2 p0 p1 p2 p3 r0 r1 r2 r3 HS
   generalize w.alloc (.cells #[.int .i64 fk,.int .i64 fc,.slice ta ft tcap,.slice ka len kcap] 38)=w1 at B0 T2 BA
   go_wp2_with fail
   go_loopw [5] (fun i wr=>∃(k:Nat),k≤len∧i= .int .i64 k∧Hid (Box w wr w.heap.size fk fc ta ft tcap ka len kcap∧Box w1 wr (w.heap.size+1) fk fc tb ft tcapb kb len kcapb)) (fun i _=>len - (intOf i).toNat)
   case atStart=>exact⟨0,Nat.zero_le _,rfl,T2⟩
   case round=>
    obtain⟨k,hk,rfl,hbx⟩:=hrel
    obtain⟨bz,_,_,_,q3,hb⟩:=hbx.out.1
    obtain⟨bz2,_,_,_,s3,_⟩:=hbx.out.2
    by_cases hlt:k<len
    ·obtain⟨ba,offa,c0,c1,c2,c3,rfl,hba,g0,g1,g2,g3,hfa⟩:=HA.out k hlt
     obtain⟨bb,offb,d0,d1,d2,d3,rfl,hbb,h0,h1,h2,h3,hfb⟩:=HB.out k hlt
     rw[←hb.cell (p:=⟨ba,_,none⟩) hba]at g0 g1 g2 g3
     rw[←hb.cell (p:=⟨bb,_,none⟩) hbb]at h0 h1 h2 h3
     obtain⟨ck,cc,cta,ctn,ctcap,cka,ckn,ckcap,rfl,rfl,rfl,rfl⟩:=hfa.form
     obtain⟨dk,dc,dta,dtn,dtcap,dka,dkn,dkcap,rfl,rfl,rfl,rfl⟩:=hfb.form
     have HIH:=Lib.hid (fun W (hb:Below w.heap.size w W)=>HI.out (f.ks.getD k default) _ _ W ((hfa.below hb).mono hb.size) ((hfb.below hb).mono hb.size))
     have K5:Hid (∀W':World,(∀b' o,b'≤w.heap.size+1→W'.cell? ⟨b',o,none⟩=wr.cell? ⟨b',o,none⟩)→W'.cell? ⟨w.heap.size,3,none⟩=some (.slice (some ⟨ba,offa,none⟩) len kcap)∧W'.cell? ⟨w.heap.size+1,3,none⟩=some (.slice (some ⟨bb,offb,none⟩) len kcapb)∧
      W'.cell? ⟨ba,offa+k*4,none⟩=some (.int .i64 ck)∧W'.cell? ⟨ba,offa+k*4+1,none⟩=some (.int .i64 cc)∧W'.cell? ⟨ba,offa+k*4+2,none⟩=some (.slice cta ctn ctcap)∧W'.cell? ⟨ba,offa+k*4+3,none⟩=some (.slice cka ckn ckcap)∧
      W'.cell? ⟨bb,offb+k*4,none⟩=some (.int .i64 dk)∧W'.cell? ⟨bb,offb+k*4+1,none⟩=some (.int .i64 dc)∧W'.cell? ⟨bb,offb+k*4+2,none⟩=some (.slice dta dtn dtcap)∧W'.cell? ⟨bb,offb+k*4+3,none⟩=some (.slice dka dkn dkcap)):=
      fun W' h=>⟨(h _ _ (by omega)).trans q3,(h _ _ (by omega)).trans s3,(h _ _ (by omega)).trans g0,(h _ _ (by omega)).trans g1,(h _ _ (by omega)).trans g2,(h _ _ (by omega)).trans g3,(h _ _ (by omega)).trans h0,(h _ _ (by omega)).trans h1,(h _ _ (by omega)).trans h2,(h _ _ (by omega)).trans h3⟩
     clear hfa hfb
     go_wp2_with fail
     go_region_held3 (fun W'=>W'.cell? ⟨w.heap.size,3,none⟩=some (.slice (some ⟨ba,offa,none⟩) len kcap)∧W'.cell? ⟨w.heap.size+1,3,none⟩=some (.slice (some ⟨bb,offb,none⟩) len kcapb)∧
      W'.cell? ⟨ba,offa+k*4,none⟩=some (.int .i64 ck)∧W'.cell? ⟨ba,offa+k*4+1,none⟩=some (.int .i64 cc)∧W'.cell? ⟨ba,offa+k*4+2,none⟩=some (.slice cta ctn ctcap)∧W'.cell? ⟨ba,offa+k*4+3,none⟩=some (.slice cka ckn ckcap)∧
      W'.cell? ⟨bb,offb+k*4,none⟩=some (.int .i64 dk)∧W'.cell? ⟨bb,offb+k*4+1,none⟩=some (.int .i64 dc)∧W'.cell? ⟨bb,offb+k*4+2,none⟩=some (.slice dta dtn dtcap)∧W'.cell? ⟨bb,offb+k*4+3,none⟩=some (.slice dka dkn dkcap))
      (first
        | with_reducible exact T5.out
        | go_keep)
      (first
        | (go_at_call 15
           refine(HIH.out _ hb.drew).mono ?_
           rintro e w5 ⟨rfl,hb5⟩
           have HB5:Hid (Below wr.heap.size wr w5):=(Below.refl _ wr).drew.trans hb5
           have T5:=Lib.hid (K5.out w5 (fun b' o h=>HB5.out.cell (p:=⟨b',o,none⟩) (by show b'<_;omega)))))
     have BX5:=Lib.hid (And.intro (hbx.out.1.below HB5.out bz) (hbx.out.2.below HB5.out bz2))
     clear g0 g1 g2 g3 h0 h1 h2 h3 q3 s3 T5 HIH K5 hb5
     go_wp2_with fail
     go_roundw
     case rel=>exact⟨k+1,by omega,by go_num,BX5⟩
     case measure=>simp[intOf];omega
    ·go_wp2_with fail
     go_ret
     exact⟨rfl,hb⟩
end Lf
end Go.Proofs.YtjbkhdbjdahbiaaGreatDoor
