/- Parts of a proof. -/
import Derived.Test.YtjbkhdbjdahbiaaGreatDoorV01
import Derived.Test.YtjbkhdbjdahbiaaGreatDoorV03
import Derived.Test.YtjbkhdbjdahbiaaGreatDoorV05
import Derived.Test.YtjbkhdbjdahbiaaGreatDoorQ06
import Derived.Deep.DeepCutAuto
set_option linter.unusedVariables false
set_option linter.unusedSimpArgs false
set_option maxHeartbeats 60000000
set_option maxRecDepth 100000
namespace Go.Proofs.YtjbkhdbjdahbiaaGreatDoor
section
open Go.RowKit
theorem cond_form {n:Nat}{S:Nat→Prop}{w:World}{cs:List Value}{c:CT}(h:(condSh n).rel S w cs c):∃u1 d1 u2 d2,cs=[.int .i64 c.kind,.slice u1 c.es.length d1,.slice u2 c.ks.length d2]:=by
 cases n with
 | zero=>exact h.elim
 | succ k=>
   obtain⟨v1,v2,rfl,_,⟨u1,d1,rfl,_⟩,⟨u2,d2,rfl,_⟩⟩:=h
   exact⟨u1,d1,u2,d2,rfl⟩
theorem expr_form {n:Nat}{S:Nat→Prop}{w:World}{cs:List Value}{e:ET}(h:(exprSh n).rel S w cs e):∃u d,cs=[.int .i64 e.kind,.int .i64 e.n,.string e.name,.slice u e.ks.length d]:=by
 cases n with
 | zero=>exact h.elim
 | succ k=>
   obtain⟨v,rfl,_,u,d,rfl,_⟩:=h
   exact⟨u,d,rfl⟩
def ndT:Nat→ST→Nat
 | 0,_=>0
 | n+1,s=>4+s.p.args.length+s.p.ghosts.length+4*ndA n s.p.a+(s.body.map (ndT n)).sum+(s.els.map (ndT n)).sum
def ndTS (n:Nat)(l:List ST):Nat:=(l.map (ndT n)).sum
theorem ndT_succ (n:Nat)(s:ST):ndT (n+1) s=4+s.p.args.length+s.p.ghosts.length+4*ndA n s.p.a+ndTS n s.body+ndTS n s.els:=rfl
theorem ndTS_snoc {n:Nat}{l:List ST}{j:Nat}(h:j<l.length):ndTS n (l.take (j+1))=ndTS n (l.take j)+ndT n l[j]:=by
 unfold ndTS
 rw[List.take_succ_eq_append_getElem h,List.map_append,List.sum_append]
 simp
def Bx (g:World)(cs:List Value)(t:TypeId)(W:World):Prop:=Below (g.alloc (.cells cs.toArray t)).heap.size (g.alloc (.cells cs.toArray t)) W
theorem Bx.start (g:World)(cs:List Value)(t:TypeId):Bx g cs t (g.alloc (.cells cs.toArray t)):=Below.refl _ _
theorem Bx.step {g:World}{cs:List Value}{t:TypeId}{W V:World}(h:Bx g cs t W)(hb:Below W.heap.size W V):Bx g cs t V:=Below.trans h (hb.mono (Below.size h))
theorem Bx.alloc {g:World}{cs:List Value}{t:TypeId}{W:World}(h:Bx g cs t W)(c:Array Value)(u:TypeId):Bx g cs t (W.alloc (.cells c u)):=Below.alloc h (Below.size h) _
theorem Bx.low {w g:World}{cs:List Value}{t:TypeId}{W:World}(h:Bx g cs t W)(hb:Below w.heap.size w g):Below w.heap.size w W:=(hb.alloc hb.size _).trans (Below.mono h (hb.alloc hb.size _).size)
theorem Bx.at {g:World}{cs:List Value}{t:TypeId}{W:World}(h:Bx g cs t W){o:Nat}{v:Value}(hv:cs[o]? =some v):W.cell? ⟨g.heap.size,o,none⟩=some v:=box_at hv h
theorem sizeS_box (n:Nat)(es:List ST)(a:Option Addr)(m cap:Nat)(l dd:Int)(w:World)(hm:es.length=m)(hd0:0≤dd)(hd1:dd≤300)(hl0: -1≤l)(hl1:l≤300)(hs:Pak.Sits (stmtSh (n+1)) (Pak.Lo w.heap.size) w a es)
 (hk:∀(x:ST) (t:List ST) (u:Option Addr) (c:Nat) (q:Int) (W:World),x∈es→t=x.body∨t=x.els→1≤dd→ -1≤q→q≤300→Below w.heap.size w W→Pak.Sits (stmtSh n) (Pak.Lo W.heap.size) W u t→Calls Tryz.prog 37 #[.slice u t.length c,.int .i64 q,.int .i64 (dd - 1)] W (SzEnd (ndTS n t) q W)):
 Calls Tryz.prog 37 #[.slice a m cap,.int .i64 l,.int .i64 dd] w (SzEnd (ndTS (n+1) es) l w):=by
 have HS:=Lib.hid hs
 have HM:=Lib.hid hm
 have hmm:m≤9223372036854775807:=by rw[←hm];exact hs.1
 have HK:=Lib.hid hk
 have HD0:=Lib.hid hd0
 have HD1:=Lib.hid hd1
 have HL0:=Lib.hid hl0
 have HL1:=Lib.hid hl1
 clear hs hm hk hd0 hd1 hl0 hl1
 by_cases hz:dd=0
 ·have e0:(dd == 0)=true:=by rw[hz];rfl
  clear hz
  go_enter Tryz.func37,Tryz.ntmps37
  go_wp2_with fail
  go_ret
  exact⟨-1,rfl,by omega,HL0.out,by omega,Below.refl _ _⟩
 ·have e0:(dd == 0)=false:=beq_eq_false_iff_ne.2 hz
  have HD2:Hid (1≤dd):=Lib.hid (by have:=HD0.out;omega)
  have ed:IntKind.i64.wrap (dd - 1)=dd - 1:=IntWalk.i64_in _ (by have:=HD0.out;have:=HD1.out;omega)
  clear hz
  go_enter Tryz.func37,Tryz.ntmps37
  go_wp2_with fail
  go_loopw [1,7] (fun t i wr=>∃(j:Nat) (x:Int),j≤m∧t= .int .i64 x∧i= .int .i64 j∧Hid (-1≤x∧x≤l∧(0≤x→x+(ndTS (n+1) (es.take j):Nat)≤l))∧Hid (Below w.heap.size w wr)) (fun _ i _=>m - (intOf i).toNat)
  case atStart=>exact⟨0,l,Nat.zero_le _,rfl,rfl,Lib.hid ⟨HL0.out,Int.le_refl _,fun _=>by simp[ndTS]⟩,Below.refl _ _⟩
  case round=>
   obtain⟨j,x,hj,rfl,rfl,hin,hbr⟩:=hrel
   obtain⟨wo,rfl⟩:∃wo:World,wo=wr:=⟨_,rfl⟩
   by_cases hx:0≤x
   ·have g1:decide (x ≥ 0)=true:=decide_eq_true hx
    have g2:decide (0≤x)=true:=decide_eq_true hx
    have ex:IntKind.i64.wrap (x - 1)=x - 1:=IntWalk.i64_in _ (by have:=hin.out;have:=HL1.out;omega)
    have HX:=Lib.hid hx
    clear hx
    by_cases hlt:j<m
    ·have hlx:j<es.length:=by rw[HM.out];exact hlt
     obtain⟨b,off,cs,rfl,hbl,hc,hr⟩:=(HS.out.below hbr.out hbr.out.size).2 j hlx
     have HND:=Lib.hid (ndTS_snoc (n:=n+1) hlx)
     have HKB:=Lib.hid (fun u c q W=>HK.out es[j] es[j].body u c q W (List.getElem_mem hlx) (.inl rfl) HD2.out)
     have HKL:=Lib.hid (fun u c q W=>HK.out es[j] es[j].els u c q W (List.getElem_mem hlx) (.inr rfl) HD2.out)
     have hlen:=(stmtSh (n+1)).len hr
     have hone:=(stmtSh (n+1)).one hr
     rw[stmtSh_k]at hlen hc
     have HC0:Hid (∀i v,cs[i]? =some v→wo.cell? ((⟨b,off+j*35,none⟩:Addr).add i)=some v):=fun i v hv=>by
      rw[show(⟨b,off+j*35,none⟩:Addr).add i=⟨b,off+j*35+i,none⟩ by unfold Addr.add;split<;>simp_all]
      exact hc i v hv
     have HL:=Lib.hid hlen
     have HO:=Lib.hid hone
     obtain⟨ce,cv,cc,ca,a1,a2,a3,a4,a5,d1,d2,d3,d4,d5,H⟩:=stmt_is hr
     obtain⟨u1,k1,u2,k2,rfl⟩:=cond_form H.rc
     obtain⟨u3,k3,rfl⟩:=expr_form H.re
     obtain⟨u4,k4,rfl⟩:=expr_form H.rv
     have hla:=((assnSh n).len H.ra).trans (assnSh_k _)
     have HN0:Hid (ndT (n+1) es[j]=4+es[j].p.args.length+es[j].p.ghosts.length+4*ndA n es[j].p.a+ndTS n es[j].body+ndTS n es[j].els):=Lib.hid (ndT_succ n es[j])
     clear hc hr hlen hone
     generalize es[j]=y at*
     have HH:=Lib.hid H
     have HQ:Hid (∀W,Bx wo cs 104 W→∀o v,cs[o]? =some v→W.cell? ⟨wo.heap.size,o,none⟩=some v):=Lib.hid fun W hW o v hv=>hW.at hv
     have HUP:Hid (∀W,Bx wo cs 104 W→Below w.heap.size w W):=Lib.hid fun W hW=>hW.low hbr.out
     have HUO:Hid (∀W,Bx wo cs 104 W→Below wo.heap.size wo W):=Lib.hid fun W hW=>hW.low (Below.refl _ _)
     have HE0:Hid ((wo.alloc (.cells cs.toArray 104)).heap.size=wo.heap.size+1):=Lib.hid (by simp)
     have HC1:=Lib.hid (sizeC_any n [y.p.c] (some ⟨(wo.alloc (.cells cs.toArray 104)).heap.size,0,none⟩) 1 (x - 1) (dd - 1) ((wo.alloc (.cells cs.toArray 104)).alloc (.cells #[.int .i64 y.p.c.kind,.slice u1 y.p.c.es.length k1,.slice u2 y.p.c.ks.length k2] 52)) (by have:=HD2.out;omega) (by have:=HD1.out;omega) (by have:=HX.out;omega) (by have:=hin.out;have:=HL1.out;omega) (sits_block (heap_alloc_new _ _) (by simp) (rel_low H.rc (HUO.out _ ((Bx.start wo cs _).alloc _ _)))))
     rw[HE0.out]at HC1
     have HC2:=Lib.hid (fun q W hq0 hq1 (hW:Bx wo cs 104 W)=>sizeE_any n [y.p.e,y.p.v] (some ⟨W.heap.size,0,none⟩) 2 q (dd - 1) (W.alloc (.cells #[.int .i64 y.p.e.kind,.int .i64 y.p.e.n,.string y.p.e.name,.slice u3 y.p.e.ks.length k3,.int .i64 y.p.v.kind,.int .i64 y.p.v.n,.string y.p.v.name,.slice u4 y.p.v.ks.length k4] 49)) (by have:=HD2.out;omega) (by have:=HD1.out;omega) hq0 hq1 (sits_two (cs:=[.int .i64 y.p.e.kind,.int .i64 y.p.e.n,.string y.p.e.name,.slice u3 y.p.e.ks.length k3]) (ds:=[.int .i64 y.p.v.kind,.int .i64 y.p.v.n,.string y.p.v.name,.slice u4 y.p.v.ks.length k4]) (heap_alloc_new W _) (by simp) (by rw[exprSh_k];rfl) (rel_low H.re (HUO.out _ (hW.alloc _ _))) (rel_low H.rv (HUO.out _ (hW.alloc _ _)))))
     have HC3:=Lib.hid (fun q W hq0 hq1 (hW:Bx wo cs 104 W)=>sizeE_any n y.p.args a1 d1 q (dd - 1) W (by have:=HD2.out;omega) (by have:=HD1.out;omega) hq0 hq1 (H.rargs.below (HUO.out _ hW) (HUO.out _ hW).size))
     have HC4:=Lib.hid (fun q W hq0 hq1 (hW:Bx wo cs 104 W)=>sizeE_any n y.p.ghosts a2 d2 q (dd - 1) W (by have:=HD2.out;omega) (by have:=HD1.out;omega) hq0 hq1 (H.rghosts.below (HUO.out _ hW) (HUO.out _ hW).size))
     have HC5:=Lib.hid (fun q W hq0 hq1 (hW:Bx wo cs 104 W)=>sizeA_any n [y.p.a] (some ⟨W.heap.size,0,none⟩) 1 q (dd - 1) (W.alloc (.cells ca.toArray 100)) (by have:=HD2.out;omega) (by have:=HD1.out;omega) hq0 hq1 (sits_block (heap_alloc_new _ _) (by simp) (rel_low H.ra (HUO.out _ (hW.alloc _ _)))))
     have HC6:=Lib.hid (fun q W hq0 hq1 (hW:Bx wo cs 104 W)=>HKB.out a4 d4 q W hq0 hq1 (HUP.out _ hW) (H.rbody.below (HUO.out _ hW) (HUO.out _ hW).size))
     have HC7:=Lib.hid (fun q W hq0 hq1 (hW:Bx wo cs 104 W)=>HKL.out a5 d5 q W hq0 hq1 (HUP.out _ hW) (H.rels.below (HUO.out _ hW) (HUO.out _ hW).size))
     have HP:=Lib.hid H.pa
     have HLA:=Lib.hid hla
     have KK:Hid (ndS n [y.p.a]=ndA n y.p.a):=Lib.hid (by simp[ndS])
     have hji:(j:Int)<(m:Int):=by omega
     have hfold:List.foldl (fun(xs:Array Value) (x:Value×Nat)=>xs.setIfInBounds x.2 x.1) #[.int .i64 0,.int .i64 0,.slice none 0 0,.slice none 0 0,.int .i64 0,.int .i64 0,.string ⟨#[]⟩,.slice none 0 0,.int .i64 0,.int .i64 0,.string ⟨#[]⟩,.slice none 0 0,.string ⟨#[]⟩,.int .i64 0,.slice none 0 0] ca.zipIdx=ca.toArray:=fold_put ca [] zAc (by rw[hla];rfl)
     have f0:=Lib.hid H.name
     have f1:=Lib.hid H.field
     have f2:=Lib.hid H.callee
     have f3:=Lib.hid (And.intro H.args H.ghosts)
     have f4:=Lib.hid (And.intro H.body H.els)
     have f5:=Lib.hid H.fields
     have fc:=Lib.hid H.pc
     have fe:=Lib.hid H.pe
     have fv:=Lib.hid H.pv
     clear H HH hla HKB HKL
     generalize ndTS n y.body=n6 at*
     generalize ndTS n y.els=n7 at*
     generalize ndS n [y.p.a]=n5 at*
     generalize y.p.args.length=n3 at*
     generalize y.p.ghosts.length=n4 at*
     generalize y.p.fields.length=nf at*
     generalize y.body.length=m6 at*
     generalize y.els.length=m7 at*
     generalize y.p.name=nm1 at*
     generalize y.p.field=nm2 at*
     generalize y.p.callee=nm3 at*
     generalize ndTS (n+1) (es.take j)=n0 at*
     have q12:=(Bx.start wo cs 104).at (o:=12) (fc.out.at (j:=0) rfl)
     have q13:=(Bx.start wo cs 104).at (o:=13) (fc.out.at (j:=1) rfl)
     have q14:=(Bx.start wo cs 104).at (o:=14) (fc.out.at (j:=2) rfl)
     go_wp2_with (first | (refine wpList_store_new (by kernel_rfl) 104 _ _ rfl _ rfl cs rfl (by rw[HL.out];kernel_rfl) (by rw[HL.out];rfl) HO.out ?_) | (refine wpList_load_w (by kernel_rfl) 104 _ rfl ⟨b,off+j*35,none⟩ rfl cs _ HC0.out Tryz.underlying104 rfl (by rw[HL.out];kernel_rfl) ?_))
     refine HC1.out.mono ?_
     rintro r w3 ⟨x1,rfl,h1,h2,h3,hb⟩
     have B1:Hid (Bx wo cs 104 w3):=Lib.hid (((Bx.start wo cs _).alloc _ _).step hb)
     have I1:Hid (-1≤x1∧x1≤l∧(0≤x1→x1+(n0+2:Nat)≤l)):=Lib.hid ⟨h1,by have:=hin.out;omega,fun h=>by have:=h3 h;have:=hin.out.2.2 HX.out;simp at *; omega⟩
     clear h1 h2 h3 hb HC1 q12 q13 q14 hin HX g1 g2 ex HC0 HL HO
     go_upto_if 34 with fail
     go_cut [1] (fun s wx=>∃y:Int,s= .int .i64 y∧Hid (-1≤y∧y≤l∧(0≤y→y+(n0+4:Nat)≤l))∧Hid (Bx wo cs 104 wx))
     case first=>
      by_cases hx:0≤x1
      ·have p1:decide (x1 ≥ 0)=true:=decide_eq_true hx
       have p2:decide (0≤x1)=true:=decide_eq_true hx
       rw[p2]
       have HX:=Lib.hid hx
       have c4:=B1.out.at (o:=4) (fe.out.at (j:=0) rfl)
       have c5:=B1.out.at (o:=5) (fe.out.at (j:=1) rfl)
       have c6:=B1.out.at (o:=6) (fe.out.at (j:=2) rfl)
       have c7:=B1.out.at (o:=7) (fe.out.at (j:=3) rfl)
       have c8:=B1.out.at (o:=8) (fv.out.at (j:=0) rfl)
       have c9:=B1.out.at (o:=9) (fv.out.at (j:=1) rfl)
       have c10:=B1.out.at (o:=10) (fv.out.at (j:=2) rfl)
       have c11:=B1.out.at (o:=11) (fv.out.at (j:=3) rfl)
       clear hx
       have HCD:=Lib.hid (HC2.out x1 w3 (by have:=I1.out;omega) (by have:=I1.out;have:=HL1.out;omega) B1.out)
       go_wp2_with fail
       refine HCD.out.mono ?_
       rintro r w4 ⟨z,rfl,h1,h2,h3,hb⟩
       have BN:Hid (Bx wo cs 104 w4):=Lib.hid ((B1.out.alloc _ _).step hb)
       have IN:Hid (-1≤z∧z≤l∧(0≤z→z+(n0+4:Nat)≤l)):=Lib.hid (by have q:=I1.out;refine⟨h1,by omega,fun h=> ?_⟩;have q2:=h3 h;have q3:=q.2.2 HX.out;(try simp at q2);have q4:=KK.out;omega)
       clear h1 h2 h3 hb HCD
       go_wp2_with fail
       go_meet
       case rel=>exact⟨z,rfl,IN,BN⟩
      ·have p1:decide (x1 ≥ 0)=false:=decide_eq_false hx
       have p2:decide (0≤x1)=false:=decide_eq_false hx
       rw[p2]
       have IN:Hid (-1≤x1∧x1≤l∧(0≤x1→x1+(n0+4:Nat)≤l)):=Lib.hid ⟨I1.out.1,I1.out.2.1,fun h=>absurd h hx⟩
       clear hx
       go_wp2_with fail
       go_meet
       case rel=>exact⟨x1,rfl,IN,B1⟩
     case rest=>
     obtain⟨x2,rfl,I2,B2⟩:=hcut
     obtain⟨v2,rfl⟩:∃v2:World,v2=wc:=⟨_,rfl⟩
     clear I1 B1
     go_upto_if 45 with fail
     go_cut [1] (fun s wx=>∃y:Int,s= .int .i64 y∧Hid (-1≤y∧y≤l∧(0≤y→y+(n0+4+n3:Nat)≤l))∧Hid (Bx wo cs 104 wx))
     case first=>
      by_cases hx:0≤x2
      ·have p1:decide (x2 ≥ 0)=true:=decide_eq_true hx
       have p2:decide (0≤x2)=true:=decide_eq_true hx
       rw[p2]
       have HX:=Lib.hid hx
       have c30:=B2.out.at (o:=30) (f3.out.1)
       clear hx
       have HCD:=Lib.hid (HC3.out x2 v2 (by have:=I2.out;omega) (by have:=I2.out;have:=HL1.out;omega) B2.out)
       go_wp2_with fail
       refine HCD.out.mono ?_
       rintro r w4 ⟨z,rfl,h1,h2,h3,hb⟩
       have BN:Hid (Bx wo cs 104 w4):=Lib.hid (B2.out.step hb)
       have IN:Hid (-1≤z∧z≤l∧(0≤z→z+(n0+4+n3:Nat)≤l)):=Lib.hid (by have q:=I2.out;refine⟨h1,by omega,fun h=> ?_⟩;have q2:=h3 h;have q3:=q.2.2 HX.out;(try simp at q2);have q4:=KK.out;omega)
       clear h1 h2 h3 hb HCD
       go_wp2_with fail
       go_meet
       case rel=>exact⟨z,rfl,IN,BN⟩
      ·have p1:decide (x2 ≥ 0)=false:=decide_eq_false hx
       have p2:decide (0≤x2)=false:=decide_eq_false hx
       rw[p2]
       have IN:Hid (-1≤x2∧x2≤l∧(0≤x2→x2+(n0+4+n3:Nat)≤l)):=Lib.hid ⟨I2.out.1,I2.out.2.1,fun h=>absurd h hx⟩
       clear hx
       go_wp2_with fail
       go_meet
       case rel=>exact⟨x2,rfl,IN,B2⟩
     case rest=>
     obtain⟨x3,rfl,I3,B3⟩:=hcut
     obtain⟨v3,rfl⟩:∃v3:World,v3=wc:=⟨_,rfl⟩
     clear I2 B2
     go_upto_if 53 with fail
     go_cut [1] (fun s wx=>∃y:Int,s= .int .i64 y∧Hid (-1≤y∧y≤l∧(0≤y→y+(n0+4+n3+n4:Nat)≤l))∧Hid (Bx wo cs 104 wx))
     case first=>
      by_cases hx:0≤x3
      ·have p1:decide (x3 ≥ 0)=true:=decide_eq_true hx
       have p2:decide (0≤x3)=true:=decide_eq_true hx
       rw[p2]
       have HX:=Lib.hid hx
       have c31:=B3.out.at (o:=31) (f3.out.2)
       clear hx
       have HCD:=Lib.hid (HC4.out x3 v3 (by have:=I3.out;omega) (by have:=I3.out;have:=HL1.out;omega) B3.out)
       go_wp2_with fail
       refine HCD.out.mono ?_
       rintro r w4 ⟨z,rfl,h1,h2,h3,hb⟩
       have BN:Hid (Bx wo cs 104 w4):=Lib.hid (B3.out.step hb)
       have IN:Hid (-1≤z∧z≤l∧(0≤z→z+(n0+4+n3+n4:Nat)≤l)):=Lib.hid (by have q:=I3.out;refine⟨h1,by omega,fun h=> ?_⟩;have q2:=h3 h;have q3:=q.2.2 HX.out;(try simp at q2);have q4:=KK.out;omega)
       clear h1 h2 h3 hb HCD
       go_wp2_with fail
       go_meet
       case rel=>exact⟨z,rfl,IN,BN⟩
      ·have p1:decide (x3 ≥ 0)=false:=decide_eq_false hx
       have p2:decide (0≤x3)=false:=decide_eq_false hx
       rw[p2]
       have IN:Hid (-1≤x3∧x3≤l∧(0≤x3→x3+(n0+4+n3+n4:Nat)≤l)):=Lib.hid ⟨I3.out.1,I3.out.2.1,fun h=>absurd h hx⟩
       clear hx
       go_wp2_with fail
       go_meet
       case rel=>exact⟨x3,rfl,IN,B3⟩
     case rest=>
     obtain⟨x4,rfl,I4,B4⟩:=hcut
     obtain⟨v4,rfl⟩:∃v4:World,v4=wc:=⟨_,rfl⟩
     clear I3 B3
     go_upto_if 61 with fail
     go_cut [1] (fun s wx=>∃y:Int,s= .int .i64 y∧Hid (-1≤y∧y≤l∧(0≤y→y+(n0+4+n3+n4+4*n5:Nat)≤l))∧Hid (Bx wo cs 104 wx))
     case first=>
      by_cases hx:0≤x4
      ·have p1:decide (x4 ≥ 0)=true:=decide_eq_true hx
       have p2:decide (0≤x4)=true:=decide_eq_true hx
       rw[p2]
       have HX:=Lib.hid hx
       have hla2:=HLA.out
       clear hx
       have HCD:=Lib.hid (HC5.out x4 v4 (by have:=I4.out;omega) (by have:=I4.out;have:=HL1.out;omega) B4.out)
       go_wp2_with (first | go_skip | (refine wpList_load_w (by kernel_rfl) 100 _ rfl ⟨wo.heap.size,15,none⟩ rfl ca _ (box_part HP.out B4.out) Tryz.underlying100 rfl (by rw[HLA.out];kernel_rfl) ?_))
       refine HCD.out.mono ?_
       rintro r w4 ⟨z,rfl,h1,h2,h3,hb⟩
       have BN:Hid (Bx wo cs 104 w4):=Lib.hid ((B4.out.alloc _ _).step hb)
       have IN:Hid (-1≤z∧z≤l∧(0≤z→z+(n0+4+n3+n4+4*n5:Nat)≤l)):=Lib.hid (by have q:=I4.out;refine⟨h1,by omega,fun h=> ?_⟩;have q2:=h3 h;have q3:=q.2.2 HX.out;(try simp at q2);have q4:=KK.out;omega)
       clear h1 h2 h3 hb HCD
       go_wp2_with fail
       go_meet
       case rel=>exact⟨z,rfl,IN,BN⟩
      ·have p1:decide (x4 ≥ 0)=false:=decide_eq_false hx
       have p2:decide (0≤x4)=false:=decide_eq_false hx
       rw[p2]
       have IN:Hid (-1≤x4∧x4≤l∧(0≤x4→x4+(n0+4+n3+n4+4*n5:Nat)≤l)):=Lib.hid ⟨I4.out.1,I4.out.2.1,fun h=>absurd h hx⟩
       clear hx
       go_wp2_with fail
       go_meet
       case rel=>exact⟨x4,rfl,IN,B4⟩
     case rest=>
     obtain⟨x5,rfl,I5,B5⟩:=hcut
     obtain⟨v5,rfl⟩:∃v5:World,v5=wc:=⟨_,rfl⟩
     clear I4 B4
     go_upto_if 70 with fail
     go_cut [1] (fun s wx=>∃y:Int,s= .int .i64 y∧Hid (-1≤y∧y≤l∧(0≤y→y+(n0+4+n3+n4+4*n5+n6:Nat)≤l))∧Hid (Bx wo cs 104 wx))
     case first=>
      by_cases hx:0≤x5
      ·have p1:decide (x5 ≥ 0)=true:=decide_eq_true hx
       have p2:decide (0≤x5)=true:=decide_eq_true hx
       rw[p2]
       have HX:=Lib.hid hx
       have c33:=B5.out.at (o:=33) (f4.out.1)
       clear hx
       have HCD:=Lib.hid (HC6.out x5 v5 (by have:=I5.out;omega) (by have:=I5.out;have:=HL1.out;omega) B5.out)
       go_wp2_with fail
       refine HCD.out.mono ?_
       rintro r w4 ⟨z,rfl,h1,h2,h3,hb⟩
       have BN:Hid (Bx wo cs 104 w4):=Lib.hid (B5.out.step hb)
       have IN:Hid (-1≤z∧z≤l∧(0≤z→z+(n0+4+n3+n4+4*n5+n6:Nat)≤l)):=Lib.hid (by have q:=I5.out;refine⟨h1,by omega,fun h=> ?_⟩;have q2:=h3 h;have q3:=q.2.2 HX.out;(try simp at q2);have q4:=KK.out;omega)
       clear h1 h2 h3 hb HCD
       go_wp2_with fail
       go_meet
       case rel=>exact⟨z,rfl,IN,BN⟩
      ·have p1:decide (x5 ≥ 0)=false:=decide_eq_false hx
       have p2:decide (0≤x5)=false:=decide_eq_false hx
       rw[p2]
       have IN:Hid (-1≤x5∧x5≤l∧(0≤x5→x5+(n0+4+n3+n4+4*n5+n6:Nat)≤l)):=Lib.hid ⟨I5.out.1,I5.out.2.1,fun h=>absurd h hx⟩
       clear hx
       go_wp2_with fail
       go_meet
       case rel=>exact⟨x5,rfl,IN,B5⟩
     case rest=>
     obtain⟨x6,rfl,I6,B6⟩:=hcut
     obtain⟨v6,rfl⟩:∃v6:World,v6=wc:=⟨_,rfl⟩
     clear I5 B5
     go_upto_if 78 with fail
     go_cut [1] (fun s wx=>∃y:Int,s= .int .i64 y∧Hid (-1≤y∧y≤l∧(0≤y→y+(n0+4+n3+n4+4*n5+n6+n7:Nat)≤l))∧Hid (Bx wo cs 104 wx))
     case first=>
      by_cases hx:0≤x6
      ·have p1:decide (x6 ≥ 0)=true:=decide_eq_true hx
       have p2:decide (0≤x6)=true:=decide_eq_true hx
       rw[p2]
       have HX:=Lib.hid hx
       have c34:=B6.out.at (o:=34) (f4.out.2)
       clear hx
       have HCD:=Lib.hid (HC7.out x6 v6 (by have:=I6.out;omega) (by have:=I6.out;have:=HL1.out;omega) B6.out)
       go_wp2_with fail
       refine HCD.out.mono ?_
       rintro r w4 ⟨z,rfl,h1,h2,h3,hb⟩
       have BN:Hid (Bx wo cs 104 w4):=Lib.hid (B6.out.step hb)
       have IN:Hid (-1≤z∧z≤l∧(0≤z→z+(n0+4+n3+n4+4*n5+n6+n7:Nat)≤l)):=Lib.hid (by have q:=I6.out;refine⟨h1,by omega,fun h=> ?_⟩;have q2:=h3 h;have q3:=q.2.2 HX.out;(try simp at q2);have q4:=KK.out;omega)
       clear h1 h2 h3 hb HCD
       go_wp2_with fail
       go_meet
       case rel=>exact⟨z,rfl,IN,BN⟩
      ·have p1:decide (x6 ≥ 0)=false:=decide_eq_false hx
       have p2:decide (0≤x6)=false:=decide_eq_false hx
       rw[p2]
       have IN:Hid (-1≤x6∧x6≤l∧(0≤x6→x6+(n0+4+n3+n4+4*n5+n6+n7:Nat)≤l)):=Lib.hid ⟨I6.out.1,I6.out.2.1,fun h=>absurd h hx⟩
       clear hx
       go_wp2_with fail
       go_meet
       case rel=>exact⟨x6,rfl,IN,B6⟩
     case rest=>
     obtain⟨x7,rfl,I7,B7⟩:=hcut
     obtain⟨v7,rfl⟩:∃v7:World,v7=wc:=⟨_,rfl⟩
     clear I6 B6
     have HN:Hid (-1≤x7∧x7≤l∧(0≤x7→x7+(ndTS (n+1) (es.take (j+1)):Nat)≤l)):=Lib.hid (by have q:=I7.out;refine⟨q.1,q.2.1,fun h=> ?_⟩;have q2:=q.2.2 h;have q4:=KK.out;rw[HND.out,HN0.out];omega)
     have HBN:Hid (Below w.heap.size w v7):=Lib.hid (HUP.out _ B7.out)
     have c32:=B7.out.at (o:=32) f5.out
     have c1:=B7.out.at (o:=1) f0.out
     have c2:=B7.out.at (o:=2) f1.out
     have c3:=B7.out.at (o:=3) f2.out
     clear I7 B7 HC2 HC3 HC4 HC5 HC6 HC7 HND HN0 KK HQ HUP HUO hfold HP HLA f0 f1 f2 f3 f4 f5 fc fe fv
     by_cases hn0:(50:Int)<(nf:Int)
     ·have t0:decide ((nf:Int) > 50)=true:=decide_eq_true hn0
      have s0:decide ((50:Int)<(nf:Int))=true:=decide_eq_true hn0
      have r0:50<nf:=by omega
      clear hn0
      go_wp2_with fail
      go_ret
      exact⟨-1,rfl,by omega,HL0.out,by omega,HBN.out⟩
     ·have t0:decide ((nf:Int) > 50)=false:=decide_eq_false hn0
      have s0:decide ((50:Int)<(nf:Int))=false:=decide_eq_false hn0
      have r0:¬ 50<nf:=by omega
      clear hn0
      by_cases hn1:(200:Int)<(nm1.size:Int)
      ·have t1:decide ((nm1.size:Int) > 200)=true:=decide_eq_true hn1
       have s1:decide ((200:Int)<(nm1.size:Int))=true:=decide_eq_true hn1
       have r1:200<nm1.size:=by omega
       clear hn1
       go_wp2_with fail
       go_ret
       exact⟨-1,rfl,by omega,HL0.out,by omega,HBN.out⟩
      ·have t1:decide ((nm1.size:Int) > 200)=false:=decide_eq_false hn1
       have s1:decide ((200:Int)<(nm1.size:Int))=false:=decide_eq_false hn1
       have r1:¬ 200<nm1.size:=by omega
       clear hn1
       by_cases hn2:(200:Int)<(nm2.size:Int)
       ·have t2:decide ((nm2.size:Int) > 200)=true:=decide_eq_true hn2
        have s2:decide ((200:Int)<(nm2.size:Int))=true:=decide_eq_true hn2
        have r2:200<nm2.size:=by omega
        clear hn2
        go_wp2_with fail
        go_ret
        exact⟨-1,rfl,by omega,HL0.out,by omega,HBN.out⟩
       ·have t2:decide ((nm2.size:Int) > 200)=false:=decide_eq_false hn2
        have s2:decide ((200:Int)<(nm2.size:Int))=false:=decide_eq_false hn2
        have r2:¬ 200<nm2.size:=by omega
        clear hn2
        by_cases hn3:(200:Int)<(nm3.size:Int)
        ·have t3:decide ((nm3.size:Int) > 200)=true:=decide_eq_true hn3
         have s3:decide ((200:Int)<(nm3.size:Int))=true:=decide_eq_true hn3
         have r3:200<nm3.size:=by omega
         clear hn3
         go_wp2_with fail
         go_ret
         exact⟨-1,rfl,by omega,HL0.out,by omega,HBN.out⟩
        ·have t3:decide ((nm3.size:Int) > 200)=false:=decide_eq_false hn3
         have s3:decide ((200:Int)<(nm3.size:Int))=false:=decide_eq_false hn3
         have r3:¬ 200<nm3.size:=by omega
         clear hn3
         go_wp2_with fail
         go_roundw
         case rel=>first | exact⟨j+1,x7,by omega,rfl,by go_num,HN,HBN⟩ | ((repeat apply Exists.intro);exact⟨⟨j+1,x7,by omega,rfl,by go_num,HN,HBN⟩,rfl⟩)
         case measure=>simp[intOf];omega
    ·obtain rfl:j=m:=by omega
     have HE:Hid (SzEnd (ndTS (n+1) es) l w (.returned (.int .i64 x)) wo):=Lib.hid ⟨x,rfl,hin.out.1,hin.out.2.1,by have h:=hin.out.2.2;rw[←HM.out,List.take_length]at h;exact h,hbr.out⟩
     go_wp2_with fail
     go_ret
     exact HE.out
   ·have g1:decide (x ≥ 0)=false:=decide_eq_false hx
    have g2:decide (0≤x)=false:=decide_eq_false hx
    have HE:Hid (SzEnd (ndTS (n+1) es) l w (.returned (.int .i64 x)) wo):=Lib.hid ⟨x,rfl,hin.out.1,hin.out.2.1,fun h=>absurd h hx,hbr.out⟩
    clear hx
    by_cases hlt:j<m
    ·have hji:(j:Int)<(m:Int):=by omega
     go_wp2_with fail
     go_ret
     exact HE.out
    ·obtain rfl:j=m:=by omega
     go_wp2_with fail
     go_ret
     exact HE.out
theorem sizeS_any:∀(n:Nat) (es:List ST) (a:Option Addr) (cap:Nat) (l dd:Int) (w:World),0≤dd→dd≤300→ -1≤l→l≤300→Pak.Sits (stmtSh n) (Pak.Lo w.heap.size) w a es→
 Calls Tryz.prog 37 #[.slice a es.length cap,.int .i64 l,.int .i64 dd] w (SzEnd (ndTS n es) l w)
 | 0,es,a,cap,l,dd,w,h1,h2,h3,h4,hs=>by
   have he:es=[]:=by
    cases es with
    | nil=>rfl
    | cons x xs=>
      obtain⟨_,_,_,_,_,_,hr⟩:=hs.2 0 (by simp)
      exact hr.elim
   subst he
   exact sizeS_box 0 [] a 0 cap l dd w rfl h1 h2 h3 h4 (Pak.Sits.nil _ _ _ _) fun x t u c q W hx _ _ _ _ _ _=>absurd hx (by simp)
 | n+1,es,a,cap,l,dd,w,h1,h2,h3,h4,hs=>
   sizeS_box n es a es.length cap l dd w rfl h1 h2 h3 h4 hs fun x t u c q W _ _ hd hq0 hq1 hW hsx=>
    sizeS_any n t u c q (dd - 1) W (by omega) (by omega) hq0 hq1 hsx
end
end Go.Proofs.YtjbkhdbjdahbiaaGreatDoor
