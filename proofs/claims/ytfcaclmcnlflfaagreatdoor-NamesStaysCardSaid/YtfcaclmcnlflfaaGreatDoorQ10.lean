/- Parts of a proof. -/
import Derived.Test.YtfcaclmcnlflfaaGreatDoorQ06
import Derived.Test.YtfcaclmcnlflfaaGreatDoorQ08
import Derived.Deep.DeepCutAuto
import Derived.Lib.Strings
set_option linter.unusedVariables false
set_option linter.unusedSimpArgs false
set_option maxHeartbeats 60000000
set_option maxRecDepth 100000
namespace Go.Proofs.YtfcaclmcnlflfaaGreatDoor
section
open Go.RowKit
theorem cond_form {n:Nat}{S:Nat→Prop}{w:World}{cs:List Value}{c:CT}(h:(condSh n).rel S w cs c):∃u1 d1 u2 d2,cs=[.int .i64 c.kind,.slice u1 c.es.length d1,.slice u2 c.ks.length d2]:=by
 cases n with
 | zero=>exact h.elim
 | succ k=>
   obtain⟨v1,v2,rfl,_,⟨u1,d1,rfl,_⟩,⟨u2,d2,rfl,_⟩⟩:=h
   exact⟨u1,d1,u2,d2,rfl⟩
theorem expr_form {n:Nat}{S:Nat→Prop}{w:World}{cs:List Value}{e:ET}(h:(exprSh n).rel S w cs e):∃u d,cs=[.int .i64 e.kind,.int .i64 e.n,.string e.name,.slice u e.ks.length d]:=by
 cases n with
 | zero=>exact h.elim
 | succ k=>
   obtain⟨v,rfl,_,u,d,rfl,_⟩:=h
   exact⟨u,d,rfl⟩
theorem fold_put2:∀(l P R:List Value),R.length=l.length→List.foldl (fun(cs:Array Value) (x:Value×Nat)=>cs.setIfInBounds x.2 x.1) (P ++ R).toArray (l.zipIdx P.length)=(P ++ l).toArray
 | [],P,R,h=>by rw[List.eq_nil_of_length_eq_zero h];rfl
 | x :: l,P,[],h=>by cases h
 | x :: l,P,y :: R,h=>by
   rw[List.zipIdx_cons,List.foldl_cons]
   have e:((P ++ y :: R).toArray).setIfInBounds P.length x=((P ++ [x]) ++ R).toArray:=by
    rw[List.setIfInBounds_toArray]
    congr 1
    rw[List.set_append_right _ _ (Nat.le_refl _),Nat.sub_self,List.set_cons_zero]
    simp
   rw[e]
   have:=fold_put2 l (P ++ [x]) R (by simpa using h)
   rw[List.length_append]at this
   rw[show P.length+1=P.length+[x].length from rfl,this]
   simp
def ptT:Nat→ST→Nat
 | 0,_=>0
 | n+1,s=>1+ptCs n [s.p.c]+ptEs n [s.p.e,s.p.v]+ptEs n s.p.args+ptEs n s.p.ghosts+ptAs n [s.p.a]+(s.body.map (ptT n)).sum+(s.els.map (ptT n)).sum
def ptTs (n:Nat)(l:List ST):Nat:=(l.map (ptT n)).sum
theorem ptT_succ (n:Nat)(s:ST):ptT (n+1) s=1+ptCs n [s.p.c]+ptEs n [s.p.e,s.p.v]+ptEs n s.p.args+ptEs n s.p.ghosts+ptAs n [s.p.a]+ptTs n s.body+ptTs n s.els:=rfl
theorem ptTs_snoc {n:Nat}{l:List ST}{j:Nat}(h:j<l.length):ptTs n (l.take (j+1))=ptTs n (l.take j)+ptT n l[j]:=by
 unfold ptTs
 rw[List.take_succ_eq_append_getElem h,List.map_append,List.sum_append]
 simp
def nmT2:Nat→ST→Prop
 | 0,_=>True
 | n+1,s=>(∀x∈[s.p.c],nmC2 n x)∧(∀x∈[s.p.e,s.p.v],nmE2 n x)∧(∀x∈s.p.args,nmE2 n x)∧(∀x∈s.p.ghosts,nmE2 n x)∧(∀x∈[s.p.a],nmA2 n x)∧(∀x∈s.body,nmT2 n x)∧(∀x∈s.els,nmT2 n x)∧s.p.fields.length≤50∧s.p.name.size≤200∧s.p.field.size≤200∧s.p.callee.size≤200
def Bx (g:World)(cs:List Value)(t:TypeId)(W:World):Prop:=Below (g.alloc (.cells cs.toArray t)).heap.size (g.alloc (.cells cs.toArray t)) W
theorem Bx.start (g:World)(cs:List Value)(t:TypeId):Bx g cs t (g.alloc (.cells cs.toArray t)):=Below.refl _ _
theorem Bx.step {g:World}{cs:List Value}{t:TypeId}{W V:World}(h:Bx g cs t W)(hb:Below W.heap.size W V):Bx g cs t V:=Below.trans h (hb.mono (Below.size h))
theorem Bx.alloc {g:World}{cs:List Value}{t:TypeId}{W:World}(h:Bx g cs t W)(c:Array Value)(u:TypeId):Bx g cs t (W.alloc (.cells c u)):=Below.alloc h (Below.size h) _
theorem Bx.low {w g:World}{cs:List Value}{t:TypeId}{W:World}(h:Bx g cs t W)(hb:Below w.heap.size w g):Below w.heap.size w W:=(hb.alloc hb.size _).trans (Below.mono h (hb.alloc hb.size _).size)
theorem Bx.at {g:World}{cs:List Value}{t:TypeId}{W:World}(h:Bx g cs t W){o:Nat}{v:Value}(hv:cs[o]? =some v):W.cell? ⟨g.heap.size,o,none⟩=some v:=box_at hv h
theorem sizeS_box (n:Nat)(es:List ST)(a:Option Addr)(m cap:Nat)(l dd:Int)(w:World)(hm:es.length=m)(hd0:0≤dd)(hd1:dd≤300)(hl0: -1≤l)(hl1:l≤1000000)(hs:Pak.Sits (stmtSh (n+1)) (Pak.Lo w.heap.size) w a es)
 (hk:∀(x:ST) (t:List ST) (u:Option Addr) (c:Nat) (q:Int) (W:World),x∈es→t=x.body∨t=x.els→1≤dd→ -1≤q→q≤1000000→Below w.heap.size w W→Pak.Sits (stmtSh n) (Pak.Lo W.heap.size) W u t→Calls Tryz.prog 30 #[.slice u t.length c,.int .i64 q,.int .i64 (dd - 1)] W (SzP (∀k∈t,nmT2 n k) (ptTs n t) q W)):
 Calls Tryz.prog 30 #[.slice a m cap,.int .i64 l,.int .i64 dd] w (SzP (∀x∈es,nmT2 (n+1) x) (ptTs (n+1) es) l w):=by
 have HS:=Lib.hid hs
 have HM:=Lib.hid hm
 have hmm:m≤9223372036854775807:=by rw[←hm];exact hs.1
 have HK:=Lib.hid hk
 have HD0:=Lib.hid hd0
 have HD1:=Lib.hid hd1
 have HL0:=Lib.hid hl0
 have HL1:=Lib.hid hl1
 clear hs hm hk hd0 hd1 hl0 hl1
 by_cases hz:dd=0
 ·have e0:(dd == 0)=true:=by rw[hz];rfl
  clear hz
  go_enter Tryz.func30,Tryz.ntmps30
  go_wp2_with fail
  go_ret
  exact⟨-1,rfl,by omega,HL0.out,fun h=>absurd h (by decide),Below.refl _ _⟩
 ·have e0:(dd == 0)=false:=beq_eq_false_iff_ne.2 hz
  have HD2:Hid (1≤dd):=Lib.hid (by have:=HD0.out;omega)
  have ed:IntKind.i64.wrap (dd - 1)=dd - 1:=IntWalk.i64_in _ (by have:=HD0.out;have:=HD1.out;omega)
  clear hz
  go_enter Tryz.func30,Tryz.ntmps30
  go_wp2_with fail
  go_loopw [1,7] (fun t i wr=>∃(j:Nat) (x:Int),j≤m∧t= .int .i64 x∧i= .int .i64 j∧Hid (-1≤x∧x≤l∧(0≤x→x+ptTs (n+1) (es.take j)≤l∧∀y∈es.take j,nmT2 (n+1) y))∧Hid (Below w.heap.size w wr)) (fun _ i _=>m - (intOf i).toNat)
  case atStart=>exact⟨0,l,Nat.zero_le _,rfl,rfl,Lib.hid ⟨HL0.out,Int.le_refl _,fun _=>⟨by simp[ptTs],fun y h=>by simp at h⟩⟩,Below.refl _ _⟩
  case round=>
   obtain⟨j,x,hj,rfl,rfl,hin,hbr⟩:=hrel
   obtain⟨wo,rfl⟩:∃wo:World,wo=wr:=⟨_,rfl⟩
   by_cases hx:0≤x
   ·have g1:decide (x ≥ 0)=true:=decide_eq_true hx
    have g2:decide (0≤x)=true:=decide_eq_true hx
    have ex:IntKind.i64.wrap (x - 1)=x - 1:=IntWalk.i64_in _ (by have:=hin.out;have:=HL1.out;omega)
    have HX:=Lib.hid hx
    clear hx
    by_cases hlt:j<m
    ·have hlx:j<es.length:=by rw[HM.out];exact hlt
     obtain⟨b,off,cs,rfl,hbl,hc,hr⟩:=(HS.out.below hbr.out hbr.out.size).2 j hlx
     have HND:=Lib.hid (And.intro (ptTs_snoc (n:=n+1) hlx) (fun(h1:∀y∈es.take j,nmT2 (n+1) y) (h2:nmT2 (n+1) es[j])=>take_snoc_all hlx h1 h2))
     have HKB:=Lib.hid (fun u c q W=>HK.out es[j] es[j].body u c q W (List.getElem_mem hlx) (.inl rfl) HD2.out)
     have HKL:=Lib.hid (fun u c q W=>HK.out es[j] es[j].els u c q W (List.getElem_mem hlx) (.inr rfl) HD2.out)
     have hlen:=(stmtSh (n+1)).len hr
     have hone:=(stmtSh (n+1)).one hr
     rw[stmtSh_k]at hlen hc
     have HC0:Hid (∀i v,cs[i]? =some v→wo.cell? ((⟨b,off+j*35,none⟩:Addr).add i)=some v):=fun i v hv=>by
      rw[show(⟨b,off+j*35,none⟩:Addr).add i=⟨b,off+j*35+i,none⟩ by unfold Addr.add;split<;>simp_all]
      exact hc i v hv
     have HL:=Lib.hid hlen
     have HO:=Lib.hid hone
     obtain⟨ce,cv,cc,ca,a1,a2,a3,a4,a5,d1,d2,d3,d4,d5,H⟩:=stmt_is hr
     obtain⟨u1,k1,u2,k2,rfl⟩:=cond_form H.rc
     obtain⟨u3,k3,rfl⟩:=expr_form H.re
     obtain⟨u4,k4,rfl⟩:=expr_form H.rv
     have hla:=((assnSh n).len H.ra).trans (assnSh_k _)
     have HN0:Hid (ptT (n+1) es[j]=1+ptCs n [es[j].p.c]+ptEs n [es[j].p.e,es[j].p.v]+ptEs n es[j].p.args+ptEs n es[j].p.ghosts+ptAs n [es[j].p.a]+ptTs n es[j].body+ptTs n es[j].els∧((∀x∈[es[j].p.c],nmC2 n x)→(∀x∈[es[j].p.e,es[j].p.v],nmE2 n x)→(∀x∈es[j].p.args,nmE2 n x)→(∀x∈es[j].p.ghosts,nmE2 n x)→(∀x∈[es[j].p.a],nmA2 n x)→(∀x∈es[j].body,nmT2 n x)→(∀x∈es[j].els,nmT2 n x)→es[j].p.fields.length≤50→es[j].p.name.size≤200→es[j].p.field.size≤200→es[j].p.callee.size≤200→nmT2 (n+1) es[j])):=Lib.hid ⟨ptT_succ n es[j],fun h1 h2 h3 h4 h5 h6 h7 h8 h9 h10 h11=>⟨h1,h2,h3,h4,h5,h6,h7,h8,h9,h10,h11⟩⟩
     clear hc hr hlen hone
     generalize es[j]=y at*
     have HH:=Lib.hid H
     have HQ:Hid (∀W,Bx wo cs 47 W→∀o v,cs[o]? =some v→W.cell? ⟨wo.heap.size,o,none⟩=some v):=Lib.hid fun W hW o v hv=>hW.at hv
     have HUP:Hid (∀W,Bx wo cs 47 W→Below w.heap.size w W):=Lib.hid fun W hW=>hW.low hbr.out
     have HUO:Hid (∀W,Bx wo cs 47 W→Below wo.heap.size wo W):=Lib.hid fun W hW=>hW.low (Below.refl _ _)
     have HE0:Hid ((wo.alloc (.cells cs.toArray 47)).heap.size=wo.heap.size+1):=Lib.hid (by simp)
     have HC1:=Lib.hid (sizeC_any n [y.p.c] (some ⟨(wo.alloc (.cells cs.toArray 47)).heap.size,0,none⟩) 1 (x - 1) (dd - 1) ((wo.alloc (.cells cs.toArray 47)).alloc (.cells #[.int .i64 y.p.c.kind,.slice u1 y.p.c.es.length k1,.slice u2 y.p.c.ks.length k2] 41)) (by have:=HD2.out;omega) (by have:=HD1.out;omega) (by have:=HX.out;omega) (by have:=hin.out;have:=HL1.out;omega) (sits_blk (heap_alloc_new _ _) (by simp) (rel_low H.rc (HUO.out _ ((Bx.start wo cs _).alloc _ _)))))
     rw[HE0.out]at HC1
     have HC2:=Lib.hid (fun q W hq0 hq1 (hW:Bx wo cs 47 W)=>sizeE_any n [y.p.e,y.p.v] (some ⟨W.heap.size,0,none⟩) 2 q (dd - 1) (W.alloc (.cells #[.int .i64 y.p.e.kind,.int .i64 y.p.e.n,.string y.p.e.name,.slice u3 y.p.e.ks.length k3,.int .i64 y.p.v.kind,.int .i64 y.p.v.n,.string y.p.v.name,.slice u4 y.p.v.ks.length k4] 37)) (by have:=HD2.out;omega) (by have:=HD1.out;omega) hq0 hq1 (sits_two2 (cs:=[.int .i64 y.p.e.kind,.int .i64 y.p.e.n,.string y.p.e.name,.slice u3 y.p.e.ks.length k3]) (ds:=[.int .i64 y.p.v.kind,.int .i64 y.p.v.n,.string y.p.v.name,.slice u4 y.p.v.ks.length k4]) (heap_alloc_new W _) (by simp) (by rw[exprSh_k];rfl) (rel_low H.re (HUO.out _ (hW.alloc _ _))) (rel_low H.rv (HUO.out _ (hW.alloc _ _)))))
     have HC3:=Lib.hid (fun q W hq0 hq1 (hW:Bx wo cs 47 W)=>sizeE_any n y.p.args a1 d1 q (dd - 1) W (by have:=HD2.out;omega) (by have:=HD1.out;omega) hq0 hq1 (H.rargs.below (HUO.out _ hW) (HUO.out _ hW).size))
     have HC4:=Lib.hid (fun q W hq0 hq1 (hW:Bx wo cs 47 W)=>sizeE_any n y.p.ghosts a2 d2 q (dd - 1) W (by have:=HD2.out;omega) (by have:=HD1.out;omega) hq0 hq1 (H.rghosts.below (HUO.out _ hW) (HUO.out _ hW).size))
     have HC5:=Lib.hid (fun q W hq0 hq1 (hW:Bx wo cs 47 W)=>sizeA_all n [y.p.a] (some ⟨W.heap.size,0,none⟩) 1 q (dd - 1) (W.alloc (.cells ca.toArray 44)) (by have:=HD2.out;omega) (by have:=HD1.out;omega) hq0 hq1 (sits_blk (heap_alloc_new _ _) (by simp) (rel_low H.ra (HUO.out _ (hW.alloc _ _)))))
     have HC6:=Lib.hid (fun q W hq0 hq1 (hW:Bx wo cs 47 W)=>HKB.out a4 d4 q W hq0 hq1 (HUP.out _ hW) (H.rbody.below (HUO.out _ hW) (HUO.out _ hW).size))
     have HC7:=Lib.hid (fun q W hq0 hq1 (hW:Bx wo cs 47 W)=>HKL.out a5 d5 q W hq0 hq1 (HUP.out _ hW) (H.rels.below (HUO.out _ hW) (HUO.out _ hW).size))
     have HP:=Lib.hid H.pa
     have HLA:=Lib.hid hla
     have hji:(j:Int)<(m:Int):=by omega
     have hfold:List.foldl (fun(xs:Array Value) (x:Value×Nat)=>xs.setIfInBounds x.2 x.1) #[.int .i64 0,.int .i64 0,.slice none 0 0,.slice none 0 0,.int .i64 0,.int .i64 0,.string ⟨#[]⟩,.slice none 0 0,.int .i64 0,.int .i64 0,.string ⟨#[]⟩,.slice none 0 0,.string ⟨#[]⟩,.int .i64 0,.slice none 0 0] ca.zipIdx=ca.toArray:=fold_put2 ca [] [.int .i64 0,.int .i64 0,.slice none 0 0,.slice none 0 0,.int .i64 0,.int .i64 0,.string ⟨#[]⟩,.slice none 0 0,.int .i64 0,.int .i64 0,.string ⟨#[]⟩,.slice none 0 0,.string ⟨#[]⟩,.int .i64 0,.slice none 0 0] (by rw[hla];rfl)
     have f0:=Lib.hid H.name
     have f1:=Lib.hid H.field
     have f2:=Lib.hid H.callee
     have f3:=Lib.hid (And.intro H.args H.ghosts)
     have f4:=Lib.hid (And.intro H.body H.els)
     have f5:=Lib.hid H.fields
     have fc:=Lib.hid H.pc
     have fe:=Lib.hid H.pe
     have fv:=Lib.hid H.pv
     clear H HH hla HKB HKL
     have HP0:=Lib.hid (hin.out.2.2 HX.out).2
     generalize (∀x∈[y.p.c],nmC2 n x)=PC at*
     generalize (∀x∈[y.p.e,y.p.v],nmE2 n x)=PE at*
     generalize (∀x∈y.p.args,nmE2 n x)=PS at*
     generalize (∀x∈y.p.ghosts,nmE2 n x)=PG at*
     generalize (∀x∈[y.p.a],nmA2 n x)=PA at*
     generalize (∀x∈y.body,nmT2 n x)=PB at*
     generalize (∀x∈y.els,nmT2 n x)=PL at*
     generalize ptCs n [y.p.c]=nc at*
     generalize ptEs n [y.p.e,y.p.v]=ne at*
     generalize ptEs n y.p.args=n3 at*
     generalize ptEs n y.p.ghosts=n4 at*
     generalize ptAs n [y.p.a]=n5 at*
     generalize ptTs n y.body=n6 at*
     generalize ptTs n y.els=n7 at*
     generalize y.p.args.length=k3x at*
     generalize y.p.ghosts.length=k4x at*
     generalize y.p.fields.length=nf at*
     generalize y.body.length=m6 at*
     generalize y.els.length=m7 at*
     generalize y.p.name=nm1 at*
     generalize y.p.field=nm2 at*
     generalize y.p.callee=nm3 at*
     generalize ptTs (n+1) (es.take j)=n0 at*
     have q12:=(Bx.start wo cs 47).at (o:=12) (fc.out.at (j:=0) rfl)
     have q13:=(Bx.start wo cs 47).at (o:=13) (fc.out.at (j:=1) rfl)
     have q14:=(Bx.start wo cs 47).at (o:=14) (fc.out.at (j:=2) rfl)
     go_wp2_with (first | (refine wpList_store_new (by kernel_rfl) 47 _ _ rfl _ rfl cs rfl (by rw[HL.out];kernel_rfl) (by rw[HL.out];rfl) HO.out ?_) | (refine wpList_load_w (by kernel_rfl) 47 _ rfl ⟨b,off+j*35,none⟩ rfl cs _ HC0.out Tryz.underlying47 rfl (by rw[HL.out];kernel_rfl) ?_))
     refine HC1.out.mono ?_
     rintro r w3 ⟨x1,rfl,h1,h2,h3,hb⟩
     have B1:Hid (Bx wo cs 47 w3):=Lib.hid (((Bx.start wo cs _).alloc _ _).step hb)
     have I1:Hid (-1≤x1∧x1≤l∧(0≤x1→x1+((n0+1+nc:Nat):Int)≤l∧PC)):=Lib.hid ⟨h1,by have:=hin.out.2.1;omega,fun h=>⟨by have r2:=(h3 h).1;have r3:=(hin.out.2.2 HX.out).1;omega,(h3 h).2⟩⟩
     clear h1 h2 h3 hb HC1 q12 q13 q14 hin HX g1 g2 ex HC0 HL HO
     go_upto_if 34 with fail
     go_cut [1] (fun s wx=>∃y:Int,s= .int .i64 y∧Hid (-1≤y∧y≤l∧(0≤y→y+((n0+1+nc+ne:Nat):Int)≤l∧(PC∧PE)))∧Hid (Bx wo cs 47 wx))
     case first=>
      by_cases hx:0≤x1
      ·have p1:decide (x1 ≥ 0)=true:=decide_eq_true hx
       have p2:decide (0≤x1)=true:=decide_eq_true hx
       rw[p2]
       have HX:=Lib.hid hx
       have c4:=B1.out.at (o:=4) (fe.out.at (j:=0) rfl)
       have c5:=B1.out.at (o:=5) (fe.out.at (j:=1) rfl)
       have c6:=B1.out.at (o:=6) (fe.out.at (j:=2) rfl)
       have c7:=B1.out.at (o:=7) (fe.out.at (j:=3) rfl)
       have c8:=B1.out.at (o:=8) (fv.out.at (j:=0) rfl)
       have c9:=B1.out.at (o:=9) (fv.out.at (j:=1) rfl)
       have c10:=B1.out.at (o:=10) (fv.out.at (j:=2) rfl)
       have c11:=B1.out.at (o:=11) (fv.out.at (j:=3) rfl)
       clear hx
       have HCD:=Lib.hid (HC2.out x1 w3 (by have:=I1.out;omega) (by have:=I1.out;have:=HL1.out;omega) B1.out)
       go_wp2_with fail
       refine HCD.out.mono ?_
       rintro r w4 ⟨z,rfl,h1,h2,h3,hb⟩
       have BN:Hid (Bx wo cs 47 w4):=Lib.hid ((B1.out.alloc _ _).step hb)
       have IN:Hid (-1≤z∧z≤l∧(0≤z→z+((n0+1+nc+ne:Nat):Int)≤l∧(PC∧PE))):=Lib.hid (by have q:=I1.out.2.1;refine⟨h1,by omega,fun h=> ?_⟩;have q2:=h3 h;have q3:=I1.out.2.2 HX.out;exact⟨(by have r2:=q2.1;have r3:=q3.1;omega),q3.2,q2.2⟩)
       clear h1 h2 h3 hb HCD
       go_wp2_with fail
       go_meet
       case rel=>exact⟨z,rfl,IN,BN⟩
      ·have p1:decide (x1 ≥ 0)=false:=decide_eq_false hx
       have p2:decide (0≤x1)=false:=decide_eq_false hx
       rw[p2]
       have IN:Hid (-1≤x1∧x1≤l∧(0≤x1→x1+((n0+1+nc+ne:Nat):Int)≤l∧(PC∧PE))):=Lib.hid ⟨I1.out.1,I1.out.2.1,fun h=>absurd h hx⟩
       clear hx
       go_wp2_with fail
       go_meet
       case rel=>exact⟨x1,rfl,IN,B1⟩
     case rest=>
     obtain⟨x2,rfl,I2,B2⟩:=hcut
     obtain⟨v2,rfl⟩:∃v2:World,v2=wc:=⟨_,rfl⟩
     clear I1 B1
     go_upto_if 45 with fail
     go_cut [1] (fun s wx=>∃y:Int,s= .int .i64 y∧Hid (-1≤y∧y≤l∧(0≤y→y+((n0+1+nc+ne+n3:Nat):Int)≤l∧((PC∧PE)∧PS)))∧Hid (Bx wo cs 47 wx))
     case first=>
      by_cases hx:0≤x2
      ·have p1:decide (x2 ≥ 0)=true:=decide_eq_true hx
       have p2:decide (0≤x2)=true:=decide_eq_true hx
       rw[p2]
       have HX:=Lib.hid hx
       have c30:=B2.out.at (o:=30) (f3.out.1)
       clear hx
       have HCD:=Lib.hid (HC3.out x2 v2 (by have:=I2.out;omega) (by have:=I2.out;have:=HL1.out;omega) B2.out)
       go_wp2_with fail
       refine HCD.out.mono ?_
       rintro r w4 ⟨z,rfl,h1,h2,h3,hb⟩
       have BN:Hid (Bx wo cs 47 w4):=Lib.hid (B2.out.step hb)
       have IN:Hid (-1≤z∧z≤l∧(0≤z→z+((n0+1+nc+ne+n3:Nat):Int)≤l∧((PC∧PE)∧PS))):=Lib.hid (by have q:=I2.out.2.1;refine⟨h1,by omega,fun h=> ?_⟩;have q2:=h3 h;have q3:=I2.out.2.2 HX.out;exact⟨(by have r2:=q2.1;have r3:=q3.1;omega),q3.2,q2.2⟩)
       clear h1 h2 h3 hb HCD
       go_wp2_with fail
       go_meet
       case rel=>exact⟨z,rfl,IN,BN⟩
      ·have p1:decide (x2 ≥ 0)=false:=decide_eq_false hx
       have p2:decide (0≤x2)=false:=decide_eq_false hx
       rw[p2]
       have IN:Hid (-1≤x2∧x2≤l∧(0≤x2→x2+((n0+1+nc+ne+n3:Nat):Int)≤l∧((PC∧PE)∧PS))):=Lib.hid ⟨I2.out.1,I2.out.2.1,fun h=>absurd h hx⟩
       clear hx
       go_wp2_with fail
       go_meet
       case rel=>exact⟨x2,rfl,IN,B2⟩
     case rest=>
     obtain⟨x3,rfl,I3,B3⟩:=hcut
     obtain⟨v3,rfl⟩:∃v3:World,v3=wc:=⟨_,rfl⟩
     clear I2 B2
     go_upto_if 53 with fail
     go_cut [1] (fun s wx=>∃y:Int,s= .int .i64 y∧Hid (-1≤y∧y≤l∧(0≤y→y+((n0+1+nc+ne+n3+n4:Nat):Int)≤l∧(((PC∧PE)∧PS)∧PG)))∧Hid (Bx wo cs 47 wx))
     case first=>
      by_cases hx:0≤x3
      ·have p1:decide (x3 ≥ 0)=true:=decide_eq_true hx
       have p2:decide (0≤x3)=true:=decide_eq_true hx
       rw[p2]
       have HX:=Lib.hid hx
       have c31:=B3.out.at (o:=31) (f3.out.2)
       clear hx
       have HCD:=Lib.hid (HC4.out x3 v3 (by have:=I3.out;omega) (by have:=I3.out;have:=HL1.out;omega) B3.out)
       go_wp2_with fail
       refine HCD.out.mono ?_
       rintro r w4 ⟨z,rfl,h1,h2,h3,hb⟩
       have BN:Hid (Bx wo cs 47 w4):=Lib.hid (B3.out.step hb)
       have IN:Hid (-1≤z∧z≤l∧(0≤z→z+((n0+1+nc+ne+n3+n4:Nat):Int)≤l∧(((PC∧PE)∧PS)∧PG))):=Lib.hid (by have q:=I3.out.2.1;refine⟨h1,by omega,fun h=> ?_⟩;have q2:=h3 h;have q3:=I3.out.2.2 HX.out;exact⟨(by have r2:=q2.1;have r3:=q3.1;omega),q3.2,q2.2⟩)
       clear h1 h2 h3 hb HCD
       go_wp2_with fail
       go_meet
       case rel=>exact⟨z,rfl,IN,BN⟩
      ·have p1:decide (x3 ≥ 0)=false:=decide_eq_false hx
       have p2:decide (0≤x3)=false:=decide_eq_false hx
       rw[p2]
       have IN:Hid (-1≤x3∧x3≤l∧(0≤x3→x3+((n0+1+nc+ne+n3+n4:Nat):Int)≤l∧(((PC∧PE)∧PS)∧PG))):=Lib.hid ⟨I3.out.1,I3.out.2.1,fun h=>absurd h hx⟩
       clear hx
       go_wp2_with fail
       go_meet
       case rel=>exact⟨x3,rfl,IN,B3⟩
     case rest=>
     obtain⟨x4,rfl,I4,B4⟩:=hcut
     obtain⟨v4,rfl⟩:∃v4:World,v4=wc:=⟨_,rfl⟩
     clear I3 B3
     go_upto_if 61 with fail
     go_cut [1] (fun s wx=>∃y:Int,s= .int .i64 y∧Hid (-1≤y∧y≤l∧(0≤y→y+((n0+1+nc+ne+n3+n4+n5:Nat):Int)≤l∧((((PC∧PE)∧PS)∧PG)∧PA)))∧Hid (Bx wo cs 47 wx))
     case first=>
      by_cases hx:0≤x4
      ·have p1:decide (x4 ≥ 0)=true:=decide_eq_true hx
       have p2:decide (0≤x4)=true:=decide_eq_true hx
       rw[p2]
       have HX:=Lib.hid hx
       have hla2:=HLA.out
       clear hx
       have HCD:=Lib.hid (HC5.out x4 v4 (by have:=I4.out;omega) (by have:=I4.out;have:=HL1.out;omega) B4.out)
       go_wp2_with (first | go_skip | (refine wpList_load_w (by kernel_rfl) 44 _ rfl ⟨wo.heap.size,15,none⟩ rfl ca _ (box_part HP.out B4.out) Tryz.underlying44 rfl (by rw[HLA.out];kernel_rfl) ?_))
       refine HCD.out.mono ?_
       rintro r w4 ⟨z,rfl,h1,h2,h3,hb⟩
       have BN:Hid (Bx wo cs 47 w4):=Lib.hid ((B4.out.alloc _ _).step hb)
       have IN:Hid (-1≤z∧z≤l∧(0≤z→z+((n0+1+nc+ne+n3+n4+n5:Nat):Int)≤l∧((((PC∧PE)∧PS)∧PG)∧PA))):=Lib.hid (by have q:=I4.out.2.1;refine⟨h1,by omega,fun h=> ?_⟩;have q2:=h3 h;have q3:=I4.out.2.2 HX.out;exact⟨(by have r2:=q2.1;have r3:=q3.1;omega),q3.2,q2.2⟩)
       clear h1 h2 h3 hb HCD
       go_wp2_with fail
       go_meet
       case rel=>exact⟨z,rfl,IN,BN⟩
      ·have p1:decide (x4 ≥ 0)=false:=decide_eq_false hx
       have p2:decide (0≤x4)=false:=decide_eq_false hx
       rw[p2]
       have IN:Hid (-1≤x4∧x4≤l∧(0≤x4→x4+((n0+1+nc+ne+n3+n4+n5:Nat):Int)≤l∧((((PC∧PE)∧PS)∧PG)∧PA))):=Lib.hid ⟨I4.out.1,I4.out.2.1,fun h=>absurd h hx⟩
       clear hx
       go_wp2_with fail
       go_meet
       case rel=>exact⟨x4,rfl,IN,B4⟩
     case rest=>
     obtain⟨x5,rfl,I5,B5⟩:=hcut
     obtain⟨v5,rfl⟩:∃v5:World,v5=wc:=⟨_,rfl⟩
     clear I4 B4
     go_upto_if 70 with fail
     go_cut [1] (fun s wx=>∃y:Int,s= .int .i64 y∧Hid (-1≤y∧y≤l∧(0≤y→y+((n0+1+nc+ne+n3+n4+n5+n6:Nat):Int)≤l∧(((((PC∧PE)∧PS)∧PG)∧PA)∧PB)))∧Hid (Bx wo cs 47 wx))
     case first=>
      by_cases hx:0≤x5
      ·have p1:decide (x5 ≥ 0)=true:=decide_eq_true hx
       have p2:decide (0≤x5)=true:=decide_eq_true hx
       rw[p2]
       have HX:=Lib.hid hx
       have c33:=B5.out.at (o:=33) (f4.out.1)
       clear hx
       have HCD:=Lib.hid (HC6.out x5 v5 (by have:=I5.out;omega) (by have:=I5.out;have:=HL1.out;omega) B5.out)
       go_wp2_with fail
       refine HCD.out.mono ?_
       rintro r w4 ⟨z,rfl,h1,h2,h3,hb⟩
       have BN:Hid (Bx wo cs 47 w4):=Lib.hid (B5.out.step hb)
       have IN:Hid (-1≤z∧z≤l∧(0≤z→z+((n0+1+nc+ne+n3+n4+n5+n6:Nat):Int)≤l∧(((((PC∧PE)∧PS)∧PG)∧PA)∧PB))):=Lib.hid (by have q:=I5.out.2.1;refine⟨h1,by omega,fun h=> ?_⟩;have q2:=h3 h;have q3:=I5.out.2.2 HX.out;exact⟨(by have r2:=q2.1;have r3:=q3.1;omega),q3.2,q2.2⟩)
       clear h1 h2 h3 hb HCD
       go_wp2_with fail
       go_meet
       case rel=>exact⟨z,rfl,IN,BN⟩
      ·have p1:decide (x5 ≥ 0)=false:=decide_eq_false hx
       have p2:decide (0≤x5)=false:=decide_eq_false hx
       rw[p2]
       have IN:Hid (-1≤x5∧x5≤l∧(0≤x5→x5+((n0+1+nc+ne+n3+n4+n5+n6:Nat):Int)≤l∧(((((PC∧PE)∧PS)∧PG)∧PA)∧PB))):=Lib.hid ⟨I5.out.1,I5.out.2.1,fun h=>absurd h hx⟩
       clear hx
       go_wp2_with fail
       go_meet
       case rel=>exact⟨x5,rfl,IN,B5⟩
     case rest=>
     obtain⟨x6,rfl,I6,B6⟩:=hcut
     obtain⟨v6,rfl⟩:∃v6:World,v6=wc:=⟨_,rfl⟩
     clear I5 B5
     go_upto_if 78 with fail
     go_cut [1] (fun s wx=>∃y:Int,s= .int .i64 y∧Hid (-1≤y∧y≤l∧(0≤y→y+((n0+1+nc+ne+n3+n4+n5+n6+n7:Nat):Int)≤l∧((((((PC∧PE)∧PS)∧PG)∧PA)∧PB)∧PL)))∧Hid (Bx wo cs 47 wx))
     case first=>
      by_cases hx:0≤x6
      ·have p1:decide (x6 ≥ 0)=true:=decide_eq_true hx
       have p2:decide (0≤x6)=true:=decide_eq_true hx
       rw[p2]
       have HX:=Lib.hid hx
       have c34:=B6.out.at (o:=34) (f4.out.2)
       clear hx
       have HCD:=Lib.hid (HC7.out x6 v6 (by have:=I6.out;omega) (by have:=I6.out;have:=HL1.out;omega) B6.out)
       go_wp2_with fail
       refine HCD.out.mono ?_
       rintro r w4 ⟨z,rfl,h1,h2,h3,hb⟩
       have BN:Hid (Bx wo cs 47 w4):=Lib.hid (B6.out.step hb)
       have IN:Hid (-1≤z∧z≤l∧(0≤z→z+((n0+1+nc+ne+n3+n4+n5+n6+n7:Nat):Int)≤l∧((((((PC∧PE)∧PS)∧PG)∧PA)∧PB)∧PL))):=Lib.hid (by have q:=I6.out.2.1;refine⟨h1,by omega,fun h=> ?_⟩;have q2:=h3 h;have q3:=I6.out.2.2 HX.out;exact⟨(by have r2:=q2.1;have r3:=q3.1;omega),q3.2,q2.2⟩)
       clear h1 h2 h3 hb HCD
       go_wp2_with fail
       go_meet
       case rel=>exact⟨z,rfl,IN,BN⟩
      ·have p1:decide (x6 ≥ 0)=false:=decide_eq_false hx
       have p2:decide (0≤x6)=false:=decide_eq_false hx
       rw[p2]
       have IN:Hid (-1≤x6∧x6≤l∧(0≤x6→x6+((n0+1+nc+ne+n3+n4+n5+n6+n7:Nat):Int)≤l∧((((((PC∧PE)∧PS)∧PG)∧PA)∧PB)∧PL))):=Lib.hid ⟨I6.out.1,I6.out.2.1,fun h=>absurd h hx⟩
       clear hx
       go_wp2_with fail
       go_meet
       case rel=>exact⟨x6,rfl,IN,B6⟩
     case rest=>
     obtain⟨x7,rfl,I7,B7⟩:=hcut
     obtain⟨v7,rfl⟩:∃v7:World,v7=wc:=⟨_,rfl⟩
     clear I6 B6
     have HN:Hid (nf≤50→nm1.size≤200→nm2.size≤200→nm3.size≤200→ -1≤x7∧x7≤l∧(0≤x7→x7+ptTs (n+1) (es.take (j+1))≤l∧∀y∈es.take (j+1),nmT2 (n+1) y)):=Lib.hid (fun g1 g2 g3 g4=>by
      refine⟨I7.out.1,I7.out.2.1,fun h=> ?_⟩
      have r1:=HND.out.1
      have r2:=HN0.out.1
      obtain⟨q3,⟨⟨⟨⟨⟨⟨p1,p2⟩,p3⟩,p4⟩,p5⟩,p6⟩,p7⟩⟩:=I7.out.2.2 h
      exact⟨(by omega),HND.out.2 HP0.out (HN0.out.2 p1 p2 p3 p4 p5 p6 p7 g1 g2 g3 g4)⟩)
     have HBN:Hid (Below w.heap.size w v7):=Lib.hid (HUP.out _ B7.out)
     have c32:=B7.out.at (o:=32) f5.out
     have c1:=B7.out.at (o:=1) f0.out
     have c2:=B7.out.at (o:=2) f1.out
     have c3:=B7.out.at (o:=3) f2.out
     clear I7 B7 HC2 HC3 HC4 HC5 HC6 HC7 HND HN0 HP0 HQ HUP HUO hfold HP HLA f0 f1 f2 f3 f4 f5 fc fe fv
     by_cases hn0:(50:Int)<(nf:Int)
     ·have t0:decide ((nf:Int) > 50)=true:=decide_eq_true hn0
      have s0:decide ((50:Int)<(nf:Int))=true:=decide_eq_true hn0
      have r0:50<nf:=by omega
      clear hn0
      go_wp2_with fail
      go_ret
      exact⟨-1,rfl,by omega,HL0.out,fun h=>absurd h (by decide),HBN.out⟩
     ·have t0:decide ((nf:Int) > 50)=false:=decide_eq_false hn0
      have s0:decide ((50:Int)<(nf:Int))=false:=decide_eq_false hn0
      have r0:¬ 50<nf:=by omega
      clear hn0
      by_cases hn1:(200:Int)<(nm1.size:Int)
      ·have t1:decide ((nm1.size:Int) > 200)=true:=decide_eq_true hn1
       have s1:decide ((200:Int)<(nm1.size:Int))=true:=decide_eq_true hn1
       have r1:200<nm1.size:=by omega
       clear hn1
       go_wp2_with fail
       go_ret
       exact⟨-1,rfl,by omega,HL0.out,fun h=>absurd h (by decide),HBN.out⟩
      ·have t1:decide ((nm1.size:Int) > 200)=false:=decide_eq_false hn1
       have s1:decide ((200:Int)<(nm1.size:Int))=false:=decide_eq_false hn1
       have r1:¬ 200<nm1.size:=by omega
       clear hn1
       by_cases hn2:(200:Int)<(nm2.size:Int)
       ·have t2:decide ((nm2.size:Int) > 200)=true:=decide_eq_true hn2
        have s2:decide ((200:Int)<(nm2.size:Int))=true:=decide_eq_true hn2
        have r2:200<nm2.size:=by omega
        clear hn2
        go_wp2_with fail
        go_ret
        exact⟨-1,rfl,by omega,HL0.out,fun h=>absurd h (by decide),HBN.out⟩
       ·have t2:decide ((nm2.size:Int) > 200)=false:=decide_eq_false hn2
        have s2:decide ((200:Int)<(nm2.size:Int))=false:=decide_eq_false hn2
        have r2:¬ 200<nm2.size:=by omega
        clear hn2
        by_cases hn3:(200:Int)<(nm3.size:Int)
        ·have t3:decide ((nm3.size:Int) > 200)=true:=decide_eq_true hn3
         have s3:decide ((200:Int)<(nm3.size:Int))=true:=decide_eq_true hn3
         have r3:200<nm3.size:=by omega
         clear hn3
         go_wp2_with fail
         go_ret
         exact⟨-1,rfl,by omega,HL0.out,fun h=>absurd h (by decide),HBN.out⟩
        ·have t3:decide ((nm3.size:Int) > 200)=false:=decide_eq_false hn3
         have s3:decide ((200:Int)<(nm3.size:Int))=false:=decide_eq_false hn3
         have r3:¬ 200<nm3.size:=by omega
         clear hn3
         go_wp2_with fail
         go_roundw
         case rel=>first | exact⟨j+1,x7,by omega,rfl,by go_num,Lib.hid (HN.out (by omega) (by omega) (by omega) (by omega)),HBN⟩ | ((repeat apply Exists.intro);exact⟨⟨j+1,x7,by omega,rfl,by go_num,Lib.hid (HN.out (by omega) (by omega) (by omega) (by omega)),HBN⟩,rfl⟩)
         case measure=>simp[intOf];omega
    ·obtain rfl:j=m:=by omega
     have HE:Hid (SzP (∀x∈es,nmT2 (n+1) x) (ptTs (n+1) es) l w (.returned (.int .i64 x)) wo):=Lib.hid ⟨x,rfl,hin.out.1,hin.out.2.1,by have h:=hin.out.2.2;rw[←HM.out,List.take_length]at h;exact h,hbr.out⟩
     go_wp2_with fail
     go_ret
     exact HE.out
   ·have g1:decide (x ≥ 0)=false:=decide_eq_false hx
    have g2:decide (0≤x)=false:=decide_eq_false hx
    have HE:Hid (SzP (∀x∈es,nmT2 (n+1) x) (ptTs (n+1) es) l w (.returned (.int .i64 x)) wo):=Lib.hid ⟨x,rfl,hin.out.1,hin.out.2.1,fun h=>absurd h hx,hbr.out⟩
    clear hx
    by_cases hlt:j<m
    ·have hji:(j:Int)<(m:Int):=by omega
     go_wp2_with fail
     go_ret
     exact HE.out
    ·obtain rfl:j=m:=by omega
     go_wp2_with fail
     go_ret
     exact HE.out
theorem sizeS_all:∀(n:Nat) (es:List ST) (a:Option Addr) (cap:Nat) (l dd:Int) (w:World),0≤dd→dd≤300→ -1≤l→l≤1000000→Pak.Sits (stmtSh n) (Pak.Lo w.heap.size) w a es→
 Calls Tryz.prog 30 #[.slice a es.length cap,.int .i64 l,.int .i64 dd] w (SzP (∀x∈es,nmT2 n x) (ptTs n es) l w)
 | 0,es,a,cap,l,dd,w,h1,h2,h3,h4,hs=>by
   have he:es=[]:=by
    cases es with
    | nil=>rfl
    | cons x xs=>
      obtain⟨_,_,_,_,_,_,hr⟩:=hs.2 0 (by simp)
      exact hr.elim
   subst he
   have h:=sizeS_box 0 [] a 0 cap l dd w rfl h1 h2 h3 h4 (Pak.Sits.nil _ _ _ _) fun x t u c q W hx _ _ _ _ _ _=>absurd hx (by simp)
   exact h.mono fun r w2 ⟨x,e1,e2,e3,e4,e5⟩=>⟨x,e1,e2,e3,fun h=>⟨by simpa [ptTs]using(e4 h).1,fun y hy=>by simp at hy⟩,e5⟩
 | n+1,es,a,cap,l,dd,w,h1,h2,h3,h4,hs=>
   sizeS_box n es a es.length cap l dd w rfl h1 h2 h3 h4 hs fun x t u c q W _ _ hd hq0 hq1 hW hsx=>
    sizeS_all n t u c q (dd - 1) W (by omega) (by omega) hq0 hq1 hsx
end
section
open Go.RowKit
theorem fold_at2 (o:Nat):∀(l:List Value) (k:Nat) (P R T:List Value),P.length=o+k→R.length=l.length→List.foldl (fun(cs:Array Value) (x:Value×Nat)=>cs.setIfInBounds (o+x.2) x.1) (P ++ (R ++ T)).toArray (l.zipIdx k)=(P ++ (l ++ T)).toArray
 | [],k,P,R,T,hp,h=>by rw[List.eq_nil_of_length_eq_zero h];rfl
 | x :: l,k,P,[],T,hp,h=>by cases h
 | x :: l,k,P,y :: R,T,hp,h=>by
   rw[List.zipIdx_cons,List.foldl_cons]
   have e:((P ++ (y :: R ++ T)).toArray).setIfInBounds (o+k) x=((P ++ [x]) ++ (R ++ T)).toArray:=by
    rw[List.setIfInBounds_toArray]
    congr 1
    rw[←hp,List.set_append_right _ _ (Nat.le_refl _),Nat.sub_self,List.cons_append,List.set_cons_zero]
    simp
   rw[e,fold_at2 o l (k+1) (P ++ [x]) R T (by rw[List.length_append,hp];simp;omega) (by simpa using h)]
   simp
def OkQ (n L:Nat)(q:QT):Prop:=q.params.length≤50∧q.ghosts.length≤50∧q.name.size≤200∧(∀x∈[q.pre,q.post],nmA2 n x)∧ptAs n [q.pre,q.post]≤L∧(∀x∈q.body,nmT2 n x)∧ptTs n q.body≤L
def LtEnd (n:Nat)(qs:List QT)(L:Nat)(w:World)(r:Ending)(w':World):Prop:=∃b,r= .returned (.bool b)∧(b=true→qs.length≤50∧∀q∈qs,OkQ n L q)∧Below w.heap.size w w'
theorem light16_any (n:Nat)(qs:List QT)(a:Option Addr)(m cap L:Nat)(w:World)(hm:qs.length=m)(hL:L≤1000000)(hs:Pak.Sits (procSh n) (Pak.Lo w.heap.size) w a qs):
 Calls Tryz.prog 12 #[.agg #[.slice a m cap],.int .i64 L] w (LtEnd n qs L w):=by
 have HS:=Lib.hid hs
 have HM:=Lib.hid hm
 have HL:=Lib.hid hL
 have hmm:m≤9223372036854775807:=by rw[←hm];exact hs.1
 have XB0:Hid (Bx w [.slice a m cap] 24 (w.alloc (.cells #[.slice a m cap] 24))):=Lib.hid (Bx.start _ _ _)
 have HLW:Hid (∀W,Bx w [.slice a m cap] 24 W→Below w.heap.size w W):=Lib.hid fun W hW=>hW.low (Below.refl _ _)
 clear hs hm hL
 by_cases h50:50<m
 ·have h50i:(50:Int)<(m:Int):=by omega
  clear h50
  go_enter Tryz.func12,Tryz.ntmps12
  have c0:=XB0.out.at (o:=0) rfl
  go_wp2_with fail
  go_ret
  exact⟨false,rfl,fun h=>(by cases h),HLW.out _ XB0.out⟩
 ·have h50i:¬(50:Int)<(m:Int):=by omega
  have HMM:Hid (m≤50):=Lib.hid (by omega)
  clear h50
  go_enter Tryz.func12,Tryz.ntmps12
  have c0:=XB0.out.at (o:=0) rfl
  go_wp2_with fail
  clear c0
  go_loopw [1,5] (fun t i wr=>∃(j:Nat) (x:Int),j≤m∧t= .int .i64 x∧i= .int .i64 j∧Hid (-1≤x∧x≤L∧(0≤x→∀q∈qs.take j,OkQ n L q))∧Hid (Bx w [.slice a m cap] 24 wr)) (fun _ i _=>m - (intOf i).toNat)
  case atStart=>exact⟨0,(L:Int),Nat.zero_le _,rfl,rfl,Lib.hid ⟨by omega,Int.le_refl _,fun _ q h=>by simp at h⟩,XB0⟩
  case round=>
   obtain⟨j,x,hj,rfl,rfl,hin,hxb⟩:=hrel
   obtain⟨wo,rfl⟩:∃wo:World,wo=wr:=⟨_,rfl⟩
   have c0:=hxb.out.at (o:=0) rfl
   by_cases hlt:j<m
   ·have hji:(j:Int)<(m:Int):=by omega
    by_cases hx:0≤x
    ·have g1:decide (x ≥ 0)=true:=decide_eq_true hx
     have g2:decide (0≤x)=true:=decide_eq_true hx
     have HX:=Lib.hid hx
     have HIN:=Lib.hid hin.out
     have HXB:=Lib.hid hxb.out
     have HWO:=Lib.hid (HLW.out _ hxb.out)
     clear hx
     have hlx:j<qs.length:=by rw[HM.out];exact hlt
     obtain⟨b,off,cs,rfl,hbl,hc,hr⟩:=(HS.out.below HWO.out HWO.out.size).2 j hlx
     have HSN:=Lib.hid (fun(h1:∀y∈qs.take j,OkQ n L y) (h2:OkQ n L qs[j])=>take_snoc_all hlx h1 h2)
     rw[procSh_k]at hc
     have HC0:Hid (∀i v,cs[i]? =some v→wo.cell? ((⟨b,off+j*34,none⟩:Addr).add i)=some v):=fun i v hv=>by
      rw[show(⟨b,off+j*34,none⟩:Addr).add i=⟨b,off+j*34+i,none⟩ by unfold Addr.add;split<;>simp_all]
      exact hc i v hv
     obtain⟨ca,cb,a1,a2,a3,d1,d2,d3,H⟩:=proc_is hr
     have HCL:=Lib.hid H.len
     have HO:=Lib.hid H.one
     have hla:=((assnSh n).len H.rpre).trans (assnSh_k _)
     have hlb:=((assnSh n).len H.rpost).trans (assnSh_k _)
     have HOK:Hid (qs[j].params.length≤50→qs[j].ghosts.length≤50→qs[j].name.size≤200→(∀x∈[qs[j].pre,qs[j].post],nmA2 n x)→ptAs n [qs[j].pre,qs[j].post]≤L→(∀x∈qs[j].body,nmT2 n x)→ptTs n qs[j].body≤L→OkQ n L qs[j]):=Lib.hid fun h1 h2 h3 h4 h5 h6 h7=>⟨h1,h2,h3,h4,h5,h6,h7⟩
     clear hc hr
     generalize qs[j]=y at*
     have HUO:Hid (∀W,Bx wo cs 49 W→Below wo.heap.size wo W):=Lib.hid fun W hW=>hW.low (Below.refl _ _)
     have HE0:Hid ((wo.alloc (.cells cs.toArray 49)).heap.size=wo.heap.size+1):=Lib.hid (by simp)
     have HC1:=Lib.hid (sizeA_all n [y.pre,y.post] (some ⟨(wo.alloc (.cells cs.toArray 49)).heap.size,0,none⟩) 2 x 300 ((wo.alloc (.cells cs.toArray 49)).alloc (.cells (ca ++ cb).toArray 44)) (by omega) (by omega) HIN.out.1 (by have:=HIN.out.2.1;have:=HL.out;omega) (sits_two2 (heap_alloc_new _ _) (by simp) (by rw[assnSh_k];exact hla) (rel_low H.rpre (HUO.out _ ((Bx.start wo cs _).alloc _ _))) (rel_low H.rpost (HUO.out _ ((Bx.start wo cs _).alloc _ _)))))
     rw[HE0.out]at HC1
     have HC2:=Lib.hid (fun q W hq0 hq1 (hW:Bx wo cs 49 W)=>sizeS_all n y.body a3 d3 q 300 W (by omega) (by omega) hq0 hq1 (H.rbody.below (HUO.out _ hW) (HUO.out _ hW).size))
     have hfold1:List.foldl (fun(xs:Array Value) (x:Value×Nat)=>xs.setIfInBounds x.2 x.1) #[.int .i64 0,.int .i64 0,.slice none 0 0,.slice none 0 0,.int .i64 0,.int .i64 0,.string ⟨#[]⟩,.slice none 0 0,.int .i64 0,.int .i64 0,.string ⟨#[]⟩,.slice none 0 0,.string ⟨#[]⟩,.int .i64 0,.slice none 0 0,.int .i64 0,.int .i64 0,.slice none 0 0,.slice none 0 0,.int .i64 0,.int .i64 0,.string ⟨#[]⟩,.slice none 0 0,.int .i64 0,.int .i64 0,.string ⟨#[]⟩,.slice none 0 0,.string ⟨#[]⟩,.int .i64 0,.slice none 0 0] ca.zipIdx=(ca ++ ([.int .i64 0,.int .i64 0,.slice none 0 0,.slice none 0 0,.int .i64 0,.int .i64 0,.string ⟨#[]⟩,.slice none 0 0,.int .i64 0,.int .i64 0,.string ⟨#[]⟩,.slice none 0 0,.string ⟨#[]⟩,.int .i64 0,.slice none 0 0]:List Value)).toArray:=by
      have h:=fold_at2 0 ca 0 [] [.int .i64 0,.int .i64 0,.slice none 0 0,.slice none 0 0,.int .i64 0,.int .i64 0,.string ⟨#[]⟩,.slice none 0 0,.int .i64 0,.int .i64 0,.string ⟨#[]⟩,.slice none 0 0,.string ⟨#[]⟩,.int .i64 0,.slice none 0 0] [.int .i64 0,.int .i64 0,.slice none 0 0,.slice none 0 0,.int .i64 0,.int .i64 0,.string ⟨#[]⟩,.slice none 0 0,.int .i64 0,.int .i64 0,.string ⟨#[]⟩,.slice none 0 0,.string ⟨#[]⟩,.int .i64 0,.slice none 0 0] rfl (by rw[hla];rfl)
      simp only[Nat.zero_add]at h
      exact h
     have hfold2:List.foldl (fun(xs:Array Value) (x:Value×Nat)=>xs.setIfInBounds (15+x.2) x.1) (ca ++ ([.int .i64 0,.int .i64 0,.slice none 0 0,.slice none 0 0,.int .i64 0,.int .i64 0,.string ⟨#[]⟩,.slice none 0 0,.int .i64 0,.int .i64 0,.string ⟨#[]⟩,.slice none 0 0,.string ⟨#[]⟩,.int .i64 0,.slice none 0 0]:List Value)).toArray cb.zipIdx=(ca ++ cb).toArray:=by
      have h:=fold_at2 15 cb 0 ca [.int .i64 0,.int .i64 0,.slice none 0 0,.slice none 0 0,.int .i64 0,.int .i64 0,.string ⟨#[]⟩,.slice none 0 0,.int .i64 0,.int .i64 0,.string ⟨#[]⟩,.slice none 0 0,.string ⟨#[]⟩,.int .i64 0,.slice none 0 0] [] (by rw[hla]) (by rw[hlb];rfl)
      simpa using h
     have HPR:=Lib.hid H.pre
     have HPO:=Lib.hid H.post
     have HLA:=Lib.hid hla
     have HLB:=Lib.hid hlb
     have q0:=(Bx.start wo cs 49).at (o:=0) H.name
     have q1:=(Bx.start wo cs 49).at (o:=1) H.params
     have q2:=(Bx.start wo cs 49).at (o:=2) H.ghosts
     have HB33:=Lib.hid H.body
     have HXN:Hid (∀W,Bx wo cs 49 W→Bx w [.slice (some ⟨b,off,none⟩) m cap] 24 W):=Lib.hid fun W hW=>HXB.out.step (HUO.out _ hW)
     clear H hin hxb
     generalize (∀x∈[y.pre,y.post],nmA2 n x)=PA at*
     generalize (∀x∈y.body,nmT2 n x)=PB at*
     generalize ptAs n [y.pre,y.post]=nA at*
     generalize ptTs n y.body=nB at*
     generalize y.params.length=k1 at*
     generalize y.ghosts.length=k2 at*
     generalize y.name=nm at*
     generalize y.body.length=k3 at*
     by_cases hn1:(50:Int)<(k1:Int)
     ·go_wp2_with (first | (refine wpList_store_new (by kernel_rfl) 49 _ _ rfl _ rfl cs rfl (by rw[HCL.out];kernel_rfl) (by rw[HCL.out];rfl) HO.out ?_) | (refine wpList_load_w (by kernel_rfl) 49 _ rfl ⟨b,off+j*34,none⟩ rfl cs _ HC0.out Tryz.underlying49 rfl (by rw[HCL.out];kernel_rfl) ?_))
      go_ret
      exact⟨false,rfl,fun h=>(by cases h),HLW.out _ (HXN.out _ (Bx.start wo cs _))⟩
     by_cases hn2:(50:Int)<(k2:Int)
     ·go_wp2_with (first | (refine wpList_store_new (by kernel_rfl) 49 _ _ rfl _ rfl cs rfl (by rw[HCL.out];kernel_rfl) (by rw[HCL.out];rfl) HO.out ?_) | (refine wpList_load_w (by kernel_rfl) 49 _ rfl ⟨b,off+j*34,none⟩ rfl cs _ HC0.out Tryz.underlying49 rfl (by rw[HCL.out];kernel_rfl) ?_))
      go_ret
      exact⟨false,rfl,fun h=>(by cases h),HLW.out _ (HXN.out _ (Bx.start wo cs _))⟩
     by_cases hn3:(200:Int)<(nm.size:Int)
     ·have t3:200<nm.size:=by omega
      go_wp2_with (first | (refine wpList_store_new (by kernel_rfl) 49 _ _ rfl _ rfl cs rfl (by rw[HCL.out];kernel_rfl) (by rw[HCL.out];rfl) HO.out ?_) | (refine wpList_load_w (by kernel_rfl) 49 _ rfl ⟨b,off+j*34,none⟩ rfl cs _ HC0.out Tryz.underlying49 rfl (by rw[HCL.out];kernel_rfl) ?_))
      go_ret
      exact⟨false,rfl,fun h=>(by cases h),HLW.out _ (HXN.out _ (Bx.start wo cs _))⟩
     have t3:¬ 200<nm.size:=by omega
     have HNS:Hid (k1≤50∧k2≤50∧nm.size≤200):=Lib.hid (by omega)
     go_wp2_with (first | (refine wpList_store_new (by kernel_rfl) 49 _ _ rfl _ rfl cs rfl (by rw[HCL.out];kernel_rfl) (by rw[HCL.out];rfl) HO.out ?_) | (refine wpList_load_w (by kernel_rfl) 49 _ rfl ⟨b,off+j*34,none⟩ rfl cs _ HC0.out Tryz.underlying49 rfl (by rw[HCL.out];kernel_rfl) ?_) | (refine wpList_load_w (by kernel_rfl) 44 _ rfl ⟨wo.heap.size,3,none⟩ rfl ca _ (box_part HPR.out (Bx.start wo cs _)) Tryz.underlying44 rfl (by rw[HLA.out];kernel_rfl) ?_) | (refine wpList_load_w (by kernel_rfl) 44 _ rfl ⟨wo.heap.size,18,none⟩ rfl cb _ (box_part HPO.out (Bx.start wo cs _)) Tryz.underlying44 rfl (by rw[HLB.out];kernel_rfl) ?_))
     refine HC1.out.mono ?_
     rintro r w3 ⟨x1,rfl,h1,h2,h3,hb⟩
     have B3:Hid (Bx wo cs 49 w3):=Lib.hid (((Bx.start wo cs _).alloc _ _).step hb)
     have I1:Hid (-1≤x1∧x1≤L∧(0≤x1→PA∧nA≤L)):=Lib.hid ⟨h1,by have:=HIN.out.2.1;omega,fun h=>⟨(h3 h).2,by have q1:=(h3 h).1;have q2:=HIN.out.2.1;omega⟩⟩
     clear h1 h2 h3 hb HC1 hfold1 hfold2 HPR HPO HLA HLB q0 q1 q2 HC0 HO HCL
     by_cases hx1:0≤x1
     ·have p1:decide (x1 ≥ 0)=true:=decide_eq_true hx1
      have p2:decide (0≤x1)=true:=decide_eq_true hx1
      have HX1:=Lib.hid hx1
      have c33:=B3.out.at (o:=33) HB33.out
      have HCD:=Lib.hid (HC2.out x1 w3 I1.out.1 (by have:=I1.out.2.1;have:=HL.out;omega) B3.out)
      clear hx1
      go_wp2_with fail
      refine HCD.out.mono ?_
      rintro r w4 ⟨x2,rfl,h1,h2,h3,hb⟩
      have B4:Hid (Bx w [.slice (some ⟨b,off,none⟩) m cap] 24 w4):=Lib.hid (HXN.out _ (B3.out.step hb))
      have HN:Hid (-1≤x2∧x2≤L∧(0≤x2→∀q∈qs.take (j+1),OkQ n L q)):=Lib.hid ⟨h1,by have:=I1.out.2.1;omega,fun h=>HSN.out (HIN.out.2.2 HX.out) (HOK.out HNS.out.1 HNS.out.2.1 HNS.out.2.2 (I1.out.2.2 HX1.out).1 (I1.out.2.2 HX1.out).2 (h3 h).2 (by have q1:=(h3 h).1;have q2:=I1.out.2.1;omega))⟩
      clear h1 h2 h3 hb HCD c33
      go_wp2_with fail
      go_roundw
      case rel=>exact⟨j+1,x2,by omega,rfl,by go_num,HN,B4⟩
      case measure=>simp[intOf];omega
     ·have p1:decide (x1 ≥ 0)=false:=decide_eq_false hx1
      have p2:decide (0≤x1)=false:=decide_eq_false hx1
      have B4:Hid (Bx w [.slice (some ⟨b,off,none⟩) m cap] 24 w3):=Lib.hid (HXN.out _ B3.out)
      have HN:Hid (-1≤x1∧x1≤L∧(0≤x1→∀q∈qs.take (j+1),OkQ n L q)):=Lib.hid ⟨I1.out.1,I1.out.2.1,fun h=>absurd h hx1⟩
      clear hx1
      go_wp2_with fail
      go_roundw
      case rel=>exact⟨j+1,x1,by omega,rfl,by go_num,HN,B4⟩
      case measure=>simp[intOf];omega
    ·have g1:decide (x ≥ 0)=false:=decide_eq_false hx
     have g2:decide (0≤x)=false:=decide_eq_false hx
     have HB:=Lib.hid (HLW.out _ hxb.out)
     go_wp2_with fail
     go_ret
     exact⟨false,rfl,fun h=>(by cases h),HB.out⟩
   ·obtain rfl:j=m:=by omega
    have hji:¬(j:Int)<(j:Int):=by omega
    have HB:=Lib.hid (HLW.out _ hxb.out)
    by_cases hx:0≤x
    ·have g1:decide (x ≥ 0)=true:=decide_eq_true hx
     have g2:decide (0≤x)=true:=decide_eq_true hx
     have HE:Hid (qs.length≤50∧∀q∈qs,OkQ n L q):=Lib.hid ⟨by rw[HM.out];exact HMM.out,by have h:=hin.out.2.2 hx;rwa [←HM.out,List.take_length]at h⟩
     clear hx
     go_wp2_with fail
     go_ret
     exact⟨true,rfl,fun _=>HE.out,HB.out⟩
    ·have g1:decide (x ≥ 0)=false:=decide_eq_false hx
     have g2:decide (0≤x)=false:=decide_eq_false hx
     clear hx
     go_wp2_with fail
     go_ret
     exact⟨false,rfl,fun h=>(by cases h),HB.out⟩
end
section
open Go.RowKit
theorem nbs_ne {f g:ByteArray}(h:¬f=g):(f.toList == g.toList)=false:=by
 refine beq_eq_false_iff_ne.2 fun e=>h ?_
 rw[Lib.toList_data,Lib.toList_data]at e
 cases f;cases g
 simp only[ByteArray.mk.injEq]
 exact Array.toList_inj.1 e
theorem small16_any (n:Nat)(qs:List QT)(a:Option Addr)(m cap:Nat)(w:World)(hm:qs.length=m)(hs:Pak.Sits (procSh n) (Pak.Lo w.heap.size) w a qs):
 Calls Tryz.prog 6 #[.agg #[.slice a m cap]] w (LtEnd n qs 600 w):=by
 have HA:Hid (Below w.heap.size w (w.alloc (.cells #[.slice a m cap] 24))):=box_low
 have HC:=Lib.hid (light16_any n qs a m cap 600 _ hm (by decide) (hs.below HA.out HA.out.size))
 have c0:=(Bx.start w [.slice a m cap] 24).at (o:=0) rfl
 clear hs
 go_enter Tryz.func6,Tryz.ntmps6
 go_wp2_with fail
 refine HC.out.mono ?_
 rintro r w2 ⟨b,rfl,h,hb⟩
 have HB:=Lib.hid (HA.out.trans (hb.mono HA.out.size))
 have HH:=Lib.hid h
 clear h hb HC
 go_wp2_with fail
 go_ret
 exact⟨b,rfl,HH.out,HB.out⟩
def hasW (s:ByteArray)(l:List ByteArray):Bool:=l.any fun x=>decide (x=s)
theorem has_any16 (s:ByteArray)(a:Option Addr)(m cap:Nat)(xs:List ByteArray)(w:World)(hm:xs.length=m)(hs:Pak.Sits strSh (Pak.Lo w.heap.size) w a xs):
 Calls Tryz.prog 18 #[.slice a m cap,.string s] w fun r w'=>r= .returned (.bool (hasW s xs))∧Below w.heap.size w w':=by
 have HS:=Lib.hid hs
 have HM:=Lib.hid hm
 have hmm:m≤9223372036854775807:=by rw[←hm];exact hs.1
 have HHIT:Hid (∀j (h:j<xs.length),xs[j]=s→hasW s xs=true):=Lib.hid fun j h e=>List.any_eq_true.2 ⟨xs[j],List.getElem_mem h,decide_eq_true e⟩
 have HMISS:Hid ((∀q,(hq:q<xs.length)→xs[q]≠s)→hasW s xs=false):=Lib.hid fun h=>List.any_eq_false.2 fun x hx e=>by
  obtain⟨q,hq,rfl⟩:=List.getElem_of_mem hx
  exact h q hq (of_decide_eq_true e)
 clear hs hm
 generalize hasW s xs=y at HHIT HMISS
 go_enter Tryz.func18,Tryz.ntmps18
 go_wp2_with fail
 go_loopw [5] (fun i wr=>∃j:Nat,j≤m∧i= .int .i64 j∧Hid (∀q,(hq:q<xs.length)→q<j→xs[q]≠s)∧Hid (Below w.heap.size w wr)) (fun i _=>m - (intOf i).toNat)
 case atStart=>exact⟨0,Nat.zero_le _,rfl,fun q _ h=>absurd h (Nat.not_lt_zero _),Below.refl _ _⟩
 case round=>
  obtain⟨j,hj,rfl,hno,hb⟩:=hrel
  by_cases hlt:j<m
  ·have hlx:j<xs.length:=by rw[HM.out];exact hlt
   obtain⟨b,off,cs,rfl,hbl,hc,rfl,_⟩:=(HS.out.below hb.out hb.out.size).2 j hlx
   have c0:=hc 0 _ rfl
   rw[show strSh.k=1 from rfl,Nat.mul_one,Nat.add_zero]at c0
   have HH:=Lib.hid (HHIT.out j hlx)
   have HN:Hid (¬xs[j]=s→∀q,(hq:q<xs.length)→q<j+1→xs[q]≠s):=fun h q hq hlq=>by
    by_cases e:q=j
    ·subst e;exact h
    ·exact hno.out q hq (by omega)
   have HB:=Lib.hid hb.out
   have hji:(j:Int)<(m:Int):=by omega
   clear hc hb hno
   generalize xs[j]=xn at c0 HH HN
   by_cases hx:xn=s
   ·obtain rfl:=HH.out hx
    subst hx
    have e0:(xn.toList == xn.toList)=true:=beq_self_eq_true _
    go_wp2_with fail
    go_ret
    exact⟨rfl,HB.out⟩
   ·have e0:=nbs_ne hx
    have HN2:=Lib.hid (HN.out hx)
    clear hx HN HH
    go_wp2_with fail
    go_roundw
    case rel=>exact⟨j+1,by omega,by go_num,HN2,HB⟩
    case measure=>simp[intOf];omega
  ·obtain rfl:j=m:=by omega
   have hji:¬(j:Int)<(j:Int):=by omega
   have HY:Hid (y=false):=Lib.hid (HMISS.out fun q hq=>hno.out q hq (by rw[←HM.out];exact hq))
   have HB:=Lib.hid hb.out
   obtain rfl:=HY.out
   clear hb hno
   go_wp2_with fail
   go_ret
   exact⟨rfl,HB.out⟩
def findN (s:ByteArray):List QT→Nat
 | []=>0
 | q :: r=>if q.name=s then 0 else findN s r+1
theorem findN_at {s:ByteArray}:∀ {xs:List QT} {j:Nat} (h:j<xs.length),(∀q,(hq:q<xs.length)→q<j→xs[q].name≠s)→xs[j].name=s→findN s xs=j
 | [],_,h,_,_=>absurd h (Nat.not_lt_zero _)
 | x :: r,0,_,_,e=>if_pos e
 | x :: r,j+1,h,hn,e=>by
   have h0:¬x.name=s:=hn 0 (by simp) (Nat.succ_pos _)
   unfold findN
   rw[if_neg h0,findN_at (xs:=r) (j:=j) (by simpa using h) (fun q hq hlt=>hn (q+1) (by simpa using hq) (by omega)) e]
theorem findN_no {s:ByteArray}:∀ {xs:List QT},(∀q,(hq:q<xs.length)→xs[q].name≠s)→findN s xs=xs.length
 | [],_=>rfl
 | x :: r,hn=>by
   have h0:¬x.name=s:=hn 0 (by simp)
   unfold findN
   rw[if_neg h0,findN_no (xs:=r) (fun q hq=>hn (q+1) (by simpa using hq))]
   rfl
def findI (s:ByteArray)(l:List QT):Int:=if findN s l<l.length then(findN s l:Int) else -1
theorem rfind16_any (n:Nat)(s:ByteArray)(a:Option Addr)(m cap:Nat)(xs:List QT)(w:World)(hm:xs.length=m)(hs:Pak.Sits (procSh n) (Pak.Lo w.heap.size) w a xs):
 Calls Tryz.prog 17 #[.agg #[.slice a m cap],.string s] w fun r w'=>r= .returned (.int .i64 (findI s xs))∧Below w.heap.size w w':=by
 have HS:=Lib.hid hs
 have HM:=Lib.hid hm
 have hmm:m≤9223372036854775807:=by rw[←hm];exact hs.1
 have HHIT:Hid (∀j (h:j<xs.length),(∀q,(hq:q<xs.length)→q<j→xs[q].name≠s)→xs[j].name=s→findI s xs=(j:Int)):=Lib.hid fun j h h1 h2=>by unfold findI;rw[findN_at h h1 h2,if_pos h]
 have HMISS:Hid ((∀q,(hq:q<xs.length)→xs[q].name≠s)→findI s xs= -1):=Lib.hid fun h=>by unfold findI;rw[findN_no h,if_neg (Nat.lt_irrefl _)]
 have XB0:Hid (Bx w [.slice a m cap] 24 (w.alloc (.cells #[.slice a m cap] 24))):=Lib.hid (Bx.start _ _ _)
 clear hs hm
 generalize findI s xs=y at HHIT HMISS
 go_enter Tryz.func17,Tryz.ntmps17
 go_wp2_with fail
 go_loopw [5] (fun i wr=>∃j:Nat,j≤m∧i= .int .i64 j∧Hid (∀q,(hq:q<xs.length)→q<j→xs[q].name≠s)∧Hid (Bx w [.slice a m cap] 24 wr)) (fun i _=>m - (intOf i).toNat)
 case atStart=>exact⟨0,Nat.zero_le _,rfl,fun q _ h=>absurd h (Nat.not_lt_zero _),XB0⟩
 case round=>
  obtain⟨j,hj,rfl,hno,hxb⟩:=hrel
  have k0:=hxb.out.at (o:=0) rfl
  have HB:=Lib.hid (hxb.out.low (Below.refl _ _))
  have HXB:=Lib.hid hxb.out
  by_cases hlt:j<m
  ·have hlx:j<xs.length:=by rw[HM.out];exact hlt
   obtain⟨b,off,cs,rfl,hbl,hc,hr⟩:=(HS.out.below HB.out HB.out.size).2 j hlx
   obtain⟨ca,cb,a1,a2,a3,d1,d2,d3,H⟩:=proc_is hr
   have c0:=hc 0 _ H.name
   rw[procSh_k,Nat.add_zero]at c0
   have HH:=Lib.hid (HHIT.out j hlx hno.out)
   have HN:Hid (¬xs[j].name=s→∀q,(hq:q<xs.length)→q<j+1→xs[q].name≠s):=fun h q hq hlq=>by
    by_cases e:q=j
    ·subst e;exact h
    ·exact hno.out q hq (by omega)
   have hji:(j:Int)<(m:Int):=by omega
   clear hc hxb hno hr H
   generalize xs[j].name=xn at c0 HH HN
   by_cases hx:xn=s
   ·obtain rfl:=HH.out hx
    subst hx
    have e0:(xn.toList == xn.toList)=true:=beq_self_eq_true _
    go_wp2_with fail
    go_ret
    exact⟨rfl,HB.out⟩
   ·have e0:=nbs_ne hx
    have HN2:=Lib.hid (HN.out hx)
    clear hx HN HH
    go_wp2_with fail
    go_roundw
    case rel=>exact⟨j+1,by omega,by go_num,HN2,HXB⟩
    case measure=>simp[intOf];omega
  ·obtain rfl:j=m:=by omega
   have hji:¬(j:Int)<(j:Int):=by omega
   have HY:Hid (y= -1):=Lib.hid (HMISS.out fun q hq=>hno.out q hq (by rw[←HM.out];exact hq))
   obtain rfl:=HY.out
   clear hxb hno
   go_wp2_with fail
   go_ret
   exact⟨rfl,HB.out⟩
end
end Go.Proofs.YtfcaclmcnlflfaaGreatDoor
