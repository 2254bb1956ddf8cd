/- Parts of a proof. -/
import Derived.Test.YtcinokljkieijaaGreatDoorW01
import Derived.Test.YtcinokljkieijaaGreatDoorW03
import Derived.Test.YtcinokljkieijaaGreatDoorW04
import Derived.Test.YtcinokljkieijaaGreatDoorW05
import Derived.Test.YtcinokljkieijaaGreatDoorW06
import Derived.Test.YtcinokljkieijaaGreatDoorW07
import Derived.Test.YtcinokljkieijaaGreatDoorW08
import Derived.Test.YtcinokljkieijaaGreatDoorW09
import Derived.Test.YtcinokljkieijaaGreatDoorW10
import Derived.Test.YtcinokljkieijaaGreatDoorW11
import Derived.Test.YtcinokljkieijaaGreatDoorW12
import Derived.Test.YtcinokljkieijaaGreatDoorQ17
set_option linter.unusedVariables false
set_option linter.unusedSimpArgs false
set_option maxHeartbeats 60000000
set_option maxRecDepth 100000
namespace Go.Proofs.YtcinokljkieijaaGreatDoor
namespace Dc
open Go.RowKit
theorem stmt_if (n:Nat)(C:PC)(s:PS)(w:World)(h:PSt C s w)(IB:BSaid n)(hf:Fd (n+1) s)(hk:¬pkd C.tk s=1)(hm:dnx C.tk s=(⟨#[105,102]⟩:ByteArray)):
 Calls Tryz.prog 69 #[C.p] w (PE (Vx stX) (dstmt C.tk C.en (n+1)) C s w):=by
 have hg:=h.lt
 have hl0:=LP.fresh (sh:=stX) (t:=65) h rfl zSt_ni zSt_rel
 have HN:=Lib.hid (next_any C s _ hl0.ps)
 have HKD:=Lib.hid (fun W (hW:PSt C s W)=>kind_any C s W hW)
 have HLX:Hid (∀W,Below ((w.alloc (.cells zSt.toArray 65)).alloc (.cells zSt.toArray 65)).heap.size ((w.alloc (.cells zSt.toArray 65)).alloc (.cells zSt.toArray 65)) W→LP stX C w (w.heap.size+1) s default zSt W):=fun W hb=>hl0.step (KeptG.of_below hb) (hl0.ps.up hb)
 obtain⟨h0,hnx⟩:=dnx_inv (tk:=C.tk) (s:=s) (by rw[hm];decide)
 obtain⟨s1,hs1⟩:∃s',s'=pgo s:=⟨_,rfl⟩
 have X0:Hid (∀W,PSt C s W→(W.cell? ⟨C.g,2,none⟩=some (.int .i64 s.nx)∧W.frozen? ⟨C.g,2,none⟩=false∧IntKind.i64.wrap ((s.nx:Int)+1)=(s.nx:Int)+1)∧PSt C s1 (W.setCell ⟨C.g,2,none⟩ (.int .i64 ((s.nx:Int)+1)))):=fun W hW=>⟨two_wrap hW h0,by rw[hs1];exact hW.go h0 hnx⟩
 obtain⟨cq1,hcq1⟩:∃x',x'=(dco C.tk C.en s1).1:=⟨_,rfl⟩
 obtain⟨s2,hs2⟩:∃s',s'=(dco C.tk C.en s1).2:=⟨_,rfl⟩
 have H1:=Lib.hid (fun W (hW:PSt C s1 W)=>cond_any C s1 W hW)
 have X1:Hid (∀W e1 W1 cs,LP stX C (w) (w.heap.size+1) s1 (ST.mk { sp0 with kind:=6 } [] []) cs W→PE (Vx cnX) (dco C.tk C.en) C s1 W e1 W1→∃cs2:List Value,e1= .returned (.agg cs2.toArray)∧cs2.length=3∧(∀u∈cs2,u.oneCell'=true)∧W1.there (w.heap.size+1) 12 cs2.length∧∀W9,Stored (w.heap.size+1) 12 cs2 W1 W9→LP stX C (w) (w.heap.size+1) s2 (ST.mk { sp0 with kind:=6,c:=cq1 } [] []) (spl cs 12 cs2) W9):=fun W e1 W1 cs hl hq=>by
  obtain⟨cs2,a1,a2,a3,a4,a5,a6⟩:=pe_x hq
  have a2:cs2.length=3:=a2
  rw[←hs2]at a5
  rw[←hcq1]at a4
  exact⟨cs2,a1,a2,a3,by rw[a2];exact hl.part a6 a5 (by show 12+3≤35;omega),fun W9 hst=>hl.setP a6 a5 a4 (by show 12+3≤35;omega) (st_ni hl.tree) hst (fun S W hx hy=>st_c hy hx)⟩
 have hn1:1≤n:=by have h1:=hf.deep h0;have h2:=h.ok h0;omega
 have ok2m:Md C.tk s s2:=by rw[hs2,hs1];exact(md_go h0).trans (md_co2 h.sh (fun _=>h.ok h0))
 have hf_s2:Fd (n+1) s2:=hf.mv ok2m
 obtain⟨bq2,hbq2⟩:∃x',x'=(dblock C.tk C.en (dstmt C.tk C.en n) s2).1:=⟨_,rfl⟩
 obtain⟨s3,hs3⟩:∃s',s'=(dblock C.tk C.en (dstmt C.tk C.en n) s2).2:=⟨_,rfl⟩
 have H2:=Lib.hid (fun W (hW:PSt C s2 W)=>IB C s2 W hW hf_s2 hn1)
 have X2:Hid (∀W e1 W1 cs,LP stX C (w) (w.heap.size+1) s2 (ST.mk { sp0 with kind:=6,c:=cq1 } [] []) cs W→PE (Vs stX) (dblock C.tk C.en (dstmt C.tk C.en n)) C s2 W e1 W1→∃a c,e1= .returned (.slice a bq2.length c)∧(∃z,W1.cell? ⟨w.heap.size+1,33,none⟩=some z)∧W1.frozen? ⟨w.heap.size+1,33,none⟩=false∧LP stX C (w) (w.heap.size+1) s3 (ST.mk { sp0 with kind:=6,c:=cq1 } bq2 []) (spl cs 33 [.slice a bq2.length c]) (W1.setCell ⟨w.heap.size+1,33,none⟩ (.slice a bq2.length c))):=fun W e1 W1 cs hl hq=>by
  obtain⟨a,c,a1,a2,a3,a4⟩:=pe_rw hq
  rw[←hs3]at a3
  rw[←hbq2]at a1 a2
  obtain⟨⟨z,_,z1⟩,z2⟩:=(hl.step a4 a3).cell (j:=33) (by show 33<35;omega)
  exact⟨a,c,a1,⟨z,z1⟩,z2,hl.setS a4 a3 a2 (by show 33<35;omega) (st_ni hl.tree) (fun S W hx hv=>st_body hv hx)⟩
 obtain⟨s4,hs4⟩:∃s',s'=deat C.tk C.en (⟨#[101,108,115,101]⟩:ByteArray) s3:=⟨_,rfl⟩
 have H3:=Lib.hid (fun W (hW:PSt C s3 W)=>eat_any C s3 (⟨#[101,108,115,101]⟩:ByteArray) W hW (by decide))
 have X3:Hid (∀W e1 W1,PU (deat C.tk C.en (⟨#[101,108,115,101]⟩:ByteArray)) C s3 W e1 W1→e1= .returned (.tuple #[])∧PSt C s4 W1∧KeptG C.g W W1):=fun W e1 W1 hu=>by rw[hs4];exact hu
 have hf_s4:Fd (n+1) s4:=by
  refine hf_s2.mv (tk:=C.tk) (Md.trans (b:=s3) ?_ (by rw[hs4];exact md_eat (by decide) _))
  rw[hs3]
  exact md_block2 h.sh (ok2m.ok h.ok) n
 obtain⟨dq4,hdq4⟩:∃x',x'=(dblock C.tk C.en (dstmt C.tk C.en n) s4).1:=⟨_,rfl⟩
 obtain⟨s5,hs5⟩:∃s',s'=(dblock C.tk C.en (dstmt C.tk C.en n) s4).2:=⟨_,rfl⟩
 have H4:=Lib.hid (fun W (hW:PSt C s4 W)=>IB C s4 W hW hf_s4 hn1)
 have X4:Hid (∀W e1 W1 cs,LP stX C (w) (w.heap.size+1) s4 (ST.mk { sp0 with kind:=6,c:=cq1 } bq2 []) cs W→PE (Vs stX) (dblock C.tk C.en (dstmt C.tk C.en n)) C s4 W e1 W1→∃a c,e1= .returned (.slice a dq4.length c)∧(∃z,W1.cell? ⟨w.heap.size+1,34,none⟩=some z)∧W1.frozen? ⟨w.heap.size+1,34,none⟩=false∧LP stX C (w) (w.heap.size+1) s5 (ST.mk { sp0 with kind:=6,c:=cq1 } bq2 dq4) (spl cs 34 [.slice a dq4.length c]) (W1.setCell ⟨w.heap.size+1,34,none⟩ (.slice a dq4.length c))):=fun W e1 W1 cs hl hq=>by
  obtain⟨a,c,a1,a2,a3,a4⟩:=pe_rw hq
  rw[←hs5]at a3
  rw[←hdq4]at a1 a2
  obtain⟨⟨z,_,z1⟩,z2⟩:=(hl.step a4 a3).cell (j:=34) (by show 34<35;omega)
  exact⟨a,c,a1,⟨z,z1⟩,z2,hl.setS a4 a3 a2 (by show 34<35;omega) (st_ni hl.tree) (fun S W hx hv=>st_els hv hx)⟩
 have ed:dstmt C.tk C.en (n+1) s=((ST.mk { sp0 with kind:=6,c:=cq1 } bq2 dq4),s5):=by
  rw[dstmt,if_neg hk,if_pos hm]
  subst_vars
  rfl
 have HO:=Lib.hid (fun W cs (hl:LP stX C w (w.heap.size+1) s5 (ST.mk { sp0 with kind:=6,c:=cq1 } bq2 dq4) cs W)=>hl.outw (f:=dstmt C.tk C.en (n+1)) ed)
 have hx0:((dnx C.tk s).toList == [115,107,105,112])=false:=ne_lit [115,107,105,112] (by rw[hm];decide)
 have hx1:((dnx C.tk s).toList == [112,117,116])=false:=ne_lit [112,117,116] (by rw[hm];decide)
 have hx2:((dnx C.tk s).toList == [102,114,101,101])=false:=ne_lit [102,114,101,101] (by rw[hm];decide)
 have hx3:((dnx C.tk s).toList == [97,115,115,101,114,116])=false:=ne_lit [97,115,115,101,114,116] (by rw[hm];decide)
 have hx4:((dnx C.tk s).toList == [99,97,108,108])=false:=ne_lit [99,97,108,108] (by rw[hm];decide)
 have hx5:=eq_lit [105,102] hm
 have hk1:(pkd C.tk s == 1)=false:=by simpa using hk
 have hk2:¬pkd C.tk s=1:=hk
 generalize dnx C.tk s=tx at*
 generalize pkd C.tk s=kd at*
 generalize PE (Vx stX) (dstmt C.tk C.en (n+1)) C s w=Q at*
 clear hl0 h ed hk hm h0 hnx hs1 hcq1 hs2 hbq2 hs3 hs4 hdq4 hs5 hn1 ok2m hf_s2 hf_s4 hf IB
 unfold PC.p at*
 go_enter Tryz.func69,Tryz.ntmps69
 go_wp2_with (first | (refine wpList_alloc_z (by kernel_rfl) 65 rfl zSt Tryz.stZero ?_) | (refine wpList_build_z (by kernel_rfl) 65 rfl zSt Tryz.stBuilt ?_) | (refine gateS 65 3 rfl ?_;refine wpList_store_fresh (by kernel_rfl) 65 _ _ rfl zSt.toArray rfl zSt rfl Tryz.stSize (by simp) zSt_one ?_))
 refine HN.out.mono ?_
 rintro e w0 ⟨rfl,hb⟩
 have HL0:=Lib.hid (HLX.out w0 hb)
 have HK0:=Lib.hid (HKD.out w0 HL0.out.ps)
 clear hb HN HLX HKD
 go_wp2_with fail
 refine HK0.out.mono ?_
 rintro e w1 ⟨rfl,hb⟩
 have HL1:=Lib.hid (HL0.out.step (KeptG.of_below hb) (HL0.out.ps.up hb))
 clear hb HK0 HL0
 obtain⟨⟨c2_0,f2_0,hw2_0⟩,hp⟩:=X0.out _ HL1.out.ps
 have HG0:=Lib.hid (HL1.out.step (KeptG.set (g:=C.g)) hp)
 clear hp X0
 clear HL1
 obtain⟨⟨v1_1_0k,_,y1_1_0k⟩,f1_1_0k⟩:=HG0.out.cell (j:=0) (by show 0<35;omega)
 have HK1_1_0:Hid (LP stX C (w) (w.heap.size+1) s1 (ST.mk { sp0 with kind:=6 } [] []) _ ((w1.setCell ⟨C.g,2,none⟩ (.int .i64 ((s.nx:Int)+1))).setCell ⟨w.heap.size+1,0,none⟩ (.int .i64 6))):=Lib.hid (HG0.out.set1 (o:=0) (v:= .int .i64 6) (by show 0<35;omega) (st_ni HG0.out.tree) (fun S W h=>st_kind (x:=default) 6 ⟨by decide,by decide⟩ h))
 clear HG0
 go_wp2_with fail
 clear c2_0 f2_0 hw2_0 y1_1_0k f1_1_0k
 refine(H1.out _ HK1_1_0.out.ps).mono ?_
 rintro e w2 hq
 obtain⟨c2,rfl,l2,o2,t2,fin⟩:=X1.out _ _ _ _ HK1_1_0.out hq
 have HF2:=Lib.hid fin
 clear hq fin H1 X1
 clear HK1_1_0
 go_wp2_with (first | (refine gateS 55 103 rfl ?_;refine wpList_store_there rfl 55 _ _ rfl (w.heap.size+1) 12 rfl _ rfl (by rw[l2];kernel_rfl) o2 t2 ?_;intro w29 hst;have HL2:=Lib.hid (HF2.out _ hst);clear hst HF2))
 clear l2 o2 t2
 refine(H2.out _ HL2.out.ps).mono ?_
 rintro e w3 hq
 obtain⟨ra3,rc3,rfl,⟨rz3,y3c⟩,f3c,hfin⟩:=X2.out _ _ _ _ HL2.out hq
 have HL3:=Lib.hid hfin
 clear hq hfin H2 X2
 clear HL2
 go_wp2_with fail
 clear y3c f3c
 refine(H3.out _ HL3.out.ps).mono ?_
 rintro e w4 hq
 obtain⟨rfl,hp,hk⟩:=X3.out _ _ _ hq
 have HL4:=Lib.hid (HL3.out.step hk hp)
 clear hq hp hk H3 X3
 clear HL3
 go_wp2_with fail
 refine(H4.out _ HL4.out.ps).mono ?_
 rintro e w5 hq
 obtain⟨ra5,rc5,rfl,⟨rz5,y5c⟩,f5c,hfin⟩:=X4.out _ _ _ _ HL4.out hq
 have HL5:=Lib.hid hfin
 clear hq hfin H4 X4
 clear HL4
 obtain⟨hl9,h19,hr9,ht9,hf9⟩:=HO.out _ _ HL5.out
 have HF9:=Lib.hid hf9
 clear hf9 HL5
 go_wp2_with (first | (refine gateL 65 3 rfl ?_;refine wpList_load_mid rfl 65 _ rfl (w.heap.size+1) 0 rfl _ _ hr9 Tryz.underlying65 rfl (by rw[hl9];kernel_rfl) ?_) | (refine gateS 65 2 rfl ?_;refine wpList_store_there rfl 65 _ _ rfl w.heap.size 0 rfl _ rfl (by rw[hl9];kernel_rfl) h19 ht9 ?_;intro w9 hst))
 exact bodyPost_ret (v:=_) (results_one rfl _ _ _ _ _ rfl (Tryz.stLoad hst.at' hl9)) rfl (HF9.out _ hst)
theorem stmt_while (n:Nat)(C:PC)(s:PS)(w:World)(h:PSt C s w)(IB:BSaid n)(hf:Fd (n+1) s)(hk:¬pkd C.tk s=1)(hm:dnx C.tk s=(⟨#[119,104,105,108,101]⟩:ByteArray)):
 Calls Tryz.prog 69 #[C.p] w (PE (Vx stX) (dstmt C.tk C.en (n+1)) C s w):=by
 have hg:=h.lt
 have hl0:=LP.fresh (sh:=stX) (t:=65) h rfl zSt_ni zSt_rel
 have HN:=Lib.hid (next_any C s _ hl0.ps)
 have HKD:=Lib.hid (fun W (hW:PSt C s W)=>kind_any C s W hW)
 have HLX:Hid (∀W,Below ((w.alloc (.cells zSt.toArray 65)).alloc (.cells zSt.toArray 65)).heap.size ((w.alloc (.cells zSt.toArray 65)).alloc (.cells zSt.toArray 65)) W→LP stX C w (w.heap.size+1) s default zSt W):=fun W hb=>hl0.step (KeptG.of_below hb) (hl0.ps.up hb)
 obtain⟨h0,hnx⟩:=dnx_inv (tk:=C.tk) (s:=s) (by rw[hm];decide)
 obtain⟨s1,hs1⟩:∃s',s'=pgo s:=⟨_,rfl⟩
 have X0:Hid (∀W,PSt C s W→(W.cell? ⟨C.g,2,none⟩=some (.int .i64 s.nx)∧W.frozen? ⟨C.g,2,none⟩=false∧IntKind.i64.wrap ((s.nx:Int)+1)=(s.nx:Int)+1)∧PSt C s1 (W.setCell ⟨C.g,2,none⟩ (.int .i64 ((s.nx:Int)+1)))):=fun W hW=>⟨two_wrap hW h0,by rw[hs1];exact hW.go h0 hnx⟩
 obtain⟨cq1,hcq1⟩:∃x',x'=(dco C.tk C.en s1).1:=⟨_,rfl⟩
 obtain⟨s2,hs2⟩:∃s',s'=(dco C.tk C.en s1).2:=⟨_,rfl⟩
 have H1:=Lib.hid (fun W (hW:PSt C s1 W)=>cond_any C s1 W hW)
 have X1:Hid (∀W e1 W1 cs,LP stX C (w) (w.heap.size+1) s1 (ST.mk { sp0 with kind:=7 } [] []) cs W→PE (Vx cnX) (dco C.tk C.en) C s1 W e1 W1→∃cs2:List Value,e1= .returned (.agg cs2.toArray)∧cs2.length=3∧(∀u∈cs2,u.oneCell'=true)∧W1.there (w.heap.size+1) 12 cs2.length∧∀W9,Stored (w.heap.size+1) 12 cs2 W1 W9→LP stX C (w) (w.heap.size+1) s2 (ST.mk { sp0 with kind:=7,c:=cq1 } [] []) (spl cs 12 cs2) W9):=fun W e1 W1 cs hl hq=>by
  obtain⟨cs2,a1,a2,a3,a4,a5,a6⟩:=pe_x hq
  have a2:cs2.length=3:=a2
  rw[←hs2]at a5
  rw[←hcq1]at a4
  exact⟨cs2,a1,a2,a3,by rw[a2];exact hl.part a6 a5 (by show 12+3≤35;omega),fun W9 hst=>hl.setP a6 a5 a4 (by show 12+3≤35;omega) (st_ni hl.tree) hst (fun S W hx hy=>st_c hy hx)⟩
 obtain⟨s3,hs3⟩:∃s',s'=deat C.tk C.en (⟨#[105,110,118,97,114,105,97,110,116]⟩:ByteArray) s2:=⟨_,rfl⟩
 have H2:=Lib.hid (fun W (hW:PSt C s2 W)=>eat_any C s2 (⟨#[105,110,118,97,114,105,97,110,116]⟩:ByteArray) W hW (by decide))
 have X2:Hid (∀W e1 W1,PU (deat C.tk C.en (⟨#[105,110,118,97,114,105,97,110,116]⟩:ByteArray)) C s2 W e1 W1→e1= .returned (.tuple #[])∧PSt C s3 W1∧KeptG C.g W W1):=fun W e1 W1 hu=>by rw[hs3];exact hu
 obtain⟨aq3,haq3⟩:∃x',x'=(das C.tk C.en s3).1:=⟨_,rfl⟩
 obtain⟨s4,hs4⟩:∃s',s'=(das C.tk C.en s3).2:=⟨_,rfl⟩
 have H3:=Lib.hid (fun W (hW:PSt C s3 W)=>assn_any C s3 W hW)
 have X3:Hid (∀W e1 W1 cs,LP stX C (w) (w.heap.size+1) s3 (ST.mk { sp0 with kind:=7,c:=cq1 } [] []) cs W→PE (Vx asX) (das C.tk C.en) C s3 W e1 W1→∃cs2:List Value,e1= .returned (.agg cs2.toArray)∧cs2.length=15∧(∀u∈cs2,u.oneCell'=true)∧W1.there (w.heap.size+1) 15 cs2.length∧∀W9,Stored (w.heap.size+1) 15 cs2 W1 W9→LP stX C (w) (w.heap.size+1) s4 (ST.mk { sp0 with kind:=7,c:=cq1,a:=aq3 } [] []) (spl cs 15 cs2) W9):=fun W e1 W1 cs hl hq=>by
  obtain⟨cs2,a1,a2,a3,a4,a5,a6⟩:=pe_x hq
  have a2:cs2.length=15:=a2
  rw[←hs4]at a5
  rw[←haq3]at a4
  exact⟨cs2,a1,a2,a3,by rw[a2];exact hl.part a6 a5 (by show 15+15≤35;omega),fun W9 hst=>hl.setP a6 a5 a4 (by show 15+15≤35;omega) (st_ni hl.tree) hst (fun S W hx hy=>st_a hy hx)⟩
 have hn1:1≤n:=by have h1:=hf.deep h0;have h2:=h.ok h0;omega
 have ok3m:Md C.tk s s3:=by rw[hs3,hs2,hs1];exact((md_go h0).trans (md_co2 h.sh (fun _=>h.ok h0))).trans (md_eat (by decide) _)
 have ok4m:Md C.tk s s4:=ok3m.trans (by rw[hs4];exact md_assn2 h.sh (ok3m.ok h.ok) 53)
 have hf_s4:Fd (n+1) s4:=hf.mv ok4m
 obtain⟨bq4,hbq4⟩:∃x',x'=(dblock C.tk C.en (dstmt C.tk C.en n) s4).1:=⟨_,rfl⟩
 obtain⟨s5,hs5⟩:∃s',s'=(dblock C.tk C.en (dstmt C.tk C.en n) s4).2:=⟨_,rfl⟩
 have H4:=Lib.hid (fun W (hW:PSt C s4 W)=>IB C s4 W hW hf_s4 hn1)
 have X4:Hid (∀W e1 W1 cs,LP stX C (w) (w.heap.size+1) s4 (ST.mk { sp0 with kind:=7,c:=cq1,a:=aq3 } [] []) cs W→PE (Vs stX) (dblock C.tk C.en (dstmt C.tk C.en n)) C s4 W e1 W1→∃a c,e1= .returned (.slice a bq4.length c)∧(∃z,W1.cell? ⟨w.heap.size+1,33,none⟩=some z)∧W1.frozen? ⟨w.heap.size+1,33,none⟩=false∧LP stX C (w) (w.heap.size+1) s5 (ST.mk { sp0 with kind:=7,c:=cq1,a:=aq3 } bq4 []) (spl cs 33 [.slice a bq4.length c]) (W1.setCell ⟨w.heap.size+1,33,none⟩ (.slice a bq4.length c))):=fun W e1 W1 cs hl hq=>by
  obtain⟨a,c,a1,a2,a3,a4⟩:=pe_rw hq
  rw[←hs5]at a3
  rw[←hbq4]at a1 a2
  obtain⟨⟨z,_,z1⟩,z2⟩:=(hl.step a4 a3).cell (j:=33) (by show 33<35;omega)
  exact⟨a,c,a1,⟨z,z1⟩,z2,hl.setS a4 a3 a2 (by show 33<35;omega) (st_ni hl.tree) (fun S W hx hv=>st_body hv hx)⟩
 have ed:dstmt C.tk C.en (n+1) s=((ST.mk { sp0 with kind:=7,c:=cq1,a:=aq3 } bq4 []),s5):=by
  rw[dstmt,if_neg hk,if_neg (by rw[hm];decide),if_pos hm]
  subst_vars
  rfl
 have HO:=Lib.hid (fun W cs (hl:LP stX C w (w.heap.size+1) s5 (ST.mk { sp0 with kind:=7,c:=cq1,a:=aq3 } bq4 []) cs W)=>hl.outw (f:=dstmt C.tk C.en (n+1)) ed)
 have hx0:((dnx C.tk s).toList == [115,107,105,112])=false:=ne_lit [115,107,105,112] (by rw[hm];decide)
 have hx1:((dnx C.tk s).toList == [112,117,116])=false:=ne_lit [112,117,116] (by rw[hm];decide)
 have hx2:((dnx C.tk s).toList == [102,114,101,101])=false:=ne_lit [102,114,101,101] (by rw[hm];decide)
 have hx3:((dnx C.tk s).toList == [97,115,115,101,114,116])=false:=ne_lit [97,115,115,101,114,116] (by rw[hm];decide)
 have hx4:((dnx C.tk s).toList == [99,97,108,108])=false:=ne_lit [99,97,108,108] (by rw[hm];decide)
 have hx5:((dnx C.tk s).toList == [105,102])=false:=ne_lit [105,102] (by rw[hm];decide)
 have hx6:=eq_lit [119,104,105,108,101] hm
 have hk1:(pkd C.tk s == 1)=false:=by simpa using hk
 have hk2:¬pkd C.tk s=1:=hk
 generalize dnx C.tk s=tx at*
 generalize pkd C.tk s=kd at*
 generalize PE (Vx stX) (dstmt C.tk C.en (n+1)) C s w=Q at*
 clear hl0 h ed hk hm h0 hnx hs1 hcq1 hs2 hs3 haq3 hs4 hbq4 hs5 hn1 ok3m ok4m hf_s4 hf IB
 unfold PC.p at*
 go_enter Tryz.func69,Tryz.ntmps69
 go_wp2_with (first | (refine wpList_alloc_z (by kernel_rfl) 65 rfl zSt Tryz.stZero ?_) | (refine wpList_build_z (by kernel_rfl) 65 rfl zSt Tryz.stBuilt ?_) | (refine gateS 65 3 rfl ?_;refine wpList_store_fresh (by kernel_rfl) 65 _ _ rfl zSt.toArray rfl zSt rfl Tryz.stSize (by simp) zSt_one ?_))
 refine HN.out.mono ?_
 rintro e w0 ⟨rfl,hb⟩
 have HL0:=Lib.hid (HLX.out w0 hb)
 have HK0:=Lib.hid (HKD.out w0 HL0.out.ps)
 clear hb HN HLX HKD
 go_wp2_with fail
 refine HK0.out.mono ?_
 rintro e w1 ⟨rfl,hb⟩
 have HL1:=Lib.hid (HL0.out.step (KeptG.of_below hb) (HL0.out.ps.up hb))
 clear hb HK0 HL0
 obtain⟨⟨c2_0,f2_0,hw2_0⟩,hp⟩:=X0.out _ HL1.out.ps
 have HG0:=Lib.hid (HL1.out.step (KeptG.set (g:=C.g)) hp)
 clear hp X0
 clear HL1
 obtain⟨⟨v1_1_0k,_,y1_1_0k⟩,f1_1_0k⟩:=HG0.out.cell (j:=0) (by show 0<35;omega)
 have HK1_1_0:Hid (LP stX C (w) (w.heap.size+1) s1 (ST.mk { sp0 with kind:=7 } [] []) _ ((w1.setCell ⟨C.g,2,none⟩ (.int .i64 ((s.nx:Int)+1))).setCell ⟨w.heap.size+1,0,none⟩ (.int .i64 7))):=Lib.hid (HG0.out.set1 (o:=0) (v:= .int .i64 7) (by show 0<35;omega) (st_ni HG0.out.tree) (fun S W h=>st_kind (x:=default) 7 ⟨by decide,by decide⟩ h))
 clear HG0
 go_wp2_with fail
 clear c2_0 f2_0 hw2_0 y1_1_0k f1_1_0k
 refine(H1.out _ HK1_1_0.out.ps).mono ?_
 rintro e w2 hq
 obtain⟨c2,rfl,l2,o2,t2,fin⟩:=X1.out _ _ _ _ HK1_1_0.out hq
 have HF2:=Lib.hid fin
 clear hq fin H1 X1
 clear HK1_1_0
 go_wp2_with (first | (refine gateS 55 125 rfl ?_;refine wpList_store_there rfl 55 _ _ rfl (w.heap.size+1) 12 rfl _ rfl (by rw[l2];kernel_rfl) o2 t2 ?_;intro w29 hst;have HL2:=Lib.hid (HF2.out _ hst);clear hst HF2))
 clear l2 o2 t2
 refine(H2.out _ HL2.out.ps).mono ?_
 rintro e w3 hq
 obtain⟨rfl,hp,hk⟩:=X2.out _ _ _ hq
 have HL3:=Lib.hid (HL2.out.step hk hp)
 clear hq hp hk H2 X2
 clear HL2
 go_wp2_with fail
 refine(H3.out _ HL3.out.ps).mono ?_
 rintro e w4 hq
 obtain⟨c4,rfl,l4,o4,t4,fin⟩:=X3.out _ _ _ _ HL3.out hq
 have HF4:=Lib.hid fin
 clear hq fin H3 X3
 clear HL3
 go_wp2_with (first | (refine gateS 60 130 rfl ?_;refine wpList_store_there rfl 60 _ _ rfl (w.heap.size+1) 15 rfl _ rfl (by rw[l4];kernel_rfl) o4 t4 ?_;intro w49 hst;have HL4:=Lib.hid (HF4.out _ hst);clear hst HF4))
 clear l4 o4 t4
 refine(H4.out _ HL4.out.ps).mono ?_
 rintro e w5 hq
 obtain⟨ra5,rc5,rfl,⟨rz5,y5c⟩,f5c,hfin⟩:=X4.out _ _ _ _ HL4.out hq
 have HL5:=Lib.hid hfin
 clear hq hfin H4 X4
 clear HL4
 obtain⟨hl9,h19,hr9,ht9,hf9⟩:=HO.out _ _ HL5.out
 have HF9:=Lib.hid hf9
 clear hf9 HL5
 go_wp2_with (first | (refine gateL 65 3 rfl ?_;refine wpList_load_mid rfl 65 _ rfl (w.heap.size+1) 0 rfl _ _ hr9 Tryz.underlying65 rfl (by rw[hl9];kernel_rfl) ?_) | (refine gateS 65 2 rfl ?_;refine wpList_store_there rfl 65 _ _ rfl w.heap.size 0 rfl _ rfl (by rw[hl9];kernel_rfl) h19 ht9 ?_;intro w9 hst))
 exact bodyPost_ret (v:=_) (results_one rfl _ _ _ _ _ rfl (Tryz.stLoad hst.at' hl9)) rfl (HF9.out _ hst)
theorem stmt_said:∀n,SSaid n
 | 0=>fun C s w h hf=>absurd hf.pos (by decide)
 | n+1=>fun C s w h hf=>by
   have IB:=block_loop n (stmt_said n)
   by_cases hk:pkd C.tk s=1
   ·exact stmt_name n C s w h hk
   ·by_cases m0:dnx C.tk s=(⟨#[115,107,105,112]⟩:ByteArray)
    ·exact stmt_skip n C s w h hk m0
    ·by_cases m1:dnx C.tk s=(⟨#[112,117,116]⟩:ByteArray)
     ·exact stmt_put n C s w h hk m1
     ·by_cases m2:dnx C.tk s=(⟨#[102,114,101,101]⟩:ByteArray)
      ·exact stmt_free n C s w h hk m2
      ·by_cases m3:dnx C.tk s=(⟨#[97,115,115,101,114,116]⟩:ByteArray)
       ·exact stmt_assert n C s w h hk m3
       ·by_cases m4:dnx C.tk s=(⟨#[99,97,108,108]⟩:ByteArray)
        ·exact stmt_call n C s w h hk m4
        ·by_cases m5:dnx C.tk s=(⟨#[105,102]⟩:ByteArray)
         ·exact stmt_if n C s w h IB hf hk m5
         ·by_cases m6:dnx C.tk s=(⟨#[119,104,105,108,101]⟩:ByteArray)
          ·exact stmt_while n C s w h IB hf hk m6
          ·exact stmt_no n C s w h hk m0 m1 m2 m3 m4 m5 m6
theorem block_any (C:PC)(s:PS)(w:World)(h:PSt C s w):Calls Tryz.prog 29 #[C.p] w (PE (Vs stX) (dbl C.tk C.en) C s w):=block_loop 53 (stmt_said 53) C s w h ⟨by decide,fun e=>by have:=(h.inv e).1;omega⟩ (by decide)
end Dc
namespace Dc
open Go.RowKit
theorem PSt.far2 {C:PC}{s:PS}{b:Nat}{w w':World}(k:PSt C s w)(f:Far b w w')(hg:C.g<b):PSt C s w':=
 k.below k.lt (fun j=>World.cell?_of_block (f.block _ (by show C.g≠b;omega))) (fun j=>World.frozen?_of_block (f.block _ (by show C.g≠b;omega))) ⟨f.os,f.tape,f.output,Nat.le_of_eq f.size.symm,fun q hq=>f.block q (by omega)⟩
section
variable {T:Type} {sh:Pak.Sh T}
structure LX (sh:Pak.Sh T)(C:PC)(w:World)(M:Nat)(s:PS)(x:T)(cs:List Value)(wr:World):Prop where
 ps:PSt C s wr
 gl:C.g<w.heap.size
 ml:w.heap.size≤M∧M<wr.heap.size
 kept:KeptG C.g w wr
 box:wr.rangeAt M 0 cs
 th:wr.there M 0 sh.k
 tree:sh.rel (InN w.heap.size M wr) wr cs x
theorem LX.len {C:PC}{w wr:World}{M:Nat}{s:PS}{x:T}{cs:List Value}(h:LX sh C w M s x cs wr):cs.length=sh.k:=sh.len h.tree
theorem LX.start {C:PC}{s:PS}{w:World}{z:List Value}{t:TypeId}{x:T}(hp:PSt C s w)(hz:z.length=sh.k)(hx:∀S W,sh.rel S W z x):LX sh C w w.heap.size s x z (w.alloc (.cells z.toArray t)):=
 ⟨hp.alloc _,hp.lt,⟨Nat.le_refl _,by simp⟩,KeptG.alloc _ _ _,range_new _ _ _,by have:=there_new w z t;rwa [hz]at this,hx _ _⟩
theorem LX.step {C:PC}{w wr w':World}{M:Nat}{s s':PS}{x:T}{cs:List Value}(h:LX sh C w M s x cs wr)(k:KeptG C.g wr w')(hp:PSt C s' w'):LX sh C w M s' x cs w':=by
 have h1:=h.gl
 have h2:=h.ml
 exact⟨hp,h1,⟨h2.1,Nat.lt_of_lt_of_le h2.2 k.size⟩,h.kept.trans k,k.range h2.2 (by omega) h.box,k.there h2.2 (by omega) h.th,inN_kept h.tree k h1⟩
theorem LX.upd {C:PC}{w wr W9:World}{M o:Nat}{s:PS}{x x':T}{cs new:List Value}(h:LX sh C w M s x cs wr)(hst:Stored M o new wr W9)(ho:o+new.length≤sh.k)(hni:∃v,cs[1]? =some v∧∀t u,v≠ .iface t u)
 (hr:sh.rel (InN w.heap.size M W9) W9 cs x→sh.rel (InN w.heap.size M W9) W9 (spl cs o new) x'):LX sh C w M s x' (spl cs o new) W9:=by
 have h1:=h.gl
 have h2:=h.ml
 have hl:=h.len
 have hfar:=hst.far
 have hx9:sh.rel (InN w.heap.size M W9) W9 cs x:=inN_far h.tree hfar
 refine⟨h.ps.far hfar (by omega) (fun t u e=> ?_) h.ps.g5,h1,⟨h2.1,by rw[hfar.size];exact h2.2⟩,h.kept.far hfar h2.1,stored_range h.box (by omega) hst, ?_,hr hx9⟩
 ·obtain⟨v,hc,hv⟩:=hni
  have:=h.box 1 v hc
  rw[Nat.zero_add]at this
  rw[this]at e
  injection e with e
  exact hv _ _ e
 ·intro j hj
  rw[hst.fr]
  refine⟨?_,(h.th j hj).2⟩
  exact(stored_range h.box (by omega) hst).isSome j (by rw[spl_len (by omega)];omega)
theorem LX.cell {C:PC}{w wr:World}{M:Nat}{s:PS}{x:T}{cs:List Value}(h:LX sh C w M s x cs wr){j:Nat}(hj:j<sh.k):(∃v,cs[j]? =some v∧wr.cell? ⟨M,j,none⟩=some v)∧wr.frozen? ⟨M,j,none⟩=false:=by
 have hl:=h.len
 refine⟨⟨cs[j]'(by omega),List.getElem?_eq_getElem (by omega), ?_⟩, ?_⟩
 ·have:=h.box j _ (List.getElem?_eq_getElem (show j<cs.length by omega))
  rwa [Nat.zero_add]at this
 ·have:=(h.th j hj).2
  rwa [Nat.zero_add]at this
theorem LX.set1 {C:PC}{w wr:World}{M o:Nat}{s:PS}{x x':T}{cs:List Value}{v:Value}(h:LX sh C w M s x cs wr)(ho:o<sh.k)(hni:∃v,cs[1]? =some v∧∀t u,v≠ .iface t u)
 (hr:∀S W,sh.rel S W cs x→sh.rel S W (spl cs o [v]) x'):LX sh C w M s x' (spl cs o [v]) (wr.setCell ⟨M,o,none⟩ v):=by
 obtain⟨⟨v0,_,y0⟩,f0⟩:=h.cell ho
 exact h.upd (stored_sets (cs:=[v]) (fun j hj=>by
  obtain rfl:j=0:=by simp at hj;exact hj
  exact⟨by rw[Nat.add_zero,y0];rfl,f0⟩)) (by show o+1≤_;omega) hni (hr _ _)
theorem LX.setS {T2:Type}{sh2:Pak.Sh T2}{C:PC}{w wr W1:World}{M o:Nat}{s s':PS}{x x':T}{cs:List Value}{v:Value}{l:List T2}(h:LX sh C w M s x cs wr)(k:KeptG C.g wr W1)(hp:PSt C s' W1)(hv:Pak.Slot sh2 (InS wr.heap.size W1) W1 v l)(ho:o<sh.k)(hni:∃v,cs[1]? =some v∧∀t u,v≠ .iface t u)
 (hr:∀S W,sh.rel S W cs x→Pak.Slot sh2 S W v l→sh.rel S W (spl cs o [v]) x'):LX sh C w M s' x' (spl cs o [v]) (W1.setCell ⟨M,o,none⟩ v):=by
 have h1:=h.step k hp
 obtain⟨⟨v0,_,y0⟩,f0⟩:=h1.cell ho
 have hst:Stored M o [v] W1 (W1.setCell ⟨M,o,none⟩ v):=stored_sets (cs:=[v]) (fun j hj=>by
  obtain rfl:j=0:=by simp at hj;exact hj
  exact⟨by rw[Nat.add_zero,y0];rfl,f0⟩)
 have hm:=h.ml
 have hk:=h.kept.size
 have hf:=hst.far
 refine h1.upd hst (by show o+1≤_;omega) hni (fun hx=>hr _ _ hx ?_)
 exact hv.keep (fun b ⟨a1,a2⟩=>⟨by omega,by rw[hf.size];exact a2,by omega⟩) (fun b o ⟨a1,a2⟩=>World.cell?_of_block (hf.block b (by omega)))
theorem LX.setP {T2:Type}{sh2:Pak.Sh T2}{C:PC}{w wr W1 W9:World}{M o:Nat}{s s':PS}{x x':T}{cs cs2:List Value}{y:T2}(h:LX sh C w M s x cs wr)(k:KeptG C.g wr W1)(hp:PSt C s' W1)(hv:sh2.rel (InS wr.heap.size W1) W1 cs2 y)(ho:o+sh2.k≤sh.k)(hni:∃v,cs[1]? =some v∧∀t u,v≠ .iface t u)(hst:Stored M o cs2 W1 W9)
 (hr:∀S W,sh.rel S W cs x→sh2.rel S W cs2 y→sh.rel S W (spl cs o cs2) x'):LX sh C w M s' x' (spl cs o cs2) W9:=by
 have h1:=h.step k hp
 have hm:=h.ml
 have hk:=h.kept.size
 have hf:=hst.far
 refine h1.upd hst (by rw[sh2.len hv];exact ho) hni (fun hx=>hr _ _ hx ?_)
 exact sh2.keep (fun b ⟨a1,a2⟩=>⟨by omega,by rw[hf.size];exact a2,by omega⟩) (fun b o ⟨a1,a2⟩=>World.cell?_of_block (hf.block b (by omega))) hv
theorem LX.part {C:PC}{w wr W1:World}{M o k:Nat}{s s':PS}{x:T}{cs:List Value}(h:LX sh C w M s x cs wr)(kk:KeptG C.g wr W1)(hp:PSt C s' W1)(ho:o+k≤sh.k):W1.there M o k:=fun j hj=>by
 have:=(h.step kk hp).th (o+j) (by omega)
 rw[Nat.zero_add]at this
 exact this
end
structure RB (C:PC)(he:Nat)(w0:World)(s:PS)(xs:List QT)(v:Value)(wr:World):Prop where
 ps:PSt C s wr
 hg:C.g<he∧he<w0.heap.size
 kept:KeptH C.g he w0 wr
 cell:wr.cell? ⟨he,0,none⟩=some v
 fz:wr.frozen? ⟨he,0,none⟩=false
 own:Pak.Own qtX 63 w0.heap.size xs v wr
theorem own_form {T:Type}{sh:Pak.Sh T}{e:TypeId}{B:Nat}{xs:List T}{v:Value}{w:World}(h:Pak.Own sh e B xs v w):∃a n c,v= .slice a n c:=by
 obtain⟨css,_,⟨_,h2⟩,_⟩:=h.row
 rcases h2 with ⟨e,_⟩ | ⟨g,cap,cur,e,_⟩
 ·exact⟨_,_,_,e⟩
 ·exact⟨_,_,_,e⟩
theorem RB.push {C:PC}{he:Nat}{w0 wo wr:World}{M:Nat}{s s':PS}{xs:List QT}{x:QT}{v:Value}{cs:List Value}(h:RB C he w0 s xs v wo)(hl:LX qtX C wo M s' x cs wr)(hx:xs.length≤70000):
 wr.cell? ⟨he,0,none⟩=some v∧∃a n c w6,(∀ty,(Builtin.append_ #[23,23] ty #[v,.slice (some ⟨wr.heap.size,0,none⟩) 1 1]).run Tryz.prog (wr.alloc (.cells cs.toArray 63))= .ok (.slice a n c) w6)∧w6.cell? ⟨he,0,none⟩=some v∧w6.frozen? ⟨he,0,none⟩=false∧RB C he w0 s' (xs ++ [x]) (.slice a n c) (w6.setCell ⟨he,0,none⟩ (.slice a n c)):=by
 have hks:=h.kept.size
 have hgl:=h.hg
 have hkk:=hl.kept
 have hks2:=hkk.size
 have hwo:=hl.gl
 have ho5:=h.own.keptG hkk (show C.g<w0.heap.size by omega)
 have hlt:=h.own.lt
 have hc1:wr.cell? ⟨he,0,none⟩=some v:=(hkk.cell (by omega) (by omega) 0).trans h.cell
 have hf1:wr.frozen? ⟨he,0,none⟩=false:=(hkk.frozen (by omega) (by omega) 0).trans h.fz
 refine⟨hc1, ?_⟩
 obtain⟨v6,w6,hr,ho,hb,hg⟩:=Pak.Own.snoc (P:=Tryz.prog) (t:=23) Tryz.underlying23 Tryz.rowProc (by decide) (by decide) ho5 hx (by omega) (x:=x) (cs:=cs) (qtX.keep (fun b ⟨a1,a2,a3⟩=>⟨by omega,a2,fun e=>by have:=hlt b e;omega⟩) (fun _ _ _=>rfl) hl.tree)
 have hB:∀q,v.ownBlock=some q→w0.heap.size≤q:=fun q hq=>by
  obtain⟨css,h1,h2,h3⟩:=h.own.row
  exact(World.ownsRow.lt h2 q hq).1
 obtain⟨a,n,c,rfl⟩:=own_form ho
 have hA:(wr.alloc (.cells cs.toArray 63)).heap.size=wr.heap.size+1:=by simp
 have hne:some he≠v.ownBlock:=fun e=>by have:=hB he e.symm;omega
 have hc6:w6.cell? ⟨he,0,none⟩=some v:=(World.cell?_of_block (hg.block he (by omega) hne)).trans ((World.cell?_alloc_lt _ _ ⟨he,0,none⟩ (show he<wr.heap.size by omega)).trans hc1)
 have hf6:w6.frozen? ⟨he,0,none⟩=false:=(World.frozen?_of_block (hg.block he (by omega) hne)).trans ((World.frozen?_alloc_past _ _ _ (show he<wr.heap.size by omega)).trans hf1)
 have hps6:PSt C s' w6:=(hl.ps.alloc _).grown hg (fun q hq=>by have:=hB q hq;omega)
 have hfar:Far he w6 (w6.setCell ⟨he,0,none⟩ (.slice a n c)):=(Far.refl _ _).set _
 refine⟨a,n,c,w6,hr,hc6,hf6,hps6.far2 hfar hgl.1,hgl, ?_,World.cell?_setCell_same' _ _ _ (by rw[hc6];rfl),by rw[World.frozen?_setCell];exact hf6, ?_⟩
 ·have k:=h.kept.trans (hkk.kh he)
  exact⟨hb.os.trans k.os,hb.tape.trans k.tape,hb.output.trans k.output,by have:=hg.size;have:=hfar.size;rw[hfar.size];omega,fun q h1 h2 h3=>(hfar.block q h3).trans ((hb.block q h1).trans (k.block q h1 h2 h3))⟩
 ·exact ho.keptG (KeptG.set (g:=he)) hgl.2
theorem md_proc2 {C:PC}{s:PS}{w:World}(h:PSt C s w):Md C.tk s (dproc C.tk C.en s).2:=md_of (ag_proc h.sh (Sq.same h.ok)) (mv_proc s)
theorem dproc_lt {C:PC}{s:PS}{w:World}(h:PSt C s w)(e:(dproc C.tk C.en s).2.er=none):s.nx<(dproc C.tk C.en s).2.nx:=by
 have hr:=ag_proc (en:=C.en) h.sh (Sq.same h.ok)
 have e1:(pproc C.tk C.en s).2.er=none:=by rw[hr.1.er];exact e
 rw[←hr.1.eq e1]
 exact proc_lt e1
end Dc
end Go.Proofs.YtcinokljkieijaaGreatDoor
