/- Parts of a proof. -/
import Derived.Test.YtcinokljkieijaaGreatDoorQ15
import Derived.Laws.CopyRow
set_option linter.unusedVariables false
set_option linter.unusedSimpArgs false
set_option maxHeartbeats 60000000
set_option maxRecDepth 100000
namespace Go.Proofs.YtcinokljkieijaaGreatDoor
section
open Go.RowKit
def BlockSaid (n:Nat):Prop:=∀(C:PC) (s:PS) (w:World),PSt C s w→Fu (n+1) s→Calls Tryz.prog 58 #[C.p] w (PE (Vs stX) (pblock C.tk C.en (pstmt C.tk C.en n)) C s w)
def StmtSaid (n:Nat):Prop:=∀(C:PC) (s:PS) (w:World),PSt C s w→Fu n s→Calls Tryz.prog 124 #[C.p] w (PE (Vx stX) (pstmt C.tk C.en n) C s w)
def zSt6:List Value:=[.int .i64 6,.string ⟨#[]⟩,.string ⟨#[]⟩,.string ⟨#[]⟩,.int .i64 0,.int .i64 0,.string ⟨#[]⟩,.slice none 0 0,.int .i64 0,.int .i64 0,.string ⟨#[]⟩,.slice none 0 0,.int .i64 0,.slice none 0 0,.slice none 0 0,.int .i64 0,.int .i64 0,.slice none 0 0,.slice none 0 0,.int .i64 0,.int .i64 0,.string ⟨#[]⟩,.slice none 0 0,.int .i64 0,.int .i64 0,.string ⟨#[]⟩,.slice none 0 0,.string ⟨#[]⟩,.int .i64 0,.slice none 0 0,.slice none 0 0,.slice none 0 0,.slice none 0 0,.slice none 0 0,.slice none 0 0]
theorem zSt6_rel (S:Nat→Prop)(W:World):stX.rel S W zSt6 (ST.mk { sp0 with kind:=6 } [] []):=st_kind (cs:=zSt) (x:=ST.mk sp0 [] []) 6 ⟨by decide,by decide⟩ (zSt_rel S W)
theorem zSt6_one:∀u∈zSt6,u.oneCell'=true:=fun u hu=>List.all_eq_true.1 (show zSt6.all (·.oneCell')=true from rfl) u hu
def zSt7:List Value:=[.int .i64 7,.string ⟨#[]⟩,.string ⟨#[]⟩,.string ⟨#[]⟩,.int .i64 0,.int .i64 0,.string ⟨#[]⟩,.slice none 0 0,.int .i64 0,.int .i64 0,.string ⟨#[]⟩,.slice none 0 0,.int .i64 0,.slice none 0 0,.slice none 0 0,.int .i64 0,.int .i64 0,.slice none 0 0,.slice none 0 0,.int .i64 0,.int .i64 0,.string ⟨#[]⟩,.slice none 0 0,.int .i64 0,.int .i64 0,.string ⟨#[]⟩,.slice none 0 0,.string ⟨#[]⟩,.int .i64 0,.slice none 0 0,.slice none 0 0,.slice none 0 0,.slice none 0 0,.slice none 0 0,.slice none 0 0]
theorem zSt7_rel (S:Nat→Prop)(W:World):stX.rel S W zSt7 (ST.mk { sp0 with kind:=7 } [] []):=st_kind (cs:=zSt) (x:=ST.mk sp0 [] []) 7 ⟨by decide,by decide⟩ (zSt_rel S W)
theorem zSt7_one:∀u∈zSt7,u.oneCell'=true:=fun u hu=>List.all_eq_true.1 (show zSt7.all (·.oneCell')=true from rfl) u hu
theorem branch_any (n:Nat)(HBL:BlockSaid n)(C:PC)(s:PS)(w:World)(h:PSt C s w)(hf:Fu (n+1) s):
 Calls Tryz.prog 177 #[C.p] w (PE (Vx stX) (pbranch C.tk C.en (pstmt C.tk C.en n)) C s w):=by
 have hl0:=LP.fresh2 (sh:=stX) (t:=65) (z:=zSt) (z2:=zSt6) (x:=(ST.mk { sp0 with kind:=6 } [] [])) h rfl rfl zSt_ni zSt6_rel
 have HL0:=Lib.hid hl0
 obtain⟨s1,hs1⟩:∃s',s'=pm1 C.tk C.en (⟨#[105,102]⟩:ByteArray) s:=⟨_,rfl⟩
 have H0:=Lib.hid (fun(W:World) (G:Nat) (hG:W.heap.size=G) (hW:PSt C s W)=>must1_at C s (⟨#[105,102]⟩:ByteArray) W G hG hW (by decide))
 have X0:Hid (∀W e1 W1,PE Vt (pmust C.tk C.en [(⟨#[105,102]⟩:ByteArray)]) C s W e1 W1→(∃x,e1= .returned (.string x))∧PSt C s1 W1∧KeptG C.g W W1):=fun W e1 W1 hq=>by rw[hs1];exact pe_t hq
 obtain⟨cq1,hcq1⟩:∃x',x'=(pco C.tk C.en s1).1:=⟨_,rfl⟩
 obtain⟨s2,hs2⟩:∃s',s'=(pco C.tk C.en s1).2:=⟨_,rfl⟩
 have H1:=Lib.hid (fun W (hW:PSt C s1 W)=>co_any C s1 W hW)
 have X1:Hid (∀W e1 W1 cs,LP stX C (w) (w.heap.size+1) s1 (ST.mk { sp0 with kind:=6 } [] []) cs W→PE (Vx cnX) (pco C.tk C.en) C s1 W e1 W1→∃cs2:List Value,e1= .returned (.agg cs2.toArray)∧cs2.length=3∧(∀u∈cs2,u.oneCell'=true)∧W1.there (w.heap.size+1) 12 cs2.length∧∀W9,Stored (w.heap.size+1) 12 cs2 W1 W9→LP stX C (w) (w.heap.size+1) s2 (ST.mk { sp0 with kind:=6,c:=cq1 } [] []) (spl cs 12 cs2) W9):=fun W e1 W1 cs hl hq=>by
  obtain⟨cs2,a1,a2,a3,a4,a5,a6⟩:=pe_x hq
  have a2:cs2.length=3:=a2
  rw[←hs2]at a5
  rw[←hcq1]at a4
  exact⟨cs2,a1,a2,a3,by rw[a2];exact hl.part a6 a5 (by show 12+3≤35;omega),fun W9 hst=>hl.setP a6 a5 a4 (by show 12+3≤35;omega) (st_ni hl.tree) hst (fun S W hx hy=>st_c hy hx)⟩
 have mvx2:Mv C.tk s s2:=by subst_vars;exact(mv_m1 _ _).trans (mv_co _)
 have hfx2:=hf.mv h.inv mvx2
 obtain⟨bq2,hbq2⟩:∃x',x'=(pblock C.tk C.en (pstmt C.tk C.en n) s2).1:=⟨_,rfl⟩
 obtain⟨s3,hs3⟩:∃s',s'=(pblock C.tk C.en (pstmt C.tk C.en n) s2).2:=⟨_,rfl⟩
 have H2:=Lib.hid (fun(W:World) (hW:PSt C s2 W)=>(fun(_:PC) (_:PS) W hW=>HBL C s2 W hW hfx2) C s2 W hW)
 have X2:Hid (∀W e1 W1 cs,LP stX C (w) (w.heap.size+1) s2 (ST.mk { sp0 with kind:=6,c:=cq1 } [] []) cs W→PE (Vs stX) (pblock C.tk C.en (pstmt C.tk C.en n)) C s2 W e1 W1→∃a c,e1= .returned (.slice a bq2.length c)∧(∃z,W1.cell? ⟨w.heap.size+1,33,none⟩=some z)∧W1.frozen? ⟨w.heap.size+1,33,none⟩=false∧LP stX C (w) (w.heap.size+1) s3 (ST.mk { sp0 with kind:=6,c:=cq1 } bq2 []) (spl cs 33 [.slice a bq2.length c]) (W1.setCell ⟨w.heap.size+1,33,none⟩ (.slice a bq2.length c))):=fun W e1 W1 cs hl hq=>by
  obtain⟨a,c,a1,a2,a3,a4⟩:=pe_s hq
  rw[←hs3]at a3
  rw[←hbq2]at a1 a2
  obtain⟨⟨z,_,z1⟩,z2⟩:=(hl.step a4 a3).cell (j:=33) (by show 33<35;omega)
  exact⟨a,c,a1,⟨z,z1⟩,z2,hl.setS a4 a3 a2 (by show 33<35;omega) (st_ni hl.tree) (fun S W hx hv=>st_body hv hx)⟩
 obtain⟨s4,hs4⟩:∃s',s'=pm1 C.tk C.en (⟨#[101,108,115,101]⟩:ByteArray) s3:=⟨_,rfl⟩
 have H3:=Lib.hid (fun(W:World) (G:Nat) (hG:W.heap.size=G) (hW:PSt C s3 W)=>must1_at C s3 (⟨#[101,108,115,101]⟩:ByteArray) W G hG hW (by decide))
 have X3:Hid (∀W e1 W1,PE Vt (pmust C.tk C.en [(⟨#[101,108,115,101]⟩:ByteArray)]) C s3 W e1 W1→(∃x,e1= .returned (.string x))∧PSt C s4 W1∧KeptG C.g W W1):=fun W e1 W1 hq=>by rw[hs4];exact pe_t hq
 have mvx4:Mv C.tk s s4:=by subst_vars;exact(mv_m1 _ _).trans ((mv_co _).trans ((mv_block (mv_stmt n) _).trans (mv_m1 _ _)))
 have hfx4:=hf.mv h.inv mvx4
 obtain⟨dq4,hdq4⟩:∃x',x'=(pblock C.tk C.en (pstmt C.tk C.en n) s4).1:=⟨_,rfl⟩
 obtain⟨s5,hs5⟩:∃s',s'=(pblock C.tk C.en (pstmt C.tk C.en n) s4).2:=⟨_,rfl⟩
 have H4:=Lib.hid (fun(W:World) (hW:PSt C s4 W)=>(fun(_:PC) (_:PS) W hW=>HBL C s4 W hW hfx4) C s4 W hW)
 have X4:Hid (∀W e1 W1 cs,LP stX C (w) (w.heap.size+1) s4 (ST.mk { sp0 with kind:=6,c:=cq1 } bq2 []) cs W→PE (Vs stX) (pblock C.tk C.en (pstmt C.tk C.en n)) C s4 W e1 W1→∃a c,e1= .returned (.slice a dq4.length c)∧(∃z,W1.cell? ⟨w.heap.size+1,34,none⟩=some z)∧W1.frozen? ⟨w.heap.size+1,34,none⟩=false∧LP stX C (w) (w.heap.size+1) s5 (ST.mk { sp0 with kind:=6,c:=cq1 } bq2 dq4) (spl cs 34 [.slice a dq4.length c]) (W1.setCell ⟨w.heap.size+1,34,none⟩ (.slice a dq4.length c))):=fun W e1 W1 cs hl hq=>by
  obtain⟨a,c,a1,a2,a3,a4⟩:=pe_s hq
  rw[←hs5]at a3
  rw[←hdq4]at a1 a2
  obtain⟨⟨z,_,z1⟩,z2⟩:=(hl.step a4 a3).cell (j:=34) (by show 34<35;omega)
  exact⟨a,c,a1,⟨z,z1⟩,z2,hl.setS a4 a3 a2 (by show 34<35;omega) (st_ni hl.tree) (fun S W hx hv=>st_els hv hx)⟩
 have e:pbranch C.tk C.en (pstmt C.tk C.en n) s=((ST.mk { sp0 with kind:=6,c:=cq1 } bq2 dq4),s5):=by subst_vars;rfl
 have HO:=Lib.hid (fun W cs (hl:LP stX C (w) (w.heap.size+1) s5 (ST.mk { sp0 with kind:=6,c:=cq1 } bq2 dq4) cs W)=>hl.outw (f:=pbranch C.tk C.en (pstmt C.tk C.en n)) e)
 generalize PE (Vx stX) (pbranch C.tk C.en (pstmt C.tk C.en n)) C s w=Q at*
 clear hl0 e h hf HBL hs1 hcq1 hs2 hbq2 hs3 hs4 hdq4 hs5 mvx2 hfx2 mvx4 hfx4
 unfold zSt at*
 go_enter Tryz.func177,Tryz.ntmps177
 go_wp2_with (first | (refine gateS 65 3 rfl ?_;generalize hW1:w.alloc _=W1;have hs1':w.heap.size+1=W1.heap.size:=(by rw[←hW1];simp);apply wpList_store_fresh (ty:=65) (cs:=zSt6);(case hw=>kernel_rfl);(case ho=>exact rfl);(case hx=>exact congrArg (fun n=>Value.pointer (some ⟨n,0,none⟩)) hs1');(case hy=>exact rfl);(case hi=>kernel_rfl);(case hc=>exact rfl);(case h1=>exact zSt6_one);clear hs1';subst hW1))
 refine(H0.out ((w.alloc (.cells zSt.toArray 65)).alloc (.cells zSt6.toArray 65)) (w.heap.size+1+1) (by simp[World.setCell]) HL0.out.ps).mono ?_
 rintro e w1 hq
 obtain⟨⟨y0,rfl⟩,hp,hk⟩:=X0.out _ _ _ hq
 have HL1:=Lib.hid (HL0.out.step hk hp)
 clear hq hp hk H0 X0
 clear HL0
 go_wp2_with fail
 refine(H1.out w1 HL1.out.ps).mono ?_
 rintro e w2 hq
 obtain⟨c2,rfl,l2,o2,t2,fin⟩:=X1.out _ _ _ _ HL1.out hq
 have HF2:=Lib.hid fin
 clear hq fin H1 X1 HL1
 go_wp2_with (first | (refine gateS 55 10 rfl ?_;refine wpList_store_there rfl 55 _ _ rfl (w.heap.size+1) 12 rfl _ rfl (by rw[l2];kernel_rfl) o2 t2 ?_;intro w29 hst;have HL2:=Lib.hid (HF2.out _ hst);clear hst HF2))
 clear l2 o2 t2
 refine(H2.out w29 HL2.out.ps).mono ?_
 rintro e w3 hq
 obtain⟨ra3,rc3,rfl,⟨rz3,y3c⟩,f3c,hfin⟩:=X2.out _ _ _ _ HL2.out hq
 have HL3:=Lib.hid hfin
 clear hq hfin H2 X2 HL2
 go_wp2_with fail
 clear y3c f3c
 refine(H3.out (w3.setCell ⟨w.heap.size+1,33,none⟩ (.slice ra3 bq2.length rc3)) (w3.heap.size) (by simp[World.setCell]) HL3.out.ps).mono ?_
 rintro e w4 hq
 obtain⟨⟨y3,rfl⟩,hp,hk⟩:=X3.out _ _ _ hq
 have HL4:=Lib.hid (HL3.out.step hk hp)
 clear hq hp hk H3 X3
 clear HL3
 go_wp2_with fail
 refine(H4.out w4 HL4.out.ps).mono ?_
 rintro e w5 hq
 obtain⟨ra5,rc5,rfl,⟨rz5,y5c⟩,f5c,hfin⟩:=X4.out _ _ _ _ HL4.out hq
 have HL5:=Lib.hid hfin
 clear hq hfin H4 X4 HL4
 obtain⟨hl9,h19,hr9,ht9,hf9⟩:=HO.out _ _ HL5.out
 have HF9:=Lib.hid hf9
 clear hf9 HL5
 go_wp2_with (first | (refine gateL 65 3 rfl ?_;refine wpList_load_mid rfl 65 _ rfl (w.heap.size+1) 0 rfl _ _ hr9 Tryz.underlying65 rfl (by rw[hl9];kernel_rfl) ?_) | (refine gateS 65 2 rfl ?_;refine wpList_store_there rfl 65 _ _ rfl w.heap.size 0 rfl _ rfl (by rw[hl9];kernel_rfl) h19 ht9 ?_;intro w9 hst))
 exact bodyPost_ret (v:=_) (results_one rfl _ _ _ _ _ rfl (Tryz.stLoad hst.at' hl9)) rfl (HF9.out _ hst)
theorem loop_any (n:Nat)(HBL:BlockSaid n)(C:PC)(s:PS)(w:World)(h:PSt C s w)(hf:Fu (n+1) s):
 Calls Tryz.prog 178 #[C.p] w (PE (Vx stX) (ploop C.tk C.en (pstmt C.tk C.en n)) C s w):=by
 have hl0:=LP.fresh2 (sh:=stX) (t:=65) (z:=zSt) (z2:=zSt7) (x:=(ST.mk { sp0 with kind:=7 } [] [])) h rfl rfl zSt_ni zSt7_rel
 have HL0:=Lib.hid hl0
 obtain⟨s1,hs1⟩:∃s',s'=pm1 C.tk C.en (⟨#[119,104,105,108,101]⟩:ByteArray) s:=⟨_,rfl⟩
 have H0:=Lib.hid (fun(W:World) (G:Nat) (hG:W.heap.size=G) (hW:PSt C s W)=>must1_at C s (⟨#[119,104,105,108,101]⟩:ByteArray) W G hG hW (by decide))
 have X0:Hid (∀W e1 W1,PE Vt (pmust C.tk C.en [(⟨#[119,104,105,108,101]⟩:ByteArray)]) C s W e1 W1→(∃x,e1= .returned (.string x))∧PSt C s1 W1∧KeptG C.g W W1):=fun W e1 W1 hq=>by rw[hs1];exact pe_t hq
 obtain⟨cq1,hcq1⟩:∃x',x'=(pco C.tk C.en s1).1:=⟨_,rfl⟩
 obtain⟨s2,hs2⟩:∃s',s'=(pco C.tk C.en s1).2:=⟨_,rfl⟩
 have H1:=Lib.hid (fun W (hW:PSt C s1 W)=>co_any C s1 W hW)
 have X1:Hid (∀W e1 W1 cs,LP stX C (w) (w.heap.size+1) s1 (ST.mk { sp0 with kind:=7 } [] []) cs W→PE (Vx cnX) (pco C.tk C.en) C s1 W e1 W1→∃cs2:List Value,e1= .returned (.agg cs2.toArray)∧cs2.length=3∧(∀u∈cs2,u.oneCell'=true)∧W1.there (w.heap.size+1) 12 cs2.length∧∀W9,Stored (w.heap.size+1) 12 cs2 W1 W9→LP stX C (w) (w.heap.size+1) s2 (ST.mk { sp0 with kind:=7,c:=cq1 } [] []) (spl cs 12 cs2) W9):=fun W e1 W1 cs hl hq=>by
  obtain⟨cs2,a1,a2,a3,a4,a5,a6⟩:=pe_x hq
  have a2:cs2.length=3:=a2
  rw[←hs2]at a5
  rw[←hcq1]at a4
  exact⟨cs2,a1,a2,a3,by rw[a2];exact hl.part a6 a5 (by show 12+3≤35;omega),fun W9 hst=>hl.setP a6 a5 a4 (by show 12+3≤35;omega) (st_ni hl.tree) hst (fun S W hx hy=>st_c hy hx)⟩
 obtain⟨s3,hs3⟩:∃s',s'=pm1 C.tk C.en (⟨#[105,110,118,97,114,105,97,110,116]⟩:ByteArray) s2:=⟨_,rfl⟩
 have H2:=Lib.hid (fun(W:World) (G:Nat) (hG:W.heap.size=G) (hW:PSt C s2 W)=>must1_at C s2 (⟨#[105,110,118,97,114,105,97,110,116]⟩:ByteArray) W G hG hW (by decide))
 have X2:Hid (∀W e1 W1,PE Vt (pmust C.tk C.en [(⟨#[105,110,118,97,114,105,97,110,116]⟩:ByteArray)]) C s2 W e1 W1→(∃x,e1= .returned (.string x))∧PSt C s3 W1∧KeptG C.g W W1):=fun W e1 W1 hq=>by rw[hs3];exact pe_t hq
 obtain⟨aq3,haq3⟩:∃x',x'=(pas C.tk C.en s3).1:=⟨_,rfl⟩
 obtain⟨s4,hs4⟩:∃s',s'=(pas C.tk C.en s3).2:=⟨_,rfl⟩
 have H3:=Lib.hid (fun W (hW:PSt C s3 W)=>as_any C s3 W hW)
 have X3:Hid (∀W e1 W1 cs,LP stX C (w) (w.heap.size+1) s3 (ST.mk { sp0 with kind:=7,c:=cq1 } [] []) cs W→PE (Vx asX) (pas C.tk C.en) C s3 W e1 W1→∃cs2:List Value,e1= .returned (.agg cs2.toArray)∧cs2.length=15∧(∀u∈cs2,u.oneCell'=true)∧W1.there (w.heap.size+1) 15 cs2.length∧∀W9,Stored (w.heap.size+1) 15 cs2 W1 W9→LP stX C (w) (w.heap.size+1) s4 (ST.mk { sp0 with kind:=7,c:=cq1,a:=aq3 } [] []) (spl cs 15 cs2) W9):=fun W e1 W1 cs hl hq=>by
  obtain⟨cs2,a1,a2,a3,a4,a5,a6⟩:=pe_x hq
  have a2:cs2.length=15:=a2
  rw[←hs4]at a5
  rw[←haq3]at a4
  exact⟨cs2,a1,a2,a3,by rw[a2];exact hl.part a6 a5 (by show 15+15≤35;omega),fun W9 hst=>hl.setP a6 a5 a4 (by show 15+15≤35;omega) (st_ni hl.tree) hst (fun S W hx hy=>st_a hy hx)⟩
 have mvx4:Mv C.tk s s4:=by subst_vars;exact(mv_m1 _ _).trans ((mv_co _).trans ((mv_m1 _ _).trans (mv_as _)))
 have hfx4:=hf.mv h.inv mvx4
 obtain⟨bq4,hbq4⟩:∃x',x'=(pblock C.tk C.en (pstmt C.tk C.en n) s4).1:=⟨_,rfl⟩
 obtain⟨s5,hs5⟩:∃s',s'=(pblock C.tk C.en (pstmt C.tk C.en n) s4).2:=⟨_,rfl⟩
 have H4:=Lib.hid (fun(W:World) (hW:PSt C s4 W)=>(fun(_:PC) (_:PS) W hW=>HBL C s4 W hW hfx4) C s4 W hW)
 have X4:Hid (∀W e1 W1 cs,LP stX C (w) (w.heap.size+1) s4 (ST.mk { sp0 with kind:=7,c:=cq1,a:=aq3 } [] []) cs W→PE (Vs stX) (pblock C.tk C.en (pstmt C.tk C.en n)) C s4 W e1 W1→∃a c,e1= .returned (.slice a bq4.length c)∧(∃z,W1.cell? ⟨w.heap.size+1,33,none⟩=some z)∧W1.frozen? ⟨w.heap.size+1,33,none⟩=false∧LP stX C (w) (w.heap.size+1) s5 (ST.mk { sp0 with kind:=7,c:=cq1,a:=aq3 } bq4 []) (spl cs 33 [.slice a bq4.length c]) (W1.setCell ⟨w.heap.size+1,33,none⟩ (.slice a bq4.length c))):=fun W e1 W1 cs hl hq=>by
  obtain⟨a,c,a1,a2,a3,a4⟩:=pe_s hq
  rw[←hs5]at a3
  rw[←hbq4]at a1 a2
  obtain⟨⟨z,_,z1⟩,z2⟩:=(hl.step a4 a3).cell (j:=33) (by show 33<35;omega)
  exact⟨a,c,a1,⟨z,z1⟩,z2,hl.setS a4 a3 a2 (by show 33<35;omega) (st_ni hl.tree) (fun S W hx hv=>st_body hv hx)⟩
 have e:ploop C.tk C.en (pstmt C.tk C.en n) s=((ST.mk { sp0 with kind:=7,c:=cq1,a:=aq3 } bq4 []),s5):=by subst_vars;rfl
 have HO:=Lib.hid (fun W cs (hl:LP stX C (w) (w.heap.size+1) s5 (ST.mk { sp0 with kind:=7,c:=cq1,a:=aq3 } bq4 []) cs W)=>hl.outw (f:=ploop C.tk C.en (pstmt C.tk C.en n)) e)
 generalize PE (Vx stX) (ploop C.tk C.en (pstmt C.tk C.en n)) C s w=Q at*
 clear hl0 e h hf HBL hs1 hcq1 hs2 hs3 haq3 hs4 hbq4 hs5 mvx4 hfx4
 unfold zSt at*
 go_enter Tryz.func178,Tryz.ntmps178
 go_wp2_with (first | (refine gateS 65 3 rfl ?_;generalize hW1:w.alloc _=W1;have hs1':w.heap.size+1=W1.heap.size:=(by rw[←hW1];simp);apply wpList_store_fresh (ty:=65) (cs:=zSt7);(case hw=>kernel_rfl);(case ho=>exact rfl);(case hx=>exact congrArg (fun n=>Value.pointer (some ⟨n,0,none⟩)) hs1');(case hy=>exact rfl);(case hi=>kernel_rfl);(case hc=>exact rfl);(case h1=>exact zSt7_one);clear hs1';subst hW1))
 refine(H0.out ((w.alloc (.cells zSt.toArray 65)).alloc (.cells zSt7.toArray 65)) (w.heap.size+1+1) (by simp[World.setCell]) HL0.out.ps).mono ?_
 rintro e w1 hq
 obtain⟨⟨y0,rfl⟩,hp,hk⟩:=X0.out _ _ _ hq
 have HL1:=Lib.hid (HL0.out.step hk hp)
 clear hq hp hk H0 X0
 clear HL0
 go_wp2_with fail
 refine(H1.out w1 HL1.out.ps).mono ?_
 rintro e w2 hq
 obtain⟨c2,rfl,l2,o2,t2,fin⟩:=X1.out _ _ _ _ HL1.out hq
 have HF2:=Lib.hid fin
 clear hq fin H1 X1 HL1
 go_wp2_with (first | (refine gateS 55 10 rfl ?_;refine wpList_store_there rfl 55 _ _ rfl (w.heap.size+1) 12 rfl _ rfl (by rw[l2];kernel_rfl) o2 t2 ?_;intro w29 hst;have HL2:=Lib.hid (HF2.out _ hst);clear hst HF2))
 clear l2 o2 t2
 refine(H2.out w29 (w29.heap.size) (by simp[World.setCell]) HL2.out.ps).mono ?_
 rintro e w3 hq
 obtain⟨⟨y2,rfl⟩,hp,hk⟩:=X2.out _ _ _ hq
 have HL3:=Lib.hid (HL2.out.step hk hp)
 clear hq hp hk H2 X2
 clear HL2
 go_wp2_with fail
 refine(H3.out w3 HL3.out.ps).mono ?_
 rintro e w4 hq
 obtain⟨c4,rfl,l4,o4,t4,fin⟩:=X3.out _ _ _ _ HL3.out hq
 have HF4:=Lib.hid fin
 clear hq fin H3 X3 HL3
 go_wp2_with (first | (refine gateS 60 16 rfl ?_;refine wpList_store_there rfl 60 _ _ rfl (w.heap.size+1) 15 rfl _ rfl (by rw[l4];kernel_rfl) o4 t4 ?_;intro w49 hst;have HL4:=Lib.hid (HF4.out _ hst);clear hst HF4))
 clear l4 o4 t4
 refine(H4.out w49 HL4.out.ps).mono ?_
 rintro e w5 hq
 obtain⟨ra5,rc5,rfl,⟨rz5,y5c⟩,f5c,hfin⟩:=X4.out _ _ _ _ HL4.out hq
 have HL5:=Lib.hid hfin
 clear hq hfin H4 X4 HL4
 obtain⟨hl9,h19,hr9,ht9,hf9⟩:=HO.out _ _ HL5.out
 have HF9:=Lib.hid hf9
 clear hf9 HL5
 go_wp2_with (first | (refine gateL 65 3 rfl ?_;refine wpList_load_mid rfl 65 _ rfl (w.heap.size+1) 0 rfl _ _ hr9 Tryz.underlying65 rfl (by rw[hl9];kernel_rfl) ?_) | (refine gateS 65 2 rfl ?_;refine wpList_store_there rfl 65 _ _ rfl w.heap.size 0 rfl _ rfl (by rw[hl9];kernel_rfl) h19 ht9 ?_;intro w9 hst))
 exact bodyPost_ret (v:=_) (results_one rfl _ _ _ _ _ rfl (Tryz.stLoad hst.at' hl9)) rfl (HF9.out _ hst)
theorem stmt_if (n:Nat)(HBL:BlockSaid n)(C:PC)(s:PS)(w:World)(h:PSt C s w)(hf:Fu (n+1) s)(hy:ptx C.tk s 0=(⟨#[105,102]⟩:ByteArray)):
 Calls Tryz.prog 124 #[C.p] w (PE (Vx stX) (pstmt C.tk C.en (n+1)) C s w):=by
 have hg:=h.lt
 have HTX:=Lib.hid (text0_any C s _ (h.alloc (.cells zSt.toArray 65)))
 have e:pstmt C.tk C.en (n+1) s=pbranch C.tk C.en (pstmt C.tk C.en n) s:=by unfold pstmt;rw[if_pos hy]
 have HC:=Lib.hid (fun W (hb:Below (w.alloc (.cells zSt.toArray 65)).heap.size (w.alloc (.cells zSt.toArray 65)) W)=>branch_any n HBL C s W ((h.alloc (.cells zSt.toArray 65)).up hb) hf)
 have HE:Hid (∀W e2 W2,Below (w.alloc (.cells zSt.toArray 65)).heap.size (w.alloc (.cells zSt.toArray 65)) W→PE (Vx stX) (pbranch C.tk C.en (pstmt C.tk C.en n)) C s W e2 W2→∃cs:List Value,e2= .returned (.agg cs.toArray)∧cs.length=35∧(∀u∈cs,u.oneCell'=true)∧W2.there w.heap.size 0 cs.length∧∀w9,Stored w.heap.size 0 cs W2 w9→PE (Vx stX) (pstmt C.tk C.en (n+1)) C s w (.returned (.agg cs.toArray)) w9):=fun W e2 W2 hb hq=>res_fin (z:=zSt) (f:=pstmt C.tk C.en (n+1)) hg rfl zSt_ni (KeptG.of_below hb) hq e
 generalize PE (Vx stX) (pstmt C.tk C.en (n+1)) C s w=Q at*
 have hx0:=eq_lit [105,102] hy
 generalize ptx C.tk s 0=tx at*
 clear h hf e HBL hy hg
 unfold zSt at*
 go_enter Tryz.func124,Tryz.ntmps124
 go_wp2_with fail
 refine HTX.out.mono ?_
 rintro e w1 ⟨rfl,hb⟩
 have HB:=Lib.hid hb
 have HC1:=Lib.hid (HC.out w1 hb)
 clear hb HTX HC
 go_wp2_with fail
 refine HC1.out.mono ?_
 rintro e w2 hq
 obtain⟨cs,rfl,hl,h1,ht,hfin⟩:=HE.out _ _ _ HB.out hq
 have HF:=Lib.hid hfin
 clear hq HC1 HE HB hfin
 go_wp2_with (refine gateS 65 2 rfl ?_;refine wpList_store_there rfl 65 _ _ rfl w.heap.size 0 rfl cs rfl (by rw[hl];kernel_rfl) h1 ht ?_;intro w9 hst)
 exact bodyPost_ret (v:= .agg cs.toArray) (results_one rfl _ _ _ _ _ rfl (Tryz.stLoad hst.at' hl)) rfl (HF.out _ hst)
theorem stmt_while (n:Nat)(HBL:BlockSaid n)(C:PC)(s:PS)(w:World)(h:PSt C s w)(hf:Fu (n+1) s)(hn0:¬ptx C.tk s 0=(⟨#[105,102]⟩:ByteArray))(hy:ptx C.tk s 0=(⟨#[119,104,105,108,101]⟩:ByteArray)):
 Calls Tryz.prog 124 #[C.p] w (PE (Vx stX) (pstmt C.tk C.en (n+1)) C s w):=by
 have hg:=h.lt
 have HTX:=Lib.hid (text0_any C s _ (h.alloc (.cells zSt.toArray 65)))
 have e:pstmt C.tk C.en (n+1) s=ploop C.tk C.en (pstmt C.tk C.en n) s:=by unfold pstmt;rw[if_neg hn0,if_pos hy]
 have HC:=Lib.hid (fun W (hb:Below (w.alloc (.cells zSt.toArray 65)).heap.size (w.alloc (.cells zSt.toArray 65)) W)=>loop_any n HBL C s W ((h.alloc (.cells zSt.toArray 65)).up hb) hf)
 have HE:Hid (∀W e2 W2,Below (w.alloc (.cells zSt.toArray 65)).heap.size (w.alloc (.cells zSt.toArray 65)) W→PE (Vx stX) (ploop C.tk C.en (pstmt C.tk C.en n)) C s W e2 W2→∃cs:List Value,e2= .returned (.agg cs.toArray)∧cs.length=35∧(∀u∈cs,u.oneCell'=true)∧W2.there w.heap.size 0 cs.length∧∀w9,Stored w.heap.size 0 cs W2 w9→PE (Vx stX) (pstmt C.tk C.en (n+1)) C s w (.returned (.agg cs.toArray)) w9):=fun W e2 W2 hb hq=>res_fin (z:=zSt) (f:=pstmt C.tk C.en (n+1)) hg rfl zSt_ni (KeptG.of_below hb) hq e
 generalize PE (Vx stX) (pstmt C.tk C.en (n+1)) C s w=Q at*
 have hx0:=ne_lit [105,102] hn0
 have hx1:=eq_lit [119,104,105,108,101] hy
 generalize ptx C.tk s 0=tx at*
 clear h hf e HBL hn0 hy hg
 unfold zSt at*
 go_enter Tryz.func124,Tryz.ntmps124
 go_wp2_with fail
 refine HTX.out.mono ?_
 rintro e w1 ⟨rfl,hb⟩
 have HB:=Lib.hid hb
 have HC1:=Lib.hid (HC.out w1 hb)
 clear hb HTX HC
 go_wp2_with fail
 refine HC1.out.mono ?_
 rintro e w2 hq
 obtain⟨cs,rfl,hl,h1,ht,hfin⟩:=HE.out _ _ _ HB.out hq
 have HF:=Lib.hid hfin
 clear hq HC1 HE HB hfin
 go_wp2_with (refine gateS 65 2 rfl ?_;refine wpList_store_there rfl 65 _ _ rfl w.heap.size 0 rfl cs rfl (by rw[hl];kernel_rfl) h1 ht ?_;intro w9 hst)
 exact bodyPost_ret (v:= .agg cs.toArray) (results_one rfl _ _ _ _ _ rfl (Tryz.stLoad hst.at' hl)) rfl (HF.out _ hst)
theorem stmt_simple (n:Nat)(C:PC)(s:PS)(w:World)(h:PSt C s w)(hn0:¬ptx C.tk s 0=(⟨#[105,102]⟩:ByteArray))(hn1:¬ptx C.tk s 0=(⟨#[119,104,105,108,101]⟩:ByteArray)):
 Calls Tryz.prog 124 #[C.p] w (PE (Vx stX) (pstmt C.tk C.en (n+1)) C s w):=by
 have hg:=h.lt
 have HTX:=Lib.hid (text0_any C s _ (h.alloc (.cells zSt.toArray 65)))
 obtain⟨p,hp⟩:∃p,p=psimple C.tk C.en s:=⟨_,rfl⟩
 have e:pstmt C.tk C.en (n+1) s=(ST.mk p.1 [] [],pm1 C.tk C.en (⟨#[59]⟩:ByteArray) p.2):=by unfold pstmt;rw[if_neg hn0,if_neg hn1,hp]
 have HC:=Lib.hid (fun W (hb:Below (w.alloc (.cells zSt.toArray 65)).heap.size (w.alloc (.cells zSt.toArray 65)) W)=>simple_any C s W ((h.alloc (.cells zSt.toArray 65)).up hb))
 have HS:Hid (∀W e2 W2,Below (w.alloc (.cells zSt.toArray 65)).heap.size (w.alloc (.cells zSt.toArray 65)) W→PE (Vx stX) (fun s=>(ST.mk (psimple C.tk C.en s).1 [] [],(psimple C.tk C.en s).2)) C s W e2 W2→∃cs:List Value,e2= .returned (.agg cs.toArray)∧cs.length=35∧(∀u∈cs,u.oneCell'=true)∧Hid (LP stX C w W2.heap.size p.2 (ST.mk p.1 [] []) cs (W2.alloc (.cells cs.toArray 65)))):=fun W e2 W2 hb hq=>by
  obtain⟨cs,a1,a2,a3,a4,a5,a6⟩:=pe_x hq
  rw[hp]
  have hs:=hb.size
  simp at hs
  exact⟨cs,a1,a2,a3,LP.start (sh:=stX) (f:=fun s=>(ST.mk (psimple C.tk C.en s).1 [] [],(psimple C.tk C.en s).2)) hg rfl zSt_ni a5 ((KeptG.of_below hb).trans a6) (sh_lo a4 (by omega))⟩
 have HM:=Lib.hid (fun(W:World) (G:Nat) (hG:W.heap.size=G) (hW:PSt C p.2 W)=>must1_at C p.2 (⟨#[59]⟩:ByteArray) W G hG hW (by decide))
 have HO:=Lib.hid (fun W M cs (hl:LP stX C w M (pm1 C.tk C.en (⟨#[59]⟩:ByteArray) p.2) (ST.mk p.1 [] []) cs W)=>hl.outw (f:=pstmt C.tk C.en (n+1)) e)
 generalize PE (Vx stX) (pstmt C.tk C.en (n+1)) C s w=Q at*
 have hx0:=ne_lit [105,102] hn0
 have hx1:=ne_lit [119,104,105,108,101] hn1
 generalize ptx C.tk s 0=tx at*
 clear h e hp hn0 hn1
 have HG:=Lib.hid hg
 clear hg
 unfold zSt at*
 go_enter Tryz.func124,Tryz.ntmps124
 go_wp2_with fail
 refine HTX.out.mono ?_
 rintro e w1 ⟨rfl,hb⟩
 have HB:=Lib.hid hb
 have HC1:=Lib.hid (HC.out w1 hb)
 clear hb HTX HC
 go_wp2_with fail
 refine HC1.out.mono ?_
 rintro e w2 hq
 obtain⟨cs,rfl,hl,h1,HL2⟩:=HS.out _ _ _ HB.out hq
 have HM2:=Lib.hid (HM.out _ (w2.heap.size+1) (by simp) HL2.out.ps)
 clear hq HC1 HS HB HM
 go_wp2_with (refine gateS 65 3 rfl ?_;refine wpList_store_fresh (by kernel_rfl) 65 _ _ rfl _ rfl cs rfl (by rw[hl];kernel_rfl) (by rw[hl];rfl) h1 ?_)
 refine HM2.out.mono ?_
 rintro e w3 hq
 obtain⟨⟨x3,rfl⟩,hp3,hk3⟩:=pe_t hq
 obtain⟨hl9,h19,hr9,ht9,hf9⟩:=HO.out _ _ _ (HL2.out.step hk3 hp3)
 have HF9:=Lib.hid hf9
 clear hf9 hq hp3 hk3 HM2 HL2 HO
 go_wp2_with (first | (refine gateL 65 3 rfl ?_;refine wpList_load_mid rfl 65 _ rfl w2.heap.size 0 rfl _ _ hr9 Tryz.underlying65 rfl (by rw[hl9];kernel_rfl) ?_) | (refine gateS 65 2 rfl ?_;refine wpList_store_there rfl 65 _ _ rfl w.heap.size 0 rfl _ rfl (by rw[hl9];kernel_rfl) h19 ht9 ?_;intro w9 hst))
 exact bodyPost_ret (v:=_) (results_one rfl _ _ _ _ _ rfl (Tryz.stLoad hst.at' hl9)) rfl (HF9.out _ hst)
theorem stmt_step (n:Nat)(HBL:BlockSaid n):StmtSaid (n+1):=fun C s w h hf=>by
 by_cases h0:ptx C.tk s 0=(⟨#[105,102]⟩:ByteArray)
 ·exact stmt_if n HBL C s w h hf h0
 by_cases h1:ptx C.tk s 0=(⟨#[119,104,105,108,101]⟩:ByteArray)
 ·exact stmt_while n HBL C s w h hf h0 h1
 exact stmt_simple n C s w h h0 h1
end
section
open Go.RowKit
theorem proc_any (HBL:BlockSaid 53)(C:PC)(s:PS)(w:World)(h:PSt C s w):
 Calls Tryz.prog 23 #[C.p] w (PE (Vx qtX) (pproc C.tk C.en) C s w):=by
 have hl0:=LP.fresh2 (sh:=qtX) (t:=63) (z:=zQt) (z2:=zQt) (x:=qt0) h rfl rfl zQt_ni zQt_rel
 have HL0:=Lib.hid hl0
 obtain⟨s1,hs1⟩:∃s',s'=pm1 C.tk C.en (⟨#[112,114,111,99]⟩:ByteArray) s:=⟨_,rfl⟩
 have H0:=Lib.hid (fun(W:World) (G:Nat) (hG:W.heap.size=G) (hW:PSt C s W)=>must1_at C s (⟨#[112,114,111,99]⟩:ByteArray) W G hG hW (by decide))
 have X0:Hid (∀W e1 W1,PE Vt (pmust C.tk C.en [(⟨#[112,114,111,99]⟩:ByteArray)]) C s W e1 W1→(∃x,e1= .returned (.string x))∧PSt C s1 W1∧KeptG C.g W W1):=fun W e1 W1 hq=>by rw[hs1];exact pe_t hq
 obtain⟨fq1,hfq1⟩:∃x',x'=(pof C.tk C.en 1 s1).1:=⟨_,rfl⟩
 obtain⟨s2,hs2⟩:∃s',s'=(pof C.tk C.en 1 s1).2:=⟨_,rfl⟩
 have H1:=Lib.hid (fun W (hW:PSt C s1 W)=>pname_any C s1 W hW)
 have X1:Hid (∀W e1 W1,PSt C s1 W→PE Vt (pof C.tk C.en 1) C s1 W e1 W1→e1= .returned (.string fq1)∧fq1.size≤maxLen∧PSt C s2 W1∧KeptG C.g W W1):=fun W e1 W1 hS hq=>by rw[hs2,hfq1];exact⟨(pe_v hq).1,by have:=pof_size 1 hS;unfold maxLen;omega,(pe_v hq).2⟩
 obtain⟨s3,hs3⟩:∃s',s'=pm1 C.tk C.en (⟨#[40]⟩:ByteArray) s2:=⟨_,rfl⟩
 have H2:=Lib.hid (fun(W:World) (G:Nat) (hG:W.heap.size=G) (hW:PSt C s2 W)=>must1_at C s2 (⟨#[40]⟩:ByteArray) W G hG hW (by decide))
 have X2:Hid (∀W e1 W1,PE Vt (pmust C.tk C.en [(⟨#[40]⟩:ByteArray)]) C s2 W e1 W1→(∃x,e1= .returned (.string x))∧PSt C s3 W1∧KeptG C.g W W1):=fun W e1 W1 hq=>by rw[hs3];exact pe_t hq
 obtain⟨lq3,hlq3⟩:∃x',x'=(pnames C.tk C.en [(⟨#[59]⟩:ByteArray)] s3).1:=⟨_,rfl⟩
 obtain⟨s4,hs4⟩:∃s',s'=(pnames C.tk C.en [(⟨#[59]⟩:ByteArray)] s3).2:=⟨_,rfl⟩
 have H3:=Lib.hid (fun(W:World) (G:Nat) (hG:W.heap.size=G) (hW:PSt C s3 W)=>names_at C s3 (⟨#[59]⟩:ByteArray) W G hG hW (by decide))
 have X3:Hid (∀W e1 W1 cs,LP qtX C (w) (w.heap.size+1) s3 { qt0 with name:=fq1 } cs W→PE (Vs strSh) (pnames C.tk C.en [(⟨#[59]⟩:ByteArray)]) C s3 W e1 W1→∃a c,e1= .returned (.slice a lq3.length c)∧(∃z,W1.cell? ⟨w.heap.size+1,1,none⟩=some z)∧W1.frozen? ⟨w.heap.size+1,1,none⟩=false∧LP qtX C (w) (w.heap.size+1) s4 { qt0 with name:=fq1,params:=lq3 } (spl cs 1 [.slice a lq3.length c]) (W1.setCell ⟨w.heap.size+1,1,none⟩ (.slice a lq3.length c))):=fun W e1 W1 cs hl hq=>by
  obtain⟨a,c,a1,a2,a3,a4⟩:=pe_s hq
  rw[←hs4]at a3
  rw[←hlq3]at a1 a2
  obtain⟨⟨z,_,z1⟩,z2⟩:=(hl.step a4 a3).cell (j:=1) (by show 1<34;omega)
  exact⟨a,c,a1,⟨z,z1⟩,z2,hl.setS a4 a3 a2 (by show 1<34;omega) (qt_ni hl.tree) (fun S W hx hv=>qt_params hv hx)⟩
 obtain⟨s5,hs5⟩:∃s',s'=pm1 C.tk C.en (⟨#[59]⟩:ByteArray) s4:=⟨_,rfl⟩
 have H4:=Lib.hid (fun(W:World) (G:Nat) (hG:W.heap.size=G) (hW:PSt C s4 W)=>must1_at C s4 (⟨#[59]⟩:ByteArray) W G hG hW (by decide))
 have X4:Hid (∀W e1 W1,PE Vt (pmust C.tk C.en [(⟨#[59]⟩:ByteArray)]) C s4 W e1 W1→(∃x,e1= .returned (.string x))∧PSt C s5 W1∧KeptG C.g W W1):=fun W e1 W1 hq=>by rw[hs5];exact pe_t hq
 obtain⟨gq5,hgq5⟩:∃x',x'=(pnames C.tk C.en [(⟨#[41]⟩:ByteArray)] s5).1:=⟨_,rfl⟩
 obtain⟨s6,hs6⟩:∃s',s'=(pnames C.tk C.en [(⟨#[41]⟩:ByteArray)] s5).2:=⟨_,rfl⟩
 have H5:=Lib.hid (fun(W:World) (G:Nat) (hG:W.heap.size=G) (hW:PSt C s5 W)=>names_at C s5 (⟨#[41]⟩:ByteArray) W G hG hW (by decide))
 have X5:Hid (∀W e1 W1 cs,LP qtX C (w) (w.heap.size+1) s5 { qt0 with name:=fq1,params:=lq3 } cs W→PE (Vs strSh) (pnames C.tk C.en [(⟨#[41]⟩:ByteArray)]) C s5 W e1 W1→∃a c,e1= .returned (.slice a gq5.length c)∧(∃z,W1.cell? ⟨w.heap.size+1,2,none⟩=some z)∧W1.frozen? ⟨w.heap.size+1,2,none⟩=false∧LP qtX C (w) (w.heap.size+1) s6 { qt0 with name:=fq1,params:=lq3,ghosts:=gq5 } (spl cs 2 [.slice a gq5.length c]) (W1.setCell ⟨w.heap.size+1,2,none⟩ (.slice a gq5.length c))):=fun W e1 W1 cs hl hq=>by
  obtain⟨a,c,a1,a2,a3,a4⟩:=pe_s hq
  rw[←hs6]at a3
  rw[←hgq5]at a1 a2
  obtain⟨⟨z,_,z1⟩,z2⟩:=(hl.step a4 a3).cell (j:=2) (by show 2<34;omega)
  exact⟨a,c,a1,⟨z,z1⟩,z2,hl.setS a4 a3 a2 (by show 2<34;omega) (qt_ni hl.tree) (fun S W hx hv=>qt_ghosts hv hx)⟩
 obtain⟨s7,hs7⟩:∃s',s'=pm1 C.tk C.en (⟨#[41]⟩:ByteArray) s6:=⟨_,rfl⟩
 have H6:=Lib.hid (fun(W:World) (G:Nat) (hG:W.heap.size=G) (hW:PSt C s6 W)=>must1_at C s6 (⟨#[41]⟩:ByteArray) W G hG hW (by decide))
 have X6:Hid (∀W e1 W1,PE Vt (pmust C.tk C.en [(⟨#[41]⟩:ByteArray)]) C s6 W e1 W1→(∃x,e1= .returned (.string x))∧PSt C s7 W1∧KeptG C.g W W1):=fun W e1 W1 hq=>by rw[hs7];exact pe_t hq
 obtain⟨s8,hs8⟩:∃s',s'=pm1 C.tk C.en (⟨#[114,101,113,117,105,114,101,115]⟩:ByteArray) s7:=⟨_,rfl⟩
 have H7:=Lib.hid (fun(W:World) (G:Nat) (hG:W.heap.size=G) (hW:PSt C s7 W)=>must1_at C s7 (⟨#[114,101,113,117,105,114,101,115]⟩:ByteArray) W G hG hW (by decide))
 have X7:Hid (∀W e1 W1,PE Vt (pmust C.tk C.en [(⟨#[114,101,113,117,105,114,101,115]⟩:ByteArray)]) C s7 W e1 W1→(∃x,e1= .returned (.string x))∧PSt C s8 W1∧KeptG C.g W W1):=fun W e1 W1 hq=>by rw[hs8];exact pe_t hq
 obtain⟨pq8,hpq8⟩:∃x',x'=(pas C.tk C.en s8).1:=⟨_,rfl⟩
 obtain⟨s9,hs9⟩:∃s',s'=(pas C.tk C.en s8).2:=⟨_,rfl⟩
 have H8:=Lib.hid (fun W (hW:PSt C s8 W)=>as_any C s8 W hW)
 have X8:Hid (∀W e1 W1 cs,LP qtX C (w) (w.heap.size+1) s8 { qt0 with name:=fq1,params:=lq3,ghosts:=gq5 } cs W→PE (Vx asX) (pas C.tk C.en) C s8 W e1 W1→∃cs2:List Value,e1= .returned (.agg cs2.toArray)∧cs2.length=15∧(∀u∈cs2,u.oneCell'=true)∧W1.there (w.heap.size+1) 3 cs2.length∧∀W9,Stored (w.heap.size+1) 3 cs2 W1 W9→LP qtX C (w) (w.heap.size+1) s9 { qt0 with name:=fq1,params:=lq3,ghosts:=gq5,pre:=pq8 } (spl cs 3 cs2) W9):=fun W e1 W1 cs hl hq=>by
  obtain⟨cs2,a1,a2,a3,a4,a5,a6⟩:=pe_x hq
  have a2:cs2.length=15:=a2
  rw[←hs9]at a5
  rw[←hpq8]at a4
  exact⟨cs2,a1,a2,a3,by rw[a2];exact hl.part a6 a5 (by show 3+15≤34;omega),fun W9 hst=>hl.setP a6 a5 a4 (by show 3+15≤34;omega) (qt_ni hl.tree) hst (fun S W hx hy=>qt_pre hy hx)⟩
 obtain⟨s10,hs10⟩:∃s',s'=pm1 C.tk C.en (⟨#[101,110,115,117,114,101,115]⟩:ByteArray) s9:=⟨_,rfl⟩
 have H9:=Lib.hid (fun(W:World) (G:Nat) (hG:W.heap.size=G) (hW:PSt C s9 W)=>must1_at C s9 (⟨#[101,110,115,117,114,101,115]⟩:ByteArray) W G hG hW (by decide))
 have X9:Hid (∀W e1 W1,PE Vt (pmust C.tk C.en [(⟨#[101,110,115,117,114,101,115]⟩:ByteArray)]) C s9 W e1 W1→(∃x,e1= .returned (.string x))∧PSt C s10 W1∧KeptG C.g W W1):=fun W e1 W1 hq=>by rw[hs10];exact pe_t hq
 obtain⟨rq10,hrq10⟩:∃x',x'=(pas C.tk C.en s10).1:=⟨_,rfl⟩
 obtain⟨s11,hs11⟩:∃s',s'=(pas C.tk C.en s10).2:=⟨_,rfl⟩
 have H10:=Lib.hid (fun W (hW:PSt C s10 W)=>as_any C s10 W hW)
 have X10:Hid (∀W e1 W1 cs,LP qtX C (w) (w.heap.size+1) s10 { qt0 with name:=fq1,params:=lq3,ghosts:=gq5,pre:=pq8 } cs W→PE (Vx asX) (pas C.tk C.en) C s10 W e1 W1→∃cs2:List Value,e1= .returned (.agg cs2.toArray)∧cs2.length=15∧(∀u∈cs2,u.oneCell'=true)∧W1.there (w.heap.size+1) 18 cs2.length∧∀W9,Stored (w.heap.size+1) 18 cs2 W1 W9→LP qtX C (w) (w.heap.size+1) s11 { qt0 with name:=fq1,params:=lq3,ghosts:=gq5,pre:=pq8,post:=rq10 } (spl cs 18 cs2) W9):=fun W e1 W1 cs hl hq=>by
  obtain⟨cs2,a1,a2,a3,a4,a5,a6⟩:=pe_x hq
  have a2:cs2.length=15:=a2
  rw[←hs11]at a5
  rw[←hrq10]at a4
  exact⟨cs2,a1,a2,a3,by rw[a2];exact hl.part a6 a5 (by show 18+15≤34;omega),fun W9 hst=>hl.setP a6 a5 a4 (by show 18+15≤34;omega) (qt_ni hl.tree) hst (fun S W hx hy=>qt_post hy hx)⟩
 obtain⟨bq11,hbq11⟩:∃x',x'=(pbl C.tk C.en s11).1:=⟨_,rfl⟩
 obtain⟨s12,hs12⟩:∃s',s'=(pbl C.tk C.en s11).2:=⟨_,rfl⟩
 have H11:=Lib.hid (fun(W:World) (hW:PSt C s11 W)=>(fun(C:PC) (s:PS) W (hW:PSt C s W)=>HBL C s W hW (.inr (by have:=hW.inv.lo;omega))) C s11 W hW)
 have X11:Hid (∀W e1 W1 cs,LP qtX C (w) (w.heap.size+1) s11 { qt0 with name:=fq1,params:=lq3,ghosts:=gq5,pre:=pq8,post:=rq10 } cs W→PE (Vs stX) (pbl C.tk C.en) C s11 W e1 W1→∃a c,e1= .returned (.slice a bq11.length c)∧(∃z,W1.cell? ⟨w.heap.size+1,33,none⟩=some z)∧W1.frozen? ⟨w.heap.size+1,33,none⟩=false∧LP qtX C (w) (w.heap.size+1) s12 { qt0 with name:=fq1,params:=lq3,ghosts:=gq5,pre:=pq8,post:=rq10,body:=bq11 } (spl cs 33 [.slice a bq11.length c]) (W1.setCell ⟨w.heap.size+1,33,none⟩ (.slice a bq11.length c))):=fun W e1 W1 cs hl hq=>by
  obtain⟨a,c,a1,a2,a3,a4⟩:=pe_s hq
  rw[←hs12]at a3
  rw[←hbq11]at a1 a2
  obtain⟨⟨z,_,z1⟩,z2⟩:=(hl.step a4 a3).cell (j:=33) (by show 33<34;omega)
  exact⟨a,c,a1,⟨z,z1⟩,z2,hl.setS a4 a3 a2 (by show 33<34;omega) (qt_ni hl.tree) (fun S W hx hv=>qt_body hv hx)⟩
 have e:pproc C.tk C.en s=({ qt0 with name:=fq1,params:=lq3,ghosts:=gq5,pre:=pq8,post:=rq10,body:=bq11 },s12):=by subst_vars;rfl
 have HO:=Lib.hid (fun W cs (hl:LP qtX C (w) (w.heap.size+1) s12 { qt0 with name:=fq1,params:=lq3,ghosts:=gq5,pre:=pq8,post:=rq10,body:=bq11 } cs W)=>hl.outw (f:=pproc C.tk C.en) e)
 generalize PE (Vx qtX) (pproc C.tk C.en) C s w=Q at*
 clear hl0 e h HBL hs1 hfq1 hs2 hs3 hlq3 hs4 hs5 hgq5 hs6 hs7 hs8 hpq8 hs9 hs10 hrq10 hs11 hbq11 hs12
 unfold zQt at*
 go_enter Tryz.func23,Tryz.ntmps23
 go_wp2_with fail
 refine(H0.out ((w.alloc (.cells zQt.toArray 63)).alloc (.cells zQt.toArray 63)) (w.heap.size+1+1) (by simp[World.setCell]) HL0.out.ps).mono ?_
 rintro e w1 hq
 obtain⟨⟨y0,rfl⟩,hp,hk⟩:=X0.out _ _ _ hq
 have HL1:=Lib.hid (HL0.out.step hk hp)
 clear hq hp hk H0 X0
 clear HL0
 go_wp2_with fail
 refine(H1.out w1 HL1.out.ps).mono ?_
 rintro e w2 hq
 obtain⟨rfl,hb,hp,hk⟩:=X1.out _ _ _ HL1.out.ps hq
 have HM2:=Lib.hid (HL1.out.step hk hp)
 obtain⟨⟨v2,_,y2c⟩,f2c⟩:=HM2.out.cell (j:=0) (by show 0<34;omega)
 have HL2:Hid (LP qtX C (w) (w.heap.size+1) s2 { qt0 with name:=fq1 } _ (w2.setCell ⟨w.heap.size+1,0,none⟩ (.string fq1))):=Lib.hid (HM2.out.set1 (o:=0) (v:= .string fq1) (by show 0<34;omega) (qt_ni HM2.out.tree) (fun S W h=>(qt_name fq1 hb) h))
 clear hq hp hk hb H1 X1 HL1 HM2
 go_wp2_with fail
 clear y2c f2c
 refine(H2.out (w2.setCell ⟨w.heap.size+1,0,none⟩ (.string fq1)) (w2.heap.size) (by simp[World.setCell]) HL2.out.ps).mono ?_
 rintro e w3 hq
 obtain⟨⟨y2,rfl⟩,hp,hk⟩:=X2.out _ _ _ hq
 have HL3:=Lib.hid (HL2.out.step hk hp)
 clear hq hp hk H2 X2
 clear HL2
 go_wp2_with fail
 refine(H3.out w3 (w3.heap.size) (by simp[World.setCell]) HL3.out.ps).mono ?_
 rintro e w4 hq
 obtain⟨ra4,rc4,rfl,⟨rz4,y4c⟩,f4c,hfin⟩:=X3.out _ _ _ _ HL3.out hq
 have HL4:=Lib.hid hfin
 clear hq hfin H3 X3 HL3
 go_wp2_with fail
 clear y4c f4c
 refine(H4.out (w4.setCell ⟨w.heap.size+1,1,none⟩ (.slice ra4 lq3.length rc4)) (w4.heap.size) (by simp[World.setCell]) HL4.out.ps).mono ?_
 rintro e w5 hq
 obtain⟨⟨y4,rfl⟩,hp,hk⟩:=X4.out _ _ _ hq
 have HL5:=Lib.hid (HL4.out.step hk hp)
 clear hq hp hk H4 X4
 clear HL4
 go_wp2_with fail
 refine(H5.out w5 (w5.heap.size) (by simp[World.setCell]) HL5.out.ps).mono ?_
 rintro e w6 hq
 obtain⟨ra6,rc6,rfl,⟨rz6,y6c⟩,f6c,hfin⟩:=X5.out _ _ _ _ HL5.out hq
 have HL6:=Lib.hid hfin
 clear hq hfin H5 X5 HL5
 go_wp2_with fail
 clear y6c f6c
 refine(H6.out (w6.setCell ⟨w.heap.size+1,2,none⟩ (.slice ra6 gq5.length rc6)) (w6.heap.size) (by simp[World.setCell]) HL6.out.ps).mono ?_
 rintro e w7 hq
 obtain⟨⟨y6,rfl⟩,hp,hk⟩:=X6.out _ _ _ hq
 have HL7:=Lib.hid (HL6.out.step hk hp)
 clear hq hp hk H6 X6
 clear HL6
 go_wp2_with fail
 refine(H7.out w7 (w7.heap.size) (by simp[World.setCell]) HL7.out.ps).mono ?_
 rintro e w8 hq
 obtain⟨⟨y7,rfl⟩,hp,hk⟩:=X7.out _ _ _ hq
 have HL8:=Lib.hid (HL7.out.step hk hp)
 clear hq hp hk H7 X7
 clear HL7
 go_wp2_with fail
 refine(H8.out w8 HL8.out.ps).mono ?_
 rintro e w9 hq
 obtain⟨c9,rfl,l9,o9,t9,fin⟩:=X8.out _ _ _ _ HL8.out hq
 have HF9:=Lib.hid fin
 clear hq fin H8 X8 HL8
 go_wp2_with (first | (refine gateS 60 32 rfl ?_;refine wpList_store_there rfl 60 _ _ rfl (w.heap.size+1) 3 rfl _ rfl (by rw[l9];kernel_rfl) o9 t9 ?_;intro w99 hst;have HL9:=Lib.hid (HF9.out _ hst);clear hst HF9))
 clear l9 o9 t9
 refine(H9.out w99 (w99.heap.size) (by simp[World.setCell]) HL9.out.ps).mono ?_
 rintro e w10 hq
 obtain⟨⟨y9,rfl⟩,hp,hk⟩:=X9.out _ _ _ hq
 have HL10:=Lib.hid (HL9.out.step hk hp)
 clear hq hp hk H9 X9
 clear HL9
 go_wp2_with fail
 refine(H10.out w10 HL10.out.ps).mono ?_
 rintro e w11 hq
 obtain⟨c11,rfl,l11,o11,t11,fin⟩:=X10.out _ _ _ _ HL10.out hq
 have HF11:=Lib.hid fin
 clear hq fin H10 X10 HL10
 go_wp2_with (first | (refine gateS 60 38 rfl ?_;refine wpList_store_there rfl 60 _ _ rfl (w.heap.size+1) 18 rfl _ rfl (by rw[l11];kernel_rfl) o11 t11 ?_;intro w119 hst;have HL11:=Lib.hid (HF11.out _ hst);clear hst HF11))
 clear l11 o11 t11
 refine(H11.out w119 HL11.out.ps).mono ?_
 rintro e w12 hq
 obtain⟨ra12,rc12,rfl,⟨rz12,y12c⟩,f12c,hfin⟩:=X11.out _ _ _ _ HL11.out hq
 have HL12:=Lib.hid hfin
 clear hq hfin H11 X11 HL11
 obtain⟨hl9,h19,hr9,ht9,hf9⟩:=HO.out _ _ HL12.out
 have HF9:=Lib.hid hf9
 clear hf9 HL12
 go_wp2_with (first | (refine gateL 63 3 rfl ?_;refine wpList_load_mid rfl 63 _ rfl (w.heap.size+1) 0 rfl _ _ hr9 Tryz.underlying63 rfl (by rw[hl9];kernel_rfl) ?_) | (refine gateS 63 2 rfl ?_;refine wpList_store_there rfl 63 _ _ rfl w.heap.size 0 rfl _ rfl (by rw[hl9];kernel_rfl) h19 ht9 ?_;intro w9 hst))
 exact bodyPost_ret (v:=_) (results_one rfl _ _ _ _ _ rfl (Tryz.qtLoad hst.at' hl9)) rfl (HF9.out _ hst)
end
section
open Go.RowKit
section
variable {T:Type}
theorem Pak.Own.snoc_at {P:Program}{sh:Pak.Sh T}{t e:TypeId}{B:Nat}{xs:List T}{x:T}{v:Value}{w:World}{cs:List Value}{b:Nat}(ht:P.underlying t=some (.slice e)){by':Nat}(hin:(P.info? e).map (fun i=>(i.zero.map fun z=>z.cells.size,i.size,i.bytes))=some (some sh.k,sh.k,by'))(hk:0<sh.k)(hby:by'≤6000)
 (h:Pak.Own sh e B xs v w) (hn:xs.length≤70000) (hB:B≤w.heap.size) (hnew:∀j u,cs[j]? =some u→w.cell? ((⟨b,0,none⟩:Addr).add j)=some u) (hx:sh.rel (fun b=>B≤b∧b<w.heap.size∧v.ownBlock≠some b) w cs x):
 ∃v6 w6,(∀ty,(Builtin.append_ #[t,t] ty #[v,.slice (some ⟨b,0,none⟩) 1 1]).run P w= .ok v6 w6)∧Pak.Own sh e B (xs ++ [x]) v6 w6∧w.grownBy w6 v.ownBlock∧(v6.ownBlock=v.ownBlock∨v6.ownBlock=some w.heap.size):=by
 obtain⟨css,h1,h2,h3⟩:=h.row
 obtain⟨i0,hi,hz,hs,hb⟩:∃i0,P.info? e=some i0∧(∃z,i0.zero=some z∧z.cells.size=sh.k)∧i0.size=sh.k∧i0.bytes=by':=by
  cases hp:P.info? e with
  | none=>rw[hp]at hin;cases hin
  | some i=>
    rw[hp]at hin
    simp at hin
    obtain⟨⟨z,a1,a2⟩,a3,a4⟩:=hin
    exact⟨i,rfl,⟨z,a1,a2⟩,a3,a4⟩
 obtain⟨z,hz1,hz2⟩:=hz
 have hlen:=sh.len hx
 have hrun:=fun ty=>run_append_own_at (P:=P) w B t ty e i0 z sh.k by' ht hi hz1 hs hb hz2 hk v xs.length css.flatten h2 ⟨b,0,none⟩ 1 1 cs (by rw[hlen];omega) hnew (sh.one hx) (by unfold maxLen;omega) (by
  have:(xs.length+1)*by'≤(70000+1)*6000:=Nat.mul_le_mul (by omega) hby
  omega) hB
 obtain⟨v6,w6,hr,k2,k3,_,k5⟩:=hrun t
 have hvb:∀q,v.ownBlock=some q→q<w.heap.size:=h.lt
 have hne6:∀b,b<w.heap.size→v.ownBlock≠some b→v6.ownBlock≠some b:=fun b hb hne e=>by
  rcases k5 with k5 | k5
  ·exact hne (k5.symm.trans e)
  ·rw[k5]at e
   injection e with e
   omega
 refine⟨v6,w6,fun ty=>hr,⟨⟨css ++ [cs],by simp[h1], ?_,fun i hi hi2=> ?_⟩⟩,k3,k5⟩
 ·rw[List.length_append,List.flatten_append]
  simpa using k2
 ·have hkeep:∀ {cs x},sh.rel (fun b=>B≤b∧b<w.heap.size∧v.ownBlock≠some b) w cs x→sh.rel (fun b=>B≤b∧b<w6.heap.size∧v6.ownBlock≠some b) w6 cs x:=fun h=>
   sh.keep (fun b ⟨a1,a2,a3⟩=>⟨a1,Nat.lt_of_lt_of_le a2 k3.size,hne6 b a2 a3⟩) (fun b o ⟨a1,a2,a3⟩=>World.cell?_of_block (k3.block b a2 (fun e=>a3 e.symm))) h
  by_cases hlt:i<xs.length
  ·rw[List.getElem_append_left hlt,List.getElem_append_left (by omega)]
   exact hkeep (h3 i hlt (by omega))
  ·have hi':i=xs.length:=by simp at hi;omega
   subst hi'
   simp only[List.getElem_concat_length]
   have e2:(css ++ [cs])[xs.length]'hi2=cs:=by simp only[←h1,List.getElem_concat_length]
   rw[e2]
   exact hkeep hx
theorem Pak.Own.set_last {P:Program}{sh:Pak.Sh T}{e:TypeId}{B:Nat}{xs:List T}{x y:T}{v:Value}{w:World}{cs:List Value}(hin:(P.info? e).map (·.size)=some sh.k)(hk:0<sh.k)(h:Pak.Own sh e B (xs ++ [y]) v w)(hx:sh.rel (fun b=>B≤b∧b<w.heap.size∧v.ownBlock≠some b) w cs x):
 ∃g cap w',v= .slice (some ⟨g,0,none⟩) (xs.length+1) cap∧B≤g∧xs.length+1≤cap∧cap≤maxLen∧(Instr.storeAt e (.pointer (some ⟨g,xs.length*sh.k,none⟩)) (.agg cs.toArray)).run P w= .ok () w'∧Pak.Own sh e B (xs ++ [x]) v w'∧w.grownBy w' (some g):=by
 obtain⟨css,h1,h2,h3⟩:=h.row
 have hlen:=sh.len hx
 have hk1:∀cs∈css,cs.length=sh.k:=fun cs hc=>by
  obtain⟨i,hi,rfl⟩:=List.getElem_of_mem hc
  exact sh.len (h3 i (by omega) hi)
 rw[List.length_append,List.length_singleton]at h1 h2
 obtain⟨l0,h2' | ⟨g,cap,cur,rfl,hB,hg,hc1,hc2,hsz,htk⟩⟩:=h2
 ·omega
 obtain⟨ds,d,rfl⟩:∃ds d,css=ds ++ [d]:=⟨css.dropLast,css.getLast (by intro e;subst e;simp at h1),(List.dropLast_concat_getLast _).symm⟩
 have hds:ds.length=xs.length:=by simpa using h1
 have hd:d.length=sh.k:=hk1 d (by simp)
 have hfl:ds.flatten.length=xs.length*sh.k:=by
  rw[←hds]
  have hk2:∀c∈ds,c.length=sh.k:=fun c hc=>hk1 c (by simp[hc])
  clear h3 hg htk hsz l0 h1 hk1 hds
  induction ds with
  | nil=>simp
  | cons c r ih=>rw[List.flatten_cons,List.length_append,hk2 c (by simp),ih (fun c hc=>hk2 c (by simp[hc])),List.length_cons,Nat.succ_mul];omega
 have hcap:(xs.length+1)*sh.k≤cap*sh.k:=Nat.mul_le_mul_right _ hc1
 have hmul:(xs.length+1)*sh.k=xs.length*sh.k+sh.k:=Nat.succ_mul _ _
 have hst:=run_storeCells_at (P:=P) g (xs.length*sh.k) e cs 0 cur w hg (by omega) (sh.one hx)
 rw[Nat.add_zero]at hst
 obtain⟨new,hnew⟩:∃new,new=(cur.toList.take (xs.length*sh.k) ++ cs ++ cur.toList.drop (xs.length*sh.k+cs.length)):=⟨_,rfl⟩
 rw[←hnew]at hst
 have hheap:(w.setRow g new.toArray).heap[g]? =some (.cells new.toArray e (0,0)):=setRow_heap w g cur _ e _ hg
 have htake:cur.toList.take (xs.length*sh.k)=ds.flatten:=by
  have:=congrArg (List.take (xs.length*sh.k)) htk
  rw[List.take_take,List.flatten_append]at this
  rw[show min (xs.length*sh.k) ((xs.length+1)*sh.k)=xs.length*sh.k by omega]at this
  rw[this,List.take_append_of_le_length (by omega),List.take_of_length_le (by omega)]
 have hnl:new.length=cap*sh.k:=by
  rw[hnew]
  simp only[List.length_append,List.length_take,List.length_drop,Array.length_toList,hlen,hsz]
  omega
 have hgr:w.grownBy (w.setRow g new.toArray) (some g):=⟨rfl,rfl,rfl,by simp,fun q hq hne=>setRow_other w g q _ (fun e=>hne (by rw[e]))⟩
 have hgl:g<w.heap.size:=by
  by_cases hl:g<w.heap.size
  ·exact hl
  ·rw[Array.getElem?_eq_none (by omega)]at hg;cases hg
 refine⟨g,cap,w.setRow g new.toArray,rfl,hB,hc1,hc2, ?_,⟨⟨ds ++ [cs],by simp[hds], ?_,fun i hi hi2=> ?_⟩⟩,hgr⟩
 ·cases hq:P.info? e with
  | none=>simp[hq]at hin
  | some i=>
    have hs:cs.length=i.size:=by simp[hq]at hin;omega
    simp[Instr.storeAt,Instr.sureAddr,Sem.run_bind,storeVar,sizeOf,typeInfo,hq,Value.cells,hs,hst]
 ·refine⟨by rw[List.flatten_append,List.length_append,hfl,List.length_append,List.length_singleton];simp[hlen];omega,.inr ⟨g,cap,new.toArray,by simp,hB,hheap,by simpa using hc1,hc2,by simpa using hnl, ?_⟩⟩
  rw[List.length_append,List.length_singleton,List.flatten_append]
  simp only[List.flatten_cons,List.flatten_nil,List.append_nil]
  rw[hnew,htake]
  rw[List.take_append_of_le_length (by simp[hfl,hlen];omega)]
  exact List.take_of_length_le (by simp[hfl,hlen];omega)
 ·have hkeep:∀ {cs x},sh.rel (fun b=>B≤b∧b<w.heap.size∧(Value.slice (some ⟨g,0,none⟩) (xs.length+1) cap).ownBlock≠some b) w cs x→sh.rel (fun b=>B≤b∧b<(w.setRow g new.toArray).heap.size∧(Value.slice (some ⟨g,0,none⟩) (xs.length+1) cap).ownBlock≠some b) (w.setRow g new.toArray) cs x:=fun h=>
   sh.keep (fun b ⟨a1,a2,a3⟩=>⟨a1,Nat.lt_of_lt_of_le a2 hgr.size,a3⟩) (fun b o ⟨a1,a2,a3⟩=>World.cell?_of_block (hgr.block b a2 (fun e=>a3 e.symm))) h
  by_cases hlt:i<xs.length
  ·rw[List.getElem_append_left hlt,List.getElem_append_left (by omega)]
   have:=h3 i (by simp;omega) (by simp;omega)
   rw[List.getElem_append_left hlt,List.getElem_append_left (by omega)]at this
   exact hkeep this
  ·have hi':i=xs.length:=by simp at hi;omega
   subst hi'
   simp only[List.getElem_concat_length]
   have e2:(ds ++ [cs])[xs.length]'hi2=cs:=by simp only[←hds,List.getElem_concat_length]
   rw[e2]
   exact hkeep hx
end
end
section
open Go.RowKit
section
variable {P:Program} {o:Oper} {a:Act} {w w6:World} {K:Act→World→Prop} {Q:Exit→Act→World→Prop}
theorem wp_append_run (s x:Operand)(t:TypeId)(ho:o.op= .call { callee:= .builtin .append,args:= #[s,x],argTypes:= #[t,t] }){v6 va vx:Value}(hs:a.eval s=va)(hx:a.eval x=vx)(hrun:∀ty,(Builtin.append_ #[t,t] ty #[va,vx]).run P w= .ok v6 w6)(hK:K (a.put o.dst v6) w6):Oper.wp P o a w K Q:=by
 unfold Oper.wp
 simp[execOp,ho,resolve,invoke,builtin,hs,hx,hrun,Result.andThen]
 exact hK
theorem wp_store_run (ty:TypeId)(x y:Operand)(ho:o.op= .store ty x y){p v:Value}(hx:a.eval x=p)(hy:a.eval y=v)(hrun:(Instr.storeAt ty p v).run P w= .ok () w6)(hK:K (a.put o.dst undef) w6):Oper.wp P o a w K Q:=by
 unfold Oper.wp
 simp[execOp,ho,hx,hy,hrun,Sem.run_bind]
 exact hK
end
theorem st_tell {S:Nat→Prop}{W:World}{cs:List Value}{x:ST}(h:stX.rel S W cs x):Tell cs:= .inr (st_ni h)
theorem Tryz.rowStmt:(Tryz.prog.info? 65).map (fun i=>(i.zero.map fun z=>z.cells.size,i.size,i.bytes))=some (some 35,35,568):=by kernel_rfl
abbrev st0:ST:=ST.mk sp0 [] []
structure RQ (C:PC)(he hp:Nat)(w0:World)(s:PS)(xs:List ST)(v u:Value)(wr:World):Prop where
 ps:PSt C s wr
 gl:C.g<he∧C.g<hp∧hp≠he
 hl:he<w0.heap.size∧hp<w0.heap.size
 hp0:w0.cell? ⟨hp,0,none⟩=some C.p
 kept:KeptH C.g he w0 wr
 own:Pak.Own stX 65 w0.heap.size xs v wr
 cell:wr.cell? ⟨he,0,none⟩=some u
 fz:wr.frozen? ⟨he,0,none⟩=false
 nil:xs=[]→v= .slice none 0 0
section
variable {C:PC} {he hp:Nat} {w0:World} {s:PS} {xs:List ST} {v u:Value} {wr:World}
theorem RQ.pc (h:RQ C he hp w0 s xs v u wr):wr.cell? ⟨hp,0,none⟩=some C.p:=(World.cell?_of_block (h.kept.block hp h.hl.2 (by have:=h.gl;omega) h.gl.2.2)).trans h.hp0
theorem RQ.keep {w':World}{s':PS}(h:RQ C he hp w0 s xs v u wr)(k:KeptG C.g wr w')(hp':PSt C s' w'):RQ C he hp w0 s' xs v u w':=by
 have h1:=h.hl.1
 have h2:=h.gl.1
 have h3:=h.kept.size
 exact⟨hp',h.gl,h.hl,h.hp0,h.kept.trans (k.kh he),h.own.keptG k (by omega),(k.cell (by omega) (by omega) 0).trans h.cell,(k.frozen (by omega) (by omega) 0).trans h.fz,h.nil⟩
theorem RQ.alloc (h:RQ C he hp w0 s xs v u wr)(o:Obj):RQ C he hp w0 s xs v u (wr.alloc o):=h.keep (KeptG.alloc _ _ _) (h.ps.alloc o)
theorem RQ.drew (h:RQ C he hp w0 s xs v u wr):RQ C he hp w0 s xs v u wr.drew:=h.keep (KeptG.drew _ _) (h.ps.up ⟨rfl,rfl,rfl,Nat.le_refl _,fun _ _=>rfl⟩)
theorem RQ.start {he hp:Nat}{w:World}(h:PSt C s w)(h1:C.g<he∧C.g<hp∧hp≠he)(h2:he<w.heap.size∧hp<w.heap.size)(h3:w.cell? ⟨hp,0,none⟩=some C.p)(h4:w.cell? ⟨he,0,none⟩=some (.slice none 0 0))(h5:w.frozen? ⟨he,0,none⟩=false):RQ C he hp w s [] (.slice none 0 0) (.slice none 0 0) w:=
 ⟨h,h1,h2,h3,(KeptG.refl _ _).kh _,Pak.Own.nil _ _ _ _,h4,h5,fun _=>rfl⟩
theorem RQ.form (h:RQ C he hp w0 s xs v u wr):∃a cap,v= .slice a xs.length cap∧(xs≠[]→∃g,a=some ⟨g,0,none⟩∧xs.length≤cap∧cap≤maxLen):=by
 obtain⟨css,h1,h2,h3⟩:=h.own.row
 obtain⟨l0,⟨rfl,e⟩ | ⟨g,cap,cur,rfl,hB,hg,hc1,hc2,hsz,htk⟩⟩:=h2
 ·have:xs=[]:=List.eq_nil_of_length_eq_zero e
  subst this
  exact⟨none,0,rfl,fun h=>absurd rfl h⟩
 ·exact⟨some ⟨g,0,none⟩,cap,rfl,fun _=>⟨g,rfl,hc1,hc2⟩⟩
theorem RQ.blk (h:RQ C he hp w0 s xs v u wr):∀q,v.ownBlock=some q→w0.heap.size≤q∧q<wr.heap.size∧((∃v,wr.cell? ⟨q,0,none⟩=some v∧∀n,v≠ .int .i64 n)∨(∃v,wr.cell? ⟨q,1,none⟩=some v∧∀t u,v≠ .iface t u)):=fun q hq=>by
 obtain⟨css,h1,h2,h3⟩:=h.own.row
 have hqs:=World.ownsRow.lt h2 q hq
 refine⟨hqs.1,hqs.2, ?_⟩
 have hne:xs≠[]:=fun e=>by
  rw[h.nil e]at hq
  cases hq
 have hx0:0<xs.length:=List.length_pos_iff.2 hne
 have hc0:0<css.length:=by omega
 have hrel:=h3 0 hx0 hc0
 have hkk:∀cs∈css,cs.length=stX.k:=fun cs hc=>by
  obtain⟨i,hi,rfl⟩:=List.getElem_of_mem hc
  exact stX.len (h3 i (by omega) hi)
 have hcell:∀j u,css[0][j]? =some u→wr.cell? ⟨q,j,none⟩=some u:=fun j u hu=>by
  have hj:j<stX.k:=by
   have:=(List.getElem?_eq_some_iff.1 hu).1
   rwa [hkk _ (List.getElem_mem _)]at this
  have:=World.ownsRow.cells h2 hq (0*stX.k+j) u (by rw[Pak.flatten_get hkk 0 j hc0 hj];exact hu)
  rwa [show(⟨q,0,none⟩:Addr).add (0*stX.k+j)=⟨q,j,none⟩ by unfold Addr.add;split<;>simp_all]at this
 rcases st_tell hrel with ⟨u,hu,hu2⟩ | ⟨u,hu,hu2⟩
 ·exact .inl ⟨u,hcell 0 u hu,hu2⟩
 ·exact .inr ⟨u,hcell 1 u hu,hu2⟩
theorem RQ.app {b:Nat}(h:RQ C he hp w0 s xs v u wr)(hn:xs.length≤70000)(hnew:∀j u,zSt[j]? =some u→wr.cell? ((⟨b,0,none⟩:Addr).add j)=some u):
 ∃g cap w6,(∀ty,(Builtin.append_ #[61,61] ty #[v,.slice (some ⟨b,0,none⟩) 1 1]).run Tryz.prog wr= .ok (.slice (some ⟨g,0,none⟩) (xs.length+1) cap) w6)∧RQ C he hp w0 s (xs ++ [st0]) (.slice (some ⟨g,0,none⟩) (xs.length+1) cap) u w6∧(∀cs x,stX.rel (fun b=>w0.heap.size≤b∧b<wr.heap.size∧v.ownBlock≠some b) wr cs x→stX.rel (fun b=>w0.heap.size≤b∧b<w6.heap.size∧some g≠some b) w6 cs x):=by
 have hks:=h.kept.size
 have hl:=h.hl
 obtain⟨v6,w6,hr,ho,hg,h5⟩:=Pak.Own.snoc_at (P:=Tryz.prog) (t:=61) (x:=st0) (b:=b) (cs:=zSt) Tryz.underlying61 Tryz.rowStmt (by decide) (by decide) h.own hn hks hnew (zSt_rel _ _)
 have hblk:=h.blk
 have hn6:RQ C he hp w0 s (xs ++ [st0]) v6 u w6:=by
  have hgl:=h.gl
  refine⟨h.ps.grown hg (fun q hq=>⟨by have:=(hblk q hq).1;omega,(hblk q hq).2.2⟩),h.gl,h.hl,h.hp0, ?_,ho, ?_, ?_,fun e=>by simp at e⟩
  ·have k:=h.kept
   exact⟨hg.os.trans k.os,hg.tape.trans k.tape,hg.output.trans k.output,Nat.le_trans k.size hg.size,fun q h1 h2 h3=>(hg.block q (by omega) (fun e=>by have:=(hblk q e.symm).1;omega)).trans (k.block q h1 h2 h3)⟩
  ·exact(World.cell?_of_block (hg.block he (by omega) (fun e=>by have:=(hblk he e.symm).1;omega))).trans h.cell
  ·exact(World.frozen?_of_block (hg.block he (by omega) (fun e=>by have:=(hblk he e.symm).1;omega))).trans h.fz
 obtain⟨a,cap,rfl,hf⟩:=hn6.form
 obtain⟨g,rfl,_⟩:=hf (by simp)
 have e1:(xs ++ [st0]).length=xs.length+1:=by simp
 rw[e1]at hr hn6 h5
 refine⟨g,cap,w6,hr,hn6,fun cs x hx=>stX.keep (fun b ⟨a1,a2,a3⟩=>⟨a1,Nat.lt_of_lt_of_le a2 hg.size,fun e=> ?_⟩) (fun b o ⟨a1,a2,a3⟩=>World.cell?_of_block (hg.block b a2 (fun e=>a3 e.symm))) hx⟩
 injection e with e
 subst e
 rcases h5 with h5 | h5
 ·exact a3 h5.symm
 ·have:(g:Nat)=wr.heap.size:=Option.some.inj h5
  omega
theorem RQ.put {x y:ST}{cs:List Value}{g cap:Nat}(h:RQ C he hp w0 s (xs ++ [y]) (.slice (some ⟨g,0,none⟩) (xs.length+1) cap) u wr)(hx:stX.rel (fun b=>w0.heap.size≤b∧b<wr.heap.size∧some g≠some b) wr cs x):
 ∃w6,(Instr.storeAt 65 (.pointer (some ⟨g,xs.length*35,none⟩)) (.agg cs.toArray)).run Tryz.prog wr= .ok () w6∧RQ C he hp w0 s (xs ++ [x]) (.slice (some ⟨g,0,none⟩) (xs.length+1) cap) u w6:=by
 obtain⟨g2,cap2,w6,e,hB,hc1,hc2,hrun,ho,hg⟩:=Pak.Own.set_last (P:=Tryz.prog) (x:=x) (cs:=cs) (by kernel_rfl) (by decide) h.own hx
 injection e with e1 e2 e3
 injection e1 with e1
 injection e1 with e1
 subst e1
 subst e3
 have hblk:=h.blk g rfl
 have hl:=h.hl
 have hgl:=h.gl
 have hks:=h.kept.size
 refine⟨w6,hrun,h.ps.grown hg (fun q hq=>by injection hq with hq;subst hq;exact⟨by have:=hblk.1;omega,hblk.2.2⟩),h.gl,h.hl,h.hp0, ?_,ho, ?_, ?_,fun e=>by simp at e⟩
 ·have k:=h.kept
  exact⟨hg.os.trans k.os,hg.tape.trans k.tape,hg.output.trans k.output,Nat.le_trans k.size hg.size,fun q h1 h2 h3=>(hg.block q (by omega) (fun e=>by injection e with e;have:=hblk.1;omega)).trans (k.block q h1 h2 h3)⟩
 ·exact(World.cell?_of_block (hg.block he (by omega) (fun e=>by injection e with e;have:=hblk.1;omega))).trans h.cell
 ·exact(World.frozen?_of_block (hg.block he (by omega) (fun e=>by injection e with e;have:=hblk.1;omega))).trans h.fz
theorem RQ.seal (h:RQ C he hp w0 s xs v u wr)(hu:∀n,u≠ .int .i64 n):RQ C he hp w0 s xs v v (wr.setCell ⟨he,0,none⟩ v):=by
 have hl:=h.hl
 have hgl:=h.gl
 have hks:=h.kept.size
 have hfar:Far he wr (wr.setCell ⟨he,0,none⟩ v):=(Far.refl _ _).set v
 refine⟨?_,h.gl,h.hl,h.hp0,h.kept.trans hfar.kh, ?_,World.cell?_setCell_same' _ _ _ (by rw[h.cell];rfl),(World.frozen?_setCell _ _ _ _).trans h.fz,h.nil⟩
 ·exact h.ps.grown (ob:=some he) ⟨hfar.os,hfar.tape,hfar.output,Nat.le_of_eq hfar.size.symm,fun q hq hn=>hfar.block q (fun e=>hn (by rw[e]))⟩ (fun q hq=>by injection hq with hq;subst hq;exact⟨hgl.1,.inl ⟨u,h.cell,hu⟩⟩)
 ·obtain⟨css,h1,h2,h3⟩:=h.own.row
  refine⟨⟨css,h1,World.ownsRow.kept (row:=some he) h2 ⟨hfar.os,hfar.tape,hfar.output,Nat.le_of_eq hfar.size.symm,fun q hq hn=>hfar.block q (fun e=>hn (by rw[e]))⟩ (.inr fun e1=>by have:=(World.ownsRow.lt h2 he e1).1;omega),fun i hi hi2=>stX.keep (fun b ⟨a1,a2,a3⟩=>⟨a1,by rw[hfar.size];exact a2,a3⟩) (fun b o ⟨a1,a2,_⟩=>World.cell?_of_block (hfar.block b (by omega))) (h3 i hi hi2)⟩⟩
end
end
end Go.Proofs.YtcinokljkieijaaGreatDoor
