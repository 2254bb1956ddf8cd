/- Parts of a proof. -/
import Derived.Test.YtcinokljkieijaaGreatDoorW01
import Derived.Test.YtcinokljkieijaaGreatDoorW03
import Derived.Test.YtcinokljkieijaaGreatDoorW04
import Derived.Test.YtcinokljkieijaaGreatDoorW05
import Derived.Test.YtcinokljkieijaaGreatDoorW06
import Derived.Test.YtcinokljkieijaaGreatDoorW07
import Derived.Test.YtcinokljkieijaaGreatDoorW08
import Derived.Test.YtcinokljkieijaaGreatDoorW09
set_option linter.unusedVariables false
set_option linter.unusedSimpArgs false
set_option maxHeartbeats 60000000
set_option maxRecDepth 100000
namespace Go.Proofs.YtcinokljkieijaaGreatDoor
namespace Dc
open Go.RowKit
structure BA (C:PC)(w:World)(M b:Nat)(cs:List Value)(x:AT)(W:World):Prop where
 at':W.rangeAt b 0 cs
 lt:b<W.heap.size
 ne:b≠C.g
 tr:asX.rel (InN (w.heap.size+1) M W) W cs x
theorem BA.kept {C:PC}{w W W':World}{M b:Nat}{cs:List Value}{x:AT}(h:BA C w M b cs x W)(k:KeptG C.g W W')(hg:C.g<w.heap.size):BA C w M b cs x W':=
 ⟨k.range h.lt h.ne h.at',Nat.lt_of_lt_of_le h.lt k.size,h.ne,inN_kept h.tr k (by omega)⟩
theorem LP.boxA {C:PC}{w W W1:World}{M:Nat}{s:PS}{x:AT}{cs:List Value}{f:PS→AT×PS}{e:Ending}{t:TypeId}(h:LP asX C w M s x cs W)(hq:PE (Vx asX) f C s W e W1):∃ak ac ad al ae b1 b2 b3 ea eb en c1 c2 c3 va vb vn d1 d2 d3 fl nn e1 e2 e3,e= .returned (.agg #[.int .i64 ak,.int .i64 ac,.slice ad al ae,.slice b1 b2 b3,.int .i64 ea,.int .i64 eb,.string en,.slice c1 c2 c3,.int .i64 va,.int .i64 vb,.string vn,.slice d1 d2 d3,.string fl,.int .i64 nn,.slice e1 e2 e3])∧LP asX C w M (f s).2 x cs (W1.alloc (.cells #[.int .i64 ak,.int .i64 ac,.slice ad al ae,.slice b1 b2 b3,.int .i64 ea,.int .i64 eb,.string en,.slice c1 c2 c3,.int .i64 va,.int .i64 vb,.string vn,.slice d1 d2 d3,.string fl,.int .i64 nn,.slice e1 e2 e3] t))∧BA C w M W1.heap.size [.int .i64 ak,.int .i64 ac,.slice ad al ae,.slice b1 b2 b3,.int .i64 ea,.int .i64 eb,.string en,.slice c1 c2 c3,.int .i64 va,.int .i64 vb,.string vn,.slice d1 d2 d3,.string fl,.int .i64 nn,.slice e1 e2 e3] (f s).1 (W1.alloc (.cells #[.int .i64 ak,.int .i64 ac,.slice ad al ae,.slice b1 b2 b3,.int .i64 ea,.int .i64 eb,.string en,.slice c1 c2 c3,.int .i64 va,.int .i64 vb,.string vn,.slice d1 d2 d3,.string fl,.int .i64 nn,.slice e1 e2 e3] t)):=by
 obtain⟨v,g1,⟨cs2,g2,g3⟩,g4,g5⟩:=hq
 obtain⟨ak,ac,ad,al,ae,b1,b2,b3,ea,eb,en,c1,c2,c3,va,vb,vn,d1,d2,d3,fl,nn,e1,e2,e3,hcs2⟩:=as_open g3
 have hm:=h.ml
 have hgl:=h.gl
 have hz:=h.kept.size
 have h5:=g5.size
 rw[hcs2]at g3
 refine⟨ak,ac,ad,al,ae,b1,b2,b3,ea,eb,en,c1,c2,c3,va,vb,vn,d1,d2,d3,fl,nn,e1,e2,e3,by rw[g1,g2,hcs2],(h.step g5 g4).step (KeptG.alloc _ _ _) (g4.alloc _),⟨range_new W1 [.int .i64 ak,.int .i64 ac,.slice ad al ae,.slice b1 b2 b3,.int .i64 ea,.int .i64 eb,.string en,.slice c1 c2 c3,.int .i64 va,.int .i64 vb,.string vn,.slice d1 d2 d3,.string fl,.int .i64 nn,.slice e1 e2 e3] t,by simp,by omega, ?_⟩⟩
 exact inN_kept (inN_of (M:=M) g3 (by omega) (.inl (by omega))) (KeptG.alloc C.g W1 _) (by omega)
theorem LP.two {C:PC}{w W W9:World}{M b1 b2:Nat}{s:PS}{x x1 x2:AT}{cs cs1 cs2:List Value}{t:TypeId}(h:LP asX C w M s x cs W)(hx:BA C w M b1 cs1 x1 W)(hy:BA C w M b2 cs2 x2 W)(hst:Stored M 14 [.slice (some ⟨W.heap.size,0,none⟩) 2 2] (W.alloc (.cells (cs1 ++ cs2).toArray t)) W9):
 LP asX C w M s (.mk x.kind x.c x.e x.v x.field x.n [x1,x2]) (spl cs 14 [.slice (some ⟨W.heap.size,0,none⟩) 2 2]) W9:=by
 have ka:KeptG C.g W (W.alloc (.cells (cs1 ++ cs2).toArray t)):=KeptG.alloc _ _ _
 have hl:=h.step ka (h.ps.alloc _)
 have hf:=hst.far
 have hm:=h.ml
 have hgl:=h.gl
 have hz:=h.kept.size
 refine hl.upd hst (by show 14+1≤15;omega) (as_ni hl.tree) (fun hx9=> ?_)
 have hk1:=inN_far (inN_kept hx.tr ka (by omega)) hf
 have hk2:=inN_far (inN_kept hy.tr ka (by omega)) hf
 refine as_ks (slot_two (cs:=cs1) (ds:=cs2) (h:=W.heap.size) ?_ hk1 hk2 ⟨by omega,by rw[hf.size];simp,by omega⟩) hx9
 intro j v hv
 rw[World.cell?_of_block (hf.block _ (by show W.heap.size≠M;omega))]
 exact range_new W (cs1 ++ cs2) t j v hv
theorem as_whole {S:Nat→Prop}{W:World}{cs cs2:List Value}{x y:AT}(hy:asX.rel S W cs2 y)(hx:asX.rel S W cs x):asX.rel S W (spl cs 0 cs2) y:=by
 rw[spl_all (by rw[asX.len hx,asX.len hy])]
 exact hy
theorem begin_ok {tk:List Tok}{en:Nat}{t:ByteArray}{s:PS}(ht:t≠(⟨#[]⟩:ByteArray))(ok:s.er=none→s.ne≤50):(dbegin tk en t s).er=none→(dbegin tk en t s).ne≤50:=fun e=>by
 obtain⟨e1,e2,e3,_⟩:=begin_ne ht e
 have h1:=ok e1
 have h2:s.ne≠50:=fun h5=>by
  unfold dbegin at e
  rw[if_pos e2]at e
  have:=((md_eat (en:=en) (tk:=tk) ht (ddeeper tk en s)).nx e).1
  unfold ddeeper at this
  rw[if_pos h5]at this
  exact fail_er 4 s this
 omega
theorem Fd.begin {tk:List Tok}{en:Nat}{t:ByteArray}{n:Nat}{s:PS}(f:Fd (n+1) s)(hn:1≤n)(ht:t≠(⟨#[]⟩:ByteArray)):Fd n (dbegin tk en t s):=⟨hn,fun e=>by
 obtain⟨e1,_,e3,_⟩:=begin_ne ht e
 have:=f.deep e1
 omega⟩
theorem md_brace {tk:List Tok}{en:Nat}{o c:ByteArray}(ho:o≠(⟨#[]⟩:ByteArray))(hc:c≠(⟨#[]⟩:ByteArray)){s p:PS}(h:Md tk (dbegin tk en o s) p):Md tk s (dfin tk en c p):=by
 refine⟨fun e=> ?_,fun e=> ?_⟩
 ·have e1:dbegin tk en o s=s:=by
   have hd:¬dnx tk s=o:=by rw[dnx_bad e];exact fun h=>ho h.symm
   unfold dbegin deat
   rw[if_neg hd,if_neg hd,fail_bad e]
  rw[e1]at h
  have e2:=h.er e
  show(deat tk en c p).er=s.er
  rw[(md_eat (en:=en) (tk:=tk) hc p).er (by rw[e2];exact e),e2]
 ·have e:(deat tk en c p).er=none:=e
  obtain⟨e1,e2,e3⟩:=(md_eat (en:=en) (tk:=tk) hc p).nx e
  obtain⟨e4,e5,e6⟩:=h.nx e1
  obtain⟨e7,_,e8,e9⟩:=begin_ne ho e4
  refine⟨e7, ?_, ?_⟩
  ·show s.nx≤(deat tk en c p).nx
   omega
  ·show(deat tk en c p).ne - 1=s.ne
   omega
theorem md_assn2 {tk:List Tok}{en:Nat}(T:∀t∈tk,Shape t.kind t.text.data.toList){s:PS}(ok:s.er=none→s.ne≤50)(n:Nat):Md tk s (dassn tk (ditem tk en n) s).2:=md_of (ag_assn T (fun h'=>ag_item T n h') (fun s=>mv_item n s) (Sq.same ok)) (mv_assn (fun s=>mv_item n s) s)
theorem md_co2 {tk:List Tok}{en:Nat}(T:∀t∈tk,Shape t.kind t.text.data.toList){s:PS}(ok:s.er=none→s.ne≤50):Md tk s (dco tk en s).2:=md_of (ag_co T (Sq.same ok)) (mv_co s)
theorem Md.ok {tk:List Tok}{s s':PS}(m:Md tk s s')(ok:s.er=none→s.ne≤50):s'.er=none→s'.ne≤50:=fun e=>by
 obtain⟨e1,_,e3⟩:=m.nx e
 rw[e3];exact ok e1
theorem item_par (n:Nat)(C:PC)(s:PS)(w:World)(h:PSt C s w)(IH:ASaid 67 (fun tk en=>ditem tk en n) n)(hf:Fd (n+1) s)(hm:dnx C.tk s=(⟨#[40]⟩:ByteArray)):
 Calls Tryz.prog 67 #[C.p] w (PE (Vx asX) (ditem C.tk C.en (n+1)) C s w):=by
 have hg:=h.lt
 have hl0:=LP.fresh (sh:=asX) (t:=60) h rfl zAs_ni zAs_rel
 have HN:=Lib.hid (next_any C s _ hl0.ps)
 have HLX:Hid (∀W,Below ((w.alloc (.cells zAs.toArray 60)).alloc (.cells zAs.toArray 60)).heap.size ((w.alloc (.cells zAs.toArray 60)).alloc (.cells zAs.toArray 60)) W→LP asX C w (w.heap.size+1) s default zAs W):=fun W hb=>hl0.step (KeptG.of_below hb) (hl0.ps.up hb)
 obtain⟨h0,hnx⟩:=dnx_inv (tk:=C.tk) (s:=s) (by rw[hm];decide)
 obtain⟨s1,hs1⟩:∃s',s'=dbegin C.tk C.en (⟨#[40]⟩:ByteArray) s:=⟨_,rfl⟩
 have H0:=Lib.hid (fun W (hW:PSt C s W)=>begin_any C s (⟨#[40]⟩:ByteArray) W hW (by decide))
 have X0:Hid (∀W e1 W1,PU (dbegin C.tk C.en (⟨#[40]⟩:ByteArray)) C s W e1 W1→e1= .returned (.tuple #[])∧PSt C s1 W1∧KeptG C.g W W1):=fun W e1 W1 hu=>by rw[hs1];exact hu
 have hn1:1≤n:=by have h1:=hf.deep h0;have h2:=h.ok h0;omega
 have hfb:Fd n s1:=by rw[hs1];exact hf.begin hn1 (by decide)
 have AA:∀(C':PC) (s':PS) W,C'=C→s'=s1→PSt C' s' W→Calls Tryz.prog 28 #[C'.p] W (PE (Vx asX) (dassn C'.tk (ditem C'.tk C'.en n)) C' s' W):=fun C' s' W e1 e2 hW=>by subst e1;subst e2;exact assn_loop n IH _ _ W hW hfb
 obtain⟨aq1,haq1⟩:∃x',x'=(dassn C.tk (ditem C.tk C.en n) s1).1:=⟨_,rfl⟩
 obtain⟨s2,hs2⟩:∃s',s'=(dassn C.tk (ditem C.tk C.en n) s1).2:=⟨_,rfl⟩
 have H1:=Lib.hid (fun W (hW:PSt C s1 W)=>AA C s1 W rfl rfl hW)
 have X1:Hid (∀W e1 W1 cs,LP asX C (w) (w.heap.size+1) s1 default cs W→PE (Vx asX) (dassn C.tk (ditem C.tk C.en n)) C s1 W e1 W1→∃cs2:List Value,e1= .returned (.agg cs2.toArray)∧cs2.length=15∧(∀u∈cs2,u.oneCell'=true)∧W1.there (w.heap.size+1) 0 cs2.length∧∀W9,Stored (w.heap.size+1) 0 cs2 W1 W9→LP asX C (w) (w.heap.size+1) s2 aq1 (spl cs 0 cs2) W9):=fun W e1 W1 cs hl hq=>by
  obtain⟨cs2,a1,a2,a3,a4,a5,a6⟩:=pe_x hq
  have a2:cs2.length=15:=a2
  rw[←hs2]at a5
  rw[←haq1]at a4
  exact⟨cs2,a1,a2,a3,by rw[a2];exact hl.part a6 a5 (by show 0+15≤15;omega),fun W9 hst=>hl.setP a6 a5 a4 (by show 0+15≤15;omega) (as_ni hl.tree) hst (fun S W hx hy=>as_whole hy hx)⟩
 obtain⟨s3,hs3⟩:∃s',s'=dfin C.tk C.en (⟨#[41]⟩:ByteArray) s2:=⟨_,rfl⟩
 have H2:=Lib.hid (fun Wa Wb W (hA:PSt C s Wa) (hB:PSt C s1 Wb) (hW:PSt C s2 W)=>finish_any C s2 (⟨#[41]⟩:ByteArray) W hW (by decide) (fun e=>by
  obtain⟨e1,_⟩:=(md_eat (en:=C.en) (tk:=C.tk) (t:=(⟨#[41]⟩:ByteArray)) (by decide) s2).nx e
  have hmd:Md C.tk s1 s2:=by rw[hs2];exact md_assn hB n
  obtain⟨e2,_,e3⟩:=hmd.nx e1
  rw[hs1]at e2 e3
  obtain⟨e4,_,e5,_⟩:=begin_ne (by decide) e2
  have:=(hA.inv e4).1
  omega))
 have X2:Hid (∀W e1 W1,PU (dfin C.tk C.en (⟨#[41]⟩:ByteArray)) C s2 W e1 W1→e1= .returned (.tuple #[])∧PSt C s3 W1∧KeptG C.g W W1):=fun W e1 W1 hu=>by rw[hs3];exact hu
 have ed:ditem C.tk C.en (n+1) s=(aq1,s3):=by
  rw[ditem,if_neg (by rw[hm];decide),if_neg (by rw[hm];decide),if_neg (by rw[hm];decide),if_neg (by rw[hm];decide),if_neg (by rw[hm];decide),if_pos hm]
  subst_vars
  rfl
 have HO:=Lib.hid (fun W cs (hl:LP asX C w (w.heap.size+1) s3 aq1 cs W)=>hl.outw (f:=ditem C.tk C.en (n+1)) ed)
 have hx0:((dnx C.tk s).toList == [101,109,112])=false:=ne_lit [101,109,112] (by rw[hm];decide)
 have hx1:((dnx C.tk s).toList == [91])=false:=ne_lit [91] (by rw[hm];decide)
 have hx2:((dnx C.tk s).toList == [97,99,99])=false:=ne_lit [97,99,99] (by rw[hm];decide)
 have hx3:((dnx C.tk s).toList == [112,116,115])=false:=ne_lit [112,116,115] (by rw[hm];decide)
 have hx4:((dnx C.tk s).toList == [105,102])=false:=ne_lit [105,102] (by rw[hm];decide)
 have hx5:=eq_lit [40] hm
 generalize dnx C.tk s=tx at*
 generalize PE (Vx asX) (ditem C.tk C.en (n+1)) C s w=Q at*
 clear hl0 h ed hm h0 hnx hs1 haq1 hs2 hs3 hf hn1 hfb AA IH
 unfold PC.p at*
 go_enter Tryz.func67,Tryz.ntmps67
 go_wp2_with (refine gateS 60 3 rfl ?_;refine wpList_store_fresh (by kernel_rfl) 60 _ _ rfl _ rfl zAs rfl (by kernel_rfl) rfl zAs_one ?_)
 refine HN.out.mono ?_
 rintro e w1 ⟨rfl,hb⟩
 have HL1:=Lib.hid (HLX.out w1 hb)
 clear hb HN HLX
 have HPA_s:=Lib.hid HL1.out.ps
 go_wp2_with fail
 refine(H0.out _ HL1.out.ps).mono ?_
 rintro e w2 hq
 obtain⟨rfl,hp,hk⟩:=X0.out _ _ _ hq
 have HL2:=Lib.hid (HL1.out.step hk hp)
 clear hq hp hk H0 X0
 clear HL1
 have HPB_s1:=Lib.hid HL2.out.ps
 go_wp2_with fail
 refine(H1.out _ HL2.out.ps).mono ?_
 rintro e w3 hq
 obtain⟨c3,rfl,l3,o3,t3,fin⟩:=X1.out _ _ _ _ HL2.out hq
 have HF3:=Lib.hid fin
 clear hq fin H1 X1
 clear HL2
 go_wp2_with (first | (refine gateS 60 3 rfl ?_;refine wpList_store_there rfl 60 _ _ rfl (w.heap.size+1) 0 rfl _ rfl (by rw[l3];kernel_rfl) o3 t3 ?_;intro w39 hst;have HL3:=Lib.hid (HF3.out _ hst);clear hst HF3))
 clear l3 o3 t3
 refine(H2.out _ _ _ HPA_s.out HPB_s1.out HL3.out.ps).mono ?_
 rintro e w4 hq
 obtain⟨rfl,hp,hk⟩:=X2.out _ _ _ hq
 have HL4:=Lib.hid (HL3.out.step hk hp)
 clear hq hp hk H2 X2 HPA_s HPB_s1
 clear HL3
 obtain⟨hl9,h19,hr9,ht9,hf9⟩:=HO.out _ _ HL4.out
 have HF9:=Lib.hid hf9
 clear hf9 HL4
 go_wp2_with (first | (refine gateL 60 3 rfl ?_;refine wpList_load_mid rfl 60 _ rfl (w.heap.size+1) 0 rfl _ _ hr9 Tryz.underlying60 rfl (by rw[hl9];kernel_rfl) ?_) | (refine gateS 60 2 rfl ?_;refine wpList_store_there rfl 60 _ _ rfl w.heap.size 0 rfl _ rfl (by rw[hl9];kernel_rfl) h19 ht9 ?_;intro w9 hst))
 exact bodyPost_ret (v:=_) (results_one rfl _ _ _ _ _ rfl (Tryz.asLoad hst.at' hl9)) rfl (HF9.out _ hst)
end Dc
namespace Dc
open Go.RowKit
theorem item_if (n:Nat)(C:PC)(s:PS)(w:World)(h:PSt C s w)(IH:ASaid 67 (fun tk en=>ditem tk en n) n)(hf:Fd (n+1) s)(hm:dnx C.tk s=(⟨#[105,102]⟩:ByteArray)):
 Calls Tryz.prog 67 #[C.p] w (PE (Vx asX) (ditem C.tk C.en (n+1)) C s w):=by
 have hg:=h.lt
 have hl0:=LP.fresh (sh:=asX) (t:=60) h rfl zAs_ni zAs_rel
 have HN:=Lib.hid (next_any C s _ hl0.ps)
 have HLX:Hid (∀W,Below ((w.alloc (.cells zAs.toArray 60)).alloc (.cells zAs.toArray 60)).heap.size ((w.alloc (.cells zAs.toArray 60)).alloc (.cells zAs.toArray 60)) W→LP asX C w (w.heap.size+1) s default zAs W):=fun W hb=>hl0.step (KeptG.of_below hb) (hl0.ps.up hb)
 obtain⟨h0,hnx⟩:=dnx_inv (tk:=C.tk) (s:=s) (by rw[hm];decide)
 obtain⟨s1,hs1⟩:∃s',s'=pgo s:=⟨_,rfl⟩
 have X0:Hid (∀W,PSt C s W→(W.cell? ⟨C.g,2,none⟩=some (.int .i64 s.nx)∧W.frozen? ⟨C.g,2,none⟩=false∧IntKind.i64.wrap ((s.nx:Int)+1)=(s.nx:Int)+1)∧PSt C s1 (W.setCell ⟨C.g,2,none⟩ (.int .i64 ((s.nx:Int)+1)))):=fun W hW=>⟨two_wrap hW h0,by rw[hs1];exact hW.go h0 hnx⟩
 obtain⟨cq1,hcq1⟩:∃x',x'=(dco C.tk C.en s1).1:=⟨_,rfl⟩
 obtain⟨s2,hs2⟩:∃s',s'=(dco C.tk C.en s1).2:=⟨_,rfl⟩
 have H1:=Lib.hid (fun W (hW:PSt C s1 W)=>cond_any C s1 W hW)
 have X1:Hid (∀W e1 W1 cs,LP asX C (w) (w.heap.size+1) s1 (AT.mk 5 default default default (⟨#[]⟩:ByteArray) 0 []) cs W→PE (Vx cnX) (dco C.tk C.en) C s1 W e1 W1→∃cs2:List Value,e1= .returned (.agg cs2.toArray)∧cs2.length=3∧(∀u∈cs2,u.oneCell'=true)∧W1.there (w.heap.size+1) 1 cs2.length∧∀W9,Stored (w.heap.size+1) 1 cs2 W1 W9→LP asX C (w) (w.heap.size+1) s2 (AT.mk 5 cq1 default default (⟨#[]⟩:ByteArray) 0 []) (spl cs 1 cs2) W9):=fun W e1 W1 cs hl hq=>by
  obtain⟨cs2,a1,a2,a3,a4,a5,a6⟩:=pe_x hq
  have a2:cs2.length=3:=a2
  rw[←hs2]at a5
  rw[←hcq1]at a4
  exact⟨cs2,a1,a2,a3,by rw[a2];exact hl.part a6 a5 (by show 1+3≤15;omega),fun W9 hst=>hl.setP a6 a5 a4 (by show 1+3≤15;omega) (as_ni hl.tree) hst (fun S W hx hy=>as_c hy hx)⟩
 obtain⟨s3,hs3⟩:∃s',s'=dbegin C.tk C.en (⟨#[123]⟩:ByteArray) s2:=⟨_,rfl⟩
 have H2:=Lib.hid (fun W (hW:PSt C s2 W)=>begin_any C s2 (⟨#[123]⟩:ByteArray) W hW (by decide))
 have X2:Hid (∀W e1 W1,PU (dbegin C.tk C.en (⟨#[123]⟩:ByteArray)) C s2 W e1 W1→e1= .returned (.tuple #[])∧PSt C s3 W1∧KeptG C.g W W1):=fun W e1 W1 hu=>by rw[hs3];exact hu
 have hn1:1≤n:=by have h1:=hf.deep h0;have h2:=h.ok h0;omega
 have ok2m:Md C.tk s s2:=by rw[hs2,hs1];exact(md_go h0).trans (md_co2 h.sh (fun _=>h.ok h0))
 have hf_s3:Fd n s3:=by rw[hs3];exact(hf.mv ok2m).begin hn1 (by decide)
 obtain⟨aq3,haq3⟩:∃x',x'=(dassn C.tk (ditem C.tk C.en n) s3).1:=⟨_,rfl⟩
 obtain⟨s4,hs4⟩:∃s',s'=(dassn C.tk (ditem C.tk C.en n) s3).2:=⟨_,rfl⟩
 have H3:=Lib.hid (fun W (hW:PSt C s3 W)=>assn_loop n IH C s3 W hW hf_s3)
 have X3:Hid (∀W E1 W1 cs,LP asX C w (w.heap.size+1) s3 (AT.mk 5 cq1 default default (⟨#[]⟩:ByteArray) 0 []) cs W→PE (Vx asX) (dassn C.tk (ditem C.tk C.en n)) C s3 W E1 W1→∃ak ac ad al ae b1 b2 b3 ea eb en c1 c2 c3 va vb vn d1 d2 d3 fl nn e1 e2 e3,E1= .returned (.agg #[.int .i64 ak,.int .i64 ac,.slice ad al ae,.slice b1 b2 b3,.int .i64 ea,.int .i64 eb,.string en,.slice c1 c2 c3,.int .i64 va,.int .i64 vb,.string vn,.slice d1 d2 d3,.string fl,.int .i64 nn,.slice e1 e2 e3])∧LP asX C w (w.heap.size+1) s4 (AT.mk 5 cq1 default default (⟨#[]⟩:ByteArray) 0 []) cs (W1.alloc (.cells #[.int .i64 ak,.int .i64 ac,.slice ad al ae,.slice b1 b2 b3,.int .i64 ea,.int .i64 eb,.string en,.slice c1 c2 c3,.int .i64 va,.int .i64 vb,.string vn,.slice d1 d2 d3,.string fl,.int .i64 nn,.slice e1 e2 e3] 60))∧BA C w (w.heap.size+1) W1.heap.size [.int .i64 ak,.int .i64 ac,.slice ad al ae,.slice b1 b2 b3,.int .i64 ea,.int .i64 eb,.string en,.slice c1 c2 c3,.int .i64 va,.int .i64 vb,.string vn,.slice d1 d2 d3,.string fl,.int .i64 nn,.slice e1 e2 e3] aq3 (W1.alloc (.cells #[.int .i64 ak,.int .i64 ac,.slice ad al ae,.slice b1 b2 b3,.int .i64 ea,.int .i64 eb,.string en,.slice c1 c2 c3,.int .i64 va,.int .i64 vb,.string vn,.slice d1 d2 d3,.string fl,.int .i64 nn,.slice e1 e2 e3] 60))∧KeptG C.g W (W1.alloc (.cells #[.int .i64 ak,.int .i64 ac,.slice ad al ae,.slice b1 b2 b3,.int .i64 ea,.int .i64 eb,.string en,.slice c1 c2 c3,.int .i64 va,.int .i64 vb,.string vn,.slice d1 d2 d3,.string fl,.int .i64 nn,.slice e1 e2 e3] 60))):=fun W E1 W1 cs hl hq=>by
  obtain⟨ak,ac,ad,al,ae,b1,b2,b3,ea,eb,en,c1,c2,c3,va,vb,vn,d1,d2,d3,fl,nn,e1,e2,e3,g1,g2,g3⟩:=hl.boxA (t:=60) hq
  rw[←hs4]at g2
  rw[←haq3]at g3
  exact⟨ak,ac,ad,al,ae,b1,b2,b3,ea,eb,en,c1,c2,c3,va,vb,vn,d1,d2,d3,fl,nn,e1,e2,e3,g1,g2,g3,hq.choose_spec.2.2.2.trans (KeptG.alloc _ _ _)⟩
 obtain⟨s5,hs5⟩:∃s',s'=dfin C.tk C.en (⟨#[125]⟩:ByteArray) s4:=⟨_,rfl⟩
 have H4:=Lib.hid (fun Wa Wb W (hA:PSt C s2 Wa) (hB:PSt C s3 Wb) (hW:PSt C s4 W)=>finish_any C s4 (⟨#[125]⟩:ByteArray) W hW (by decide) (fun e=>by
  obtain⟨e1,_⟩:=(md_eat (en:=C.en) (tk:=C.tk) (t:=(⟨#[125]⟩:ByteArray)) (by decide) s4).nx e
  have hmd:Md C.tk s3 s4:=by rw[hs4];exact md_assn hB n
  obtain⟨e2,_,e3⟩:=hmd.nx e1
  rw[hs3]at e2 e3
  obtain⟨e4,_,e5,_⟩:=begin_ne (by decide) e2
  have:=(hA.inv e4).1
  omega))
 have X4:Hid (∀W e1 W1,PU (dfin C.tk C.en (⟨#[125]⟩:ByteArray)) C s4 W e1 W1→e1= .returned (.tuple #[])∧PSt C s5 W1∧KeptG C.g W W1):=fun W e1 W1 hu=>by rw[hs5];exact hu
 obtain⟨s6,hs6⟩:∃s',s'=deat C.tk C.en (⟨#[101,108,115,101]⟩:ByteArray) s5:=⟨_,rfl⟩
 have H5:=Lib.hid (fun W (hW:PSt C s5 W)=>eat_any C s5 (⟨#[101,108,115,101]⟩:ByteArray) W hW (by decide))
 have X5:Hid (∀W e1 W1,PU (deat C.tk C.en (⟨#[101,108,115,101]⟩:ByteArray)) C s5 W e1 W1→e1= .returned (.tuple #[])∧PSt C s6 W1∧KeptG C.g W W1):=fun W e1 W1 hu=>by rw[hs6];exact hu
 obtain⟨s7,hs7⟩:∃s',s'=dbegin C.tk C.en (⟨#[123]⟩:ByteArray) s6:=⟨_,rfl⟩
 have H6:=Lib.hid (fun W (hW:PSt C s6 W)=>begin_any C s6 (⟨#[123]⟩:ByteArray) W hW (by decide))
 have X6:Hid (∀W e1 W1,PU (dbegin C.tk C.en (⟨#[123]⟩:ByteArray)) C s6 W e1 W1→e1= .returned (.tuple #[])∧PSt C s7 W1∧KeptG C.g W W1):=fun W e1 W1 hu=>by rw[hs7];exact hu
 have ok6m:Md C.tk s s6:=by
  refine ok2m.trans (Md.trans (b:=s5) ?_ (by rw[hs6];exact md_eat (by decide) _))
  rw[hs5,hs4,hs3]
  exact md_brace (by decide) (by decide) (md_assn2 h.sh (begin_ok (by decide) (ok2m.ok h.ok)) n)
 have hf_s7:Fd n s7:=by rw[hs7];exact(hf.mv ok6m).begin hn1 (by decide)
 obtain⟨aq7,haq7⟩:∃x',x'=(dassn C.tk (ditem C.tk C.en n) s7).1:=⟨_,rfl⟩
 obtain⟨s8,hs8⟩:∃s',s'=(dassn C.tk (ditem C.tk C.en n) s7).2:=⟨_,rfl⟩
 have H7:=Lib.hid (fun W (hW:PSt C s7 W)=>assn_loop n IH C s7 W hW hf_s7)
 have X7:Hid (∀W E1 W1 cs,LP asX C w (w.heap.size+1) s7 (AT.mk 5 cq1 default default (⟨#[]⟩:ByteArray) 0 []) cs W→PE (Vx asX) (dassn C.tk (ditem C.tk C.en n)) C s7 W E1 W1→∃ak2 ac2 ad2 al2 ae2 b12 b22 b32 ea2 eb2 en2 c12 c22 c32 va2 vb2 vn2 d12 d22 d32 fl2 nn2 e12 e22 e32,E1= .returned (.agg #[.int .i64 ak2,.int .i64 ac2,.slice ad2 al2 ae2,.slice b12 b22 b32,.int .i64 ea2,.int .i64 eb2,.string en2,.slice c12 c22 c32,.int .i64 va2,.int .i64 vb2,.string vn2,.slice d12 d22 d32,.string fl2,.int .i64 nn2,.slice e12 e22 e32])∧LP asX C w (w.heap.size+1) s8 (AT.mk 5 cq1 default default (⟨#[]⟩:ByteArray) 0 []) cs (W1.alloc (.cells #[.int .i64 ak2,.int .i64 ac2,.slice ad2 al2 ae2,.slice b12 b22 b32,.int .i64 ea2,.int .i64 eb2,.string en2,.slice c12 c22 c32,.int .i64 va2,.int .i64 vb2,.string vn2,.slice d12 d22 d32,.string fl2,.int .i64 nn2,.slice e12 e22 e32] 60))∧BA C w (w.heap.size+1) W1.heap.size [.int .i64 ak2,.int .i64 ac2,.slice ad2 al2 ae2,.slice b12 b22 b32,.int .i64 ea2,.int .i64 eb2,.string en2,.slice c12 c22 c32,.int .i64 va2,.int .i64 vb2,.string vn2,.slice d12 d22 d32,.string fl2,.int .i64 nn2,.slice e12 e22 e32] aq7 (W1.alloc (.cells #[.int .i64 ak2,.int .i64 ac2,.slice ad2 al2 ae2,.slice b12 b22 b32,.int .i64 ea2,.int .i64 eb2,.string en2,.slice c12 c22 c32,.int .i64 va2,.int .i64 vb2,.string vn2,.slice d12 d22 d32,.string fl2,.int .i64 nn2,.slice e12 e22 e32] 60))∧KeptG C.g W (W1.alloc (.cells #[.int .i64 ak2,.int .i64 ac2,.slice ad2 al2 ae2,.slice b12 b22 b32,.int .i64 ea2,.int .i64 eb2,.string en2,.slice c12 c22 c32,.int .i64 va2,.int .i64 vb2,.string vn2,.slice d12 d22 d32,.string fl2,.int .i64 nn2,.slice e12 e22 e32] 60))):=fun W E1 W1 cs hl hq=>by
  obtain⟨ak,ac,ad,al,ae,b1,b2,b3,ea,eb,en,c1,c2,c3,va,vb,vn,d1,d2,d3,fl,nn,e1,e2,e3,g1,g2,g3⟩:=hl.boxA (t:=60) hq
  rw[←hs8]at g2
  rw[←haq7]at g3
  exact⟨ak,ac,ad,al,ae,b1,b2,b3,ea,eb,en,c1,c2,c3,va,vb,vn,d1,d2,d3,fl,nn,e1,e2,e3,g1,g2,g3,hq.choose_spec.2.2.2.trans (KeptG.alloc _ _ _)⟩
 obtain⟨s9,hs9⟩:∃s',s'=dfin C.tk C.en (⟨#[125]⟩:ByteArray) s8:=⟨_,rfl⟩
 have H8:=Lib.hid (fun Wa Wb W (hA:PSt C s6 Wa) (hB:PSt C s7 Wb) (hW:PSt C s8 W)=>finish_any C s8 (⟨#[125]⟩:ByteArray) W hW (by decide) (fun e=>by
  obtain⟨e1,_⟩:=(md_eat (en:=C.en) (tk:=C.tk) (t:=(⟨#[125]⟩:ByteArray)) (by decide) s8).nx e
  have hmd:Md C.tk s7 s8:=by rw[hs8];exact md_assn hB n
  obtain⟨e2,_,e3⟩:=hmd.nx e1
  rw[hs7]at e2 e3
  obtain⟨e4,_,e5,_⟩:=begin_ne (by decide) e2
  have:=(hA.inv e4).1
  omega))
 have X8:Hid (∀W e1 W1,PU (dfin C.tk C.en (⟨#[125]⟩:ByteArray)) C s8 W e1 W1→e1= .returned (.tuple #[])∧PSt C s9 W1∧KeptG C.g W W1):=fun W e1 W1 hu=>by rw[hs9];exact hu
 have ed:ditem C.tk C.en (n+1) s=((AT.mk 5 cq1 default default (⟨#[]⟩:ByteArray) 0 [aq3,aq7]),s9):=by
  rw[ditem,if_neg (by rw[hm];decide),if_neg (by rw[hm];decide),if_neg (by rw[hm];decide),if_neg (by rw[hm];decide),if_pos hm]
  subst_vars
  rfl
 have HO:=Lib.hid (fun W cs (hl:LP asX C w (w.heap.size+1) s9 (AT.mk 5 cq1 default default (⟨#[]⟩:ByteArray) 0 [aq3,aq7]) cs W)=>hl.outw (f:=ditem C.tk C.en (n+1)) ed)
 have hx0:((dnx C.tk s).toList == [101,109,112])=false:=ne_lit [101,109,112] (by rw[hm];decide)
 have hx1:((dnx C.tk s).toList == [91])=false:=ne_lit [91] (by rw[hm];decide)
 have hx2:((dnx C.tk s).toList == [97,99,99])=false:=ne_lit [97,99,99] (by rw[hm];decide)
 have hx3:((dnx C.tk s).toList == [112,116,115])=false:=ne_lit [112,116,115] (by rw[hm];decide)
 have hx4:=eq_lit [105,102] hm
 generalize dnx C.tk s=tx at*
 generalize PE (Vx asX) (ditem C.tk C.en (n+1)) C s w=Q at*
 have HG0:=Lib.hid hg
 clear hl0 h ed hm h0 hnx hf hn1 ok2m ok6m hf_s3 hf_s7 IH hs1 hcq1 hs2 hs3 haq3 hs4 hs5 hs6 hs7 haq7 hs8 hs9
 unfold PC.p at*
 go_enter Tryz.func67,Tryz.ntmps67
 go_wp2_with (refine gateS 60 3 rfl ?_;refine wpList_store_fresh (by kernel_rfl) 60 _ _ rfl _ rfl zAs rfl (by kernel_rfl) rfl zAs_one ?_)
 refine HN.out.mono ?_
 rintro e w1 ⟨rfl,hb⟩
 have HL1:=Lib.hid (HLX.out w1 hb)
 clear hb HN HLX
 obtain⟨⟨c2_0,f2_0,hw2_0⟩,hp⟩:=X0.out _ HL1.out.ps
 have HG0:=Lib.hid (HL1.out.step (KeptG.set (g:=C.g)) hp)
 clear hp X0
 clear HL1
 obtain⟨⟨v1_1_0k,_,y1_1_0k⟩,f1_1_0k⟩:=HG0.out.cell (j:=0) (by show 0<15;omega)
 have HK1_1_0:Hid (LP asX C (w) (w.heap.size+1) s1 (AT.mk 5 default default default (⟨#[]⟩:ByteArray) 0 []) _ ((w1.setCell ⟨C.g,2,none⟩ (.int .i64 ((s.nx:Int)+1))).setCell ⟨w.heap.size+1,0,none⟩ (.int .i64 5))):=Lib.hid (HG0.out.set1 (o:=0) (v:= .int .i64 5) (by show 0<15;omega) (as_ni HG0.out.tree) (fun S W h=>as_kind 5 ⟨by decide,by decide⟩ h))
 clear HG0
 go_wp2_with fail
 clear c2_0 f2_0 hw2_0 y1_1_0k f1_1_0k
 refine(H1.out _ HK1_1_0.out.ps).mono ?_
 rintro e w2 hq
 obtain⟨c2,rfl,l2,o2,t2,fin⟩:=X1.out _ _ _ _ HK1_1_0.out hq
 have HF2:=Lib.hid fin
 clear hq fin H1 X1
 clear HK1_1_0
 go_wp2_with (first | (refine gateS 55 80 rfl ?_;refine wpList_store_there rfl 55 _ _ rfl (w.heap.size+1) 1 rfl _ rfl (by rw[l2];kernel_rfl) o2 t2 ?_;intro w29 hst;have HL2:=Lib.hid (HF2.out _ hst);clear hst HF2))
 clear l2 o2 t2
 have HPA_s2:=Lib.hid HL2.out.ps
 refine(H2.out _ HL2.out.ps).mono ?_
 rintro e w3 hq
 obtain⟨rfl,hp,hk⟩:=X2.out _ _ _ hq
 have HL3:=Lib.hid (HL2.out.step hk hp)
 clear hq hp hk H2 X2
 clear HL2
 have HPB_s3:=Lib.hid HL3.out.ps
 go_wp2_with fail
 refine(H3.out _ HL3.out.ps).mono ?_
 rintro e w4 hq
 obtain⟨ak,ac,ad,al,ae,b1,b2,b3,ea,eb,en,c1,c2,c3,va,vb,vn,d1,d2,d3,fl,nn,e1,e2,e3,rfl,hl,hbx,hkk⟩:=X3.out _ _ _ _ HL3.out hq
 have HL4:=Lib.hid hl
 have HX4:=Lib.hid hbx
 clear hq hl hbx hkk H3 X3
 clear HL3
 go_wp2_with (first | (refine gateS 60 5 rfl ?_;refine wpList_store_fresh (by kernel_rfl) 60 _ _ rfl _ rfl [.int .i64 ak,.int .i64 ac,.slice ad al ae,.slice b1 b2 b3,.int .i64 ea,.int .i64 eb,.string en,.slice c1 c2 c3,.int .i64 va,.int .i64 vb,.string vn,.slice d1 d2 d3,.string fl,.int .i64 nn,.slice e1 e2 e3] rfl (by kernel_rfl) rfl one15 ?_))
 refine(H4.out _ _ _ HPA_s2.out HPB_s3.out HL4.out.ps).mono ?_
 rintro e w5 hq
 obtain⟨rfl,hp,hk⟩:=X4.out _ _ _ hq
 have HL5:=Lib.hid (HL4.out.step hk hp)
 have HX5:=Lib.hid (HX4.out.kept hk HG0.out)
 clear HX4
 clear hq hp hk H4 X4 HPA_s2 HPB_s3
 clear HL4
 go_wp2_with fail
 refine(H5.out _ HL5.out.ps).mono ?_
 rintro e w6 hq
 obtain⟨rfl,hp,hk⟩:=X5.out _ _ _ hq
 have HL6:=Lib.hid (HL5.out.step hk hp)
 have HX6:=Lib.hid (HX5.out.kept hk HG0.out)
 clear HX5
 clear hq hp hk H5 X5
 clear HL5
 have HPA_s6:=Lib.hid HL6.out.ps
 go_wp2_with fail
 refine(H6.out _ HL6.out.ps).mono ?_
 rintro e w7 hq
 obtain⟨rfl,hp,hk⟩:=X6.out _ _ _ hq
 have HL7:=Lib.hid (HL6.out.step hk hp)
 have HX7:=Lib.hid (HX6.out.kept hk HG0.out)
 clear HX6
 clear hq hp hk H6 X6
 clear HL6
 have HPB_s7:=Lib.hid HL7.out.ps
 go_wp2_with fail
 refine(H7.out _ HL7.out.ps).mono ?_
 rintro e w8 hq
 obtain⟨ak2,ac2,ad2,al2,ae2,b12,b22,b32,ea2,eb2,en2,c12,c22,c32,va2,vb2,vn2,d12,d22,d32,fl2,nn2,e12,e22,e32,rfl,hl,hbx,hkk⟩:=X7.out _ _ _ _ HL7.out hq
 have HL8:=Lib.hid hl
 have HX28:=Lib.hid hbx
 have HX8:=Lib.hid (HX7.out.kept hkk HG0.out)
 clear HX7
 clear hq hl hbx hkk H7 X7
 clear HL7
 go_wp2_with (first | (refine gateS 60 6 rfl ?_;refine wpList_store_fresh (by kernel_rfl) 60 _ _ rfl _ rfl [.int .i64 ak2,.int .i64 ac2,.slice ad2 al2 ae2,.slice b12 b22 b32,.int .i64 ea2,.int .i64 eb2,.string en2,.slice c12 c22 c32,.int .i64 va2,.int .i64 vb2,.string vn2,.slice d12 d22 d32,.string fl2,.int .i64 nn2,.slice e12 e22 e32] rfl (by kernel_rfl) rfl one15 ?_))
 refine(H8.out _ _ _ HPA_s6.out HPB_s7.out HL8.out.ps).mono ?_
 rintro e w9 hq
 obtain⟨rfl,hp,hk⟩:=X8.out _ _ _ hq
 have HL9:=Lib.hid (HL8.out.step hk hp)
 have HX9:=Lib.hid (HX8.out.kept hk HG0.out)
 clear HX8
 have HX29:=Lib.hid (HX28.out.kept hk HG0.out)
 clear HX28
 clear hq hp hk H8 X8 HPA_s6 HPB_s7
 clear HL8
 have ry:=HX29.out.at'
 have rx:=HX9.out.at'
 have zx0:w9.cell? ⟨_,0,none⟩=some (.int .i64 ak):=rx 0 _ rfl
 have zx1:w9.cell? ⟨_,1,none⟩=some (.int .i64 ac):=rx 1 _ rfl
 have zx2:w9.cell? ⟨_,2,none⟩=some (.slice ad al ae):=rx 2 _ rfl
 have zx3:w9.cell? ⟨_,3,none⟩=some (.slice b1 b2 b3):=rx 3 _ rfl
 have zx4:w9.cell? ⟨_,4,none⟩=some (.int .i64 ea):=rx 4 _ rfl
 have zx5:w9.cell? ⟨_,5,none⟩=some (.int .i64 eb):=rx 5 _ rfl
 have zx6:w9.cell? ⟨_,6,none⟩=some (.string en):=rx 6 _ rfl
 have zx7:w9.cell? ⟨_,7,none⟩=some (.slice c1 c2 c3):=rx 7 _ rfl
 have zx8:w9.cell? ⟨_,8,none⟩=some (.int .i64 va):=rx 8 _ rfl
 have zx9:w9.cell? ⟨_,9,none⟩=some (.int .i64 vb):=rx 9 _ rfl
 have zx10:w9.cell? ⟨_,10,none⟩=some (.string vn):=rx 10 _ rfl
 have zx11:w9.cell? ⟨_,11,none⟩=some (.slice d1 d2 d3):=rx 11 _ rfl
 have zx12:w9.cell? ⟨_,12,none⟩=some (.string fl):=rx 12 _ rfl
 have zx13:w9.cell? ⟨_,13,none⟩=some (.int .i64 nn):=rx 13 _ rfl
 have zx14:w9.cell? ⟨_,14,none⟩=some (.slice e1 e2 e3):=rx 14 _ rfl
 have zy0:w9.cell? ⟨_,0,none⟩=some (.int .i64 ak2):=ry 0 _ rfl
 have zy1:w9.cell? ⟨_,1,none⟩=some (.int .i64 ac2):=ry 1 _ rfl
 have zy2:w9.cell? ⟨_,2,none⟩=some (.slice ad2 al2 ae2):=ry 2 _ rfl
 have zy3:w9.cell? ⟨_,3,none⟩=some (.slice b12 b22 b32):=ry 3 _ rfl
 have zy4:w9.cell? ⟨_,4,none⟩=some (.int .i64 ea2):=ry 4 _ rfl
 have zy5:w9.cell? ⟨_,5,none⟩=some (.int .i64 eb2):=ry 5 _ rfl
 have zy6:w9.cell? ⟨_,6,none⟩=some (.string en2):=ry 6 _ rfl
 have zy7:w9.cell? ⟨_,7,none⟩=some (.slice c12 c22 c32):=ry 7 _ rfl
 have zy8:w9.cell? ⟨_,8,none⟩=some (.int .i64 va2):=ry 8 _ rfl
 have zy9:w9.cell? ⟨_,9,none⟩=some (.int .i64 vb2):=ry 9 _ rfl
 have zy10:w9.cell? ⟨_,10,none⟩=some (.string vn2):=ry 10 _ rfl
 have zy11:w9.cell? ⟨_,11,none⟩=some (.slice d12 d22 d32):=ry 11 _ rfl
 have zy12:w9.cell? ⟨_,12,none⟩=some (.string fl2):=ry 12 _ rfl
 have zy13:w9.cell? ⟨_,13,none⟩=some (.int .i64 nn2):=ry 13 _ rfl
 have zy14:w9.cell? ⟨_,14,none⟩=some (.slice e12 e22 e32):=ry 14 _ rfl
 have hka:KeptG C.g w9 (w9.alloc (.cells #[.int .i64 ak,.int .i64 ac,.slice ad al ae,.slice b1 b2 b3,.int .i64 ea,.int .i64 eb,.string en,.slice c1 c2 c3,.int .i64 va,.int .i64 vb,.string vn,.slice d1 d2 d3,.string fl,.int .i64 nn,.slice e1 e2 e3,.int .i64 ak2,.int .i64 ac2,.slice ad2 al2 ae2,.slice b12 b22 b32,.int .i64 ea2,.int .i64 eb2,.string en2,.slice c12 c22 c32,.int .i64 va2,.int .i64 vb2,.string vn2,.slice d12 d22 d32,.string fl2,.int .i64 nn2,.slice e12 e22 e32] 60)):=KeptG.alloc _ _ _
 have hla:=HL9.out.step hka (HL9.out.ps.alloc _)
 obtain⟨⟨v14,_,y14⟩,f14⟩:=hla.cell (j:=14) (by show 14<15;omega)
 have hth:(w9.alloc (.cells #[.int .i64 ak,.int .i64 ac,.slice ad al ae,.slice b1 b2 b3,.int .i64 ea,.int .i64 eb,.string en,.slice c1 c2 c3,.int .i64 va,.int .i64 vb,.string vn,.slice d1 d2 d3,.string fl,.int .i64 nn,.slice e1 e2 e3,.int .i64 ak2,.int .i64 ac2,.slice ad2 al2 ae2,.slice b12 b22 b32,.int .i64 ea2,.int .i64 eb2,.string en2,.slice c12 c22 c32,.int .i64 va2,.int .i64 vb2,.string vn2,.slice d12 d22 d32,.string fl2,.int .i64 nn2,.slice e12 e22 e32] 60)).there (w.heap.size+1) 14 1:=hla.part (KeptG.refl _ _) hla.ps (by show 14+1≤15;omega)
 have HL99:=Lib.hid (HL9.out.two (t:=60) HX9.out HX29.out (stored_sets (cs:=[.slice (some ⟨w9.heap.size,0,none⟩) 2 2]) hth))
 obtain⟨hl9,h19,hr9,ht9,hf9⟩:=HO.out _ _ HL99.out
 have HF9:=Lib.hid hf9
 have hr9:World.rangeAt (World.setCell (w9.alloc (.cells #[.int .i64 ak,.int .i64 ac,.slice ad al ae,.slice b1 b2 b3,.int .i64 ea,.int .i64 eb,.string en,.slice c1 c2 c3,.int .i64 va,.int .i64 vb,.string vn,.slice d1 d2 d3,.string fl,.int .i64 nn,.slice e1 e2 e3,.int .i64 ak2,.int .i64 ac2,.slice ad2 al2 ae2,.slice b12 b22 b32,.int .i64 ea2,.int .i64 eb2,.string en2,.slice c12 c22 c32,.int .i64 va2,.int .i64 vb2,.string vn2,.slice d12 d22 d32,.string fl2,.int .i64 nn2,.slice e12 e22 e32] 60)) ⟨w.heap.size+1,14,none⟩ (.slice (some ⟨w9.heap.size,0,none⟩) 2 2)) (w.heap.size+1) 0 _:=hr9
 have ht9:World.there (World.setCell (w9.alloc (.cells #[.int .i64 ak,.int .i64 ac,.slice ad al ae,.slice b1 b2 b3,.int .i64 ea,.int .i64 eb,.string en,.slice c1 c2 c3,.int .i64 va,.int .i64 vb,.string vn,.slice d1 d2 d3,.string fl,.int .i64 nn,.slice e1 e2 e3,.int .i64 ak2,.int .i64 ac2,.slice ad2 al2 ae2,.slice b12 b22 b32,.int .i64 ea2,.int .i64 eb2,.string en2,.slice c12 c22 c32,.int .i64 va2,.int .i64 vb2,.string vn2,.slice d12 d22 d32,.string fl2,.int .i64 nn2,.slice e12 e22 e32] 60)) ⟨w.heap.size+1,14,none⟩ (.slice (some ⟨w9.heap.size,0,none⟩) 2 2)) w.heap.size 0 _:=ht9
 clear hf9 HL99 hla hka hth rx ry HX9 HX29 HL9 HO
 go_wp2_with (first | (refine gateL 60 3 rfl ?_;refine wpList_load_mid rfl 60 _ rfl (w.heap.size+1) 0 rfl _ _ hr9 Tryz.underlying60 rfl (by rw[hl9];kernel_rfl) ?_) | (refine gateS 60 2 rfl ?_;refine wpList_store_there rfl 60 _ _ rfl w.heap.size 0 rfl _ rfl (by rw[hl9];kernel_rfl) h19 ht9 ?_;intro w9 hst))
 exact bodyPost_ret (v:=_) (results_one rfl _ _ _ _ _ rfl (Tryz.asLoad hst.at' hl9)) rfl (HF9.out _ hst)
theorem item_said:∀n,ASaid 67 (fun tk en=>ditem tk en n) n
 | 0=>fun C s w h hf=>absurd hf.pos (by decide)
 | n+1=>fun C s w h hf=>by
   have IH:=item_said n
   by_cases m0:dnx C.tk s=(⟨#[101,109,112]⟩:ByteArray)
   ·exact item_emp n C s w h m0
   ·by_cases m1:dnx C.tk s=(⟨#[91]⟩:ByteArray)
    ·exact item_br n C s w h m1
    ·by_cases m2:dnx C.tk s=(⟨#[97,99,99]⟩:ByteArray)
     ·exact item_acc n C s w h m2
     ·by_cases m3:dnx C.tk s=(⟨#[112,116,115]⟩:ByteArray)
      ·exact item_pts n C s w h m3
      ·by_cases m4:dnx C.tk s=(⟨#[105,102]⟩:ByteArray)
       ·exact item_if n C s w h IH hf m4
       ·by_cases m5:dnx C.tk s=(⟨#[40]⟩:ByteArray)
        ·exact item_par n C s w h IH hf m5
        ·exact item_no n C s w h m0 m1 m2 m3 m4 m5
theorem assn_any (C:PC)(s:PS)(w:World)(h:PSt C s w):Calls Tryz.prog 28 #[C.p] w (PE (Vx asX) (das C.tk C.en) C s w):=assn_loop 53 (item_said 53) C s w h h.top
end Dc
end Go.Proofs.YtcinokljkieijaaGreatDoor
