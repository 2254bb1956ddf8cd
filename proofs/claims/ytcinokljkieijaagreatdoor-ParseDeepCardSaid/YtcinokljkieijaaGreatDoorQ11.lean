/- Parts of a proof. -/
import Derived.Test.YtcinokljkieijaaGreatDoorQ10
import Derived.RegionTactic
import Derived.BigRegion
set_option linter.unusedVariables false
set_option linter.unusedSimpArgs false
set_option maxHeartbeats 60000000
set_option maxRecDepth 100000
namespace Go.Proofs.YtcinokljkieijaaGreatDoor
section
open Go.RowKit
theorem LP.pc {T:Type}{sh:Pak.Sh T}{C:PC}{w wr:World}{M:Nat}{s:PS}{x:T}{cs:List Value}{t:TypeId}(h:LP sh C (w.alloc (.cells #[C.p] t)) M s x cs wr)(hg:C.g<w.heap.size):wr.cell? ⟨w.heap.size,0,none⟩=some C.p:=by
 rw[h.kept.cell (by simp) (by omega)]
 exact(cell_of_row _ _ _ _ _ _ (heap_alloc_new w _)).trans rfl
theorem LP.out {T:Type}{sh:Pak.Sh T}{f:PS→T×PS}{C:PC}{w wr:World}{M:Nat}{s0 s:PS}{x:T}{cs:List Value}{t:TypeId}(h:LP sh C (w.alloc (.cells #[C.p] t)) M s x cs wr)(e:f s0=(x,s)):
 cs.length=sh.k∧(∀u∈cs,u.oneCell'=true)∧wr.rangeAt M 0 cs∧wr.there (w.heap.size+1) 0 cs.length∧∀w9,Stored (w.heap.size+1) 0 cs wr w9→PE (Vx sh) f C s0 w (.returned (.agg cs.toArray)) w9:=by
 have hs:(w.alloc (.cells #[C.p] t)).heap.size=w.heap.size+1:=by simp
 refine⟨h.len,h.one,h.box, ?_,fun w9 hst=> ?_⟩
 ·rw[h.len,←hs];exact h.res
 ·rw[←hs]at hst
  exact(h.fin hst e).lowx (alloc_low _ _)
theorem LP.bx {T:Type}{sh:Pak.Sh T}{C:PC}{w wr:World}{M:Nat}{s:PS}{x:T}{cs:List Value}(h:LP sh C w M s x cs wr):BX sh (w.heap.size+1) M wr x:=⟨cs,h.box,h.th,h.ml.2,h.tree⟩
theorem LP.after {T:Type}{sh:Pak.Sh T}{F:PS→T×PS}{C:PC}{w wr W':World}{M:Nat}{s s0:PS}{x:T}{cs:List Value}{e:Ending}(h:LP sh C w M s0 x cs wr)(hw:PW (BX sh (w.heap.size+1) M) F C M s wr e W'):e= .returned (.tuple #[])∧∃cs',LP sh C w M (F s).2 (F s).1 cs' W':=by
 obtain⟨rfl,h1,h2,cs',b1,b2,b3,b4⟩:=hw
 have g1:=h.gl
 have g2:=h.ml
 have g3:=h.kept.size
 refine⟨rfl,cs',h1,g1,⟨g2.1,b3⟩,h2.kg h.kept (by omega),b1,b2, ?_,fun t u e=> ?_,b4⟩
 ·intro j hj
  have:=h.res j hj
  rw[World.cell?_of_block (h2.block _ (by show w.heap.size<_;omega) (by show w.heap.size≠_;omega) (by show w.heap.size≠M;omega)),World.frozen?_of_block (h2.block _ (by show w.heap.size<_;omega) (by show w.heap.size≠_;omega) (by show w.heap.size≠M;omega))]
  exact this
 ·rw[World.cell?_of_block (h2.block _ (by show w.heap.size<_;omega) (by show w.heap.size≠_;omega) (by show w.heap.size≠M;omega))]at e
  exact h.nz _ _ e
theorem pe_t {f:PS→ByteArray×PS}{C:PC}{s:PS}{w w':World}{e:Ending}(h:PE Vt f C s w e w'):(∃x,e= .returned (.string x))∧PSt C (f s).2 w'∧KeptG C.g w w':=by
 obtain⟨v,a1,a2,a3,a4⟩:=h
 exact⟨⟨(f s).1,by rw[a1,show v= .string (f s).1 from a2]⟩,a3,a4⟩
theorem spl_all {cs new:List Value}(h:cs.length=new.length):spl cs 0 new=new:=by
 unfold spl
 rw[List.take_zero,List.nil_append,Nat.zero_add,←h,List.drop_length,List.append_nil]
theorem one_t (C:PC)(s:PS)(w:World)(h:PSt C s w)(n:Nat)(hn0:¬ptx C.tk s 0=(⟨#[33]⟩:ByteArray))(hn1:¬ptx C.tk s 0=(⟨#[91]⟩:ByteArray))(hy:ptx C.tk s 0=(⟨#[116,114,117,101]⟩:ByteArray)):
 Calls Tryz.prog 213 #[C.p] w (PE (Vx cnX) (pone C.tk C.en (n+1)) C s w):=by
 have hg:=h.lt
 have hs1:(w.alloc (.cells #[C.p] 67)).heap.size=w.heap.size+1:=by simp
 have hl0:=LP.fresh (sh:=cnX) (t:=55) (h.alloc (.cells #[C.p] 67)) rfl zCn_ni zCn_rel
 rw[hs1]at hl0
 have HT:=Lib.hid (text0_any C s _ hl0.ps)
 have HL0:Hid (∀W,Below (((w.alloc (.cells #[C.p] 67)).alloc (.cells zCn.toArray 55)).alloc (.cells zCn.toArray 55)).heap.size (((w.alloc (.cells #[C.p] 67)).alloc (.cells zCn.toArray 55)).alloc (.cells zCn.toArray 55)) W→LP cnX C (w.alloc (.cells #[C.p] 67)) (w.heap.size+1+1) s default zCn W):=fun W hb=>hl0.step (KeptG.of_below hb) (hl0.ps.up hb)
 have e:pone C.tk C.en (n+1) s=(.mk 0 [] [],pm1 C.tk C.en (⟨#[116,114,117,101]⟩:ByteArray) s):=by
  unfold pone;rw[if_neg hn0,if_neg hn1,if_pos hy]
 have HM:=Lib.hid (fun W (hW:PSt C s W)=>must1_any C s (⟨#[116,114,117,101]⟩:ByteArray) W hW (by decide))
 have HY:Hid (∀W e1 W1,LP cnX C (w.alloc (.cells #[C.p] 67)) (w.heap.size+1+1) s default zCn W→PE Vt (pmust C.tk C.en [(⟨#[116,114,117,101]⟩:ByteArray)]) C s W e1 W1→(∃x,e1= .returned (.string x))∧Hid (LP cnX C (w.alloc (.cells #[C.p] 67)) (w.heap.size+1+1) (pm1 C.tk C.en (⟨#[116,114,117,101]⟩:ByteArray) s) default zCn W1)):=fun W e1 W1 hl hq=>⟨(pe_t hq).1,hl.step (pe_t hq).2.2 (pe_t hq).2.1⟩
 have HO:=Lib.hid (fun W (hl:LP cnX C (w.alloc (.cells #[C.p] 67)) (w.heap.size+1+1) (pm1 C.tk C.en (⟨#[116,114,117,101]⟩:ByteArray) s) default zCn W)=>hl.out (f:=pone C.tk C.en (n+1)) e)
 have hx0:=ne_lit [33] hn0
 have hx1:=ne_lit [91] hn1
 have hx2:=eq_lit [116,114,117,101] hy
 generalize ptx C.tk s 0=tx at*
 generalize PE (Vx cnX) (pone C.tk C.en (n+1)) C s w=Q at*
 have HG:=Lib.hid hg
 clear hl0 h hs1 hg e hn0 hn1 hy
 unfold zCn at*
 go_enter Tryz.func213,Tryz.ntmps213
 go_wp2_with fail
 refine HT.out.mono ?_
 rintro e w1 ⟨rfl,hb⟩
 have HL1:=Lib.hid (HL0.out w1 hb)
 have pc1:=HL1.out.pc HG.out
 clear hb HT HL0
 have HM1:=Lib.hid (HM.out w1 HL1.out.ps)
 clear HM
 go_wp2_with fail
 refine HM1.out.mono ?_
 rintro e w2 hq
 obtain⟨⟨x2,rfl⟩,HL2⟩:=HY.out _ _ _ HL1.out hq
 clear hq HM1 HY HL1 pc1
 obtain⟨hl9,h19,hr9,ht9,hf9⟩:=HO.out _ HL2.out
 have HF9:=Lib.hid hf9
 clear hf9
 go_wp2_with (first | (refine gateL 55 3 rfl ?_;refine wpList_load_mid rfl 55 _ rfl (w.heap.size+1+1) 0 rfl _ _ hr9 Tryz.underlying55 rfl (by rw[hl9];kernel_rfl) ?_) | (refine gateS 55 2 rfl ?_;refine wpList_store_there rfl 55 _ _ rfl (w.heap.size+1) 0 rfl _ rfl (by rw[hl9];kernel_rfl) h19 ht9 ?_;intro w9 hst))
 exact bodyPost_ret (v:=_) (results_one rfl _ _ _ _ _ rfl (Tryz.cnLoad hst.at' hl9)) rfl (HF9.out _ hst)
theorem one_f (C:PC)(s:PS)(w:World)(h:PSt C s w)(n:Nat)(hn0:¬ptx C.tk s 0=(⟨#[33]⟩:ByteArray))(hn1:¬ptx C.tk s 0=(⟨#[91]⟩:ByteArray))(hn2:¬ptx C.tk s 0=(⟨#[116,114,117,101]⟩:ByteArray))(hy:ptx C.tk s 0=(⟨#[102,97,108,115,101]⟩:ByteArray)):
 Calls Tryz.prog 213 #[C.p] w (PE (Vx cnX) (pone C.tk C.en (n+1)) C s w):=by
 have hg:=h.lt
 have hs1:(w.alloc (.cells #[C.p] 67)).heap.size=w.heap.size+1:=by simp
 have hl0:=LP.fresh (sh:=cnX) (t:=55) (h.alloc (.cells #[C.p] 67)) rfl zCn_ni zCn_rel
 rw[hs1]at hl0
 have HT:=Lib.hid (text0_any C s _ hl0.ps)
 have HL0:Hid (∀W,Below (((w.alloc (.cells #[C.p] 67)).alloc (.cells zCn.toArray 55)).alloc (.cells zCn.toArray 55)).heap.size (((w.alloc (.cells #[C.p] 67)).alloc (.cells zCn.toArray 55)).alloc (.cells zCn.toArray 55)) W→LP cnX C (w.alloc (.cells #[C.p] 67)) (w.heap.size+1+1) s default zCn W):=fun W hb=>hl0.step (KeptG.of_below hb) (hl0.ps.up hb)
 have e:pone C.tk C.en (n+1) s=(.mk 1 [] [],pm1 C.tk C.en (⟨#[102,97,108,115,101]⟩:ByteArray) s):=by
  unfold pone;rw[if_neg hn0,if_neg hn1,if_neg hn2,if_pos hy]
 have HM:=Lib.hid (fun W (hW:PSt C s W)=>must1_any C s (⟨#[102,97,108,115,101]⟩:ByteArray) W hW (by decide))
 have HY:Hid (∀W e1 W1,LP cnX C (w.alloc (.cells #[C.p] 67)) (w.heap.size+1+1) s default zCn W→PE Vt (pmust C.tk C.en [(⟨#[102,97,108,115,101]⟩:ByteArray)]) C s W e1 W1→(∃x,e1= .returned (.string x))∧Hid (LP cnX C (w.alloc (.cells #[C.p] 67)) (w.heap.size+1+1) (pm1 C.tk C.en (⟨#[102,97,108,115,101]⟩:ByteArray) s) default zCn W1)):=fun W e1 W1 hl hq=>⟨(pe_t hq).1,hl.step (pe_t hq).2.2 (pe_t hq).2.1⟩
 have HO:=Lib.hid (fun W cs (hl:LP cnX C (w.alloc (.cells #[C.p] 67)) (w.heap.size+1+1) (pm1 C.tk C.en (⟨#[102,97,108,115,101]⟩:ByteArray) s) (.mk 1 [] []) cs W)=>hl.out (f:=pone C.tk C.en (n+1)) e)
 have hx0:=ne_lit [33] hn0
 have hx1:=ne_lit [91] hn1
 have hx2:=ne_lit [116,114,117,101] hn2
 have hx3:=eq_lit [102,97,108,115,101] hy
 generalize ptx C.tk s 0=tx at*
 generalize PE (Vx cnX) (pone C.tk C.en (n+1)) C s w=Q at*
 have HG:=Lib.hid hg
 clear hl0 h hs1 hg e hn0 hn1 hn2 hy
 unfold zCn at*
 go_enter Tryz.func213,Tryz.ntmps213
 go_wp2_with fail
 refine HT.out.mono ?_
 rintro e w1 ⟨rfl,hb⟩
 have HL1:=Lib.hid (HL0.out w1 hb)
 have pc1:=HL1.out.pc HG.out
 clear hb HT HL0
 have HM1:=Lib.hid (HM.out w1 HL1.out.ps)
 clear HM
 go_wp2_with fail
 refine HM1.out.mono ?_
 rintro e w2 hq
 obtain⟨⟨x2,rfl⟩,HL2⟩:=HY.out _ _ _ HL1.out hq
 clear hq HM1 HY HL1 pc1
 obtain⟨⟨v0,_,y0⟩,f0⟩:=HL2.out.cell (j:=0) (by show 0<3;omega)
 have hst0:Stored (w.heap.size+1+1) 0 [.int .i64 1] w2 (w2.setCell ⟨w.heap.size+1+1,0,none⟩ (.int .i64 1)):=stored_sets (cs:=[.int .i64 1]) (fun j hj=>by
  obtain rfl:j=0:=by simp at hj;exact hj
  exact⟨by rw[y0];rfl,f0⟩)
 have hl4:=HL2.out.upd hst0 (by show 0+1≤3;omega) (cn_ni HL2.out.tree) (fun hx=>cn_kind 1 ⟨by decide,by decide⟩ hx)
 obtain⟨hl9,h19,hr9,ht9,hf9⟩:=HO.out _ _ hl4
 have HF9:=Lib.hid hf9
 clear hf9
 go_wp2_with (first | (refine gateL 55 3 rfl ?_;refine wpList_load_mid rfl 55 _ rfl (w.heap.size+1+1) 0 rfl _ _ hr9 Tryz.underlying55 rfl (by rw[hl9];kernel_rfl) ?_) | (refine gateS 55 2 rfl ?_;refine wpList_store_there rfl 55 _ _ rfl (w.heap.size+1) 0 rfl _ rfl (by rw[hl9];kernel_rfl) h19 ht9 ?_;intro w9 hst))
 exact bodyPost_ret (v:=_) (results_one rfl _ _ _ _ _ rfl (Tryz.cnLoad hst.at' hl9)) rfl (HF9.out _ hst)
theorem one_c (C:PC)(s:PS)(w:World)(h:PSt C s w)(n:Nat)(hn0:¬ptx C.tk s 0=(⟨#[33]⟩:ByteArray))(hn1:¬ptx C.tk s 0=(⟨#[91]⟩:ByteArray))(hn2:¬ptx C.tk s 0=(⟨#[116,114,117,101]⟩:ByteArray))(hn3:¬ptx C.tk s 0=(⟨#[102,97,108,115,101]⟩:ByteArray)):
 Calls Tryz.prog 213 #[C.p] w (PE (Vx cnX) (pone C.tk C.en (n+1)) C s w):=by
 have hg:=h.lt
 have hs1:(w.alloc (.cells #[C.p] 67)).heap.size=w.heap.size+1:=by simp
 have hl0:=LP.fresh (sh:=cnX) (t:=55) (h.alloc (.cells #[C.p] 67)) rfl zCn_ni zCn_rel
 rw[hs1]at hl0
 have HT:=Lib.hid (text0_any C s _ hl0.ps)
 have HL0:Hid (∀W,Below (((w.alloc (.cells #[C.p] 67)).alloc (.cells zCn.toArray 55)).alloc (.cells zCn.toArray 55)).heap.size (((w.alloc (.cells #[C.p] 67)).alloc (.cells zCn.toArray 55)).alloc (.cells zCn.toArray 55)) W→LP cnX C (w.alloc (.cells #[C.p] 67)) (w.heap.size+1+1) s default zCn W):=fun W hb=>hl0.step (KeptG.of_below hb) (hl0.ps.up hb)
 have e:pone C.tk C.en (n+1) s=pcmp C.tk C.en s:=by
  unfold pone;rw[if_neg hn0,if_neg hn1,if_neg hn2,if_neg hn3]
 have HM:=Lib.hid (fun W (hW:PSt C s W)=>cmp_any C s W hW)
 have HY:Hid (∀W e1 W1,LP cnX C (w.alloc (.cells #[C.p] 67)) (w.heap.size+1+1) s default zCn W→PE (Vx cnX) (pcmp C.tk C.en) C s W e1 W1→∃cs:List Value,e1= .returned (.agg cs.toArray)∧cs.length=3∧(∀u∈cs,u.oneCell'=true)∧W1.there (w.heap.size+1+1) 0 cs.length∧∀W9,Stored (w.heap.size+1+1) 0 cs W1 W9→LP cnX C (w.alloc (.cells #[C.p] 67)) (w.heap.size+1+1) (pcmp C.tk C.en s).2 (pcmp C.tk C.en s).1 cs W9):=fun W e1 W1 hl ⟨v,a1,⟨cs,a2,a3⟩,a4,a5⟩=>by
  have hlen:cs.length=3:=cnX.len a3
  have hl1:=hl.step a5 a4
  refine⟨cs,by rw[a1,a2],hlen,cnX.one a3,by rw[hlen];exact hl1.th,fun W9 hst=> ?_⟩
  have:=hl1.upd hst (by show 0+cs.length≤3;omega) (cn_ni hl1.tree) (x':=(pcmp C.tk C.en s).1) (fun _=>by
   rw[spl_all (by rw[hlen];rfl)]
   exact inN_far (inN_of (M:=w.heap.size+1+1) a3 (by rw[hs1];have:=hl.ml;omega) (.inl hl.ml.2)) hst.far)
  rw[spl_all (by rw[hlen];rfl)]at this
  exact this
 have HO:=Lib.hid (fun W cs (hl:LP cnX C (w.alloc (.cells #[C.p] 67)) (w.heap.size+1+1) (pcmp C.tk C.en s).2 (pcmp C.tk C.en s).1 cs W)=>hl.out (f:=pone C.tk C.en (n+1)) e)
 have hx0:=ne_lit [33] hn0
 have hx1:=ne_lit [91] hn1
 have hx2:=ne_lit [116,114,117,101] hn2
 have hx3:=ne_lit [102,97,108,115,101] hn3
 generalize ptx C.tk s 0=tx at*
 generalize PE (Vx cnX) (pone C.tk C.en (n+1)) C s w=Q at*
 have HG:=Lib.hid hg
 clear hl0 h hs1 hg e hn0 hn1 hn2 hn3
 unfold zCn at*
 go_enter Tryz.func213,Tryz.ntmps213
 go_wp2_with fail
 refine HT.out.mono ?_
 rintro e w1 ⟨rfl,hb⟩
 have HL1:=Lib.hid (HL0.out w1 hb)
 have pc1:=HL1.out.pc HG.out
 clear hb HT HL0
 have HM1:=Lib.hid (HM.out w1 HL1.out.ps)
 clear HM
 go_wp2_with fail
 refine HM1.out.mono ?_
 rintro e w2 hq
 obtain⟨cs2,rfl,hc2,hc1,hct,hcf⟩:=HY.out _ _ _ HL1.out hq
 have HCF:=Lib.hid hcf
 clear hq HM1 HY HL1 pc1 hcf
 have HF8:=Lib.hid (fun w8 (hst:Stored (w.heap.size+1+1) 0 cs2 w2 w8)=>HO.out _ _ (HCF.out w8 hst))
 clear HO HCF
 go_wp2_with (first | (refine gateS 55 3 rfl ?_;refine wpList_store_there rfl 55 _ _ rfl (w.heap.size+1+1) 0 rfl _ rfl (by rw[hc2];kernel_rfl) hc1 hct ?_;intro w8 hst8;obtain⟨hl9,h19,hr9,ht9,hf9⟩:=HF8.out _ hst8;have HF9:=Lib.hid hf9;clear hf9) | (refine gateL 55 3 rfl ?_;refine wpList_load_mid rfl 55 _ rfl (w.heap.size+1+1) 0 rfl _ _ hr9 Tryz.underlying55 rfl (by rw[hl9];kernel_rfl) ?_) | (refine gateS 55 2 rfl ?_;refine wpList_store_there rfl 55 _ _ rfl (w.heap.size+1) 0 rfl _ rfl (by rw[hl9];kernel_rfl) h19 ht9 ?_;intro w9 hst))
 exact bodyPost_ret (v:=_) (results_one rfl _ _ _ _ _ rfl (Tryz.cnLoad hst.at' hl9)) rfl (HF9.out _ hst)
theorem one_n (C:PC)(s:PS)(w:World)(h:PSt C s w)(n:Nat)(IH:CondSaid 213 (fun tk en=>pone tk en n) (Fu n))(hf:Fu (n+1) s)(hy:ptx C.tk s 0=(⟨#[33]⟩:ByteArray)):
 Calls Tryz.prog 213 #[C.p] w (PE (Vx cnX) (pone C.tk C.en (n+1)) C s w):=by
 have hg:=h.lt
 have hs1:(w.alloc (.cells #[C.p] 67)).heap.size=w.heap.size+1:=by simp
 have hl0:=LP.fresh (sh:=cnX) (t:=55) (h.alloc (.cells #[C.p] 67)) rfl zCn_ni zCn_rel
 rw[hs1]at hl0
 have HT:=Lib.hid (text0_any C s _ hl0.ps)
 have HL0:Hid (∀W,Below (((w.alloc (.cells #[C.p] 67)).alloc (.cells zCn.toArray 55)).alloc (.cells zCn.toArray 55)).heap.size (((w.alloc (.cells #[C.p] 67)).alloc (.cells zCn.toArray 55)).alloc (.cells zCn.toArray 55)) W→LP cnX C (w.alloc (.cells #[C.p] 67)) (w.heap.size+1+1) s default zCn W):=fun W hb=>hl0.step (KeptG.of_below hb) (hl0.ps.up hb)
 have h0:s.er=none:=(ptx_inv (tk:=C.tk) (s:=s) (k:=0) (by rw[hy];decide)).1
 obtain⟨hfu,hin⟩:=hf.deep (en:=C.en) h.inv h0
 obtain⟨s1,hs1'⟩:∃s1,s1=penter C.tk C.en s:=⟨_,rfl⟩
 obtain⟨s2,hs2⟩:∃s2,s2=pm1 C.tk C.en (⟨#[33]⟩:ByteArray) s1:=⟨_,rfl⟩
 obtain⟨p,hp⟩:∃p,p=pone C.tk C.en n s2:=⟨_,rfl⟩
 have e:pone C.tk C.en (n+1) s=(.mk 6 [] [p.1],pup p.2):=by
  unfold pone;rw[if_pos hy,hp,hs2,hs1'];rfl
 have mv12:Mv C.tk s1 s2:=by rw[hs2];exact mv_m1 _ _
 have mv23:Mv C.tk s2 p.2:=by rw[hp];exact mv_one n s2
 have hne:1≤p.2.ne:=by
  have a1:=mv12.ne
  have a2:=mv23.ne
  have a3:s1.ne=s.ne+1:=by rw[hs1'];exact penter_ne h0
  have:=h.inv.lo
  omega
 have hfu2:Fu n s2:=by
  rw[←hs1']at hfu hin
  exact hfu.mv hin mv12
 have HEN:=Lib.hid (fun W (hW:PSt C s W)=>enter_any C s W hW h0)
 have XE:Hid (∀W e1 W1,LP cnX C (w.alloc (.cells #[C.p] 67)) (w.heap.size+1+1) s default zCn W→PU (penter C.tk C.en) C s W e1 W1→e1= .returned (.tuple #[])∧Hid (LP cnX C (w.alloc (.cells #[C.p] 67)) (w.heap.size+1+1) s1 default zCn W1)):=fun W e1 W1 hl ⟨a1,a2,a3⟩=>⟨a1,hl.step a3 (by rw[hs1'];exact a2)⟩
 have HM:=Lib.hid (fun W (hW:PSt C s1 W)=>must1_any C s1 (⟨#[33]⟩:ByteArray) W hW (by decide))
 have XM:Hid (∀W e1 W1,LP cnX C (w.alloc (.cells #[C.p] 67)) (w.heap.size+1+1) s1 default zCn W→PE Vt (pmust C.tk C.en [(⟨#[33]⟩:ByteArray)]) C s1 W e1 W1→(∃x,e1= .returned (.string x))∧Hid (LP cnX C (w.alloc (.cells #[C.p] 67)) (w.heap.size+1+1) s2 default zCn W1)):=fun W e1 W1 hl hq=>⟨(pe_t hq).1,by rw[hs2];exact hl.step (pe_t hq).2.2 (pe_t hq).2.1⟩
 have HP:=Lib.hid (fun W (hW:PSt C s2 W)=>IH C s2 W hW hfu2)
 have XP:Hid (∀W e1 W1,LP cnX C (w.alloc (.cells #[C.p] 67)) (w.heap.size+1+1) s2 default zCn W→PE (Vx cnX) (pone C.tk C.en n) C s2 W e1 W1→
  ∃k1 a1 n1 c1 u1,e1= .returned (.agg #[.int .i64 k1,.slice a1 n1 c1,u1])∧u1.oneCell'=true∧(W1.alloc (.cells #[.int .i64 k1,.slice a1 n1 c1,u1] 55)).there (w.heap.size+1+1) 0 3∧
   ∀W9,Stored (w.heap.size+1+1) 0 [.int .i64 6,.slice none 0 0,.slice (some ⟨W1.heap.size,0,none⟩) 1 1] (W1.alloc (.cells #[.int .i64 k1,.slice a1 n1 c1,u1] 55)) W9→
    (W9.cell? ⟨w.heap.size,0,none⟩=some C.p∧W9.cell? ⟨C.g,3,none⟩=some (.int .i64 p.2.ne)∧W9.frozen? ⟨C.g,3,none⟩=false∧IntKind.i64.wrap (p.2.ne - 1)=p.2.ne - 1)∧
      Hid (LP cnX C (w.alloc (.cells #[C.p] 67)) (w.heap.size+1+1) (pup p.2) (.mk 6 [] [p.1]) [.int .i64 6,.slice none 0 0,.slice (some ⟨W1.heap.size,0,none⟩) 1 1] (W9.setCell ⟨C.g,3,none⟩ (.int .i64 (p.2.ne - 1))))):=fun W e1 W1 hl ⟨v,b1,⟨cs,b2,b3⟩,b4,b5⟩=>by
  rw[←hp]at b3 b4
  obtain⟨a1,c1,u1,rfl,hk1,hu1⟩:=cn_form b3
  have hl1:=(hl.step b5 b4).step (KeptG.alloc C.g W1 (.cells #[.int .i64 p.1.kind,.slice a1 p.1.es.length c1,u1] 55)) (b4.alloc _)
  have hlm:=hl.ml
  have hlk:=hl.kept.size
  have hlg:=hl.gl
  have hWs:=b5.size
  rw[hs1]at hlm hlg
  refine⟨_,a1,_,c1,u1,by rw[b1,b2],hu1,hl1.th,fun W9 hst=> ?_⟩
  have hx9:cnX.rel (InN (w.heap.size+2) (w.heap.size+1+1) W9) W9 [.int .i64 p.1.kind,.slice a1 p.1.es.length c1,u1] p.1:=inN_far (inN_kept (inN_of (M:=w.heap.size+1+1) b3 (by omega) (.inl (by omega))) (KeptG.alloc C.g W1 _) (by omega)) hst.far
  have hl9:=hl1.upd hst (by show 0+3≤3;omega) (cn_ni hl1.tree) (x':= .mk 6 [] [p.1]) (fun _=>by
   rw[spl_all (cs:=zCn) (new:=[.int .i64 6,.slice none 0 0,.slice (some ⟨W1.heap.size,0,none⟩) 1 1]) rfl]
   refine cnE ⟨by decide,by decide⟩ (slot_none _ _ _) (slot_one (cs:=[.int .i64 p.1.kind,.slice a1 p.1.es.length c1,u1]) ?_ (by rw[hs1];exact hx9) ⟨by rw[hs1];omega,by rw[hst.far.size];simp,by omega⟩)
   intro j v hv
   rw[World.cell?_of_block (hst.far.block _ (by show W1.heap.size≠_;omega))]
   exact range_new W1 [.int .i64 p.1.kind,.slice a1 p.1.es.length c1,u1] _ j v hv)
  rw[spl_all (cs:=zCn) (new:=[.int .i64 6,.slice none 0 0,.slice (some ⟨W1.heap.size,0,none⟩) 1 1]) rfl]at hl9
  refine⟨⟨hl9.pc hg,hl9.ps.c3,hl9.ps.fr 3,hl9.ps.tick.2.2⟩, ?_⟩
  exact hl9.step KeptG.set (hl9.ps.nest (s':=pup p.2) ⟨rfl,rfl⟩ (pup_in hl9.ps.inv hne) hl9.ps.g5)
 have HO:=Lib.hid (fun W cs (hl:LP cnX C (w.alloc (.cells #[C.p] 67)) (w.heap.size+1+1) (pup p.2) (.mk 6 [] [p.1]) cs W)=>hl.out (f:=pone C.tk C.en (n+1)) e)
 have hx0:=eq_lit [33] hy
 generalize ptx C.tk s 0=tx at*
 generalize PE (Vx cnX) (pone C.tk C.en (n+1)) C s w=Q at*
 have HG:=Lib.hid hg
 clear hl0 h hs1 hg hf h0 hfu hin e mv12 mv23 hne hfu2 hs1' hs2 hp hy
 unfold zCn at*
 go_enter Tryz.func213,Tryz.ntmps213
 go_wp2_with fail
 refine HT.out.mono ?_
 rintro e w1 ⟨rfl,hb⟩
 have HL1:=Lib.hid (HL0.out w1 hb)
 have pc1:=HL1.out.pc HG.out
 clear hb HT HL0
 generalize p.2.ne=y at*
 have HE1:=Lib.hid (HEN.out w1 HL1.out.ps)
 clear HEN
 go_wp2_with fail
 refine HE1.out.mono ?_
 rintro e w2 hq
 obtain⟨rfl,HL2⟩:=XE.out _ _ _ HL1.out hq
 have pc2:=HL2.out.pc HG.out
 have HM2:=Lib.hid (HM.out w2 HL2.out.ps)
 have pc2a:=fun o=>(HL2.out.step (KeptG.alloc _ _ o) (HL2.out.ps.alloc o)).pc HG.out
 clear hq HE1 XE HL1 pc1 HM
 go_wp2_with fail
 refine HM2.out.mono ?_
 rintro e w3 hq
 obtain⟨⟨x3,rfl⟩,HL3⟩:=XM.out _ _ _ HL2.out hq
 have pc3:=HL3.out.pc HG.out
 have HP3:=Lib.hid (HP.out w3 HL3.out.ps)
 clear hq HM2 XM HL2 pc2 pc2a HP
 go_wp2_with fail
 refine HP3.out.mono ?_
 rintro e w4 hq
 obtain⟨k1,a1,n1,c1,u1,rfl,hu1,hth,hfin⟩:=XP.out _ _ _ HL3.out hq
 have HF:=Lib.hid hfin
 clear hq HP3 XP HL3 pc3 hfin
 go_wp2_with (first | (refine gateS 55 3 rfl ?_;refine wpList_store_there rfl 55 _ _ rfl (w.heap.size+1+1) 0 rfl [.int .i64 6,.slice none 0 0,.slice (some ⟨w4.heap.size,0,none⟩) 1 1] rfl (by kernel_rfl) (one3 rfl rfl) hth ?_;intro w5 hst5;obtain⟨⟨m0,m3,mf,mw⟩,HL6⟩:=HF.out w5 hst5;obtain⟨hl9,h19,hr9,ht9,hf9⟩:=HO.out _ _ HL6.out;have HF9:=Lib.hid hf9;clear hf9 HF HL6) | (refine gateL 55 3 rfl ?_;refine wpList_load_mid rfl 55 _ rfl (w.heap.size+1+1) 0 rfl _ _ hr9 Tryz.underlying55 rfl (by rw[hl9];kernel_rfl) ?_) | (refine gateS 55 2 rfl ?_;refine wpList_store_there rfl 55 _ _ rfl (w.heap.size+1) 0 rfl _ rfl (by rw[hl9];kernel_rfl) h19 ht9 ?_;intro w9 hst))
 exact bodyPost_ret (v:=_) (results_one rfl _ _ _ _ _ rfl (Tryz.cnLoad hst.at' hl9)) rfl (HF9.out _ hst)
theorem one_b (C:PC)(s:PS)(w:World)(h:PSt C s w)(n:Nat)(IH:CondSaid 213 (fun tk en=>pone tk en n) (Fu n))(hf:Fu (n+1) s)(hn0:¬ptx C.tk s 0=(⟨#[33]⟩:ByteArray))(hy:ptx C.tk s 0=(⟨#[91]⟩:ByteArray)):
 Calls Tryz.prog 213 #[C.p] w (PE (Vx cnX) (pone C.tk C.en (n+1)) C s w):=by
 have hg:=h.lt
 have hs1:(w.alloc (.cells #[C.p] 67)).heap.size=w.heap.size+1:=by simp
 have hl0:=LP.fresh (sh:=cnX) (t:=55) (h.alloc (.cells #[C.p] 67)) rfl zCn_ni zCn_rel
 rw[hs1]at hl0
 have HT:=Lib.hid (text0_any C s _ hl0.ps)
 have HL0:Hid (∀W,Below (((w.alloc (.cells #[C.p] 67)).alloc (.cells zCn.toArray 55)).alloc (.cells zCn.toArray 55)).heap.size (((w.alloc (.cells #[C.p] 67)).alloc (.cells zCn.toArray 55)).alloc (.cells zCn.toArray 55)) W→LP cnX C (w.alloc (.cells #[C.p] 67)) (w.heap.size+1+1) s default zCn W):=fun W hb=>hl0.step (KeptG.of_below hb) (hl0.ps.up hb)
 have e:pone C.tk C.en (n+1) s=pwithin C.tk C.en (⟨#[91]⟩:ByteArray) (⟨#[93]⟩:ByteArray) default (pcnd C.tk (pone C.tk C.en n)) s:=by
  unfold pone;rw[if_neg hn0,if_pos hy]
 have HW:Hid (∀W,LP cnX C (w.alloc (.cells #[C.p] 67)) (w.heap.size+1+1) s default zCn W→Calls Tryz.prog 122 #[C.p,.string (⟨#[91]⟩:ByteArray),.string (⟨#[93]⟩:ByteArray),.func (.func 221) #[] #[.pointer (some ⟨w.heap.size,0,none⟩),.pointer (some ⟨w.heap.size+1+1,0,none⟩)]] W (PW (BX cnX ((w.alloc (.cells #[C.p] 67)).heap.size+1) (w.heap.size+1+1)) (pwithin C.tk C.en (⟨#[91]⟩:ByteArray) (⟨#[93]⟩:ByteArray) default (pcnd C.tk (pone C.tk C.en n))) C (w.heap.size+1+1) s W)):=fun W hl=>by
  have hlm:=hl.ml
  have hlk:=hl.kept.size
  rw[hs1]at hlk
  refine within_any C s (⟨#[91]⟩:ByteArray) (⟨#[93]⟩:ByteArray) default (pcnd C.tk (pone C.tk C.en n)) (BX cnX ((w.alloc (.cells #[C.p] 67)).heap.size+1) (w.heap.size+1+1)) 221 (w.heap.size+1+1) _ _ _ (fun _ _=>rfl) hl.ps (by decide) (by decide) (mv_cnd (mv_one n)) hl.bx (fun W1 W2 x _ hx k=>hx.kept k (by rw[hs1];omega) (by omega)) (fun W1 hP1 he0 h00 k1=> ?_)
  obtain⟨hfu,hin⟩:=hf.deep (en:=C.en) h.inv h00
  have hl1:=hl.step k1 hP1
  exact onec_any C _ W1 w.heap.size (w.heap.size+1+1) _ default hP1 (fun W3 hW3=>cond_loop n (fun C2 s3 w3 h3 hf3=>all_loop n IH C2 s3 w3 h3 hf3) C _ W3 hW3 (hfu.mv hin (mv_m1 _ _))) (hl1.pc hg) hl1.bx (by rw[hs1];omega) (by omega) (by rw[hs1];have:=hl1.ml;omega)
 have HY:Hid (∀W e1 W1,LP cnX C (w.alloc (.cells #[C.p] 67)) (w.heap.size+1+1) s default zCn W→PW (BX cnX ((w.alloc (.cells #[C.p] 67)).heap.size+1) (w.heap.size+1+1)) (pwithin C.tk C.en (⟨#[91]⟩:ByteArray) (⟨#[93]⟩:ByteArray) default (pcnd C.tk (pone C.tk C.en n))) C (w.heap.size+1+1) s W e1 W1→e1= .returned (.tuple #[])∧∃cs:List Value,cs.length=3∧(∀u∈cs,u.oneCell'=true)∧W1.rangeAt (w.heap.size+1+1) 0 cs∧W1.there (w.heap.size+1) 0 cs.length∧∀w9,Stored (w.heap.size+1) 0 cs W1 w9→PE (Vx cnX) (pone C.tk C.en (n+1)) C s w (.returned (.agg cs.toArray)) w9):=fun W e1 W1 hl hq=>by
  obtain⟨a1,cs,hl2⟩:=hl.after hq
  exact⟨a1,cs,hl2.out (f:=pone C.tk C.en (n+1)) e⟩
 generalize pwithin C.tk C.en (⟨#[91]⟩:ByteArray) (⟨#[93]⟩:ByteArray) default (pcnd C.tk (pone C.tk C.en n))=FW at*
 have hx0:=ne_lit [33] hn0
 have hx1:=eq_lit [91] hy
 generalize ptx C.tk s 0=tx at*
 generalize PE (Vx cnX) (pone C.tk C.en (n+1)) C s w=Q at*
 have HG:=Lib.hid hg
 clear hl0 h hs1 hg hf e hn0 hy
 unfold zCn at*
 go_enter Tryz.func213,Tryz.ntmps213
 go_wp2_with fail
 refine HT.out.mono ?_
 rintro e w1 ⟨rfl,hb⟩
 have HL1:=Lib.hid (HL0.out w1 hb)
 have pc1:=HL1.out.pc HG.out
 clear hb HT HL0
 have HW1:=Lib.hid (HW.out w1 HL1.out)
 clear HW
 go_wp2_with fail
 refine HW1.out.mono ?_
 rintro e w2 hq
 obtain⟨rfl,cs9,hl9,h19,hr9,ht9,hf9⟩:=HY.out _ _ _ HL1.out hq
 have HF9:=Lib.hid hf9
 clear hq HW1 HY HL1 pc1 hf9
 go_wp2_with (first | (refine gateL 55 3 rfl ?_;refine wpList_load_mid rfl 55 _ rfl (w.heap.size+1+1) 0 rfl _ _ hr9 Tryz.underlying55 rfl (by rw[hl9];kernel_rfl) ?_) | (refine gateS 55 2 rfl ?_;refine wpList_store_there rfl 55 _ _ rfl (w.heap.size+1) 0 rfl _ rfl (by rw[hl9];kernel_rfl) h19 ht9 ?_;intro w9 hst))
 exact bodyPost_ret (v:=_) (results_one rfl _ _ _ _ _ rfl (Tryz.cnLoad hst.at' hl9)) rfl (HF9.out _ hst)
theorem one_any:∀n,CondSaid 213 (fun tk en=>pone tk en n) (Fu n)
 | 0=>fun C s w h hf=>by
   obtain⟨k,hk⟩:=hf.pos h.inv
   cases hk
 | n+1=>fun C s w h hf=>by
   by_cases h0:ptx C.tk s 0=(⟨#[33]⟩:ByteArray)
   ·exact one_n C s w h n (one_any n) hf h0
   by_cases h1:ptx C.tk s 0=(⟨#[91]⟩:ByteArray)
   ·exact one_b C s w h n (one_any n) hf h0 h1
   by_cases h2:ptx C.tk s 0=(⟨#[116,114,117,101]⟩:ByteArray)
   ·exact one_t C s w h n h0 h1 h2
   by_cases h3:ptx C.tk s 0=(⟨#[102,97,108,115,101]⟩:ByteArray)
   ·exact one_f C s w h n h0 h1 h2 h3
   exact one_c C s w h n h0 h1 h2 h3
theorem co_any (C:PC)(s:PS)(w:World)(h:PSt C s w):Calls Tryz.prog 171 #[C.p] w (PE (Vx cnX) (pco C.tk C.en) C s w):=
 cond_loop 53 (fun C2 s3 w3 h3 hf3=>all_loop 53 (one_any 53) C2 s3 w3 h3 hf3) C s w h (Fu.top h.inv)
end
section
open Go.RowKit
def zAs:List Value:=[.int .i64 0,.int .i64 0,.slice none 0 0,.slice none 0 0,.int .i64 0,.int .i64 0,.string ⟨#[]⟩,.slice none 0 0,.int .i64 0,.int .i64 0,.string ⟨#[]⟩,.slice none 0 0,.string ⟨#[]⟩,.int .i64 0,.slice none 0 0]
theorem zAs_ni:∀t u,zAs[1]? ≠some (.iface t u):=fun t u e=>by cases e
theorem as_form {S:Nat→Prop}{w:World}{cs:List Value}{x:AT}(h:asX.rel S w cs x):∃ak ac ad al ae au ea eb en eu va vb vn vu fl nn us,cs=[.int .i64 ak,.int .i64 ac,.slice ad al ae,au,.int .i64 ea,.int .i64 eb,.string en,eu,.int .i64 va,.int .i64 vb,.string vn,vu,.string fl,.int .i64 nn,us]∧(au.oneCell'=true∧eu.oneCell'=true∧vu.oneCell'=true∧us.oneCell'=true):=by
 obtain⟨n,h⟩:=h
 cases n with
 | zero=>exact h.elim
 | succ n=>
   obtain⟨cc,ce,cv,v,h1,_,h2,h3,h4,h5⟩:=h
   obtain⟨a,c,u,rfl,_,g1⟩:=cn_form (x:=x.c) ⟨n,h2⟩
   obtain⟨u2,rfl,_,g2⟩:=ex_form (x:=x.e) ⟨n,h3⟩
   obtain⟨u3,rfl,_,g3⟩:=ex_form (x:=x.v) ⟨n,h4⟩
   exact⟨_,_,_,_,_,_,_,_,_,_,_,_,_,_,_,_,_,h1,g1,g2,g3,h5.one⟩
theorem as_ni {S:Nat→Prop}{w:World}{cs:List Value}{x:AT}(h:asX.rel S w cs x):∃v,cs[1]? =some v∧∀t u,v≠ .iface t u:=by
 obtain⟨ak,ac,ad,al,ae,au,ea,eb,en,eu,va,vb,vn,vu,fl,nn,us,rfl,_⟩:=as_form h
 exact⟨_,rfl,fun t u e=>by cases e⟩
theorem zAs_rel (S:Nat→Prop)(W:World):asX.rel S W zAs default:=asE (k:=0) (n:=0) (f:=⟨#[]⟩) ⟨by decide,by decide⟩ ⟨by decide,by decide⟩ (by decide) (zCn_rel S W) (zEx_rel S W) (zEx_rel S W) (slot_none _ _ _)
theorem as_sep {S:Nat→Prop}{W:World}{v:Value}{l:List AT}(h:Pak.Slot asX S W v l):asX.rel S W [.int .i64 4,.int .i64 0,.slice none 0 0,.slice none 0 0,.int .i64 0,.int .i64 0,.string ⟨#[]⟩,.slice none 0 0,.int .i64 0,.int .i64 0,.string ⟨#[]⟩,.slice none 0 0,.string ⟨#[]⟩,.int .i64 0,v] (.mk 4 default default default ⟨#[]⟩ 0 l):=asE (k:=4) (n:=0) (f:=⟨#[]⟩) ⟨by decide,by decide⟩ ⟨by decide,by decide⟩ (by decide) (zCn_rel S W) (zEx_rel S W) (zEx_rel S W) h
theorem Tryz.asLoad {w:World}{h:Nat}{cs:List Value}(hr:w.rangeAt h 0 cs)(hl:cs.length=15):(loadVar 60 ⟨h,0,none⟩).run Tryz.prog w= .ok (.agg cs.toArray) w:=
 run_loadVar_mid w h 0 _ cs _ hr Tryz.underlying60 rfl (by rw[hl];kernel_rfl)
def AssnSaid (fn:Nat)(f:List Tok→Nat→PS→AT×PS)(P:PS→Prop):Prop:=∀(C:PC) (s:PS) (w:World),PSt C s w→P s→Calls Tryz.prog fn #[C.p] w (PE (Vx asX) (f C.tk C.en) C s w)
theorem assn_loop (n:Nat)(IH:AssnSaid 121 (fun tk en=>pitem tk en n) (Fu n))(C:PC)(s:PS)(w:World)(h:PSt C s w)(hf:Fu n s):
 Calls Tryz.prog 57 #[C.p] w (PE (Vx asX) (passn C.tk (pitem C.tk C.en n)) C s w):=by
 have hg:=h.lt
 have HC0:=Lib.hid (IH C s _ (h.alloc (.cells zAs.toArray 60)) hf)
 obtain⟨T,hT⟩:∃T,T=passn C.tk (pitem C.tk C.en n) s:=⟨_,rfl⟩
 have HS:Hid (∀W1 e1,PE (Vx asX) (pitem C.tk C.en n) C s (w.alloc (.cells zAs.toArray 60)) e1 W1→∃cs:List Value,e1= .returned (.agg cs.toArray)∧cs.length=15∧(∀u∈cs,u.oneCell'=true)∧Hid (LP asX C w W1.heap.size (pitem C.tk C.en n s).2 (pitem C.tk C.en n s).1 cs (W1.alloc (.cells cs.toArray 60)))):=fun W1 e1 ⟨v,a1,⟨cs,a2,a3⟩,a4,a5⟩=>⟨cs,by rw[a1,a2],asX.len a3,asX.one a3,LP.start hg rfl zAs_ni a4 a5 (by simpa using a3)⟩
 have hfin:∀k x s2,pbin C.tk (⟨#[38]⟩:ByteArray) (fun a b=>AT.mk 4 default default default (⟨#[]⟩:ByteArray) 0 [a,b]) (pitem C.tk C.en n) k x s2=T→(k=0→False)→pis C.tk [(⟨#[38]⟩:ByteArray)] s2=false→passn C.tk (pitem C.tk C.en n) s=(x,s2):=fun k x s2 hk h0 hp=>by
  cases k with
  | zero=>exact(h0 rfl).elim
  | succ k=>
    unfold pbin at hk
    rw[hp]at hk
    rw[←hT,←hk];rfl
 have HF:=Lib.hid hfin
 have HMV:=Lib.hid (mv_item (tk:=C.tk) (en:=C.en) n)
 have hst0:pbin C.tk (⟨#[38]⟩:ByteArray) (fun a b=>AT.mk 4 default default default (⟨#[]⟩:ByteArray) 0 [a,b]) (pitem C.tk C.en n) (C.tk.length+1) (pitem C.tk C.en n s).1 (pitem C.tk C.en n s).2=T:=by rw[hT];rfl
 have HT0:=Lib.hid hst0
 have HFU:=Lib.hid (fun s2 (hi:PIn C.tk s) (m:Mv C.tk s s2)=>hf.mv hi m)
 have HI:=Lib.hid h.inv
 have m0:=Lib.hid (mv_item (tk:=C.tk) (en:=C.en) n s)
 have HEND:Hid (∀M s2 x cs wr w9 k,LP asX C w M s2 x cs wr→Stored w.heap.size 0 cs wr w9→pbin C.tk (⟨#[38]⟩:ByteArray) (fun a b=>AT.mk 4 default default default (⟨#[]⟩:ByteArray) 0 [a,b]) (pitem C.tk C.en n) k x s2=T→(k=0→False)→pis C.tk [(⟨#[38]⟩:ByteArray)] s2=false→PE (Vx asX) (passn C.tk (pitem C.tk C.en n)) C s w (.returned (.agg cs.toArray)) w9):=fun M s2 x cs wr w9 k hl hst hk h0 hp=>hl.fin hst (HF.out k x s2 hk h0 hp)
 generalize PE (Vx asX) (passn C.tk (pitem C.tk C.en n)) C s w=Q at*
 clear h hf hT hst0 hfin HF
 unfold zAs at*
 go_enter Tryz.func57,Tryz.ntmps57
 go_wp2_with fail
 refine HC0.out.mono ?_
 rintro e w1 hq
 obtain⟨cs0,rfl,hl0,ho0,hlp0⟩:=HS.out _ _ hq
 clear hq HC0 HS
 have hM:w1.heap.size≠C.g:=by have:=hlp0.out.ml.1;omega
 go_wp2_with (refine gateS 60 3 rfl ?_;refine wpList_store_fresh (by kernel_rfl) 60 _ _ rfl _ rfl cs0 rfl (by rw[hl0];kernel_rfl) (by rw[hl0];rfl) ho0 ?_)
 have hM1:w.heap.size+1≤w1.heap.size:=hlp0.out.ml.1
 generalize w1.heap.size=M at*
 simp only[Act.put]
 go_loopw [8] (fun t8 wr=>∃(k:Nat) (s2:PS) (x:AT) (cs:List Value),Hid (LP asX C w M s2 x cs wr)∧Hid (pbin C.tk (⟨#[38]⟩:ByteArray) (fun a b=>AT.mk 4 default default default (⟨#[]⟩:ByteArray) 0 [a,b]) (pitem C.tk C.en n) k x s2=T)∧Hid (Mv C.tk s s2)∧Hid (C.tk.length+1≤k+s2.nx)) (fun _ wr=>mz C wr)
 case atStart=>exact⟨_,_,_,_,hlp0,HT0.out,m0,Lib.hid (Nat.le_add_right _ _)⟩
 case round=>
  clear hlp0 HT0 m0 hl0 ho0
  obtain⟨k,s2,x,cs,hlp,hk,hmv,hfu⟩:=hrel
  obtain⟨wo,rfl⟩:∃wo:World,wo=wr:=⟨_,rfl⟩
  have HMAY:=Lib.hid (may1_any C s2 (⟨#[38]⟩:ByteArray) wo hlp.out.ps (by decide))
  by_cases hp:pis C.tk [(⟨#[38]⟩:ByteArray)] s2=true
  ·have HY:Hid (∀e1 W1,PE Vt (pmay C.tk [(⟨#[38]⟩:ByteArray)]) C s2 wo e1 W1→e1= .returned (.string (ptx C.tk s2 0))∧LP asX C w M (pgo s2) x cs W1):=fun e1 W1 ⟨v,a1,a2,a3,a4⟩=>by
    have a2:v= .string (pmay C.tk [(⟨#[38]⟩:ByteArray)] s2).1:=a2
    rw[pmay_yes hp]at a2 a3
    exact⟨by rw[a1,a2],hlp.out.step a4 a3⟩
   obtain⟨hx1,hx2⟩:=str_empty (pis_ne hp)
   have hnx:s2.nx<C.tk.length:=(pis_inv hp).2
   have h20:s2.er=none:=(pis_inv hp).1
   have hmv3:Mv C.tk s (pgo s2):=hmv.out.trans (mv_go ⟨h20,hnx⟩)
   have HPS:=Lib.hid (fun W (hl:LP asX C w M (pgo s2) x cs W)=>IH C (pgo s2) W.drew (hl.ps.up ⟨rfl,rfl,rfl,Nat.le_refl _,fun _ _=>rfl⟩) (HFU.out _ HI.out hmv3))
   obtain⟨ak,ac,ad,al,ae,au,ea,eb,en,eu,va,vb,vn,vu,fl,nn,us,hcs,hu1,hu2,hu3,hu4⟩:=as_form hlp.out.tree
   have HX:Hid (∀W e4 W4,LP asX C w M (pgo s2) x cs W→PE (Vx asX) (pitem C.tk C.en n) C (pgo s2) W.drew e4 W4→∃ak2 ac2 ad2 al2 ae2 au2 ea2 eb2 en2 eu2 va2 vb2 vn2 vu2 fl2 nn2 us2,e4= .returned (.agg #[.int .i64 ak2,.int .i64 ac2,.slice ad2 al2 ae2,au2,.int .i64 ea2,.int .i64 eb2,.string en2,eu2,.int .i64 va2,.int .i64 vb2,.string vn2,vu2,.string fl2,.int .i64 nn2,us2])∧(au2.oneCell'=true∧eu2.oneCell'=true∧vu2.oneCell'=true∧us2.oneCell'=true)∧(W4.cell? ⟨M,0,none⟩=some (.int .i64 ak)∧W4.cell? ⟨M,1,none⟩=some (.int .i64 ac)∧W4.cell? ⟨M,2,none⟩=some (.slice ad al ae)∧W4.cell? ⟨M,3,none⟩=some (au)∧W4.cell? ⟨M,4,none⟩=some (.int .i64 ea)∧W4.cell? ⟨M,5,none⟩=some (.int .i64 eb)∧W4.cell? ⟨M,6,none⟩=some (.string en)∧W4.cell? ⟨M,7,none⟩=some (eu)∧W4.cell? ⟨M,8,none⟩=some (.int .i64 va)∧W4.cell? ⟨M,9,none⟩=some (.int .i64 vb)∧W4.cell? ⟨M,10,none⟩=some (.string vn)∧W4.cell? ⟨M,11,none⟩=some (vu)∧W4.cell? ⟨M,12,none⟩=some (.string fl)∧W4.cell? ⟨M,13,none⟩=some (.int .i64 nn)∧W4.cell? ⟨M,14,none⟩=some (us))∧
    (∀o,((W4.alloc o).cell? ⟨M,0,none⟩=some (.int .i64 ak)∧(W4.alloc o).cell? ⟨M,1,none⟩=some (.int .i64 ac)∧(W4.alloc o).cell? ⟨M,2,none⟩=some (.slice ad al ae)∧(W4.alloc o).cell? ⟨M,3,none⟩=some (au)∧(W4.alloc o).cell? ⟨M,4,none⟩=some (.int .i64 ea)∧(W4.alloc o).cell? ⟨M,5,none⟩=some (.int .i64 eb)∧(W4.alloc o).cell? ⟨M,6,none⟩=some (.string en)∧(W4.alloc o).cell? ⟨M,7,none⟩=some (eu)∧(W4.alloc o).cell? ⟨M,8,none⟩=some (.int .i64 va)∧(W4.alloc o).cell? ⟨M,9,none⟩=some (.int .i64 vb)∧(W4.alloc o).cell? ⟨M,10,none⟩=some (.string vn)∧(W4.alloc o).cell? ⟨M,11,none⟩=some (vu)∧(W4.alloc o).cell? ⟨M,12,none⟩=some (.string fl)∧(W4.alloc o).cell? ⟨M,13,none⟩=some (.int .i64 nn)∧(W4.alloc o).cell? ⟨M,14,none⟩=some (us))∧(W4.alloc o).there M 0 15)∧
    ∀W9,Stored M 0 [.int .i64 4,.int .i64 0,.slice none 0 0,.slice none 0 0,.int .i64 0,.int .i64 0,.string ⟨#[]⟩,.slice none 0 0,.int .i64 0,.int .i64 0,.string ⟨#[]⟩,.slice none 0 0,.string ⟨#[]⟩,.int .i64 0,.slice (some ⟨W4.heap.size,0,none⟩) 2 2] (W4.alloc (.cells #[.int .i64 ak,.int .i64 ac,.slice ad al ae,au,.int .i64 ea,.int .i64 eb,.string en,eu,.int .i64 va,.int .i64 vb,.string vn,vu,.string fl,.int .i64 nn,us,.int .i64 ak2,.int .i64 ac2,.slice ad2 al2 ae2,au2,.int .i64 ea2,.int .i64 eb2,.string en2,eu2,.int .i64 va2,.int .i64 vb2,.string vn2,vu2,.string fl2,.int .i64 nn2,us2] 60)) W9→LP asX C w M (pitem C.tk C.en n (pgo s2)).2 (AT.mk 4 default default default (⟨#[]⟩:ByteArray) 0 [x,(pitem C.tk C.en n (pgo s2)).1]) [.int .i64 4,.int .i64 0,.slice none 0 0,.slice none 0 0,.int .i64 0,.int .i64 0,.string ⟨#[]⟩,.slice none 0 0,.int .i64 0,.int .i64 0,.string ⟨#[]⟩,.slice none 0 0,.string ⟨#[]⟩,.int .i64 0,.slice (some ⟨W4.heap.size,0,none⟩) 2 2] W9):=fun W e4 W4 hl ⟨v,b1,⟨cs2,b2,b3⟩,b4,b5⟩=>by
    obtain⟨ak2,ac2,ad2,al2,ae2,au2,ea2,eb2,en2,eu2,va2,vb2,vn2,vu2,fl2,nn2,us2,hcs2,ho2⟩:=as_form b3
    have hd:KeptG C.g W W.drew:=KeptG.drew _ _
    have hk:=hd.trans b5
    have h1:=hl.gl
    have h2:=hl.ml
    have h3:=hl.kept.size
    have hbox:=hk.range h2.2 (by omega) hl.box
    rw[hcs]at hbox
    refine⟨ak2,ac2,ad2,al2,ae2,au2,ea2,eb2,en2,eu2,va2,vb2,vn2,vu2,fl2,nn2,us2,by rw[b1,b2,hcs2],ho2,⟨hbox 0 _ rfl,hbox 1 _ rfl,hbox 2 _ rfl,hbox 3 _ rfl,hbox 4 _ rfl,hbox 5 _ rfl,hbox 6 _ rfl,hbox 7 _ rfl,hbox 8 _ rfl,hbox 9 _ rfl,hbox 10 _ rfl,hbox 11 _ rfl,hbox 12 _ rfl,hbox 13 _ rfl,hbox 14 _ rfl⟩,fun o=> ?_,fun W9 hst=> ?_⟩
    ·have hka:=hk.trans (KeptG.alloc C.g W4 o)
     have hb2:=hka.range h2.2 (by omega) hl.box
     rw[hcs]at hb2
     exact⟨⟨hb2 0 _ rfl,hb2 1 _ rfl,hb2 2 _ rfl,hb2 3 _ rfl,hb2 4 _ rfl,hb2 5 _ rfl,hb2 6 _ rfl,hb2 7 _ rfl,hb2 8 _ rfl,hb2 9 _ rfl,hb2 10 _ rfl,hb2 11 _ rfl,hb2 12 _ rfl,hb2 13 _ rfl,hb2 14 _ rfl⟩,hka.there h2.2 (by omega) hl.th⟩
    ·refine hl.next (s1:=pgo s2) hd b5 b4 b3 (t:=60) (z:=AT.mk 4 default default default (⟨#[]⟩:ByteArray) 0 [x,(pitem C.tk C.en n (pgo s2)).1]) ?_ (as_ni hl.tree) rfl (fun S W h=>as_sep h)
     rw[hcs,hcs2]
     exact hst
   have HK2:Hid (∀s3 y cs3 W9,LP asX C w M s3 y cs3 W9→s3=(pitem C.tk C.en n (pgo s2)).2→y=AT.mk 4 default default default (⟨#[]⟩:ByteArray) 0 [x,(pitem C.tk C.en n (pgo s2)).1]→(∃(k:Nat) (s2:PS) (x:AT) (cs:List Value),Hid (LP asX C w M s2 x cs W9)∧Hid (pbin C.tk (⟨#[38]⟩:ByteArray) (fun a b=>AT.mk 4 default default default (⟨#[]⟩:ByteArray) 0 [a,b]) (pitem C.tk C.en n) k x s2=T)∧Hid (Mv C.tk s s2)∧Hid (C.tk.length+1≤k+s2.nx))∧mz C W9<mz C wo):=fun s3 y cs3 W9 hl e3 ey=>by
    have hm4:=HMV.out (pgo s2)
    have hn4:s2.nx+1≤s3.nx:=by rw[e3];exact hm4.nx
    obtain⟨k,rfl⟩:∃k',k=k'+1:=⟨k - 1,by have:=hfu.out;omega⟩
    refine⟨⟨k,s3,y,cs3,hl, ?_, ?_, ?_⟩, ?_⟩
    ·have:=hk.out
     unfold pbin at this
     rw[if_pos hp]at this
     rw[e3,ey];exact this
    ·rw[e3];exact hmv3.trans hm4
    ·have:=hfu.out;show C.tk.length+1≤_;omega
    ·rw[mz_eq hl.ps,mz_eq hlp.out.ps]
     omega
   clear hlp hk hmv hfu hp hmv3 h20
   go_wp2_with fail
   refine HMAY.out.mono ?_
   rintro e w3 hq
   obtain⟨rfl,hlp3⟩:=HY.out _ _ hq
   have HP3:=Lib.hid (HPS.out w3 hlp3)
   have HX3:=Lib.hid (fun e4 W4=>HX.out w3 e4 W4 hlp3)
   have hb3:=hlp3.box
   rw[hcs]at hb3
   have q0:w3.cell? ⟨M,0,none⟩=some (.int .i64 ak):=hb3 0 _ rfl
   have q1:w3.cell? ⟨M,1,none⟩=some (.int .i64 ac):=hb3 1 _ rfl
   have q2:w3.cell? ⟨M,2,none⟩=some (.slice ad al ae):=hb3 2 _ rfl
   have q3:w3.cell? ⟨M,3,none⟩=some (au):=hb3 3 _ rfl
   have q4:w3.cell? ⟨M,4,none⟩=some (.int .i64 ea):=hb3 4 _ rfl
   have q5:w3.cell? ⟨M,5,none⟩=some (.int .i64 eb):=hb3 5 _ rfl
   have q6:w3.cell? ⟨M,6,none⟩=some (.string en):=hb3 6 _ rfl
   have q7:w3.cell? ⟨M,7,none⟩=some (eu):=hb3 7 _ rfl
   have q8:w3.cell? ⟨M,8,none⟩=some (.int .i64 va):=hb3 8 _ rfl
   have q9:w3.cell? ⟨M,9,none⟩=some (.int .i64 vb):=hb3 9 _ rfl
   have q10:w3.cell? ⟨M,10,none⟩=some (.string vn):=hb3 10 _ rfl
   have q11:w3.cell? ⟨M,11,none⟩=some (vu):=hb3 11 _ rfl
   have q12:w3.cell? ⟨M,12,none⟩=some (.string fl):=hb3 12 _ rfl
   have q13:w3.cell? ⟨M,13,none⟩=some (.int .i64 nn):=hb3 13 _ rfl
   have q14:w3.cell? ⟨M,14,none⟩=some (us):=hb3 14 _ rfl
   clear hq hlp3 HPS HX HMAY HY hb3 hcs
   go_wp2_with fail
   go_region_with (go_at_call 121;refine HP3.out.mono ?_;rintro e w4 hq;obtain⟨ak2,ac2,ad2,al2,ae2,au2,ea2,eb2,en2,eu2,va2,vb2,vn2,vu2,fl2,nn2,us2,rfl,⟨ho1,ho2,ho3,ho4⟩,⟨r0,r1,r2,r3,r4,r5,r6,r7,r8,r9,r10,r11,r12,r13,r14⟩,hth,hfin⟩:=HX3.out _ _ hq;have HF:=Lib.hid hfin;have z0:=fun o=>(hth o).1.1;have z1:=fun o=>(hth o).1.2.1;have z2:=fun o=>(hth o).1.2.2.1;have z3:=fun o=>(hth o).1.2.2.2.1;have z4:=fun o=>(hth o).1.2.2.2.2.1;have z5:=fun o=>(hth o).1.2.2.2.2.2.1;have z6:=fun o=>(hth o).1.2.2.2.2.2.2.1;have z7:=fun o=>(hth o).1.2.2.2.2.2.2.2.1;have z8:=fun o=>(hth o).1.2.2.2.2.2.2.2.2.1;have z9:=fun o=>(hth o).1.2.2.2.2.2.2.2.2.2.1;have z10:=fun o=>(hth o).1.2.2.2.2.2.2.2.2.2.2.1;have z11:=fun o=>(hth o).1.2.2.2.2.2.2.2.2.2.2.2.1;have z12:=fun o=>(hth o).1.2.2.2.2.2.2.2.2.2.2.2.2.1;have z13:=fun o=>(hth o).1.2.2.2.2.2.2.2.2.2.2.2.2.2.1;have z14:=fun o=>(hth o).1.2.2.2.2.2.2.2.2.2.2.2.2.2.2;have g0:=fun o=>((hth o).2 0 (by decide)).2;have g1:=fun o=>((hth o).2 1 (by decide)).2;have g2:=fun o=>((hth o).2 2 (by decide)).2;have g3:=fun o=>((hth o).2 3 (by decide)).2;have g4:=fun o=>((hth o).2 4 (by decide)).2;have g5:=fun o=>((hth o).2 5 (by decide)).2;have g6:=fun o=>((hth o).2 6 (by decide)).2;have g7:=fun o=>((hth o).2 7 (by decide)).2;have g8:=fun o=>((hth o).2 8 (by decide)).2;have g9:=fun o=>((hth o).2 9 (by decide)).2;have g10:=fun o=>((hth o).2 10 (by decide)).2;have g11:=fun o=>((hth o).2 11 (by decide)).2;have g12:=fun o=>((hth o).2 12 (by decide)).2;have g13:=fun o=>((hth o).2 13 (by decide)).2;have g14:=fun o=>((hth o).2 14 (by decide)).2;have HTH:=Lib.hid hth;clear hq hfin hth)
   all_goals
    have HL:=Lib.hid (HK2.out _ _ _ _ (HF.out _ (stored_sets (HTH.out _).2)) rfl rfl)
    clear HF HTH z0 g0 r0 q0 z1 g1 r1 q1 z2 g2 r2 q2 z3 g3 r3 q3 z4 g4 r4 q4 z5 g5 r5 q5 z6 g6 r6 q6 z7 g7 r7 q7 z8 g8 r8 q8 z9 g9 r9 q9 z10 g10 r10 q10 z11 g11 r11 q11 z12 g12 r12 q12 z13 g13 r13 q13 z14 g14 r14 q14 HK2 HP3 HX3 hnx hu1 hu2 hu3 hu4 HEND HFU HI HMV
    go_roundw
    case rel=>exact⟨_,_,_,_,_,_,_,_,_,HL.out.1,rfl⟩
    case measure=>exact HL.out.2
  ·have hp:=Bool.eq_false_iff.2 hp
   have HY:Hid (∀e1 W1,PE Vt (pmay C.tk [(⟨#[38]⟩:ByteArray)]) C s2 wo e1 W1→e1= .returned (.string ⟨#[]⟩)∧cs.length=15∧(∀u∈cs,u.oneCell'=true)∧W1.rangeAt M 0 cs∧W1.there w.heap.size 0 cs.length∧∀w9,Stored w.heap.size 0 cs W1 w9→Q (.returned (.agg cs.toArray)) w9):=fun e1 W1 ⟨v,a1,a2,a3,a4⟩=>by
    have a2:v= .string (pmay C.tk [(⟨#[38]⟩:ByteArray)] s2).1:=a2
    rw[pmay_no hp]at a2 a3
    have hl:=hlp.out.step a4 a3
    have hlen:cs.length=15:=hl.len
    refine⟨by rw[a1,a2],hlen,hl.one,hl.box,by rw[hlen];exact hl.res,fun w9 hst=>HEND.out M s2 x cs W1 w9 k hl hst hk.out (fun e=> ?_) hp⟩
    have:=hfu.out
    have:=hlp.out.ps.inv.nx
    omega
   clear HEND hk hmv hfu hp HFU HI HMV hlp
   go_wp2_with fail
   refine HMAY.out.mono ?_
   rintro e w3 hq
   obtain⟨rfl,hl3,h1,hb3,ht3,hfin⟩:=HY.out _ _ hq
   have HF:=Lib.hid hfin
   clear hq HMAY HY hfin
   go_wp2_with (first | (refine gateL 60 3 rfl ?_;refine wpList_load_mid rfl 60 _ rfl M 0 rfl cs _ hb3 Tryz.underlying60 rfl (by rw[hl3];kernel_rfl) ?_) | (refine gateS 60 2 rfl ?_;refine wpList_store_there rfl 60 _ _ rfl w.heap.size 0 rfl cs rfl (by rw[hl3];kernel_rfl) h1 ht3 ?_;intro w9 hst))
   exact bodyPost_ret (v:= .agg cs.toArray) (results_one rfl _ _ _ _ _ rfl (Tryz.asLoad hst.at' hl3)) rfl (HF.out _ hst)
end
section
open Go.RowKit
section
variable {T:Type} {sh:Pak.Sh T}
theorem LP.set1 {C:PC}{w wr:World}{M o:Nat}{s:PS}{x x':T}{cs:List Value}{v:Value}(h:LP sh C w M s x cs wr)(ho:o<sh.k)(hni:∃v,cs[1]? =some v∧∀t u,v≠ .iface t u)
 (hr:∀S W,sh.rel S W cs x→sh.rel S W (spl cs o [v]) x'):LP sh C w M s x' (spl cs o [v]) (wr.setCell ⟨M,o,none⟩ v):=by
 obtain⟨⟨v0,_,y0⟩,f0⟩:=h.cell ho
 exact h.upd (stored_sets (cs:=[v]) (fun j hj=>by
  obtain rfl:j=0:=by simp at hj;exact hj
  exact⟨by rw[Nat.add_zero,y0];rfl,f0⟩)) (by show o+1≤_;omega) hni (hr _ _)
theorem LP.setS {T2:Type}{sh2:Pak.Sh T2}{C:PC}{w wr W1:World}{M o:Nat}{s s':PS}{x x':T}{cs:List Value}{v:Value}{l:List T2}(h:LP sh C w M s x cs wr)(k:KeptG C.g wr W1)(hp:PSt C s' W1)(hv:Pak.Slot sh2 (InS wr.heap.size W1) W1 v l)(ho:o<sh.k)(hni:∃v,cs[1]? =some v∧∀t u,v≠ .iface t u)
 (hr:∀S W,sh.rel S W cs x→Pak.Slot sh2 S W v l→sh.rel S W (spl cs o [v]) x'):LP sh C w M s' x' (spl cs o [v]) (W1.setCell ⟨M,o,none⟩ v):=by
 have h1:=h.step k hp
 obtain⟨⟨v0,_,y0⟩,f0⟩:=h1.cell ho
 have hst:Stored M o [v] W1 (W1.setCell ⟨M,o,none⟩ v):=stored_sets (cs:=[v]) (fun j hj=>by
  obtain rfl:j=0:=by simp at hj;exact hj
  exact⟨by rw[Nat.add_zero,y0];rfl,f0⟩)
 have hm:=h.ml
 have hk:=h.kept.size
 have hf:=hst.far
 refine h1.upd hst (by show o+1≤_;omega) hni (fun hx=>hr _ _ hx ?_)
 exact hv.keep (fun b ⟨a1,a2⟩=>⟨by omega,by rw[hf.size];exact a2,by omega⟩) (fun b o ⟨a1,a2⟩=>World.cell?_of_block (hf.block b (by omega)))
theorem LP.setP {T2:Type}{sh2:Pak.Sh T2}{C:PC}{w wr W1 W9:World}{M o:Nat}{s s':PS}{x x':T}{cs cs2:List Value}{y:T2}(h:LP sh C w M s x cs wr)(k:KeptG C.g wr W1)(hp:PSt C s' W1)(hv:sh2.rel (InS wr.heap.size W1) W1 cs2 y)(ho:o+sh2.k≤sh.k)(hni:∃v,cs[1]? =some v∧∀t u,v≠ .iface t u)(hst:Stored M o cs2 W1 W9)
 (hr:∀S W,sh.rel S W cs x→sh2.rel S W cs2 y→sh.rel S W (spl cs o cs2) x'):LP sh C w M s' x' (spl cs o cs2) W9:=by
 have h1:=h.step k hp
 have hm:=h.ml
 have hk:=h.kept.size
 have hf:=hst.far
 refine h1.upd hst (by rw[sh2.len hv];exact ho) hni (fun hx=>hr _ _ hx ?_)
 exact sh2.keep (fun b ⟨a1,a2⟩=>⟨by omega,by rw[hf.size];exact a2,by omega⟩) (fun b o ⟨a1,a2⟩=>World.cell?_of_block (hf.block b (by omega))) hv
theorem LP.part {C:PC}{w wr W1:World}{M o k:Nat}{s s':PS}{x:T}{cs:List Value}(h:LP sh C w M s x cs wr)(kk:KeptG C.g wr W1)(hp:PSt C s' W1)(ho:o+k≤sh.k):W1.there M o k:=fun j hj=>by
 have:=(h.step kk hp).th (o+j) (by omega)
 rw[Nat.zero_add]at this
 exact this
end
theorem pe_v {f:PS→ByteArray×PS}{C:PC}{s:PS}{w w':World}{e:Ending}(h:PE Vt f C s w e w'):e= .returned (.string (f s).1)∧PSt C (f s).2 w'∧KeptG C.g w w':=by
 obtain⟨v,a1,a2,a3,a4⟩:=h
 exact⟨by rw[a1,show v= .string (f s).1 from a2],a3,a4⟩
theorem pe_i {f:PS→Int×PS}{C:PC}{s:PS}{w w':World}{e:Ending}(h:PE Vi f C s w e w'):e= .returned (.int .i64 (f s).1)∧PSt C (f s).2 w'∧KeptG C.g w w':=by
 obtain⟨v,a1,a2,a3,a4⟩:=h
 exact⟨by rw[a1,show v= .int .i64 (f s).1 from a2],a3,a4⟩
theorem pe_x {T:Type}{sh:Pak.Sh T}{f:PS→T×PS}{C:PC}{s:PS}{w w':World}{e:Ending}(h:PE (Vx sh) f C s w e w'):∃cs:List Value,e= .returned (.agg cs.toArray)∧cs.length=sh.k∧(∀u∈cs,u.oneCell'=true)∧sh.rel (InS w.heap.size w') w' cs (f s).1∧PSt C (f s).2 w'∧KeptG C.g w w':=by
 obtain⟨v,a1,⟨cs,a2,a3⟩,a4,a5⟩:=h
 exact⟨cs,by rw[a1,a2],sh.len a3,sh.one a3,a3,a4,a5⟩
def Vs {T:Type}(sh:Pak.Sh T)(w w':World)(v:Value)(l:List T):Prop:=Pak.Slot sh (InS w.heap.size w') w' v l
theorem pe_s {T:Type}{sh:Pak.Sh T}{f:PS→List T×PS}{C:PC}{s:PS}{w w':World}{e:Ending}(h:PE (Vs sh) f C s w e w'):∃a c,e= .returned (.slice a (f s).1.length c)∧Pak.Slot sh (InS w.heap.size w') w' (.slice a (f s).1.length c) (f s).1∧PSt C (f s).2 w'∧KeptG C.g w w':=by
 obtain⟨v,a1,h2,a4,a5⟩:=h
 obtain⟨a,c,rfl,h3⟩:=h2
 exact⟨a,c,a1,⟨a,c,rfl,h3⟩,a4,a5⟩
theorem as_kind {S:Nat→Prop}{W:World}{cs:List Value}{x:AT}(k:Int)(hk2:i64 k)(h:asX.rel S W cs x):asX.rel S W (spl cs 0 [.int .i64 k]) (.mk k x.c x.e x.v x.field x.n x.ks):=by
 obtain⟨n,h⟩:=h
 cases n with
 | zero=>exact h.elim
 | succ n=>
   obtain⟨cc,ce,cv,v,h1,⟨hk,hn,hf⟩,h2,h3,h4,h5⟩:=h
   obtain⟨a,c,u,rfl,_,g1⟩:=cn_form (x:=x.c) ⟨n,h2⟩
   obtain⟨u2,rfl,_,g2⟩:=ex_form (x:=x.e) ⟨n,h3⟩
   obtain⟨u3,rfl,_,g3⟩:=ex_form (x:=x.v) ⟨n,h4⟩
   have h5:Pak.Slot asX S W v x.ks:=slotImp (by rw[assnSh_k];rfl) (fun cs x h=>⟨n,h⟩) h5
   have h2:cnX.rel S W _ x.c:=⟨n,h2⟩
   have h3:exX.rel S W _ x.e:=⟨n,h3⟩
   have h4:exX.rel S W _ x.v:=⟨n,h4⟩
   subst h1
   exact asE hk2 hn hf h2 h3 h4 h5
theorem as_c {S:Nat→Prop}{W:World}{cs:List Value}{x:AT}{cs2:List Value}{y:CT}(hy:cnX.rel S W cs2 y)(h:asX.rel S W cs x):asX.rel S W (spl cs 1 cs2) (.mk x.kind y x.e x.v x.field x.n x.ks):=by
 obtain⟨n,h⟩:=h
 cases n with
 | zero=>exact h.elim
 | succ n=>
   obtain⟨cc,ce,cv,v,h1,⟨hk,hn,hf⟩,h2,h3,h4,h5⟩:=h
   obtain⟨a,c,u,rfl,_,g1⟩:=cn_form (x:=x.c) ⟨n,h2⟩
   obtain⟨u2,rfl,_,g2⟩:=ex_form (x:=x.e) ⟨n,h3⟩
   obtain⟨u3,rfl,_,g3⟩:=ex_form (x:=x.v) ⟨n,h4⟩
   have h5:Pak.Slot asX S W v x.ks:=slotImp (by rw[assnSh_k];rfl) (fun cs x h=>⟨n,h⟩) h5
   have h2:cnX.rel S W _ x.c:=⟨n,h2⟩
   have h3:exX.rel S W _ x.e:=⟨n,h3⟩
   have h4:exX.rel S W _ x.v:=⟨n,h4⟩
   subst h1
   obtain⟨_,_,_,rfl,_⟩:=cn_form hy
   exact asE hk hn hf hy h3 h4 h5
theorem as_e {S:Nat→Prop}{W:World}{cs:List Value}{x:AT}{cs2:List Value}{y:ET}(hy:exX.rel S W cs2 y)(h:asX.rel S W cs x):asX.rel S W (spl cs 4 cs2) (.mk x.kind x.c y x.v x.field x.n x.ks):=by
 obtain⟨n,h⟩:=h
 cases n with
 | zero=>exact h.elim
 | succ n=>
   obtain⟨cc,ce,cv,v,h1,⟨hk,hn,hf⟩,h2,h3,h4,h5⟩:=h
   obtain⟨a,c,u,rfl,_,g1⟩:=cn_form (x:=x.c) ⟨n,h2⟩
   obtain⟨u2,rfl,_,g2⟩:=ex_form (x:=x.e) ⟨n,h3⟩
   obtain⟨u3,rfl,_,g3⟩:=ex_form (x:=x.v) ⟨n,h4⟩
   have h5:Pak.Slot asX S W v x.ks:=slotImp (by rw[assnSh_k];rfl) (fun cs x h=>⟨n,h⟩) h5
   have h2:cnX.rel S W _ x.c:=⟨n,h2⟩
   have h3:exX.rel S W _ x.e:=⟨n,h3⟩
   have h4:exX.rel S W _ x.v:=⟨n,h4⟩
   subst h1
   obtain⟨_,rfl,_⟩:=ex_form hy
   exact asE hk hn hf h2 hy h4 h5
theorem as_v {S:Nat→Prop}{W:World}{cs:List Value}{x:AT}{cs2:List Value}{y:ET}(hy:exX.rel S W cs2 y)(h:asX.rel S W cs x):asX.rel S W (spl cs 8 cs2) (.mk x.kind x.c x.e y x.field x.n x.ks):=by
 obtain⟨n,h⟩:=h
 cases n with
 | zero=>exact h.elim
 | succ n=>
   obtain⟨cc,ce,cv,v,h1,⟨hk,hn,hf⟩,h2,h3,h4,h5⟩:=h
   obtain⟨a,c,u,rfl,_,g1⟩:=cn_form (x:=x.c) ⟨n,h2⟩
   obtain⟨u2,rfl,_,g2⟩:=ex_form (x:=x.e) ⟨n,h3⟩
   obtain⟨u3,rfl,_,g3⟩:=ex_form (x:=x.v) ⟨n,h4⟩
   have h5:Pak.Slot asX S W v x.ks:=slotImp (by rw[assnSh_k];rfl) (fun cs x h=>⟨n,h⟩) h5
   have h2:cnX.rel S W _ x.c:=⟨n,h2⟩
   have h3:exX.rel S W _ x.e:=⟨n,h3⟩
   have h4:exX.rel S W _ x.v:=⟨n,h4⟩
   subst h1
   obtain⟨_,rfl,_⟩:=ex_form hy
   exact asE hk hn hf h2 h3 hy h5
theorem as_field {S:Nat→Prop}{W:World}{cs:List Value}{x:AT}(f:ByteArray)(hf2:f.size≤maxLen)(h:asX.rel S W cs x):asX.rel S W (spl cs 12 [.string f]) (.mk x.kind x.c x.e x.v f x.n x.ks):=by
 obtain⟨n,h⟩:=h
 cases n with
 | zero=>exact h.elim
 | succ n=>
   obtain⟨cc,ce,cv,v,h1,⟨hk,hn,hf⟩,h2,h3,h4,h5⟩:=h
   obtain⟨a,c,u,rfl,_,g1⟩:=cn_form (x:=x.c) ⟨n,h2⟩
   obtain⟨u2,rfl,_,g2⟩:=ex_form (x:=x.e) ⟨n,h3⟩
   obtain⟨u3,rfl,_,g3⟩:=ex_form (x:=x.v) ⟨n,h4⟩
   have h5:Pak.Slot asX S W v x.ks:=slotImp (by rw[assnSh_k];rfl) (fun cs x h=>⟨n,h⟩) h5
   have h2:cnX.rel S W _ x.c:=⟨n,h2⟩
   have h3:exX.rel S W _ x.e:=⟨n,h3⟩
   have h4:exX.rel S W _ x.v:=⟨n,h4⟩
   subst h1
   exact asE hk hn hf2 h2 h3 h4 h5
theorem as_n {S:Nat→Prop}{W:World}{cs:List Value}{x:AT}(m:Int)(hm:i64 m)(h:asX.rel S W cs x):asX.rel S W (spl cs 13 [.int .i64 m]) (.mk x.kind x.c x.e x.v x.field m x.ks):=by
 obtain⟨n,h⟩:=h
 cases n with
 | zero=>exact h.elim
 | succ n=>
   obtain⟨cc,ce,cv,v,h1,⟨hk,hn,hf⟩,h2,h3,h4,h5⟩:=h
   obtain⟨a,c,u,rfl,_,g1⟩:=cn_form (x:=x.c) ⟨n,h2⟩
   obtain⟨u2,rfl,_,g2⟩:=ex_form (x:=x.e) ⟨n,h3⟩
   obtain⟨u3,rfl,_,g3⟩:=ex_form (x:=x.v) ⟨n,h4⟩
   have h5:Pak.Slot asX S W v x.ks:=slotImp (by rw[assnSh_k];rfl) (fun cs x h=>⟨n,h⟩) h5
   have h2:cnX.rel S W _ x.c:=⟨n,h2⟩
   have h3:exX.rel S W _ x.e:=⟨n,h3⟩
   have h4:exX.rel S W _ x.v:=⟨n,h4⟩
   subst h1
   exact asE hk hm hf h2 h3 h4 h5
theorem as_ks {S:Nat→Prop}{W:World}{cs:List Value}{x:AT}{v2:Value}{l:List AT}(hl:Pak.Slot asX S W v2 l)(h:asX.rel S W cs x):asX.rel S W (spl cs 14 [v2]) (.mk x.kind x.c x.e x.v x.field x.n l):=by
 obtain⟨n,h⟩:=h
 cases n with
 | zero=>exact h.elim
 | succ n=>
   obtain⟨cc,ce,cv,v,h1,⟨hk,hn,hf⟩,h2,h3,h4,h5⟩:=h
   obtain⟨a,c,u,rfl,_,g1⟩:=cn_form (x:=x.c) ⟨n,h2⟩
   obtain⟨u2,rfl,_,g2⟩:=ex_form (x:=x.e) ⟨n,h3⟩
   obtain⟨u3,rfl,_,g3⟩:=ex_form (x:=x.v) ⟨n,h4⟩
   have h5:Pak.Slot asX S W v x.ks:=slotImp (by rw[assnSh_k];rfl) (fun cs x h=>⟨n,h⟩) h5
   have h2:cnX.rel S W _ x.c:=⟨n,h2⟩
   have h3:exX.rel S W _ x.e:=⟨n,h3⟩
   have h4:exX.rel S W _ x.v:=⟨n,h4⟩
   subst h1
   exact asE hk hn hf h2 h3 h4 hl
end
end Go.Proofs.YtcinokljkieijaaGreatDoor
