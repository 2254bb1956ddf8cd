/- Parts of a proof. -/
import Derived.Test.YtcinokljkieijaaGreatDoorQ12
set_option linter.unusedVariables false
set_option linter.unusedSimpArgs false
set_option maxHeartbeats 60000000
set_option maxRecDepth 100000
namespace Go.Proofs.YtcinokljkieijaaGreatDoor
section
open Go.RowKit
theorem item_emp (n:Nat)(C:PC)(s:PS)(w:World)(h:PSt C s w)(hn0:¬ptx C.tk s 0=(⟨#[91]⟩:ByteArray))(hn1:¬ptx C.tk s 0=(⟨#[97,99,99]⟩:ByteArray))(hn2:¬ptx C.tk s 0=(⟨#[112,116,115]⟩:ByteArray))(hn3:¬ptx C.tk s 0=(⟨#[105,102]⟩:ByteArray))(hn4:¬ptx C.tk s 0=(⟨#[40]⟩:ByteArray)):
 Calls Tryz.prog 121 #[C.p] w (PE (Vx asX) (pitem C.tk C.en (n+1)) C s w):=by
 have hg:=h.lt
 have hsz:(w.alloc (.cells #[C.p] 67)).heap.size=w.heap.size+1:=by simp
 have hl0:=LP.fresh (sh:=asX) (t:=60) (h.alloc (.cells #[C.p] 67)) rfl zAs_ni zAs_rel
 rw[hsz]at hl0
 have HTX:=Lib.hid (text0_any C s _ hl0.ps)
 have HLX:Hid (∀W,Below (((w.alloc (.cells #[C.p] 67)).alloc (.cells zAs.toArray 60)).alloc (.cells zAs.toArray 60)).heap.size (((w.alloc (.cells #[C.p] 67)).alloc (.cells zAs.toArray 60)).alloc (.cells zAs.toArray 60)) W→LP asX C (w.alloc (.cells #[C.p] 67)) (w.heap.size+1+1) s default zAs W):=fun W hb=>hl0.step (KeptG.of_below hb) (hl0.ps.up hb)
 obtain⟨s1,hs1⟩:∃s',s'=pm1 C.tk C.en (⟨#[101,109,112]⟩:ByteArray) s:=⟨_,rfl⟩
 have H0:=Lib.hid (fun(W:World) (G:Nat) (hG:W.heap.size=G) (hW:PSt C s W)=>must1_at C s (⟨#[101,109,112]⟩:ByteArray) W G hG hW (by decide))
 have X0:Hid (∀W e1 W1,PE Vt (pmust C.tk C.en [(⟨#[101,109,112]⟩:ByteArray)]) C s W e1 W1→(∃x,e1= .returned (.string x))∧PSt C s1 W1∧KeptG C.g W W1):=fun W e1 W1 hq=>by rw[hs1];exact pe_t hq
 have e:pitem C.tk C.en (n+1) s=(default,s1):=by unfold pitem;rw[if_neg hn0,if_neg hn1,if_neg hn2,if_neg hn3,if_neg hn4];subst_vars;rfl
 have HO:=Lib.hid (fun W cs (hl:LP asX C (w.alloc (.cells #[C.p] 67)) (w.heap.size+1+1) s1 default cs W)=>hl.out (f:=pitem C.tk C.en (n+1)) e)
 have hx0:=ne_lit [91] hn0
 have hx1:=ne_lit [97,99,99] hn1
 have hx2:=ne_lit [112,116,115] hn2
 have hx3:=ne_lit [105,102] hn3
 have hx4:=ne_lit [40] hn4
 generalize ptx C.tk s 0=tx at*
 generalize PE (Vx asX) (pitem C.tk C.en (n+1)) C s w=Q at*
 have HG:=Lib.hid hg
 clear hl0 h hsz hg e hn0 hn1 hn2 hn3 hn4 hs1
 unfold zAs at*
 go_enter Tryz.func121,Tryz.ntmps121
 go_wp2_with fail
 refine HTX.out.mono ?_
 rintro e w1 ⟨rfl,hb⟩
 have HL1:=Lib.hid (HLX.out w1 hb)
 have pc1:=HL1.out.pc HG.out
 clear hb HTX HLX
 go_wp2_with fail
 clear pc1
 refine(H0.out w1 (w1.heap.size) (by simp[World.setCell]) HL1.out.ps).mono ?_
 rintro e w2 hq
 obtain⟨⟨y0,rfl⟩,hp,hk⟩:=X0.out _ _ _ hq
 have HL2:=Lib.hid (HL1.out.step hk hp)
 clear hq hp hk H0 X0
 clear HL1
 have pc2:=HL2.out.pc HG.out
 obtain⟨hl9,h19,hr9,ht9,hf9⟩:=HO.out _ _ HL2.out
 have HF9:=Lib.hid hf9
 clear hf9 HL2
 go_wp2_with (first | (refine gateL 60 3 rfl ?_;refine wpList_load_mid rfl 60 _ rfl (w.heap.size+1+1) 0 rfl _ _ hr9 Tryz.underlying60 rfl (by rw[hl9];kernel_rfl) ?_) | (refine gateS 60 2 rfl ?_;refine wpList_store_there rfl 60 _ _ rfl (w.heap.size+1) 0 rfl _ rfl (by rw[hl9];kernel_rfl) h19 ht9 ?_;intro w9 hst))
 exact bodyPost_ret (v:=_) (results_one rfl _ _ _ _ _ rfl (Tryz.asLoad hst.at' hl9)) rfl (HF9.out _ hst)
theorem item_acc (n:Nat)(C:PC)(s:PS)(w:World)(h:PSt C s w)(hn0:¬ptx C.tk s 0=(⟨#[91]⟩:ByteArray))(hy:ptx C.tk s 0=(⟨#[97,99,99]⟩:ByteArray)):
 Calls Tryz.prog 121 #[C.p] w (PE (Vx asX) (pitem C.tk C.en (n+1)) C s w):=by
 have hg:=h.lt
 have hsz:(w.alloc (.cells #[C.p] 67)).heap.size=w.heap.size+1:=by simp
 have hl0:=LP.fresh (sh:=asX) (t:=60) (h.alloc (.cells #[C.p] 67)) rfl zAs_ni zAs_rel
 rw[hsz]at hl0
 have HTX:=Lib.hid (text0_any C s _ hl0.ps)
 have HLX:Hid (∀W,Below (((w.alloc (.cells #[C.p] 67)).alloc (.cells zAs.toArray 60)).alloc (.cells zAs.toArray 60)).heap.size (((w.alloc (.cells #[C.p] 67)).alloc (.cells zAs.toArray 60)).alloc (.cells zAs.toArray 60)) W→LP asX C (w.alloc (.cells #[C.p] 67)) (w.heap.size+1+1) s default zAs W):=fun W hb=>hl0.step (KeptG.of_below hb) (hl0.ps.up hb)
 obtain⟨s1,hs1⟩:∃s',s'=pm1 C.tk C.en (⟨#[97,99,99]⟩:ByteArray) s:=⟨_,rfl⟩
 have H0:=Lib.hid (fun(W:World) (G:Nat) (hG:W.heap.size=G) (hW:PSt C s W)=>must1_at C s (⟨#[97,99,99]⟩:ByteArray) W G hG hW (by decide))
 have X0:Hid (∀W e1 W1,PE Vt (pmust C.tk C.en [(⟨#[97,99,99]⟩:ByteArray)]) C s W e1 W1→(∃x,e1= .returned (.string x))∧PSt C s1 W1∧KeptG C.g W W1):=fun W e1 W1 hq=>by rw[hs1];exact pe_t hq
 obtain⟨s2,hs2⟩:∃s',s'=(pshare C.tk C.en s1).2:=⟨_,rfl⟩
 have H1:=Lib.hid (fun W cs (hl:LP asX C (w.alloc (.cells #[C.p] 67)) (w.heap.size+1+1) s1 default cs W)=>share_any C s1 _ W _ _ cs hl)
 have hs_s2:=Lib.hid hs2
 obtain⟨s3,hs3⟩:∃s',s'=pm1 C.tk C.en (⟨#[41]⟩:ByteArray) s2:=⟨_,rfl⟩
 have H2:=Lib.hid (fun(W:World) (G:Nat) (hG:W.heap.size=G) (hW:PSt C s2 W)=>must1_at C s2 (⟨#[41]⟩:ByteArray) W G hG hW (by decide))
 have X2:Hid (∀W e1 W1,PE Vt (pmust C.tk C.en [(⟨#[41]⟩:ByteArray)]) C s2 W e1 W1→(∃x,e1= .returned (.string x))∧PSt C s3 W1∧KeptG C.g W W1):=fun W e1 W1 hq=>by rw[hs3];exact pe_t hq
 have e:pitem C.tk C.en (n+1) s=((AT.mk 2 default (pshare C.tk C.en s1).1.1 default (pshare C.tk C.en s1).1.2.1 (pshare C.tk C.en s1).1.2.2 []),s3):=by unfold pitem;rw[if_neg hn0,if_pos hy];subst_vars;rfl
 have HO:=Lib.hid (fun W cs (hl:LP asX C (w.alloc (.cells #[C.p] 67)) (w.heap.size+1+1) s3 (AT.mk 2 default (pshare C.tk C.en s1).1.1 default (pshare C.tk C.en s1).1.2.1 (pshare C.tk C.en s1).1.2.2 []) cs W)=>hl.out (f:=pitem C.tk C.en (n+1)) e)
 have hx0:=ne_lit [91] hn0
 have hx1:=eq_lit [97,99,99] hy
 generalize ptx C.tk s 0=tx at*
 generalize PE (Vx asX) (pitem C.tk C.en (n+1)) C s w=Q at*
 have HG:=Lib.hid hg
 clear hl0 h hsz hg e hn0 hy hs1 hs2 hs3
 unfold zAs at*
 go_enter Tryz.func121,Tryz.ntmps121
 go_wp2_with fail
 refine HTX.out.mono ?_
 rintro e w1 ⟨rfl,hb⟩
 have HL1:=Lib.hid (HLX.out w1 hb)
 have pc1:=HL1.out.pc HG.out
 clear hb HTX HLX
 go_wp2_with fail
 clear pc1
 refine(H0.out w1 (w1.heap.size) (by simp[World.setCell]) HL1.out.ps).mono ?_
 rintro e w2 hq
 obtain⟨⟨y0,rfl⟩,hp,hk⟩:=X0.out _ _ _ hq
 have HL2:=Lib.hid (HL1.out.step hk hp)
 clear hq hp hk H0 X0
 clear HL1
 have pc2:=HL2.out.pc HG.out
 go_wp2_with fail
 clear pc2
 refine(H1.out w2 _ HL2.out).mono ?_
 rintro e w3 hq
 obtain⟨rfl,cs3,hl3⟩:=hq
 have HL3:Hid (LP asX C (w.alloc (.cells #[C.p] 67)) (w.heap.size+1+1) s2 (AT.mk 0 default (pshare C.tk C.en s1).1.1 default (pshare C.tk C.en s1).1.2.1 (pshare C.tk C.en s1).1.2.2 []) cs3 w3):=Lib.hid (by rw[hs_s2.out];exact hl3)
 clear H1 hl3 HL2
 have pc3:=HL3.out.pc HG.out
 obtain⟨⟨v3k,_,y3k⟩,f3k⟩:=HL3.out.cell (j:=0) (by show 0<15;omega)
 have HK3:Hid (LP asX C (w.alloc (.cells #[C.p] 67)) (w.heap.size+1+1) s2 (AT.mk 2 default (pshare C.tk C.en s1).1.1 default (pshare C.tk C.en s1).1.2.1 (pshare C.tk C.en s1).1.2.2 []) _ (w3.setCell ⟨w.heap.size+1+1,0,none⟩ (.int .i64 2))):=Lib.hid (HL3.out.set1 (o:=0) (v:= .int .i64 2) (by show 0<15;omega) (as_ni HL3.out.tree) (fun S W h=>as_kind 2 ⟨by decide,by decide⟩ h))
 have pk3:=HK3.out.pc HG.out
 clear HL3
 go_wp2_with fail
 clear pc3 pk3 y3k f3k
 refine(H2.out (w3.setCell ⟨w.heap.size+1+1,0,none⟩ (.int .i64 2)) (w3.heap.size) (by simp[World.setCell]) HK3.out.ps).mono ?_
 rintro e w4 hq
 obtain⟨⟨y2,rfl⟩,hp,hk⟩:=X2.out _ _ _ hq
 have HL4:=Lib.hid (HK3.out.step hk hp)
 clear hq hp hk H2 X2
 clear HK3
 have pc4:=HL4.out.pc HG.out
 obtain⟨hl9,h19,hr9,ht9,hf9⟩:=HO.out _ _ HL4.out
 have HF9:=Lib.hid hf9
 clear hf9 HL4
 go_wp2_with (first | (refine gateL 60 3 rfl ?_;refine wpList_load_mid rfl 60 _ rfl (w.heap.size+1+1) 0 rfl _ _ hr9 Tryz.underlying60 rfl (by rw[hl9];kernel_rfl) ?_) | (refine gateS 60 2 rfl ?_;refine wpList_store_there rfl 60 _ _ rfl (w.heap.size+1) 0 rfl _ rfl (by rw[hl9];kernel_rfl) h19 ht9 ?_;intro w9 hst))
 exact bodyPost_ret (v:=_) (results_one rfl _ _ _ _ _ rfl (Tryz.asLoad hst.at' hl9)) rfl (HF9.out _ hst)
theorem item_pts (n:Nat)(C:PC)(s:PS)(w:World)(h:PSt C s w)(hn0:¬ptx C.tk s 0=(⟨#[91]⟩:ByteArray))(hn1:¬ptx C.tk s 0=(⟨#[97,99,99]⟩:ByteArray))(hy:ptx C.tk s 0=(⟨#[112,116,115]⟩:ByteArray)):
 Calls Tryz.prog 121 #[C.p] w (PE (Vx asX) (pitem C.tk C.en (n+1)) C s w):=by
 have hg:=h.lt
 have hsz:(w.alloc (.cells #[C.p] 67)).heap.size=w.heap.size+1:=by simp
 have hl0:=LP.fresh (sh:=asX) (t:=60) (h.alloc (.cells #[C.p] 67)) rfl zAs_ni zAs_rel
 rw[hsz]at hl0
 have HTX:=Lib.hid (text0_any C s _ hl0.ps)
 have HLX:Hid (∀W,Below (((w.alloc (.cells #[C.p] 67)).alloc (.cells zAs.toArray 60)).alloc (.cells zAs.toArray 60)).heap.size (((w.alloc (.cells #[C.p] 67)).alloc (.cells zAs.toArray 60)).alloc (.cells zAs.toArray 60)) W→LP asX C (w.alloc (.cells #[C.p] 67)) (w.heap.size+1+1) s default zAs W):=fun W hb=>hl0.step (KeptG.of_below hb) (hl0.ps.up hb)
 obtain⟨s1,hs1⟩:∃s',s'=pm1 C.tk C.en (⟨#[112,116,115]⟩:ByteArray) s:=⟨_,rfl⟩
 have H0:=Lib.hid (fun(W:World) (G:Nat) (hG:W.heap.size=G) (hW:PSt C s W)=>must1_at C s (⟨#[112,116,115]⟩:ByteArray) W G hG hW (by decide))
 have X0:Hid (∀W e1 W1,PE Vt (pmust C.tk C.en [(⟨#[112,116,115]⟩:ByteArray)]) C s W e1 W1→(∃x,e1= .returned (.string x))∧PSt C s1 W1∧KeptG C.g W W1):=fun W e1 W1 hq=>by rw[hs1];exact pe_t hq
 obtain⟨s2,hs2⟩:∃s',s'=(pshare C.tk C.en s1).2:=⟨_,rfl⟩
 have H1:=Lib.hid (fun W cs (hl:LP asX C (w.alloc (.cells #[C.p] 67)) (w.heap.size+1+1) s1 default cs W)=>share_any C s1 _ W _ _ cs hl)
 have hs_s2:=Lib.hid hs2
 obtain⟨s3,hs3⟩:∃s',s'=pm1 C.tk C.en (⟨#[44]⟩:ByteArray) s2:=⟨_,rfl⟩
 have H2:=Lib.hid (fun(W:World) (G:Nat) (hG:W.heap.size=G) (hW:PSt C s2 W)=>must1_at C s2 (⟨#[44]⟩:ByteArray) W G hG hW (by decide))
 have X2:Hid (∀W e1 W1,PE Vt (pmust C.tk C.en [(⟨#[44]⟩:ByteArray)]) C s2 W e1 W1→(∃x,e1= .returned (.string x))∧PSt C s3 W1∧KeptG C.g W W1):=fun W e1 W1 hq=>by rw[hs3];exact pe_t hq
 obtain⟨vq3,hvq3⟩:∃x',x'=(pex C.tk C.en s3).1:=⟨_,rfl⟩
 obtain⟨s4,hs4⟩:∃s',s'=(pex C.tk C.en s3).2:=⟨_,rfl⟩
 have H3:=Lib.hid (fun W (hW:PSt C s3 W)=>ex_any C s3 W hW)
 have X3:Hid (∀W e1 W1 cs,LP asX C (w.alloc (.cells #[C.p] 67)) (w.heap.size+1+1) s3 (AT.mk 3 default (pshare C.tk C.en s1).1.1 default (pshare C.tk C.en s1).1.2.1 (pshare C.tk C.en s1).1.2.2 []) cs W→PE (Vx exX) (pex C.tk C.en) C s3 W e1 W1→∃cs2:List Value,e1= .returned (.agg cs2.toArray)∧cs2.length=4∧(∀u∈cs2,u.oneCell'=true)∧W1.there (w.heap.size+1+1) 8 cs2.length∧∀W9,Stored (w.heap.size+1+1) 8 cs2 W1 W9→LP asX C (w.alloc (.cells #[C.p] 67)) (w.heap.size+1+1) s4 (AT.mk 3 default (pshare C.tk C.en s1).1.1 vq3 (pshare C.tk C.en s1).1.2.1 (pshare C.tk C.en s1).1.2.2 []) (spl cs 8 cs2) W9):=fun W e1 W1 cs hl hq=>by
  obtain⟨cs2,a1,a2,a3,a4,a5,a6⟩:=pe_x hq
  have a2:cs2.length=4:=a2
  rw[←hs4]at a5
  rw[←hvq3]at a4
  exact⟨cs2,a1,a2,a3,by rw[a2];exact hl.part a6 a5 (by show 8+4≤15;omega),fun W9 hst=>hl.setP a6 a5 a4 (by show 8+4≤15;omega) (as_ni hl.tree) hst (fun S W hx hy=>as_v hy hx)⟩
 obtain⟨s5,hs5⟩:∃s',s'=pm1 C.tk C.en (⟨#[41]⟩:ByteArray) s4:=⟨_,rfl⟩
 have H4:=Lib.hid (fun(W:World) (G:Nat) (hG:W.heap.size=G) (hW:PSt C s4 W)=>must1_at C s4 (⟨#[41]⟩:ByteArray) W G hG hW (by decide))
 have X4:Hid (∀W e1 W1,PE Vt (pmust C.tk C.en [(⟨#[41]⟩:ByteArray)]) C s4 W e1 W1→(∃x,e1= .returned (.string x))∧PSt C s5 W1∧KeptG C.g W W1):=fun W e1 W1 hq=>by rw[hs5];exact pe_t hq
 have e:pitem C.tk C.en (n+1) s=((AT.mk 3 default (pshare C.tk C.en s1).1.1 vq3 (pshare C.tk C.en s1).1.2.1 (pshare C.tk C.en s1).1.2.2 []),s5):=by unfold pitem;rw[if_neg hn0,if_neg hn1,if_pos hy];subst_vars;rfl
 have HO:=Lib.hid (fun W cs (hl:LP asX C (w.alloc (.cells #[C.p] 67)) (w.heap.size+1+1) s5 (AT.mk 3 default (pshare C.tk C.en s1).1.1 vq3 (pshare C.tk C.en s1).1.2.1 (pshare C.tk C.en s1).1.2.2 []) cs W)=>hl.out (f:=pitem C.tk C.en (n+1)) e)
 have hx0:=ne_lit [91] hn0
 have hx1:=ne_lit [97,99,99] hn1
 have hx2:=eq_lit [112,116,115] hy
 generalize ptx C.tk s 0=tx at*
 generalize PE (Vx asX) (pitem C.tk C.en (n+1)) C s w=Q at*
 have HG:=Lib.hid hg
 clear hl0 h hsz hg e hn0 hn1 hy hs1 hs2 hs3 hvq3 hs4 hs5
 unfold zAs at*
 go_enter Tryz.func121,Tryz.ntmps121
 go_wp2_with fail
 refine HTX.out.mono ?_
 rintro e w1 ⟨rfl,hb⟩
 have HL1:=Lib.hid (HLX.out w1 hb)
 have pc1:=HL1.out.pc HG.out
 clear hb HTX HLX
 go_wp2_with fail
 clear pc1
 refine(H0.out w1 (w1.heap.size) (by simp[World.setCell]) HL1.out.ps).mono ?_
 rintro e w2 hq
 obtain⟨⟨y0,rfl⟩,hp,hk⟩:=X0.out _ _ _ hq
 have HL2:=Lib.hid (HL1.out.step hk hp)
 clear hq hp hk H0 X0
 clear HL1
 have pc2:=HL2.out.pc HG.out
 go_wp2_with fail
 clear pc2
 refine(H1.out w2 _ HL2.out).mono ?_
 rintro e w3 hq
 obtain⟨rfl,cs3,hl3⟩:=hq
 have HL3:Hid (LP asX C (w.alloc (.cells #[C.p] 67)) (w.heap.size+1+1) s2 (AT.mk 0 default (pshare C.tk C.en s1).1.1 default (pshare C.tk C.en s1).1.2.1 (pshare C.tk C.en s1).1.2.2 []) cs3 w3):=Lib.hid (by rw[hs_s2.out];exact hl3)
 clear H1 hl3 HL2
 have pc3:=HL3.out.pc HG.out
 obtain⟨⟨v3k,_,y3k⟩,f3k⟩:=HL3.out.cell (j:=0) (by show 0<15;omega)
 have HK3:Hid (LP asX C (w.alloc (.cells #[C.p] 67)) (w.heap.size+1+1) s2 (AT.mk 3 default (pshare C.tk C.en s1).1.1 default (pshare C.tk C.en s1).1.2.1 (pshare C.tk C.en s1).1.2.2 []) _ (w3.setCell ⟨w.heap.size+1+1,0,none⟩ (.int .i64 3))):=Lib.hid (HL3.out.set1 (o:=0) (v:= .int .i64 3) (by show 0<15;omega) (as_ni HL3.out.tree) (fun S W h=>as_kind 3 ⟨by decide,by decide⟩ h))
 have pk3:=HK3.out.pc HG.out
 clear HL3
 go_wp2_with fail
 clear pc3 pk3 y3k f3k
 refine(H2.out (w3.setCell ⟨w.heap.size+1+1,0,none⟩ (.int .i64 3)) (w3.heap.size) (by simp[World.setCell]) HK3.out.ps).mono ?_
 rintro e w4 hq
 obtain⟨⟨y2,rfl⟩,hp,hk⟩:=X2.out _ _ _ hq
 have HL4:=Lib.hid (HK3.out.step hk hp)
 clear hq hp hk H2 X2
 clear HK3
 have pc4:=HL4.out.pc HG.out
 go_wp2_with fail
 clear pc4
 refine(H3.out w4 HL4.out.ps).mono ?_
 rintro e w5 hq
 obtain⟨c5,rfl,l5,o5,t5,fin⟩:=X3.out _ _ _ _ HL4.out hq
 have HF5:=Lib.hid fin
 clear hq fin H3 X3 HL4
 have pz5:=True.intro
 go_wp2_with (first | (refine gateS 57 40 rfl ?_;refine wpList_store_there rfl 57 _ _ rfl (w.heap.size+1+1) 8 rfl _ rfl (by rw[l5];kernel_rfl) o5 t5 ?_;intro w59 hst;have HL5:=Lib.hid (HF5.out _ hst);clear hst HF5;have pc5:=HL5.out.pc HG.out))
 clear pc5 l5 o5 t5
 refine(H4.out w59 (w59.heap.size) (by simp[World.setCell]) HL5.out.ps).mono ?_
 rintro e w6 hq
 obtain⟨⟨y4,rfl⟩,hp,hk⟩:=X4.out _ _ _ hq
 have HL6:=Lib.hid (HL5.out.step hk hp)
 clear hq hp hk H4 X4
 clear HL5
 have pc6:=HL6.out.pc HG.out
 obtain⟨hl9,h19,hr9,ht9,hf9⟩:=HO.out _ _ HL6.out
 have HF9:=Lib.hid hf9
 clear hf9 HL6
 go_wp2_with (first | (refine gateL 60 3 rfl ?_;refine wpList_load_mid rfl 60 _ rfl (w.heap.size+1+1) 0 rfl _ _ hr9 Tryz.underlying60 rfl (by rw[hl9];kernel_rfl) ?_) | (refine gateS 60 2 rfl ?_;refine wpList_store_there rfl 60 _ _ rfl (w.heap.size+1) 0 rfl _ rfl (by rw[hl9];kernel_rfl) h19 ht9 ?_;intro w9 hst))
 exact bodyPost_ret (v:=_) (results_one rfl _ _ _ _ _ rfl (Tryz.asLoad hst.at' hl9)) rfl (HF9.out _ hst)
theorem item_pure (n:Nat)(C:PC)(s:PS)(w:World)(h:PSt C s w)(hy:ptx C.tk s 0=(⟨#[91]⟩:ByteArray)):
 Calls Tryz.prog 121 #[C.p] w (PE (Vx asX) (pitem C.tk C.en (n+1)) C s w):=by
 have hg:=h.lt
 have hsz:(w.alloc (.cells #[C.p] 67)).heap.size=w.heap.size+1:=by simp
 have hl0:=LP.fresh (sh:=asX) (t:=60) (h.alloc (.cells #[C.p] 67)) rfl zAs_ni zAs_rel
 rw[hsz]at hl0
 have HTX:=Lib.hid (text0_any C s _ hl0.ps)
 have HLX:Hid (∀W,Below (((w.alloc (.cells #[C.p] 67)).alloc (.cells zAs.toArray 60)).alloc (.cells zAs.toArray 60)).heap.size (((w.alloc (.cells #[C.p] 67)).alloc (.cells zAs.toArray 60)).alloc (.cells zAs.toArray 60)) W→LP asX C (w.alloc (.cells #[C.p] 67)) (w.heap.size+1+1) s default zAs W):=fun W hb=>hl0.step (KeptG.of_below hb) (hl0.ps.up hb)
 have HW:Hid (∀W x cs,LP asX C (w.alloc (.cells #[C.p] 67)) (w.heap.size+1+1) s x cs W→x=(AT.mk 1 default default default (⟨#[]⟩:ByteArray) 0 [])→Calls Tryz.prog 122 #[C.p,.string (⟨#[91]⟩:ByteArray),.string (⟨#[93]⟩:ByteArray),.func (.func 170) #[] #[.pointer (some ⟨w.heap.size,0,none⟩),.pointer (some ⟨w.heap.size+1+1,0,none⟩)]] W (PW (fun W y=>BX asX ((w.alloc (.cells #[C.p] 67)).heap.size+1) (w.heap.size+1+1) W (.mk 1 y default default (⟨#[]⟩:ByteArray) 0 [])) (pwithin C.tk C.en (⟨#[91]⟩:ByteArray) (⟨#[93]⟩:ByteArray) default (pco C.tk C.en)) C (w.heap.size+1+1) s W)):=fun W x cs hl hx=>by
  subst hx
  have hlm:=hl.ml
  have hlk:=hl.kept.size
  rw[hsz]at hlk
  refine within_any C s (⟨#[91]⟩:ByteArray) (⟨#[93]⟩:ByteArray) default (pco C.tk C.en) (fun W y=>BX asX ((w.alloc (.cells #[C.p] 67)).heap.size+1) (w.heap.size+1+1) W (.mk 1 y default default (⟨#[]⟩:ByteArray) 0 [])) 170 (w.heap.size+1+1) _ _ _ (fun _ _=>rfl) hl.ps (by decide) (by decide) mv_co hl.bx (fun W1 W2 x _ hx k=>BX.kept hx k (by rw[hsz];omega) (by omega)) (fun W1 hP1 he0 h00 k1=> ?_)
  have hl1:=hl.step k1 hP1
  exact purec_any C _ W1 w.heap.size (w.heap.size+1+1) _ default hP1 (hl1.pc hg) hl1.bx (by rw[hsz];omega) (by omega) (by rw[hsz];have:=hl1.ml;omega)
 have HY:Hid (∀W x cs e1 W1,LP asX C (w.alloc (.cells #[C.p] 67)) (w.heap.size+1+1) s x cs W→PW (fun W y=>BX asX ((w.alloc (.cells #[C.p] 67)).heap.size+1) (w.heap.size+1+1) W (.mk 1 y default default (⟨#[]⟩:ByteArray) 0 [])) (pwithin C.tk C.en (⟨#[91]⟩:ByteArray) (⟨#[93]⟩:ByteArray) default (pco C.tk C.en)) C (w.heap.size+1+1) s W e1 W1→e1= .returned (.tuple #[])∧∃cs:List Value,cs.length=15∧(∀u∈cs,u.oneCell'=true)∧W1.rangeAt (w.heap.size+1+1) 0 cs∧W1.there (w.heap.size+1) 0 cs.length∧∀w9,Stored (w.heap.size+1) 0 cs W1 w9→PE (Vx asX) (pitem C.tk C.en (n+1)) C s w (.returned (.agg cs.toArray)) w9):=fun W x cs e1 W1 hl hq=>by
  have hq2:PW (BX asX ((w.alloc (.cells #[C.p] 67)).heap.size+1) (w.heap.size+1+1)) (pitem C.tk C.en (n+1)) C (w.heap.size+1+1) s W e1 W1:=by
   have e:pitem C.tk C.en (n+1) s=(AT.mk 1 (pwithin C.tk C.en (⟨#[91]⟩:ByteArray) (⟨#[93]⟩:ByteArray) default (pco C.tk C.en) s).1 default default (⟨#[]⟩:ByteArray) 0 [],(pwithin C.tk C.en (⟨#[91]⟩:ByteArray) (⟨#[93]⟩:ByteArray) default (pco C.tk C.en) s).2):=by unfold pitem;rw[if_pos hy];try rfl
   obtain⟨p1,p2,p3,p4⟩:=hq
   exact⟨p1,by rw[e];exact p2,p3,by rw[e];exact p4⟩
  obtain⟨a1,cs,hl2⟩:=hl.after hq2
  exact⟨a1,cs,hl2.out (f:=pitem C.tk C.en (n+1)) rfl⟩
 have hx0:=eq_lit [91] hy
 generalize ptx C.tk s 0=tx at*
 generalize pwithin C.tk C.en (⟨#[91]⟩:ByteArray) (⟨#[93]⟩:ByteArray) default (pco C.tk C.en)=FW at*
 generalize PE (Vx asX) (pitem C.tk C.en (n+1)) C s w=Q at*
 have HG:=Lib.hid hg
 clear hl0 h hsz hg hy
 unfold zAs at*
 go_enter Tryz.func121,Tryz.ntmps121
 go_wp2_with fail
 refine HTX.out.mono ?_
 rintro e w1 ⟨rfl,hb⟩
 have HL1:=Lib.hid (HLX.out w1 hb)
 have pc1:=HL1.out.pc HG.out
 clear hb HTX HLX
 obtain⟨⟨v1k,_,y1k⟩,f1k⟩:=HL1.out.cell (j:=0) (by show 0<15;omega)
 have HK1:Hid (LP asX C (w.alloc (.cells #[C.p] 67)) (w.heap.size+1+1) s (AT.mk 1 default default default (⟨#[]⟩:ByteArray) 0 []) _ (w1.setCell ⟨w.heap.size+1+1,0,none⟩ (.int .i64 1))):=Lib.hid (HL1.out.set1 (o:=0) (v:= .int .i64 1) (by show 0<15;omega) (as_ni HL1.out.tree) (fun S W h=>as_kind 1 ⟨by decide,by decide⟩ h))
 have pk1:=HK1.out.pc HG.out
 clear HL1
 go_wp2_with fail
 clear pc1 pk1 y1k f1k
 refine(HW.out (w1.setCell ⟨w.heap.size+1+1,0,none⟩ (.int .i64 1)) _ _ HK1.out rfl).mono ?_
 rintro e w2 hq
 obtain⟨rfl,cs9,hl9,h19,hr9,ht9,hf9⟩:=HY.out _ _ _ _ _ HK1.out hq
 have HF9:=Lib.hid hf9
 clear hq HW HY HK1 hf9
 go_wp2_with (first | (refine gateL 60 3 rfl ?_;refine wpList_load_mid rfl 60 _ rfl (w.heap.size+1+1) 0 rfl _ _ hr9 Tryz.underlying60 rfl (by rw[hl9];kernel_rfl) ?_) | (refine gateS 60 2 rfl ?_;refine wpList_store_there rfl 60 _ _ rfl (w.heap.size+1) 0 rfl _ rfl (by rw[hl9];kernel_rfl) h19 ht9 ?_;intro w9 hst))
 exact bodyPost_ret (v:=_) (results_one rfl _ _ _ _ _ rfl (Tryz.asLoad hst.at' hl9)) rfl (HF9.out _ hst)
theorem item_par (n:Nat)(C:PC)(s:PS)(w:World)(h:PSt C s w)(IH:AssnSaid 121 (fun tk en=>pitem tk en n) (Fu n))(hf:Fu (n+1) s)(hn0:¬ptx C.tk s 0=(⟨#[91]⟩:ByteArray))(hn1:¬ptx C.tk s 0=(⟨#[97,99,99]⟩:ByteArray))(hn2:¬ptx C.tk s 0=(⟨#[112,116,115]⟩:ByteArray))(hn3:¬ptx C.tk s 0=(⟨#[105,102]⟩:ByteArray))(hy:ptx C.tk s 0=(⟨#[40]⟩:ByteArray)):
 Calls Tryz.prog 121 #[C.p] w (PE (Vx asX) (pitem C.tk C.en (n+1)) C s w):=by
 have hg:=h.lt
 have hsz:(w.alloc (.cells #[C.p] 67)).heap.size=w.heap.size+1:=by simp
 have hl0:=LP.fresh (sh:=asX) (t:=60) (h.alloc (.cells #[C.p] 67)) rfl zAs_ni zAs_rel
 rw[hsz]at hl0
 have HTX:=Lib.hid (text0_any C s _ hl0.ps)
 have HLX:Hid (∀W,Below (((w.alloc (.cells #[C.p] 67)).alloc (.cells zAs.toArray 60)).alloc (.cells zAs.toArray 60)).heap.size (((w.alloc (.cells #[C.p] 67)).alloc (.cells zAs.toArray 60)).alloc (.cells zAs.toArray 60)) W→LP asX C (w.alloc (.cells #[C.p] 67)) (w.heap.size+1+1) s default zAs W):=fun W hb=>hl0.step (KeptG.of_below hb) (hl0.ps.up hb)
 have HW:Hid (∀W x cs,LP asX C (w.alloc (.cells #[C.p] 67)) (w.heap.size+1+1) s x cs W→x=default→Calls Tryz.prog 122 #[C.p,.string (⟨#[40]⟩:ByteArray),.string (⟨#[41]⟩:ByteArray),.func (.func 175) #[] #[.pointer (some ⟨w.heap.size,0,none⟩),.pointer (some ⟨w.heap.size+1+1,0,none⟩)]] W (PW (BX asX ((w.alloc (.cells #[C.p] 67)).heap.size+1) (w.heap.size+1+1)) (pwithin C.tk C.en (⟨#[40]⟩:ByteArray) (⟨#[41]⟩:ByteArray) default (passn C.tk (pitem C.tk C.en n))) C (w.heap.size+1+1) s W)):=fun W x cs hl hx=>by
  subst hx
  have hlm:=hl.ml
  have hlk:=hl.kept.size
  rw[hsz]at hlk
  refine within_any C s (⟨#[40]⟩:ByteArray) (⟨#[41]⟩:ByteArray) default (passn C.tk (pitem C.tk C.en n)) (BX asX ((w.alloc (.cells #[C.p] 67)).heap.size+1) (w.heap.size+1+1)) 175 (w.heap.size+1+1) _ _ _ (fun _ _=>rfl) hl.ps (by decide) (by decide) (mv_assn (mv_item n)) hl.bx (fun W1 W2 x _ hx k=>BX.kept hx k (by rw[hsz];omega) (by omega)) (fun W1 hP1 he0 h00 k1=> ?_)
  have hl1:=hl.step k1 hP1
  obtain⟨hfu,hin⟩:=hf.deep (en:=C.en) h.inv h00
  exact itemc_any C _ W1 w.heap.size (w.heap.size+1+1) _ default hP1 (fun W3 hW3=>assn_loop n IH C _ W3 hW3 (hfu.mv hin (mv_m1 _ _))) (hl1.pc hg) hl1.bx (by rw[hsz];omega) (by omega) (by rw[hsz];have:=hl1.ml;omega)
 have HY:Hid (∀W x cs e1 W1,LP asX C (w.alloc (.cells #[C.p] 67)) (w.heap.size+1+1) s x cs W→PW (BX asX ((w.alloc (.cells #[C.p] 67)).heap.size+1) (w.heap.size+1+1)) (pwithin C.tk C.en (⟨#[40]⟩:ByteArray) (⟨#[41]⟩:ByteArray) default (passn C.tk (pitem C.tk C.en n))) C (w.heap.size+1+1) s W e1 W1→e1= .returned (.tuple #[])∧∃cs:List Value,cs.length=15∧(∀u∈cs,u.oneCell'=true)∧W1.rangeAt (w.heap.size+1+1) 0 cs∧W1.there (w.heap.size+1) 0 cs.length∧∀w9,Stored (w.heap.size+1) 0 cs W1 w9→PE (Vx asX) (pitem C.tk C.en (n+1)) C s w (.returned (.agg cs.toArray)) w9):=fun W x cs e1 W1 hl hq=>by
  have hq2:PW (BX asX ((w.alloc (.cells #[C.p] 67)).heap.size+1) (w.heap.size+1+1)) (pitem C.tk C.en (n+1)) C (w.heap.size+1+1) s W e1 W1:=by
   have e:pitem C.tk C.en (n+1) s=pwithin C.tk C.en (⟨#[40]⟩:ByteArray) (⟨#[41]⟩:ByteArray) default (passn C.tk (pitem C.tk C.en n)) s:=by unfold pitem;rw[if_neg hn0,if_neg hn1,if_neg hn2,if_neg hn3,if_pos hy];try rfl
   obtain⟨p1,p2,p3,p4⟩:=hq
   exact⟨p1,by rw[e];exact p2,p3,by rw[e];exact p4⟩
  obtain⟨a1,cs,hl2⟩:=hl.after hq2
  exact⟨a1,cs,hl2.out (f:=pitem C.tk C.en (n+1)) rfl⟩
 have hx0:=ne_lit [91] hn0
 have hx1:=ne_lit [97,99,99] hn1
 have hx2:=ne_lit [112,116,115] hn2
 have hx3:=ne_lit [105,102] hn3
 have hx4:=eq_lit [40] hy
 generalize ptx C.tk s 0=tx at*
 generalize pwithin C.tk C.en (⟨#[40]⟩:ByteArray) (⟨#[41]⟩:ByteArray) default (passn C.tk (pitem C.tk C.en n))=FW at*
 generalize PE (Vx asX) (pitem C.tk C.en (n+1)) C s w=Q at*
 have HG:=Lib.hid hg
 clear hl0 h hsz hg hn0 hn1 hn2 hn3 hy hf
 unfold zAs at*
 go_enter Tryz.func121,Tryz.ntmps121
 go_wp2_with fail
 refine HTX.out.mono ?_
 rintro e w1 ⟨rfl,hb⟩
 have HL1:=Lib.hid (HLX.out w1 hb)
 have pc1:=HL1.out.pc HG.out
 clear hb HTX HLX
 go_wp2_with fail
 clear pc1
 refine(HW.out w1 _ _ HL1.out rfl).mono ?_
 rintro e w2 hq
 obtain⟨rfl,cs9,hl9,h19,hr9,ht9,hf9⟩:=HY.out _ _ _ _ _ HL1.out hq
 have HF9:=Lib.hid hf9
 clear hq HW HY HL1 hf9
 go_wp2_with (first | (refine gateL 60 3 rfl ?_;refine wpList_load_mid rfl 60 _ rfl (w.heap.size+1+1) 0 rfl _ _ hr9 Tryz.underlying60 rfl (by rw[hl9];kernel_rfl) ?_) | (refine gateS 60 2 rfl ?_;refine wpList_store_there rfl 60 _ _ rfl (w.heap.size+1) 0 rfl _ rfl (by rw[hl9];kernel_rfl) h19 ht9 ?_;intro w9 hst))
 exact bodyPost_ret (v:=_) (results_one rfl _ _ _ _ _ rfl (Tryz.asLoad hst.at' hl9)) rfl (HF9.out _ hst)
end
section
open Go.RowKit
theorem item_if (n:Nat)(C:PC)(s:PS)(w:World)(h:PSt C s w)(IH:AssnSaid 121 (fun tk en=>pitem tk en n) (Fu n))(hf:Fu (n+1) s)(hn0:¬ptx C.tk s 0=(⟨#[91]⟩:ByteArray))(hn1:¬ptx C.tk s 0=(⟨#[97,99,99]⟩:ByteArray))(hn2:¬ptx C.tk s 0=(⟨#[112,116,115]⟩:ByteArray))(hy:ptx C.tk s 0=(⟨#[105,102]⟩:ByteArray)):
 Calls Tryz.prog 121 #[C.p] w (PE (Vx asX) (pitem C.tk C.en (n+1)) C s w):=by
 have hg:=h.lt
 have hsz:(w.alloc (.cells #[C.p] 67)).heap.size=w.heap.size+1:=by simp
 have hl0:=LP.fresh (sh:=asX) (t:=60) (h.alloc (.cells #[C.p] 67)) rfl zAs_ni zAs_rel
 rw[hsz]at hl0
 have HTX:=Lib.hid (text0_any C s _ hl0.ps)
 have HLX:Hid (∀W,Below (((w.alloc (.cells #[C.p] 67)).alloc (.cells zAs.toArray 60)).alloc (.cells zAs.toArray 60)).heap.size (((w.alloc (.cells #[C.p] 67)).alloc (.cells zAs.toArray 60)).alloc (.cells zAs.toArray 60)) W→LP asX C (w.alloc (.cells #[C.p] 67)) (w.heap.size+1+1) s default zAs W):=fun W hb=>hl0.step (KeptG.of_below hb) (hl0.ps.up hb)
 obtain⟨s1,hs1⟩:∃s',s'=pm1 C.tk C.en (⟨#[105,102]⟩:ByteArray) s:=⟨_,rfl⟩
 have H0:=Lib.hid (fun(W:World) (G:Nat) (hG:W.heap.size=G) (hW:PSt C s W)=>must1_at C s (⟨#[105,102]⟩:ByteArray) W G hG hW (by decide))
 have X0:Hid (∀W e1 W1,PE Vt (pmust C.tk C.en [(⟨#[105,102]⟩:ByteArray)]) C s W e1 W1→(∃x,e1= .returned (.string x))∧PSt C s1 W1∧KeptG C.g W W1):=fun W e1 W1 hq=>by rw[hs1];exact pe_t hq
 obtain⟨cq1,hcq1⟩:∃x',x'=(pco C.tk C.en s1).1:=⟨_,rfl⟩
 obtain⟨s2,hs2⟩:∃s',s'=(pco C.tk C.en s1).2:=⟨_,rfl⟩
 have H1:=Lib.hid (fun W (hW:PSt C s1 W)=>co_any C s1 W hW)
 have X1:Hid (∀W e1 W1 cs,LP asX C (w.alloc (.cells #[C.p] 67)) (w.heap.size+1+1) s1 (AT.mk 5 default default default (⟨#[]⟩:ByteArray) 0 []) cs W→PE (Vx cnX) (pco C.tk C.en) C s1 W e1 W1→∃cs2:List Value,e1= .returned (.agg cs2.toArray)∧cs2.length=3∧(∀u∈cs2,u.oneCell'=true)∧W1.there (w.heap.size+1+1) 1 cs2.length∧∀W9,Stored (w.heap.size+1+1) 1 cs2 W1 W9→LP asX C (w.alloc (.cells #[C.p] 67)) (w.heap.size+1+1) s2 (AT.mk 5 cq1 default default (⟨#[]⟩:ByteArray) 0 []) (spl cs 1 cs2) W9):=fun W e1 W1 cs hl hq=>by
  obtain⟨cs2,a1,a2,a3,a4,a5,a6⟩:=pe_x hq
  have a2:cs2.length=3:=a2
  rw[←hs2]at a5
  rw[←hcq1]at a4
  exact⟨cs2,a1,a2,a3,by rw[a2];exact hl.part a6 a5 (by show 1+3≤15;omega),fun W9 hst=>hl.setP a6 a5 a4 (by show 1+3≤15;omega) (as_ni hl.tree) hst (fun S W hx hy=>as_c hy hx)⟩
 obtain⟨aq2,haq2⟩:∃x',x'=(pbraced C.tk C.en (pitem C.tk C.en n) s2).1:=⟨_,rfl⟩
 obtain⟨s3,hs3⟩:∃s',s'=(pbraced C.tk C.en (pitem C.tk C.en n) s2).2:=⟨_,rfl⟩
 have mvb:Mv C.tk s s2:=by subst_vars;exact(mv_m1 _ _).trans (mv_co _)
 have hfb:=hf.mv h.inv mvb
 have H2:=Lib.hid (fun W (hW:PSt C s2 W)=>braced_any n IH C s2 W hW hfb)
 have X2:Hid (∀W e1 W1 cs,LP asX C (w.alloc (.cells #[C.p] 67)) (w.heap.size+1+1) s2 (AT.mk 5 cq1 default default (⟨#[]⟩:ByteArray) 0 []) cs W→PE (Vx asX) (pbraced C.tk C.en (pitem C.tk C.en n)) C s2 W e1 W1→∃cs2:List Value,e1= .returned (.agg cs2.toArray)∧cs2.length=15∧(∀u∈cs2,u.oneCell'=true)∧Hid (LP asX C (w.alloc (.cells #[C.p] 67)) (w.heap.size+1+1) s3 (AT.mk 5 cq1 default default (⟨#[]⟩:ByteArray) 0 []) cs (W1.alloc (.cells cs2.toArray 60)))∧Hid (BX asX (w.heap.size+3) W1.heap.size (W1.alloc (.cells cs2.toArray 60)) aq2∧w.heap.size+3≤W1.heap.size)):=fun W e1 W1 cs hl hq=>by
  obtain⟨cs2,a1,a2,a3,a4,a5,a6⟩:=pe_x hq
  rw[←hs3]at a5
  rw[←haq2]at a4
  have hlm:=hl.ml
  have hWs:=a6.size
  refine⟨cs2,a1,a2,a3,(hl.step a6 a5).step (KeptG.alloc _ _ _) (a5.alloc _),⟨cs2,range_new _ _ _,by have:=there_new W1 cs2 60;rwa [a2]at this,by simp, ?_⟩,by omega⟩
  exact inN_kept (inN_of (M:=W1.heap.size) a4 (by omega) (.inr (Nat.le_refl _))) (KeptG.alloc C.g W1 _) (by omega)
 obtain⟨s4,hs4⟩:∃s',s'=pm1 C.tk C.en (⟨#[101,108,115,101]⟩:ByteArray) s3:=⟨_,rfl⟩
 have H3:=Lib.hid (fun(W:World) (G:Nat) (hG:W.heap.size=G) (hW:PSt C s3 W)=>must1_at C s3 (⟨#[101,108,115,101]⟩:ByteArray) W G hG hW (by decide))
 have X3:Hid (∀W e1 W1,PE Vt (pmust C.tk C.en [(⟨#[101,108,115,101]⟩:ByteArray)]) C s3 W e1 W1→(∃x,e1= .returned (.string x))∧PSt C s4 W1∧KeptG C.g W W1):=fun W e1 W1 hq=>by rw[hs4];exact pe_t hq
 obtain⟨bq4,hbq4⟩:∃x',x'=(pbraced C.tk C.en (pitem C.tk C.en n) s4).1:=⟨_,rfl⟩
 obtain⟨s5,hs5⟩:∃s',s'=(pbraced C.tk C.en (pitem C.tk C.en n) s4).2:=⟨_,rfl⟩
 have mvb2:Mv C.tk s2 s4:=by subst_vars;exact(mv_braced (mv_item n) _).trans (mv_m1 _ _)
 have hfb2:=hfb.mv (mvb.inv h.inv) mvb2
 have HB:=Lib.hid (fun W (hW:PSt C s4 W)=>braced_any n IH C s4 W hW hfb2)
 have e:pitem C.tk C.en (n+1) s=((AT.mk 5 cq1 default default (⟨#[]⟩:ByteArray) 0 [aq2,bq4]),s5):=by unfold pitem;rw[if_neg hn0,if_neg hn1,if_neg hn2,if_pos hy];subst_vars;rfl
 have XB:Hid (∀W M2 cs,LP asX C (w.alloc (.cells #[C.p] 67)) (w.heap.size+1+1) s4 (AT.mk 5 cq1 default default (⟨#[]⟩:ByteArray) 0 []) cs W→BX asX (w.heap.size+3) M2 W aq2→w.heap.size+3≤M2→∃ak ac ad al ae au ea eb en eu va vb vn vu fl nn us,(au.oneCell'=true∧eu.oneCell'=true∧vu.oneCell'=true∧us.oneCell'=true)∧(W.cell? ⟨M2,0,none⟩=some (.int .i64 ak)∧W.cell? ⟨M2,1,none⟩=some (.int .i64 ac)∧W.cell? ⟨M2,2,none⟩=some (.slice ad al ae)∧W.cell? ⟨M2,3,none⟩=some (au)∧W.cell? ⟨M2,4,none⟩=some (.int .i64 ea)∧W.cell? ⟨M2,5,none⟩=some (.int .i64 eb)∧W.cell? ⟨M2,6,none⟩=some (.string en)∧W.cell? ⟨M2,7,none⟩=some (eu)∧W.cell? ⟨M2,8,none⟩=some (.int .i64 va)∧W.cell? ⟨M2,9,none⟩=some (.int .i64 vb)∧W.cell? ⟨M2,10,none⟩=some (.string vn)∧W.cell? ⟨M2,11,none⟩=some (vu)∧W.cell? ⟨M2,12,none⟩=some (.string fl)∧W.cell? ⟨M2,13,none⟩=some (.int .i64 nn)∧W.cell? ⟨M2,14,none⟩=some (us))∧
  ∀e4 W4,PE (Vx asX) (pbraced C.tk C.en (pitem C.tk C.en n)) C s4 W.drew e4 W4→∃ak2 ac2 ad2 al2 ae2 au2 ea2 eb2 en2 eu2 va2 vb2 vn2 vu2 fl2 nn2 us2,e4= .returned (.agg #[.int .i64 ak2,.int .i64 ac2,.slice ad2 al2 ae2,au2,.int .i64 ea2,.int .i64 eb2,.string en2,eu2,.int .i64 va2,.int .i64 vb2,.string vn2,vu2,.string fl2,.int .i64 nn2,us2])∧(au2.oneCell'=true∧eu2.oneCell'=true∧vu2.oneCell'=true∧us2.oneCell'=true)∧(W4.cell? ⟨M2,0,none⟩=some (.int .i64 ak)∧W4.cell? ⟨M2,1,none⟩=some (.int .i64 ac)∧W4.cell? ⟨M2,2,none⟩=some (.slice ad al ae)∧W4.cell? ⟨M2,3,none⟩=some (au)∧W4.cell? ⟨M2,4,none⟩=some (.int .i64 ea)∧W4.cell? ⟨M2,5,none⟩=some (.int .i64 eb)∧W4.cell? ⟨M2,6,none⟩=some (.string en)∧W4.cell? ⟨M2,7,none⟩=some (eu)∧W4.cell? ⟨M2,8,none⟩=some (.int .i64 va)∧W4.cell? ⟨M2,9,none⟩=some (.int .i64 vb)∧W4.cell? ⟨M2,10,none⟩=some (.string vn)∧W4.cell? ⟨M2,11,none⟩=some (vu)∧W4.cell? ⟨M2,12,none⟩=some (.string fl)∧W4.cell? ⟨M2,13,none⟩=some (.int .i64 nn)∧W4.cell? ⟨M2,14,none⟩=some (us))∧W4.cell? ⟨w.heap.size,0,none⟩=some C.p∧
   (∀o,(W4.alloc o).there (w.heap.size+1+1) 14 1)∧(∃z,∀o,(W4.alloc o).cell? ⟨w.heap.size+1+1,14,none⟩=some z)∧
   ∀W9,Stored (w.heap.size+1+1) 14 [.slice (some ⟨W4.heap.size,0,none⟩) 2 2] (W4.alloc (.cells #[.int .i64 ak,.int .i64 ac,.slice ad al ae,au,.int .i64 ea,.int .i64 eb,.string en,eu,.int .i64 va,.int .i64 vb,.string vn,vu,.string fl,.int .i64 nn,us,.int .i64 ak2,.int .i64 ac2,.slice ad2 al2 ae2,au2,.int .i64 ea2,.int .i64 eb2,.string en2,eu2,.int .i64 va2,.int .i64 vb2,.string vn2,vu2,.string fl2,.int .i64 nn2,us2] 60)) W9→
    (∃cs9:List Value,cs9.length=15∧(∀u∈cs9,u.oneCell'=true)∧W9.rangeAt (w.heap.size+1+1) 0 cs9∧W9.there (w.heap.size+1) 0 cs9.length∧∀w9,Stored (w.heap.size+1) 0 cs9 W9 w9→PE (Vx asX) (pitem C.tk C.en (n+1)) C s w (.returned (.agg cs9.toArray)) w9)):=fun W M2 cs hl hbx hM2=>by
  obtain⟨ca,hr,_,hlt,hta⟩:=hbx
  obtain⟨ak,ac,ad,al,ae,au,ea,eb,en,eu,va,vb,vn,vu,fl,nn,us,hca,ho⟩:=as_form hta
  rw[hca]at hr hta
  refine⟨ak,ac,ad,al,ae,au,ea,eb,en,eu,va,vb,vn,vu,fl,nn,us,ho,⟨hr 0 _ rfl,hr 1 _ rfl,hr 2 _ rfl,hr 3 _ rfl,hr 4 _ rfl,hr 5 _ rfl,hr 6 _ rfl,hr 7 _ rfl,hr 8 _ rfl,hr 9 _ rfl,hr 10 _ rfl,hr 11 _ rfl,hr 12 _ rfl,hr 13 _ rfl,hr 14 _ rfl⟩,fun e4 W4 hq=> ?_⟩
  obtain⟨cs2,a1,a2,a3,a4,a5,a6⟩:=pe_x hq
  obtain⟨ak2,ac2,ad2,al2,ae2,au2,ea2,eb2,en2,eu2,va2,vb2,vn2,vu2,fl2,nn2,us2,hcs2,ho2⟩:=as_form a4
  rw[←hs5]at a5
  rw[←hbq4]at a4
  have hd:KeptG C.g W W4:=(KeptG.drew C.g W).trans a6
  have hlm:=hl.ml
  have hlg:=hl.gl
  have hds:=hd.size
  have hr4:=hd.range hlt (by omega) hr
  have hl4:=hl.step hd a5
  have hlo:=fun o=>hl4.step (KeptG.alloc C.g W4 o) (a5.alloc o)
  obtain⟨⟨z,hz,_⟩,_⟩:=hl4.cell (j:=14) (by show 14<15;omega)
  refine⟨ak2,ac2,ad2,al2,ae2,au2,ea2,eb2,en2,eu2,va2,vb2,vn2,vu2,fl2,nn2,us2,by rw[a1,hcs2],ho2,⟨hr4 0 _ rfl,hr4 1 _ rfl,hr4 2 _ rfl,hr4 3 _ rfl,hr4 4 _ rfl,hr4 5 _ rfl,hr4 6 _ rfl,hr4 7 _ rfl,hr4 8 _ rfl,hr4 9 _ rfl,hr4 10 _ rfl,hr4 11 _ rfl,hr4 12 _ rfl,hr4 13 _ rfl,hr4 14 _ rfl⟩,hl4.pc hg,fun o=> ?_,⟨z,fun o=>(hlo o).box 14 z hz⟩,fun W9 hst=> ?_⟩
  ·exact hl4.part (KeptG.alloc C.g W4 o) (a5.alloc o) (by show 14+1≤15;omega)
  ·have hla:=hlo (.cells #[.int .i64 ak,.int .i64 ac,.slice ad al ae,au,.int .i64 ea,.int .i64 eb,.string en,eu,.int .i64 va,.int .i64 vb,.string vn,vu,.string fl,.int .i64 nn,us,.int .i64 ak2,.int .i64 ac2,.slice ad2 al2 ae2,au2,.int .i64 ea2,.int .i64 eb2,.string en2,eu2,.int .i64 va2,.int .i64 vb2,.string vn2,vu2,.string fl2,.int .i64 nn2,us2] 60)
   have hf:=hst.far
   have hx:=hla.upd hst (x':=(AT.mk 5 cq1 default default (⟨#[]⟩:ByteArray) 0 [aq2,bq4])) (by show 14+1≤15;omega) (as_ni hla.tree) (fun hx=> ?_)
   ·exact⟨_,hx.out (f:=pitem C.tk C.en (n+1)) e⟩
   ·have hka:KeptG C.g W4 (W4.alloc (.cells #[.int .i64 ak,.int .i64 ac,.slice ad al ae,au,.int .i64 ea,.int .i64 eb,.string en,eu,.int .i64 va,.int .i64 vb,.string vn,vu,.string fl,.int .i64 nn,us,.int .i64 ak2,.int .i64 ac2,.slice ad2 al2 ae2,au2,.int .i64 ea2,.int .i64 eb2,.string en2,eu2,.int .i64 va2,.int .i64 vb2,.string vn2,vu2,.string fl2,.int .i64 nn2,us2] 60)):=KeptG.alloc _ _ _
    refine as_ks (slot_two (cs:=[.int .i64 ak,.int .i64 ac,.slice ad al ae,au,.int .i64 ea,.int .i64 eb,.string en,eu,.int .i64 va,.int .i64 vb,.string vn,vu,.string fl,.int .i64 nn,us]) (ds:=[.int .i64 ak2,.int .i64 ac2,.slice ad2 al2 ae2,au2,.int .i64 ea2,.int .i64 eb2,.string en2,eu2,.int .i64 va2,.int .i64 vb2,.string vn2,vu2,.string fl2,.int .i64 nn2,us2]) (h:=W4.heap.size) ?_ ?_ ?_ ⟨by rw[hsz];omega,by rw[hf.size];simp,by omega⟩) hx
    ·intro j v hv
     rw[World.cell?_of_block (hf.block _ (by show W4.heap.size≠_;omega))]
     exact range_new W4 [.int .i64 ak,.int .i64 ac,.slice ad al ae,au,.int .i64 ea,.int .i64 eb,.string en,eu,.int .i64 va,.int .i64 vb,.string vn,vu,.string fl,.int .i64 nn,us,.int .i64 ak2,.int .i64 ac2,.slice ad2 al2 ae2,au2,.int .i64 ea2,.int .i64 eb2,.string en2,eu2,.int .i64 va2,.int .i64 vb2,.string vn2,vu2,.string fl2,.int .i64 nn2,us2] _ j v hv
    ·refine asX.keep (fun b ⟨a1,a2,a3⟩=>⟨by rw[hsz];omega,by rw[hf.size];simp;omega,by omega⟩) (fun b o ⟨a1,a2,a3⟩=> ?_) hta
     rw[World.cell?_of_block (hf.block _ (by show b≠_;omega)),(hd.trans hka).cell a2 (by omega)]
    ·rw[hcs2]at a4
     refine asX.keep (fun b ⟨a1,a2⟩=>⟨by rw[hsz];have:W.drew.heap.size=W.heap.size:=rfl;omega,by rw[hf.size];simp;omega,by have:W.drew.heap.size=W.heap.size:=rfl;omega⟩) (fun b o ⟨a1,a2⟩=> ?_) a4
     rw[World.cell?_of_block (hf.block _ (by show b≠_;have:W.drew.heap.size=W.heap.size:=rfl;omega)),hka.cell a2 (by have:W.drew.heap.size=W.heap.size:=rfl;omega)]
 have hx0:=ne_lit [91] hn0
 have hx1:=ne_lit [97,99,99] hn1
 have hx2:=ne_lit [112,116,115] hn2
 have hx3:=eq_lit [105,102] hy
 generalize ptx C.tk s 0=tx at*
 generalize PE (Vx asX) (pitem C.tk C.en (n+1)) C s w=Q at*
 have HG:=Lib.hid hg
 clear hl0 h hsz hg e hf mvb mvb2 hfb hfb2 hn0 hn1 hn2 hy hs1 hcq1 hs2 haq2 hs3 hs4 hbq4 hs5
 unfold zAs at*
 go_enter Tryz.func121,Tryz.ntmps121
 go_wp2_with fail
 refine HTX.out.mono ?_
 rintro e w1 ⟨rfl,hb⟩
 have HL1:=Lib.hid (HLX.out w1 hb)
 have pc1:=HL1.out.pc HG.out
 clear hb HTX HLX
 go_wp2_with fail
 clear pc1
 refine(H0.out w1 (w1.heap.size) (by simp[World.setCell]) HL1.out.ps).mono ?_
 rintro e w2 hq
 obtain⟨⟨y0,rfl⟩,hp,hk⟩:=X0.out _ _ _ hq
 have HL2:=Lib.hid (HL1.out.step hk hp)
 clear hq hp hk H0 X0
 clear HL1
 have pc2:=HL2.out.pc HG.out
 obtain⟨⟨v2k,_,y2k⟩,f2k⟩:=HL2.out.cell (j:=0) (by show 0<15;omega)
 have HK2:Hid (LP asX C (w.alloc (.cells #[C.p] 67)) (w.heap.size+1+1) s1 (AT.mk 5 default default default (⟨#[]⟩:ByteArray) 0 []) _ (w2.setCell ⟨w.heap.size+1+1,0,none⟩ (.int .i64 5))):=Lib.hid (HL2.out.set1 (o:=0) (v:= .int .i64 5) (by show 0<15;omega) (as_ni HL2.out.tree) (fun S W h=>as_kind 5 ⟨by decide,by decide⟩ h))
 have pk2:=HK2.out.pc HG.out
 clear HL2
 go_wp2_with fail
 clear pc2 pk2 y2k f2k
 refine(H1.out (w2.setCell ⟨w.heap.size+1+1,0,none⟩ (.int .i64 5)) HK2.out.ps).mono ?_
 rintro e w3 hq
 obtain⟨c3,rfl,l3,o3,t3,fin⟩:=X1.out _ _ _ _ HK2.out hq
 have HF3:=Lib.hid fin
 clear hq fin H1 X1 HK2
 have pz3:=True.intro
 go_wp2_with (first | (refine gateS 55 52 rfl ?_;refine wpList_store_there rfl 55 _ _ rfl (w.heap.size+1+1) 1 rfl _ rfl (by rw[l3];kernel_rfl) o3 t3 ?_;intro w39 hst;have HL3:=Lib.hid (HF3.out _ hst);clear hst HF3;have pc3:=HL3.out.pc HG.out))
 clear pc3 l3 o3 t3
 refine(H2.out w39 HL3.out.ps).mono ?_
 rintro e w4 hq
 obtain⟨ca,rfl,lca,oca,HL4,HB4⟩:=X2.out _ _ _ _ HL3.out hq
 have pc4:=HL4.out.pc HG.out
 clear hq H2 X2 HL3
 go_wp2_with (first | (refine gateS 60 4 rfl ?_;refine wpList_store_fresh (by kernel_rfl) 60 _ _ rfl _ rfl ca rfl (by rw[lca];kernel_rfl) (by rw[lca];rfl) oca ?_))
 clear lca oca pc4
 refine(H3.out (w4.alloc (.cells ca.toArray 60)) ((w4.heap.size+1)) (by simp[World.setCell]) HL4.out.ps).mono ?_
 rintro e w5 hq
 obtain⟨⟨y3,rfl⟩,hp,hk⟩:=X3.out _ _ _ hq
 have hlb:=HL4.out.gl
 have HB5:=Lib.hid (And.intro (HB4.out.1.kept hk (by have:=HG.out;omega) (by have:=HB4.out.2;have:=HG.out;omega)) HB4.out.2)
 generalize w4.heap.size=M2 at*
 clear HB4 hlb
 have HL5:=Lib.hid (HL4.out.step hk hp)
 clear hq hp hk H3 X3
 clear HL4
 have pc5:=HL5.out.pc HG.out
 obtain⟨ak,ac,ad,al,ae,au,ea,eb,en,eu,va,vb,vn,vu,fl,nn,us,⟨ho1,ho2,ho3,ho4⟩,⟨q0,q1,q2,q3,q4,q5,q6,q7,q8,q9,q10,q11,q12,q13,q14⟩,hx⟩:=XB.out _ _ _ HL5.out HB5.out.1 HB5.out.2
 have HP4:=Lib.hid (HB.out _ (HL5.out.ps.up (w':=w5.drew) ⟨rfl,rfl,rfl,Nat.le_refl _,fun _ _=>rfl⟩))
 have HX4:=Lib.hid hx
 have hne2:M2≠w.heap.size+1+1:=by have:=HB5.out.2;omega
 have hpd:=fun(W:World)=>True.intro
 clear hx XB HB HL5 HB5
 go_wp2_with fail
 go_region_with (go_at_call 174;refine HP4.out.mono ?_;rintro e w4 hq;obtain⟨ak2,ac2,ad2,al2,ae2,au2,ea2,eb2,en2,eu2,va2,vb2,vn2,vu2,fl2,nn2,us2,rfl,⟨hp1,hp2,hp3,hp4⟩,⟨r0,r1,r2,r3,r4,r5,r6,r7,r8,r9,r10,r11,r12,r13,r14⟩,rpc,hth,⟨z,hz⟩,hfin⟩:=HX4.out _ _ hq;have g14:=fun o=>((hth o) 0 (by decide)).2;have HF:=Lib.hid hfin;clear hq hfin)
 all_goals
  obtain⟨cs9,hl9,h19,hr9,ht9,hf9⟩:=HF.out _ (stored_sets (cs:=[.slice (some ⟨w4.heap.size,0,none⟩) 2 2]) (hth _))
  have HF9:=Lib.hid hf9
  have hr9:World.rangeAt (World.setCell _ ⟨w.heap.size+1+1,14,none⟩ (.slice (some ⟨w4.heap.size,0,none⟩) 2 2)) (w.heap.size+1+1) 0 cs9:=hr9
  have ht9:World.there (World.setCell _ ⟨w.heap.size+1+1,14,none⟩ (.slice (some ⟨w4.heap.size,0,none⟩) 2 2)) (w.heap.size+1) 0 cs9.length:=ht9
  clear HF hf9 hz hth
  go_wp2_with (first | (refine gateL 60 3 rfl ?_;refine wpList_load_mid rfl 60 _ rfl (w.heap.size+1+1) 0 rfl _ _ hr9 Tryz.underlying60 rfl (by rw[hl9];kernel_rfl) ?_) | (refine gateS 60 2 rfl ?_;refine wpList_store_there rfl 60 _ _ rfl (w.heap.size+1) 0 rfl _ rfl (by rw[hl9];kernel_rfl) h19 ht9 ?_;intro w9 hst))
  exact bodyPost_ret (v:=_) (results_one rfl _ _ _ _ _ rfl (Tryz.asLoad hst.at' hl9)) rfl (HF9.out _ hst)
theorem item_any:∀n,AssnSaid 121 (fun tk en=>pitem tk en n) (Fu n)
 | 0=>fun C s w h hf=>by
   obtain⟨k,hk⟩:=hf.pos h.inv
   cases hk
 | n+1=>fun C s w h hf=>by
   by_cases h0:ptx C.tk s 0=(⟨#[91]⟩:ByteArray)
   ·exact item_pure n C s w h h0
   by_cases h1:ptx C.tk s 0=(⟨#[97,99,99]⟩:ByteArray)
   ·exact item_acc n C s w h h0 h1
   by_cases h2:ptx C.tk s 0=(⟨#[112,116,115]⟩:ByteArray)
   ·exact item_pts n C s w h h0 h1 h2
   by_cases h3:ptx C.tk s 0=(⟨#[105,102]⟩:ByteArray)
   ·exact item_if n C s w h (item_any n) hf h0 h1 h2 h3
   by_cases h4:ptx C.tk s 0=(⟨#[40]⟩:ByteArray)
   ·exact item_par n C s w h (item_any n) hf h0 h1 h2 h3 h4
   exact item_emp n C s w h h0 h1 h2 h3 h4
theorem as_any (C:PC)(s:PS)(w:World)(h:PSt C s w):Calls Tryz.prog 57 #[C.p] w (PE (Vx asX) (pas C.tk C.en) C s w):=
 assn_loop 53 (item_any 53) C s w h (Fu.top h.inv)
end
end Go.Proofs.YtcinokljkieijaaGreatDoor
