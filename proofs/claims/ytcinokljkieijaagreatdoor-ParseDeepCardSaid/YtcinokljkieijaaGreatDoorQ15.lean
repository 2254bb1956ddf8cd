/- Parts of a proof. -/
import Derived.Test.YtcinokljkieijaaGreatDoorQ14
set_option linter.unusedVariables false
set_option linter.unusedSimpArgs false
set_option maxHeartbeats 60000000
set_option maxRecDepth 100000
namespace Go.Proofs.YtcinokljkieijaaGreatDoor
section
open Go.RowKit
theorem LP.outw {T:Type}{sh:Pak.Sh T}{f:PS→T×PS}{C:PC}{w wr:World}{M:Nat}{s0 s:PS}{x:T}{cs:List Value}(h:LP sh C w M s x cs wr)(e:f s0=(x,s)):
 cs.length=sh.k∧(∀u∈cs,u.oneCell'=true)∧wr.rangeAt M 0 cs∧wr.there w.heap.size 0 cs.length∧∀w9,Stored w.heap.size 0 cs wr w9→PE (Vx sh) f C s0 w (.returned (.agg cs.toArray)) w9:=
 ⟨h.len,h.one,h.box,by rw[h.len];exact h.res,fun w9 hst=>h.fin hst e⟩
theorem LP.fresh2 {T:Type}{sh:Pak.Sh T}{C:PC}{s:PS}{w:World}{z z2:List Value}{t:TypeId}{x:T}(hp:PSt C s w)(hz:z.length=sh.k)(hz2:z2.length=sh.k)(hzn:∀t u,z[1]? ≠some (.iface t u))(hx:∀S W,sh.rel S W z2 x):
 LP sh C w (w.heap.size+1) s x z2 ((w.alloc (.cells z.toArray t)).alloc (.cells z2.toArray t)):=by
 have hg:=hp.lt
 have ha:(w.alloc (.cells z.toArray t)).heap.size=w.heap.size+1:=by simp
 have hb:((w.alloc (.cells z.toArray t)).alloc (.cells z2.toArray t)).heap.size=w.heap.size+2:=by simp
 have k2:KeptG C.g (w.alloc (.cells z.toArray t)) ((w.alloc (.cells z.toArray t)).alloc (.cells z2.toArray t)):=KeptG.alloc _ _ _
 have hr:=range_new (w.alloc (.cells z.toArray t)) z2 t
 have ht:=there_new (w.alloc (.cells z.toArray t)) z2 t
 rw[ha]at hr ht
 rw[hz2]at ht
 have ht0:=k2.there (by rw[ha];omega) (by omega) (there_new w z t)
 rw[hz]at ht0
 refine⟨(hp.alloc _).alloc _,hg,⟨Nat.le_refl _,by rw[hb];omega⟩,(KeptG.alloc _ _ _).trans k2,hr,ht,ht0,fun t' u e=> ?_,hx _ _⟩
 rw[k2.cell (by rw[ha];omega) (by omega)]at e
 rw[(cell_of_row (w.alloc (.cells z.toArray t)) w.heap.size 1 _ _ _ (heap_alloc_new w (.cells z.toArray t))),List.getElem?_toArray]at e
 exact hzn _ _ e
theorem what_get (C:PC)(s:PS)(w wr:World)(M:Nat)(x:ST)(cs:List Value)(h:LP stX C w M s x cs wr)(hy:ptx C.tk s 0=(⟨#[103,101,116]⟩:ByteArray)):
 Calls Tryz.prog 203 #[C.p,.pointer (some ⟨M,0,none⟩)] wr fun e W'=>e= .returned (.tuple #[])∧∃cs',LP stX C w M (pwhat C.tk C.en x.p s).2 (ST.mk (pwhat C.tk C.en x.p s).1 x.body x.els) cs' W':=by
 have HTX:=Lib.hid (text0_any C s _ h.ps)
 have HLX:Hid (∀W,Below wr.heap.size wr W→LP stX C w M s x cs W):=fun W hb=>h.step (KeptG.of_below hb) (h.ps.up hb)
 obtain⟨s1,hs1⟩:∃s',s'=pm1 C.tk C.en (⟨#[103,101,116]⟩:ByteArray) s:=⟨_,rfl⟩
 have H0:=Lib.hid (fun(W:World) (G:Nat) (hG:W.heap.size=G) (hW:PSt C s W)=>must1_at C s (⟨#[103,101,116]⟩:ByteArray) W G hG hW (by decide))
 have X0:Hid (∀W e1 W1,PE Vt (pmust C.tk C.en [(⟨#[103,101,116]⟩:ByteArray)]) C s W e1 W1→(∃x,e1= .returned (.string x))∧PSt C s1 W1∧KeptG C.g W W1):=fun W e1 W1 hq=>by rw[hs1];exact pe_t hq
 obtain⟨s2,hs2⟩:∃s',s'=(pcell C.tk C.en ({ x.p with kind:=2 }) s1).2:=⟨_,rfl⟩
 have H1:=Lib.hid (fun W cs (hl:LP stX C (w) (M) s1 (ST.mk { x.p with kind:=2 } x.body x.els) cs W)=>cell_any C s1 _ W _ _ cs hl)
 have hs_s2:=Lib.hid hs2
 have e1:pwhat C.tk C.en x.p s=((pcell C.tk C.en ({ x.p with kind:=2 }) s1).1,s2):=by unfold pwhat;rw[if_pos hy];subst_vars;rfl
 rw[e1]
 have HQ:Hid (∀W cs',LP stX C (w) (M) s2 (ST.mk ((pcell C.tk C.en { x.p with kind:=2 } s1).1) x.body x.els) cs' W→(fun(e:Ending) (W':World)=>e= .returned (.tuple #[])∧∃cs',LP stX C w M s2 (ST.mk ((pcell C.tk C.en ({ x.p with kind:=2 }) s1).1) x.body x.els) cs' W') (.returned (.tuple #[])) W):=fun W cs' hl=>⟨rfl,cs',hl⟩
 generalize (fun(e:Ending) (W':World)=>e= .returned (.tuple #[])∧∃cs',LP stX C w M s2 (ST.mk ((pcell C.tk C.en ({ x.p with kind:=2 }) s1).1) x.body x.els) cs' W')=Q at*
 have hx0:=eq_lit [103,101,116] hy
 generalize ptx C.tk s 0=tx at*
 clear e1 h hy hs1 hs2
 go_enter Tryz.func203,Tryz.ntmps203
 go_wp2_with fail
 refine HTX.out.mono ?_
 rintro e w1 ⟨rfl,hb⟩
 have HL1:=Lib.hid (HLX.out w1 hb)
 clear hb HTX HLX
 go_wp2_with fail
 refine(H0.out w1 (w1.heap.size) (by simp[World.setCell]) HL1.out.ps).mono ?_
 rintro e w2 hq
 obtain⟨⟨y0,rfl⟩,hp,hk⟩:=X0.out _ _ _ hq
 have HL2:=Lib.hid (HL1.out.step hk hp)
 clear hq hp hk H0 X0
 clear HL1
 obtain⟨⟨v2k,_,y2k⟩,f2k⟩:=HL2.out.cell (j:=0) (by show 0<35;omega)
 have HK2:Hid (LP stX C (w) (M) s1 (ST.mk { x.p with kind:=2 } x.body x.els) _ (w2.setCell ⟨M,0,none⟩ (.int .i64 2))):=Lib.hid (HL2.out.set1 (o:=0) (v:= .int .i64 2) (by show 0<35;omega) (st_ni HL2.out.tree) (fun S W h=>st_kind 2 ⟨by decide,by decide⟩ h))
 clear HL2
 go_wp2_with fail
 clear y2k f2k
 refine(H1.out (w2.setCell ⟨M,0,none⟩ (.int .i64 2)) _ HK2.out).mono ?_
 rintro e w3 hq
 obtain⟨rfl,cs3,hl3⟩:=hq
 have HL3:Hid (LP stX C (w) (M) s2 (ST.mk ((pcell C.tk C.en { x.p with kind:=2 } s1).1) x.body x.els) cs3 w3):=Lib.hid (by rw[hs_s2.out];exact hl3)
 clear H1 hl3 HK2
 go_wp2_with fail
 try go_end0
 exact HQ.out _ _ HL3.out
theorem what_new (C:PC)(s:PS)(w wr:World)(M:Nat)(x:ST)(cs:List Value)(h:LP stX C w M s x cs wr)(hn0:¬ptx C.tk s 0=(⟨#[103,101,116]⟩:ByteArray))(hy:ptx C.tk s 0=(⟨#[110,101,119]⟩:ByteArray)):
 Calls Tryz.prog 203 #[C.p,.pointer (some ⟨M,0,none⟩)] wr fun e W'=>e= .returned (.tuple #[])∧∃cs',LP stX C w M (pwhat C.tk C.en x.p s).2 (ST.mk (pwhat C.tk C.en x.p s).1 x.body x.els) cs' W':=by
 have HTX:=Lib.hid (text0_any C s _ h.ps)
 have HLX:Hid (∀W,Below wr.heap.size wr W→LP stX C w M s x cs W):=fun W hb=>h.step (KeptG.of_below hb) (h.ps.up hb)
 obtain⟨s1,hs1⟩:∃s',s'=pm1 C.tk C.en (⟨#[110,101,119]⟩:ByteArray) s:=⟨_,rfl⟩
 have H0:=Lib.hid (fun(W:World) (G:Nat) (hG:W.heap.size=G) (hW:PSt C s W)=>must1_at C s (⟨#[110,101,119]⟩:ByteArray) W G hG hW (by decide))
 have X0:Hid (∀W e1 W1,PE Vt (pmust C.tk C.en [(⟨#[110,101,119]⟩:ByteArray)]) C s W e1 W1→(∃x,e1= .returned (.string x))∧PSt C s1 W1∧KeptG C.g W W1):=fun W e1 W1 hq=>by rw[hs1];exact pe_t hq
 obtain⟨s2,hs2⟩:∃s',s'=pm1 C.tk C.en (⟨#[40]⟩:ByteArray) s1:=⟨_,rfl⟩
 have H1:=Lib.hid (fun(W:World) (G:Nat) (hG:W.heap.size=G) (hW:PSt C s1 W)=>must1_at C s1 (⟨#[40]⟩:ByteArray) W G hG hW (by decide))
 have X1:Hid (∀W e1 W1,PE Vt (pmust C.tk C.en [(⟨#[40]⟩:ByteArray)]) C s1 W e1 W1→(∃x,e1= .returned (.string x))∧PSt C s2 W1∧KeptG C.g W W1):=fun W e1 W1 hq=>by rw[hs2];exact pe_t hq
 obtain⟨lq2,hlq2⟩:∃x',x'=(pnames C.tk C.en [] s2).1:=⟨_,rfl⟩
 obtain⟨s3,hs3⟩:∃s',s'=(pnames C.tk C.en [] s2).2:=⟨_,rfl⟩
 have H2:=Lib.hid (fun(W:World) (hW:PSt C s2 W)=>names_no C s2 W hW)
 have X2:Hid (∀W e1 W1 cs,LP stX C (w) (M) s2 (ST.mk { x.p with kind:=4 } x.body x.els) cs W→PE (Vs strSh) (pnames C.tk C.en []) C s2 W e1 W1→∃a c,e1= .returned (.slice a lq2.length c)∧(∃z,W1.cell? ⟨M,32,none⟩=some z)∧W1.frozen? ⟨M,32,none⟩=false∧LP stX C (w) (M) s3 (ST.mk { x.p with kind:=4,fields:=lq2 } x.body x.els) (spl cs 32 [.slice a lq2.length c]) (W1.setCell ⟨M,32,none⟩ (.slice a lq2.length c))):=fun W e1 W1 cs hl hq=>by
  obtain⟨a,c,a1,a2,a3,a4⟩:=pe_s hq
  rw[←hs3]at a3
  rw[←hlq2]at a1 a2
  obtain⟨⟨z,_,z1⟩,z2⟩:=(hl.step a4 a3).cell (j:=32) (by show 32<35;omega)
  exact⟨a,c,a1,⟨z,z1⟩,z2,hl.setS a4 a3 a2 (by show 32<35;omega) (st_ni hl.tree) (fun S W hx hv=>st_fields hv hx)⟩
 obtain⟨s4,hs4⟩:∃s',s'=pm1 C.tk C.en (⟨#[41]⟩:ByteArray) s3:=⟨_,rfl⟩
 have H3:=Lib.hid (fun(W:World) (G:Nat) (hG:W.heap.size=G) (hW:PSt C s3 W)=>must1_at C s3 (⟨#[41]⟩:ByteArray) W G hG hW (by decide))
 have X3:Hid (∀W e1 W1,PE Vt (pmust C.tk C.en [(⟨#[41]⟩:ByteArray)]) C s3 W e1 W1→(∃x,e1= .returned (.string x))∧PSt C s4 W1∧KeptG C.g W W1):=fun W e1 W1 hq=>by rw[hs4];exact pe_t hq
 have e1:pwhat C.tk C.en x.p s=({ x.p with kind:=4,fields:=lq2 },s4):=by unfold pwhat;rw[if_neg hn0,if_pos hy];subst_vars;rfl
 rw[e1]
 have HQ:Hid (∀W cs',LP stX C (w) (M) s4 (ST.mk { x.p with kind:=4,fields:=lq2 } x.body x.els) cs' W→(fun(e:Ending) (W':World)=>e= .returned (.tuple #[])∧∃cs',LP stX C w M s4 (ST.mk ({ x.p with kind:=4,fields:=lq2 }) x.body x.els) cs' W') (.returned (.tuple #[])) W):=fun W cs' hl=>⟨rfl,cs',hl⟩
 generalize (fun(e:Ending) (W':World)=>e= .returned (.tuple #[])∧∃cs',LP stX C w M s4 (ST.mk ({ x.p with kind:=4,fields:=lq2 }) x.body x.els) cs' W')=Q at*
 have hx0:=ne_lit [103,101,116] hn0
 have hx1:=eq_lit [110,101,119] hy
 generalize ptx C.tk s 0=tx at*
 clear e1 h hn0 hy hs1 hs2 hlq2 hs3 hs4
 go_enter Tryz.func203,Tryz.ntmps203
 go_wp2_with fail
 refine HTX.out.mono ?_
 rintro e w1 ⟨rfl,hb⟩
 have HL1:=Lib.hid (HLX.out w1 hb)
 clear hb HTX HLX
 go_wp2_with fail
 refine(H0.out w1 (w1.heap.size) (by simp[World.setCell]) HL1.out.ps).mono ?_
 rintro e w2 hq
 obtain⟨⟨y0,rfl⟩,hp,hk⟩:=X0.out _ _ _ hq
 have HL2:=Lib.hid (HL1.out.step hk hp)
 clear hq hp hk H0 X0
 clear HL1
 obtain⟨⟨v2k,_,y2k⟩,f2k⟩:=HL2.out.cell (j:=0) (by show 0<35;omega)
 have HK2:Hid (LP stX C (w) (M) s1 (ST.mk { x.p with kind:=4 } x.body x.els) _ (w2.setCell ⟨M,0,none⟩ (.int .i64 4))):=Lib.hid (HL2.out.set1 (o:=0) (v:= .int .i64 4) (by show 0<35;omega) (st_ni HL2.out.tree) (fun S W h=>st_kind 4 ⟨by decide,by decide⟩ h))
 clear HL2
 go_wp2_with fail
 clear y2k f2k
 refine(H1.out (w2.setCell ⟨M,0,none⟩ (.int .i64 4)) (w2.heap.size) (by simp[World.setCell]) HK2.out.ps).mono ?_
 rintro e w3 hq
 obtain⟨⟨y1,rfl⟩,hp,hk⟩:=X1.out _ _ _ hq
 have HL3:=Lib.hid (HK2.out.step hk hp)
 clear hq hp hk H1 X1
 clear HK2
 go_wp2_with fail
 refine(H2.out w3 HL3.out.ps).mono ?_
 rintro e w4 hq
 obtain⟨ra4,rc4,rfl,⟨rz4,y4c⟩,f4c,hfin⟩:=X2.out _ _ _ _ HL3.out hq
 have HL4:=Lib.hid hfin
 clear hq hfin H2 X2 HL3
 go_wp2_with fail
 clear y4c f4c
 refine(H3.out (w4.setCell ⟨M,32,none⟩ (.slice ra4 lq2.length rc4)) (w4.heap.size) (by simp[World.setCell]) HL4.out.ps).mono ?_
 rintro e w5 hq
 obtain⟨⟨y3,rfl⟩,hp,hk⟩:=X3.out _ _ _ hq
 have HL5:=Lib.hid (HL4.out.step hk hp)
 clear hq hp hk H3 X3
 clear HL4
 go_wp2_with fail
 try go_end0
 exact HQ.out _ _ HL5.out
theorem what_call (C:PC)(s:PS)(w wr:World)(M:Nat)(x:ST)(cs:List Value)(h:LP stX C w M s x cs wr)(hn0:¬ptx C.tk s 0=(⟨#[103,101,116]⟩:ByteArray))(hn1:¬ptx C.tk s 0=(⟨#[110,101,119]⟩:ByteArray))(hy:ptx C.tk s 0=(⟨#[99,97,108,108]⟩:ByteArray)):
 Calls Tryz.prog 203 #[C.p,.pointer (some ⟨M,0,none⟩)] wr fun e W'=>e= .returned (.tuple #[])∧∃cs',LP stX C w M (pwhat C.tk C.en x.p s).2 (ST.mk (pwhat C.tk C.en x.p s).1 x.body x.els) cs' W':=by
 have HTX:=Lib.hid (text0_any C s _ h.ps)
 have HLX:Hid (∀W,Below wr.heap.size wr W→LP stX C w M s x cs W):=fun W hb=>h.step (KeptG.of_below hb) (h.ps.up hb)
 obtain⟨s1,hs1⟩:∃s',s'=(pcall C.tk C.en x.p s).2:=⟨_,rfl⟩
 have H0:=Lib.hid (fun W cs (hl:LP stX C (w) (M) s x cs W)=>call_any C s _ W _ _ cs hl)
 have hs_s1:=Lib.hid hs1
 have e1:pwhat C.tk C.en x.p s=((pcall C.tk C.en x.p s).1,s1):=by unfold pwhat;rw[if_neg hn0,if_neg hn1,if_pos hy];subst_vars;rfl
 rw[e1]
 have HQ:Hid (∀W cs',LP stX C (w) (M) s1 (ST.mk ((pcall C.tk C.en x.p s).1) x.body x.els) cs' W→(fun(e:Ending) (W':World)=>e= .returned (.tuple #[])∧∃cs',LP stX C w M s1 (ST.mk ((pcall C.tk C.en x.p s).1) x.body x.els) cs' W') (.returned (.tuple #[])) W):=fun W cs' hl=>⟨rfl,cs',hl⟩
 generalize (fun(e:Ending) (W':World)=>e= .returned (.tuple #[])∧∃cs',LP stX C w M s1 (ST.mk ((pcall C.tk C.en x.p s).1) x.body x.els) cs' W')=Q at*
 have hx0:=ne_lit [103,101,116] hn0
 have hx1:=ne_lit [110,101,119] hn1
 have hx2:=eq_lit [99,97,108,108] hy
 generalize ptx C.tk s 0=tx at*
 clear e1 h hn0 hn1 hy hs1
 go_enter Tryz.func203,Tryz.ntmps203
 go_wp2_with fail
 refine HTX.out.mono ?_
 rintro e w1 ⟨rfl,hb⟩
 have HL1:=Lib.hid (HLX.out w1 hb)
 clear hb HTX HLX
 go_wp2_with fail
 refine(H0.out w1 _ HL1.out).mono ?_
 rintro e w2 hq
 obtain⟨rfl,cs2,hl2⟩:=hq
 have HL2:Hid (LP stX C (w) (M) s1 (ST.mk ((pcall C.tk C.en x.p s).1) x.body x.els) cs2 w2):=Lib.hid (by rw[hs_s1.out];exact hl2)
 clear H0 hl2 HL1
 go_wp2_with fail
 try go_end0
 exact HQ.out _ _ HL2.out
theorem what_set (C:PC)(s:PS)(w wr:World)(M:Nat)(x:ST)(cs:List Value)(h:LP stX C w M s x cs wr)(hn0:¬ptx C.tk s 0=(⟨#[103,101,116]⟩:ByteArray))(hn1:¬ptx C.tk s 0=(⟨#[110,101,119]⟩:ByteArray))(hn2:¬ptx C.tk s 0=(⟨#[99,97,108,108]⟩:ByteArray)):
 Calls Tryz.prog 203 #[C.p,.pointer (some ⟨M,0,none⟩)] wr fun e W'=>e= .returned (.tuple #[])∧∃cs',LP stX C w M (pwhat C.tk C.en x.p s).2 (ST.mk (pwhat C.tk C.en x.p s).1 x.body x.els) cs' W':=by
 have HTX:=Lib.hid (text0_any C s _ h.ps)
 have HLX:Hid (∀W,Below wr.heap.size wr W→LP stX C w M s x cs W):=fun W hb=>h.step (KeptG.of_below hb) (h.ps.up hb)
 obtain⟨eq0,heq0⟩:∃x',x'=(pex C.tk C.en s).1:=⟨_,rfl⟩
 obtain⟨s1,hs1⟩:∃s',s'=(pex C.tk C.en s).2:=⟨_,rfl⟩
 have H0:=Lib.hid (fun W (hW:PSt C s W)=>ex_any C s W hW)
 have X0:Hid (∀W e1 W1 cs,LP stX C (w) (M) s (ST.mk { x.p with kind:=1 } x.body x.els) cs W→PE (Vx exX) (pex C.tk C.en) C s W e1 W1→∃cs2:List Value,e1= .returned (.agg cs2.toArray)∧cs2.length=4∧(∀u∈cs2,u.oneCell'=true)∧W1.there (M) 4 cs2.length∧∀W9,Stored (M) 4 cs2 W1 W9→LP stX C (w) (M) s1 (ST.mk { x.p with kind:=1,e:=eq0 } x.body x.els) (spl cs 4 cs2) W9):=fun W e1 W1 cs hl hq=>by
  obtain⟨cs2,a1,a2,a3,a4,a5,a6⟩:=pe_x hq
  have a2:cs2.length=4:=a2
  rw[←hs1]at a5
  rw[←heq0]at a4
  exact⟨cs2,a1,a2,a3,by rw[a2];exact hl.part a6 a5 (by show 4+4≤35;omega),fun W9 hst=>hl.setP a6 a5 a4 (by show 4+4≤35;omega) (st_ni hl.tree) hst (fun S W hx hy=>st_e hy hx)⟩
 have e1:pwhat C.tk C.en x.p s=({ x.p with kind:=1,e:=eq0 },s1):=by unfold pwhat;rw[if_neg hn0,if_neg hn1,if_neg hn2];subst_vars;rfl
 rw[e1]
 have HQ:Hid (∀W cs',LP stX C (w) (M) s1 (ST.mk { x.p with kind:=1,e:=eq0 } x.body x.els) cs' W→(fun(e:Ending) (W':World)=>e= .returned (.tuple #[])∧∃cs',LP stX C w M s1 (ST.mk ({ x.p with kind:=1,e:=eq0 }) x.body x.els) cs' W') (.returned (.tuple #[])) W):=fun W cs' hl=>⟨rfl,cs',hl⟩
 generalize (fun(e:Ending) (W':World)=>e= .returned (.tuple #[])∧∃cs',LP stX C w M s1 (ST.mk ({ x.p with kind:=1,e:=eq0 }) x.body x.els) cs' W')=Q at*
 have hx0:=ne_lit [103,101,116] hn0
 have hx1:=ne_lit [110,101,119] hn1
 have hx2:=ne_lit [99,97,108,108] hn2
 generalize ptx C.tk s 0=tx at*
 clear e1 h hn0 hn1 hn2 heq0 hs1
 go_enter Tryz.func203,Tryz.ntmps203
 go_wp2_with fail
 refine HTX.out.mono ?_
 rintro e w1 ⟨rfl,hb⟩
 have HL1:=Lib.hid (HLX.out w1 hb)
 clear hb HTX HLX
 obtain⟨⟨v1k,_,y1k⟩,f1k⟩:=HL1.out.cell (j:=0) (by show 0<35;omega)
 have HK1:Hid (LP stX C (w) (M) s (ST.mk { x.p with kind:=1 } x.body x.els) _ (w1.setCell ⟨M,0,none⟩ (.int .i64 1))):=Lib.hid (HL1.out.set1 (o:=0) (v:= .int .i64 1) (by show 0<35;omega) (st_ni HL1.out.tree) (fun S W h=>st_kind 1 ⟨by decide,by decide⟩ h))
 clear HL1
 go_wp2_with fail
 clear y1k f1k
 refine(H0.out (w1.setCell ⟨M,0,none⟩ (.int .i64 1)) HK1.out.ps).mono ?_
 rintro e w2 hq
 obtain⟨c2,rfl,l2,o2,t2,fin⟩:=X0.out _ _ _ _ HK1.out hq
 have HF2:=Lib.hid fin
 clear hq fin H0 X0 HK1
 go_wp2_with (first | (refine gateS 57 13 rfl ?_;refine wpList_store_there rfl 57 _ _ rfl (M) 4 rfl _ rfl (by rw[l2];kernel_rfl) o2 t2 ?_;intro w29 hst;have HL2:=Lib.hid (HF2.out _ hst);clear hst HF2))
 try go_end0
 exact HQ.out _ _ HL2.out
theorem what_any (C:PC)(s:PS)(w wr:World)(M:Nat)(x:ST)(cs:List Value)(h:LP stX C w M s x cs wr):
 Calls Tryz.prog 203 #[C.p,.pointer (some ⟨M,0,none⟩)] wr fun e W'=>e= .returned (.tuple #[])∧∃cs',LP stX C w M (pwhat C.tk C.en x.p s).2 (ST.mk (pwhat C.tk C.en x.p s).1 x.body x.els) cs' W':=by
 by_cases h0:ptx C.tk s 0=(⟨#[103,101,116]⟩:ByteArray)
 ·exact what_get C s w wr M x cs h h0
 by_cases h1:ptx C.tk s 0=(⟨#[110,101,119]⟩:ByteArray)
 ·exact what_new C s w wr M x cs h h0 h1
 by_cases h2:ptx C.tk s 0=(⟨#[99,97,108,108]⟩:ByteArray)
 ·exact what_call C s w wr M x cs h h0 h1 h2
 exact what_set C s w wr M x cs h h0 h1 h2
theorem simple_put (C:PC)(s:PS)(w:World)(h:PSt C s w)(hy:ptx C.tk s 0=(⟨#[112,117,116]⟩:ByteArray)):
 Calls Tryz.prog 179 #[C.p] w (PE (Vx stX) (fun s=>(ST.mk (psimple C.tk C.en s).1 [] [],(psimple C.tk C.en s).2)) C s w):=by
 have hl0:=LP.fresh (sh:=stX) (t:=65) h rfl zSt_ni zSt_rel
 have HTX:=Lib.hid (text0_any C s _ hl0.ps)
 have HLX:Hid (∀W,Below ((w.alloc (.cells zSt.toArray 65)).alloc (.cells zSt.toArray 65)).heap.size ((w.alloc (.cells zSt.toArray 65)).alloc (.cells zSt.toArray 65)) W→LP stX C w (w.heap.size+1) s (ST.mk sp0 [] []) zSt W):=fun W hb=>hl0.step (KeptG.of_below hb) (hl0.ps.up hb)
 obtain⟨s1,hs1⟩:∃s',s'=pm1 C.tk C.en (⟨#[112,117,116]⟩:ByteArray) s:=⟨_,rfl⟩
 have H0:=Lib.hid (fun(W:World) (G:Nat) (hG:W.heap.size=G) (hW:PSt C s W)=>must1_at C s (⟨#[112,117,116]⟩:ByteArray) W G hG hW (by decide))
 have X0:Hid (∀W e1 W1,PE Vt (pmust C.tk C.en [(⟨#[112,117,116]⟩:ByteArray)]) C s W e1 W1→(∃x,e1= .returned (.string x))∧PSt C s1 W1∧KeptG C.g W W1):=fun W e1 W1 hq=>by rw[hs1];exact pe_t hq
 obtain⟨s2,hs2⟩:∃s',s'=(pcell C.tk C.en ({ sp0 with kind:=3 }) s1).2:=⟨_,rfl⟩
 have H1:=Lib.hid (fun W cs (hl:LP stX C (w) (w.heap.size+1) s1 (ST.mk { sp0 with kind:=3 } [] []) cs W)=>cell_any C s1 _ W _ _ cs hl)
 have hs_s2:=Lib.hid hs2
 obtain⟨s3,hs3⟩:∃s',s'=pm1 C.tk C.en (⟨#[58,61]⟩:ByteArray) s2:=⟨_,rfl⟩
 have H2:=Lib.hid (fun(W:World) (G:Nat) (hG:W.heap.size=G) (hW:PSt C s2 W)=>must1_at C s2 (⟨#[58,61]⟩:ByteArray) W G hG hW (by decide))
 have X2:Hid (∀W e1 W1,PE Vt (pmust C.tk C.en [(⟨#[58,61]⟩:ByteArray)]) C s2 W e1 W1→(∃x,e1= .returned (.string x))∧PSt C s3 W1∧KeptG C.g W W1):=fun W e1 W1 hq=>by rw[hs3];exact pe_t hq
 obtain⟨vq3,hvq3⟩:∃x',x'=(pex C.tk C.en s3).1:=⟨_,rfl⟩
 obtain⟨s4,hs4⟩:∃s',s'=(pex C.tk C.en s3).2:=⟨_,rfl⟩
 have H3:=Lib.hid (fun W (hW:PSt C s3 W)=>ex_any C s3 W hW)
 have X3:Hid (∀W e1 W1 cs,LP stX C (w) (w.heap.size+1) s3 (ST.mk ((pcell C.tk C.en { sp0 with kind:=3 } s1).1) [] []) cs W→PE (Vx exX) (pex C.tk C.en) C s3 W e1 W1→∃cs2:List Value,e1= .returned (.agg cs2.toArray)∧cs2.length=4∧(∀u∈cs2,u.oneCell'=true)∧W1.there (w.heap.size+1) 8 cs2.length∧∀W9,Stored (w.heap.size+1) 8 cs2 W1 W9→LP stX C (w) (w.heap.size+1) s4 (ST.mk { (pcell C.tk C.en { sp0 with kind:=3 } s1).1 with v:=vq3 } [] []) (spl cs 8 cs2) W9):=fun W e1 W1 cs hl hq=>by
  obtain⟨cs2,a1,a2,a3,a4,a5,a6⟩:=pe_x hq
  have a2:cs2.length=4:=a2
  rw[←hs4]at a5
  rw[←hvq3]at a4
  exact⟨cs2,a1,a2,a3,by rw[a2];exact hl.part a6 a5 (by show 8+4≤35;omega),fun W9 hst=>hl.setP a6 a5 a4 (by show 8+4≤35;omega) (st_ni hl.tree) hst (fun S W hx hy=>st_v hy hx)⟩
 have e:(fun s=>(ST.mk (psimple C.tk C.en s).1 [] [],(psimple C.tk C.en s).2)) s=((ST.mk { (pcell C.tk C.en { sp0 with kind:=3 } s1).1 with v:=vq3 } [] []),s4):=by
  show(ST.mk (psimple C.tk C.en s).1 [] [],(psimple C.tk C.en s).2)=_
  unfold psimple;rw[if_pos hy];subst_vars;rfl
 have HO:=Lib.hid (fun W cs (hl:LP stX C (w) (w.heap.size+1) s4 (ST.mk { (pcell C.tk C.en { sp0 with kind:=3 } s1).1 with v:=vq3 } [] []) cs W)=>hl.outw (f:=fun s=>(ST.mk (psimple C.tk C.en s).1 [] [],(psimple C.tk C.en s).2)) e)
 generalize PE (Vx stX) (fun s=>(ST.mk (psimple C.tk C.en s).1 [] [],(psimple C.tk C.en s).2)) C s w=Q at*
 have hx0:=eq_lit [112,117,116] hy
 generalize ptx C.tk s 0=tx at*
 clear hl0 e h hy hs1 hs2 hs3 hvq3 hs4
 unfold zSt at*
 go_enter Tryz.func179,Tryz.ntmps179
 go_wp2_with fail
 refine HTX.out.mono ?_
 rintro e w1 ⟨rfl,hb⟩
 have HL1:=Lib.hid (HLX.out w1 hb)
 clear hb HTX HLX
 go_wp2_with fail
 refine(H0.out w1 (w1.heap.size) (by simp[World.setCell]) HL1.out.ps).mono ?_
 rintro e w2 hq
 obtain⟨⟨y0,rfl⟩,hp,hk⟩:=X0.out _ _ _ hq
 have HL2:=Lib.hid (HL1.out.step hk hp)
 clear hq hp hk H0 X0
 clear HL1
 obtain⟨⟨v2k,_,y2k⟩,f2k⟩:=HL2.out.cell (j:=0) (by show 0<35;omega)
 have HK2:Hid (LP stX C (w) (w.heap.size+1) s1 (ST.mk { sp0 with kind:=3 } [] []) _ (w2.setCell ⟨w.heap.size+1,0,none⟩ (.int .i64 3))):=Lib.hid (HL2.out.set1 (o:=0) (v:= .int .i64 3) (by show 0<35;omega) (st_ni HL2.out.tree) (fun S W h=>st_kind 3 ⟨by decide,by decide⟩ h))
 clear HL2
 go_wp2_with fail
 clear y2k f2k
 refine(H1.out (w2.setCell ⟨w.heap.size+1,0,none⟩ (.int .i64 3)) _ HK2.out).mono ?_
 rintro e w3 hq
 obtain⟨rfl,cs3,hl3⟩:=hq
 have HL3:Hid (LP stX C (w) (w.heap.size+1) s2 (ST.mk ((pcell C.tk C.en { sp0 with kind:=3 } s1).1) [] []) cs3 w3):=Lib.hid (by rw[hs_s2.out];exact hl3)
 clear H1 hl3 HK2
 go_wp2_with fail
 refine(H2.out w3 (w3.heap.size) (by simp[World.setCell]) HL3.out.ps).mono ?_
 rintro e w4 hq
 obtain⟨⟨y2,rfl⟩,hp,hk⟩:=X2.out _ _ _ hq
 have HL4:=Lib.hid (HL3.out.step hk hp)
 clear hq hp hk H2 X2
 clear HL3
 go_wp2_with fail
 refine(H3.out w4 HL4.out.ps).mono ?_
 rintro e w5 hq
 obtain⟨c5,rfl,l5,o5,t5,fin⟩:=X3.out _ _ _ _ HL4.out hq
 have HF5:=Lib.hid fin
 clear hq fin H3 X3 HL4
 go_wp2_with (first | (refine gateS 57 27 rfl ?_;refine wpList_store_there rfl 57 _ _ rfl (w.heap.size+1) 8 rfl _ rfl (by rw[l5];kernel_rfl) o5 t5 ?_;intro w59 hst;have HL5:=Lib.hid (HF5.out _ hst);clear hst HF5;obtain⟨hl9,h19,hr9,ht9,hf9⟩:=HO.out _ _ HL5.out;have HF9:=Lib.hid hf9;clear hf9 HL5) | (refine gateL 65 3 rfl ?_;refine wpList_load_mid rfl 65 _ rfl (w.heap.size+1) 0 rfl _ _ hr9 Tryz.underlying65 rfl (by rw[hl9];kernel_rfl) ?_) | (refine gateS 65 2 rfl ?_;refine wpList_store_there rfl 65 _ _ rfl w.heap.size 0 rfl _ rfl (by rw[hl9];kernel_rfl) h19 ht9 ?_;intro w9 hst))
 exact bodyPost_ret (v:=_) (results_one rfl _ _ _ _ _ rfl (Tryz.stLoad hst.at' hl9)) rfl (HF9.out _ hst)
theorem simple_free (C:PC)(s:PS)(w:World)(h:PSt C s w)(hn0:¬ptx C.tk s 0=(⟨#[112,117,116]⟩:ByteArray))(hy:ptx C.tk s 0=(⟨#[102,114,101,101]⟩:ByteArray)):
 Calls Tryz.prog 179 #[C.p] w (PE (Vx stX) (fun s=>(ST.mk (psimple C.tk C.en s).1 [] [],(psimple C.tk C.en s).2)) C s w):=by
 have hl0:=LP.fresh (sh:=stX) (t:=65) h rfl zSt_ni zSt_rel
 have HTX:=Lib.hid (text0_any C s _ hl0.ps)
 have HLX:Hid (∀W,Below ((w.alloc (.cells zSt.toArray 65)).alloc (.cells zSt.toArray 65)).heap.size ((w.alloc (.cells zSt.toArray 65)).alloc (.cells zSt.toArray 65)) W→LP stX C w (w.heap.size+1) s (ST.mk sp0 [] []) zSt W):=fun W hb=>hl0.step (KeptG.of_below hb) (hl0.ps.up hb)
 obtain⟨s1,hs1⟩:∃s',s'=pm1 C.tk C.en (⟨#[102,114,101,101]⟩:ByteArray) s:=⟨_,rfl⟩
 have H0:=Lib.hid (fun(W:World) (G:Nat) (hG:W.heap.size=G) (hW:PSt C s W)=>must1_at C s (⟨#[102,114,101,101]⟩:ByteArray) W G hG hW (by decide))
 have X0:Hid (∀W e1 W1,PE Vt (pmust C.tk C.en [(⟨#[102,114,101,101]⟩:ByteArray)]) C s W e1 W1→(∃x,e1= .returned (.string x))∧PSt C s1 W1∧KeptG C.g W W1):=fun W e1 W1 hq=>by rw[hs1];exact pe_t hq
 obtain⟨s2,hs2⟩:∃s',s'=(pcell C.tk C.en ({ sp0 with kind:=5 }) s1).2:=⟨_,rfl⟩
 have H1:=Lib.hid (fun W cs (hl:LP stX C (w) (w.heap.size+1) s1 (ST.mk { sp0 with kind:=5 } [] []) cs W)=>cell_any C s1 _ W _ _ cs hl)
 have hs_s2:=Lib.hid hs2
 have e:(fun s=>(ST.mk (psimple C.tk C.en s).1 [] [],(psimple C.tk C.en s).2)) s=((ST.mk ((pcell C.tk C.en { sp0 with kind:=5 } s1).1) [] []),s2):=by
  show(ST.mk (psimple C.tk C.en s).1 [] [],(psimple C.tk C.en s).2)=_
  unfold psimple;rw[if_neg hn0,if_pos hy];subst_vars;rfl
 have HO:=Lib.hid (fun W cs (hl:LP stX C (w) (w.heap.size+1) s2 (ST.mk ((pcell C.tk C.en { sp0 with kind:=5 } s1).1) [] []) cs W)=>hl.outw (f:=fun s=>(ST.mk (psimple C.tk C.en s).1 [] [],(psimple C.tk C.en s).2)) e)
 generalize PE (Vx stX) (fun s=>(ST.mk (psimple C.tk C.en s).1 [] [],(psimple C.tk C.en s).2)) C s w=Q at*
 have hx0:=ne_lit [112,117,116] hn0
 have hx1:=eq_lit [102,114,101,101] hy
 generalize ptx C.tk s 0=tx at*
 clear hl0 e h hn0 hy hs1 hs2
 unfold zSt at*
 go_enter Tryz.func179,Tryz.ntmps179
 go_wp2_with fail
 refine HTX.out.mono ?_
 rintro e w1 ⟨rfl,hb⟩
 have HL1:=Lib.hid (HLX.out w1 hb)
 clear hb HTX HLX
 go_wp2_with fail
 refine(H0.out w1 (w1.heap.size) (by simp[World.setCell]) HL1.out.ps).mono ?_
 rintro e w2 hq
 obtain⟨⟨y0,rfl⟩,hp,hk⟩:=X0.out _ _ _ hq
 have HL2:=Lib.hid (HL1.out.step hk hp)
 clear hq hp hk H0 X0
 clear HL1
 obtain⟨⟨v2k,_,y2k⟩,f2k⟩:=HL2.out.cell (j:=0) (by show 0<35;omega)
 have HK2:Hid (LP stX C (w) (w.heap.size+1) s1 (ST.mk { sp0 with kind:=5 } [] []) _ (w2.setCell ⟨w.heap.size+1,0,none⟩ (.int .i64 5))):=Lib.hid (HL2.out.set1 (o:=0) (v:= .int .i64 5) (by show 0<35;omega) (st_ni HL2.out.tree) (fun S W h=>st_kind 5 ⟨by decide,by decide⟩ h))
 clear HL2
 go_wp2_with fail
 clear y2k f2k
 refine(H1.out (w2.setCell ⟨w.heap.size+1,0,none⟩ (.int .i64 5)) _ HK2.out).mono ?_
 rintro e w3 hq
 obtain⟨rfl,cs3,hl3⟩:=hq
 have HL3:Hid (LP stX C (w) (w.heap.size+1) s2 (ST.mk ((pcell C.tk C.en { sp0 with kind:=5 } s1).1) [] []) cs3 w3):=Lib.hid (by rw[hs_s2.out];exact hl3)
 clear H1 hl3 HK2
 obtain⟨hl9,h19,hr9,ht9,hf9⟩:=HO.out _ _ HL3.out
 have HF9:=Lib.hid hf9
 clear hf9 HL3
 go_wp2_with (first | (refine gateL 65 3 rfl ?_;refine wpList_load_mid rfl 65 _ rfl (w.heap.size+1) 0 rfl _ _ hr9 Tryz.underlying65 rfl (by rw[hl9];kernel_rfl) ?_) | (refine gateS 65 2 rfl ?_;refine wpList_store_there rfl 65 _ _ rfl w.heap.size 0 rfl _ rfl (by rw[hl9];kernel_rfl) h19 ht9 ?_;intro w9 hst))
 exact bodyPost_ret (v:=_) (results_one rfl _ _ _ _ _ rfl (Tryz.stLoad hst.at' hl9)) rfl (HF9.out _ hst)
theorem simple_assert (C:PC)(s:PS)(w:World)(h:PSt C s w)(hn0:¬ptx C.tk s 0=(⟨#[112,117,116]⟩:ByteArray))(hn1:¬ptx C.tk s 0=(⟨#[102,114,101,101]⟩:ByteArray))(hy:ptx C.tk s 0=(⟨#[97,115,115,101,114,116]⟩:ByteArray)):
 Calls Tryz.prog 179 #[C.p] w (PE (Vx stX) (fun s=>(ST.mk (psimple C.tk C.en s).1 [] [],(psimple C.tk C.en s).2)) C s w):=by
 have hl0:=LP.fresh (sh:=stX) (t:=65) h rfl zSt_ni zSt_rel
 have HTX:=Lib.hid (text0_any C s _ hl0.ps)
 have HLX:Hid (∀W,Below ((w.alloc (.cells zSt.toArray 65)).alloc (.cells zSt.toArray 65)).heap.size ((w.alloc (.cells zSt.toArray 65)).alloc (.cells zSt.toArray 65)) W→LP stX C w (w.heap.size+1) s (ST.mk sp0 [] []) zSt W):=fun W hb=>hl0.step (KeptG.of_below hb) (hl0.ps.up hb)
 obtain⟨s1,hs1⟩:∃s',s'=pm1 C.tk C.en (⟨#[97,115,115,101,114,116]⟩:ByteArray) s:=⟨_,rfl⟩
 have H0:=Lib.hid (fun(W:World) (G:Nat) (hG:W.heap.size=G) (hW:PSt C s W)=>must1_at C s (⟨#[97,115,115,101,114,116]⟩:ByteArray) W G hG hW (by decide))
 have X0:Hid (∀W e1 W1,PE Vt (pmust C.tk C.en [(⟨#[97,115,115,101,114,116]⟩:ByteArray)]) C s W e1 W1→(∃x,e1= .returned (.string x))∧PSt C s1 W1∧KeptG C.g W W1):=fun W e1 W1 hq=>by rw[hs1];exact pe_t hq
 obtain⟨cq1,hcq1⟩:∃x',x'=(pco C.tk C.en s1).1:=⟨_,rfl⟩
 obtain⟨s2,hs2⟩:∃s',s'=(pco C.tk C.en s1).2:=⟨_,rfl⟩
 have H1:=Lib.hid (fun W (hW:PSt C s1 W)=>co_any C s1 W hW)
 have X1:Hid (∀W e1 W1 cs,LP stX C (w) (w.heap.size+1) s1 (ST.mk { sp0 with kind:=8 } [] []) cs W→PE (Vx cnX) (pco C.tk C.en) C s1 W e1 W1→∃cs2:List Value,e1= .returned (.agg cs2.toArray)∧cs2.length=3∧(∀u∈cs2,u.oneCell'=true)∧W1.there (w.heap.size+1) 12 cs2.length∧∀W9,Stored (w.heap.size+1) 12 cs2 W1 W9→LP stX C (w) (w.heap.size+1) s2 (ST.mk { sp0 with kind:=8,c:=cq1 } [] []) (spl cs 12 cs2) W9):=fun W e1 W1 cs hl hq=>by
  obtain⟨cs2,a1,a2,a3,a4,a5,a6⟩:=pe_x hq
  have a2:cs2.length=3:=a2
  rw[←hs2]at a5
  rw[←hcq1]at a4
  exact⟨cs2,a1,a2,a3,by rw[a2];exact hl.part a6 a5 (by show 12+3≤35;omega),fun W9 hst=>hl.setP a6 a5 a4 (by show 12+3≤35;omega) (st_ni hl.tree) hst (fun S W hx hy=>st_c hy hx)⟩
 have e:(fun s=>(ST.mk (psimple C.tk C.en s).1 [] [],(psimple C.tk C.en s).2)) s=((ST.mk { sp0 with kind:=8,c:=cq1 } [] []),s2):=by
  show(ST.mk (psimple C.tk C.en s).1 [] [],(psimple C.tk C.en s).2)=_
  unfold psimple;rw[if_neg hn0,if_neg hn1,if_pos hy];subst_vars;rfl
 have HO:=Lib.hid (fun W cs (hl:LP stX C (w) (w.heap.size+1) s2 (ST.mk { sp0 with kind:=8,c:=cq1 } [] []) cs W)=>hl.outw (f:=fun s=>(ST.mk (psimple C.tk C.en s).1 [] [],(psimple C.tk C.en s).2)) e)
 generalize PE (Vx stX) (fun s=>(ST.mk (psimple C.tk C.en s).1 [] [],(psimple C.tk C.en s).2)) C s w=Q at*
 have hx0:=ne_lit [112,117,116] hn0
 have hx1:=ne_lit [102,114,101,101] hn1
 have hx2:=eq_lit [97,115,115,101,114,116] hy
 generalize ptx C.tk s 0=tx at*
 clear hl0 e h hn0 hn1 hy hs1 hcq1 hs2
 unfold zSt at*
 go_enter Tryz.func179,Tryz.ntmps179
 go_wp2_with fail
 refine HTX.out.mono ?_
 rintro e w1 ⟨rfl,hb⟩
 have HL1:=Lib.hid (HLX.out w1 hb)
 clear hb HTX HLX
 go_wp2_with fail
 refine(H0.out w1 (w1.heap.size) (by simp[World.setCell]) HL1.out.ps).mono ?_
 rintro e w2 hq
 obtain⟨⟨y0,rfl⟩,hp,hk⟩:=X0.out _ _ _ hq
 have HL2:=Lib.hid (HL1.out.step hk hp)
 clear hq hp hk H0 X0
 clear HL1
 obtain⟨⟨v2k,_,y2k⟩,f2k⟩:=HL2.out.cell (j:=0) (by show 0<35;omega)
 have HK2:Hid (LP stX C (w) (w.heap.size+1) s1 (ST.mk { sp0 with kind:=8 } [] []) _ (w2.setCell ⟨w.heap.size+1,0,none⟩ (.int .i64 8))):=Lib.hid (HL2.out.set1 (o:=0) (v:= .int .i64 8) (by show 0<35;omega) (st_ni HL2.out.tree) (fun S W h=>st_kind 8 ⟨by decide,by decide⟩ h))
 clear HL2
 go_wp2_with fail
 clear y2k f2k
 refine(H1.out (w2.setCell ⟨w.heap.size+1,0,none⟩ (.int .i64 8)) HK2.out.ps).mono ?_
 rintro e w3 hq
 obtain⟨c3,rfl,l3,o3,t3,fin⟩:=X1.out _ _ _ _ HK2.out hq
 have HF3:=Lib.hid fin
 clear hq fin H1 X1 HK2
 go_wp2_with (first | (refine gateS 55 44 rfl ?_;refine wpList_store_there rfl 55 _ _ rfl (w.heap.size+1) 12 rfl _ rfl (by rw[l3];kernel_rfl) o3 t3 ?_;intro w39 hst;have HL3:=Lib.hid (HF3.out _ hst);clear hst HF3;obtain⟨hl9,h19,hr9,ht9,hf9⟩:=HO.out _ _ HL3.out;have HF9:=Lib.hid hf9;clear hf9 HL3) | (refine gateL 65 3 rfl ?_;refine wpList_load_mid rfl 65 _ rfl (w.heap.size+1) 0 rfl _ _ hr9 Tryz.underlying65 rfl (by rw[hl9];kernel_rfl) ?_) | (refine gateS 65 2 rfl ?_;refine wpList_store_there rfl 65 _ _ rfl w.heap.size 0 rfl _ rfl (by rw[hl9];kernel_rfl) h19 ht9 ?_;intro w9 hst))
 exact bodyPost_ret (v:=_) (results_one rfl _ _ _ _ _ rfl (Tryz.stLoad hst.at' hl9)) rfl (HF9.out _ hst)
theorem simple_call (C:PC)(s:PS)(w:World)(h:PSt C s w)(hn0:¬ptx C.tk s 0=(⟨#[112,117,116]⟩:ByteArray))(hn1:¬ptx C.tk s 0=(⟨#[102,114,101,101]⟩:ByteArray))(hn2:¬ptx C.tk s 0=(⟨#[97,115,115,101,114,116]⟩:ByteArray))(hy:ptx C.tk s 0=(⟨#[99,97,108,108]⟩:ByteArray)):
 Calls Tryz.prog 179 #[C.p] w (PE (Vx stX) (fun s=>(ST.mk (psimple C.tk C.en s).1 [] [],(psimple C.tk C.en s).2)) C s w):=by
 have hl0:=LP.fresh (sh:=stX) (t:=65) h rfl zSt_ni zSt_rel
 have HTX:=Lib.hid (text0_any C s _ hl0.ps)
 have HLX:Hid (∀W,Below ((w.alloc (.cells zSt.toArray 65)).alloc (.cells zSt.toArray 65)).heap.size ((w.alloc (.cells zSt.toArray 65)).alloc (.cells zSt.toArray 65)) W→LP stX C w (w.heap.size+1) s (ST.mk sp0 [] []) zSt W):=fun W hb=>hl0.step (KeptG.of_below hb) (hl0.ps.up hb)
 obtain⟨s1,hs1⟩:∃s',s'=(pcall C.tk C.en (sp0) s).2:=⟨_,rfl⟩
 have H0:=Lib.hid (fun W cs (hl:LP stX C (w) (w.heap.size+1) s (ST.mk sp0 [] []) cs W)=>call_any C s _ W _ _ cs hl)
 have hs_s1:=Lib.hid hs1
 have e:(fun s=>(ST.mk (psimple C.tk C.en s).1 [] [],(psimple C.tk C.en s).2)) s=((ST.mk ((pcall C.tk C.en (sp0) s).1) [] []),s1):=by
  show(ST.mk (psimple C.tk C.en s).1 [] [],(psimple C.tk C.en s).2)=_
  unfold psimple;rw[if_neg hn0,if_neg hn1,if_neg hn2,if_pos hy];subst_vars;rfl
 have HO:=Lib.hid (fun W cs (hl:LP stX C (w) (w.heap.size+1) s1 (ST.mk ((pcall C.tk C.en (sp0) s).1) [] []) cs W)=>hl.outw (f:=fun s=>(ST.mk (psimple C.tk C.en s).1 [] [],(psimple C.tk C.en s).2)) e)
 generalize PE (Vx stX) (fun s=>(ST.mk (psimple C.tk C.en s).1 [] [],(psimple C.tk C.en s).2)) C s w=Q at*
 have hx0:=ne_lit [112,117,116] hn0
 have hx1:=ne_lit [102,114,101,101] hn1
 have hx2:=ne_lit [97,115,115,101,114,116] hn2
 have hx3:=eq_lit [99,97,108,108] hy
 generalize ptx C.tk s 0=tx at*
 clear hl0 e h hn0 hn1 hn2 hy hs1
 unfold zSt at*
 go_enter Tryz.func179,Tryz.ntmps179
 go_wp2_with fail
 refine HTX.out.mono ?_
 rintro e w1 ⟨rfl,hb⟩
 have HL1:=Lib.hid (HLX.out w1 hb)
 clear hb HTX HLX
 go_wp2_with fail
 refine(H0.out w1 _ HL1.out).mono ?_
 rintro e w2 hq
 obtain⟨rfl,cs2,hl2⟩:=hq
 have HL2:Hid (LP stX C (w) (w.heap.size+1) s1 (ST.mk ((pcall C.tk C.en (sp0) s).1) [] []) cs2 w2):=Lib.hid (by rw[hs_s1.out];exact hl2)
 clear H0 hl2 HL1
 obtain⟨hl9,h19,hr9,ht9,hf9⟩:=HO.out _ _ HL2.out
 have HF9:=Lib.hid hf9
 clear hf9 HL2
 go_wp2_with (first | (refine gateL 65 3 rfl ?_;refine wpList_load_mid rfl 65 _ rfl (w.heap.size+1) 0 rfl _ _ hr9 Tryz.underlying65 rfl (by rw[hl9];kernel_rfl) ?_) | (refine gateS 65 2 rfl ?_;refine wpList_store_there rfl 65 _ _ rfl w.heap.size 0 rfl _ rfl (by rw[hl9];kernel_rfl) h19 ht9 ?_;intro w9 hst))
 exact bodyPost_ret (v:=_) (results_one rfl _ _ _ _ _ rfl (Tryz.stLoad hst.at' hl9)) rfl (HF9.out _ hst)
theorem simple_skip (C:PC)(s:PS)(w:World)(h:PSt C s w)(hn0:¬ptx C.tk s 0=(⟨#[112,117,116]⟩:ByteArray))(hn1:¬ptx C.tk s 0=(⟨#[102,114,101,101]⟩:ByteArray))(hn2:¬ptx C.tk s 0=(⟨#[97,115,115,101,114,116]⟩:ByteArray))(hn3:¬ptx C.tk s 0=(⟨#[99,97,108,108]⟩:ByteArray))(hy:ptx C.tk s 0=(⟨#[115,107,105,112]⟩:ByteArray)):
 Calls Tryz.prog 179 #[C.p] w (PE (Vx stX) (fun s=>(ST.mk (psimple C.tk C.en s).1 [] [],(psimple C.tk C.en s).2)) C s w):=by
 have hl0:=LP.fresh (sh:=stX) (t:=65) h rfl zSt_ni zSt_rel
 have HTX:=Lib.hid (text0_any C s _ hl0.ps)
 have HLX:Hid (∀W,Below ((w.alloc (.cells zSt.toArray 65)).alloc (.cells zSt.toArray 65)).heap.size ((w.alloc (.cells zSt.toArray 65)).alloc (.cells zSt.toArray 65)) W→LP stX C w (w.heap.size+1) s (ST.mk sp0 [] []) zSt W):=fun W hb=>hl0.step (KeptG.of_below hb) (hl0.ps.up hb)
 obtain⟨s1,hs1⟩:∃s',s'=pm1 C.tk C.en (⟨#[115,107,105,112]⟩:ByteArray) s:=⟨_,rfl⟩
 have H0:=Lib.hid (fun(W:World) (G:Nat) (hG:W.heap.size=G) (hW:PSt C s W)=>must1_at C s (⟨#[115,107,105,112]⟩:ByteArray) W G hG hW (by decide))
 have X0:Hid (∀W e1 W1,PE Vt (pmust C.tk C.en [(⟨#[115,107,105,112]⟩:ByteArray)]) C s W e1 W1→(∃x,e1= .returned (.string x))∧PSt C s1 W1∧KeptG C.g W W1):=fun W e1 W1 hq=>by rw[hs1];exact pe_t hq
 have e:(fun s=>(ST.mk (psimple C.tk C.en s).1 [] [],(psimple C.tk C.en s).2)) s=((ST.mk (sp0) [] []),s1):=by
  show(ST.mk (psimple C.tk C.en s).1 [] [],(psimple C.tk C.en s).2)=_
  unfold psimple;rw[if_neg hn0,if_neg hn1,if_neg hn2,if_neg hn3,if_pos hy];subst_vars;rfl
 have HO:=Lib.hid (fun W cs (hl:LP stX C (w) (w.heap.size+1) s1 (ST.mk (sp0) [] []) cs W)=>hl.outw (f:=fun s=>(ST.mk (psimple C.tk C.en s).1 [] [],(psimple C.tk C.en s).2)) e)
 generalize PE (Vx stX) (fun s=>(ST.mk (psimple C.tk C.en s).1 [] [],(psimple C.tk C.en s).2)) C s w=Q at*
 have hx0:=ne_lit [112,117,116] hn0
 have hx1:=ne_lit [102,114,101,101] hn1
 have hx2:=ne_lit [97,115,115,101,114,116] hn2
 have hx3:=ne_lit [99,97,108,108] hn3
 have hx4:=eq_lit [115,107,105,112] hy
 generalize ptx C.tk s 0=tx at*
 clear hl0 e h hn0 hn1 hn2 hn3 hy hs1
 unfold zSt at*
 go_enter Tryz.func179,Tryz.ntmps179
 go_wp2_with fail
 refine HTX.out.mono ?_
 rintro e w1 ⟨rfl,hb⟩
 have HL1:=Lib.hid (HLX.out w1 hb)
 clear hb HTX HLX
 go_wp2_with fail
 refine(H0.out w1 (w1.heap.size) (by simp[World.setCell]) HL1.out.ps).mono ?_
 rintro e w2 hq
 obtain⟨⟨y0,rfl⟩,hp,hk⟩:=X0.out _ _ _ hq
 have HL2:=Lib.hid (HL1.out.step hk hp)
 clear hq hp hk H0 X0
 clear HL1
 obtain⟨hl9,h19,hr9,ht9,hf9⟩:=HO.out _ _ HL2.out
 have HF9:=Lib.hid hf9
 clear hf9 HL2
 go_wp2_with (first | (refine gateL 65 3 rfl ?_;refine wpList_load_mid rfl 65 _ rfl (w.heap.size+1) 0 rfl _ _ hr9 Tryz.underlying65 rfl (by rw[hl9];kernel_rfl) ?_) | (refine gateS 65 2 rfl ?_;refine wpList_store_there rfl 65 _ _ rfl w.heap.size 0 rfl _ rfl (by rw[hl9];kernel_rfl) h19 ht9 ?_;intro w9 hst))
 exact bodyPost_ret (v:=_) (results_one rfl _ _ _ _ _ rfl (Tryz.stLoad hst.at' hl9)) rfl (HF9.out _ hst)
theorem simple_name (C:PC)(s:PS)(w:World)(h:PSt C s w)(hn0:¬ptx C.tk s 0=(⟨#[112,117,116]⟩:ByteArray))(hn1:¬ptx C.tk s 0=(⟨#[102,114,101,101]⟩:ByteArray))(hn2:¬ptx C.tk s 0=(⟨#[97,115,115,101,114,116]⟩:ByteArray))(hn3:¬ptx C.tk s 0=(⟨#[99,97,108,108]⟩:ByteArray))(hn4:¬ptx C.tk s 0=(⟨#[115,107,105,112]⟩:ByteArray)):
 Calls Tryz.prog 179 #[C.p] w (PE (Vx stX) (fun s=>(ST.mk (psimple C.tk C.en s).1 [] [],(psimple C.tk C.en s).2)) C s w):=by
 have hl0:=LP.fresh (sh:=stX) (t:=65) h rfl zSt_ni zSt_rel
 have HTX:=Lib.hid (text0_any C s _ hl0.ps)
 have HLX:Hid (∀W,Below ((w.alloc (.cells zSt.toArray 65)).alloc (.cells zSt.toArray 65)).heap.size ((w.alloc (.cells zSt.toArray 65)).alloc (.cells zSt.toArray 65)) W→LP stX C w (w.heap.size+1) s (ST.mk sp0 [] []) zSt W):=fun W hb=>hl0.step (KeptG.of_below hb) (hl0.ps.up hb)
 obtain⟨fq0,hfq0⟩:∃x',x'=(pof C.tk C.en 1 s).1:=⟨_,rfl⟩
 obtain⟨s1,hs1⟩:∃s',s'=(pof C.tk C.en 1 s).2:=⟨_,rfl⟩
 have H0:=Lib.hid (fun W (hW:PSt C s W)=>pname_any C s W hW)
 have X0:Hid (∀W e1 W1,PSt C s W→PE Vt (pof C.tk C.en 1) C s W e1 W1→e1= .returned (.string fq0)∧fq0.size≤maxLen∧PSt C s1 W1∧KeptG C.g W W1):=fun W e1 W1 hS hq=>by rw[hs1,hfq0];exact⟨(pe_v hq).1,by have:=pof_size 1 hS;unfold maxLen;omega,(pe_v hq).2⟩
 obtain⟨s2,hs2⟩:∃s',s'=pm1 C.tk C.en (⟨#[58,61]⟩:ByteArray) s1:=⟨_,rfl⟩
 have H1:=Lib.hid (fun(W:World) (G:Nat) (hG:W.heap.size=G) (hW:PSt C s1 W)=>must1_at C s1 (⟨#[58,61]⟩:ByteArray) W G hG hW (by decide))
 have X1:Hid (∀W e1 W1,PE Vt (pmust C.tk C.en [(⟨#[58,61]⟩:ByteArray)]) C s1 W e1 W1→(∃x,e1= .returned (.string x))∧PSt C s2 W1∧KeptG C.g W W1):=fun W e1 W1 hq=>by rw[hs2];exact pe_t hq
 obtain⟨s3,hs3⟩:∃s',s'=(pwhat C.tk C.en ({ sp0 with name:=fq0 }) s2).2:=⟨_,rfl⟩
 have H2:=Lib.hid (fun W cs (hl:LP stX C (w) (w.heap.size+1) s2 (ST.mk { sp0 with name:=fq0 } [] []) cs W)=>what_any C s2 _ W _ _ cs hl)
 have hs_s3:=Lib.hid hs3
 have e:(fun s=>(ST.mk (psimple C.tk C.en s).1 [] [],(psimple C.tk C.en s).2)) s=((ST.mk ((pwhat C.tk C.en { sp0 with name:=fq0 } s2).1) [] []),s3):=by
  show(ST.mk (psimple C.tk C.en s).1 [] [],(psimple C.tk C.en s).2)=_
  unfold psimple;rw[if_neg hn0,if_neg hn1,if_neg hn2,if_neg hn3,if_neg hn4];subst_vars;rfl
 have HO:=Lib.hid (fun W cs (hl:LP stX C (w) (w.heap.size+1) s3 (ST.mk ((pwhat C.tk C.en { sp0 with name:=fq0 } s2).1) [] []) cs W)=>hl.outw (f:=fun s=>(ST.mk (psimple C.tk C.en s).1 [] [],(psimple C.tk C.en s).2)) e)
 generalize PE (Vx stX) (fun s=>(ST.mk (psimple C.tk C.en s).1 [] [],(psimple C.tk C.en s).2)) C s w=Q at*
 have hx0:=ne_lit [112,117,116] hn0
 have hx1:=ne_lit [102,114,101,101] hn1
 have hx2:=ne_lit [97,115,115,101,114,116] hn2
 have hx3:=ne_lit [99,97,108,108] hn3
 have hx4:=ne_lit [115,107,105,112] hn4
 generalize ptx C.tk s 0=tx at*
 clear hl0 e h hn0 hn1 hn2 hn3 hn4 hfq0 hs1 hs2 hs3
 unfold zSt at*
 go_enter Tryz.func179,Tryz.ntmps179
 go_wp2_with fail
 refine HTX.out.mono ?_
 rintro e w1 ⟨rfl,hb⟩
 have HL1:=Lib.hid (HLX.out w1 hb)
 clear hb HTX HLX
 go_wp2_with fail
 refine(H0.out w1 HL1.out.ps).mono ?_
 rintro e w2 hq
 obtain⟨rfl,hb,hp,hk⟩:=X0.out _ _ _ HL1.out.ps hq
 have HM2:=Lib.hid (HL1.out.step hk hp)
 obtain⟨⟨v2,_,y2c⟩,f2c⟩:=HM2.out.cell (j:=1) (by show 1<35;omega)
 have HL2:Hid (LP stX C (w) (w.heap.size+1) s1 (ST.mk { sp0 with name:=fq0 } [] []) _ (w2.setCell ⟨w.heap.size+1,1,none⟩ (.string fq0))):=Lib.hid (HM2.out.set1 (o:=1) (v:= .string fq0) (by show 1<35;omega) (st_ni HM2.out.tree) (fun S W h=>(st_name fq0 hb) h))
 clear hq hp hk hb H0 X0 HL1 HM2
 go_wp2_with fail
 clear y2c f2c
 refine(H1.out (w2.setCell ⟨w.heap.size+1,1,none⟩ (.string fq0)) (w2.heap.size) (by simp[World.setCell]) HL2.out.ps).mono ?_
 rintro e w3 hq
 obtain⟨⟨y1,rfl⟩,hp,hk⟩:=X1.out _ _ _ hq
 have HL3:=Lib.hid (HL2.out.step hk hp)
 clear hq hp hk H1 X1
 clear HL2
 go_wp2_with fail
 refine(H2.out w3 _ HL3.out).mono ?_
 rintro e w4 hq
 obtain⟨rfl,cs4,hl4⟩:=hq
 have HL4:Hid (LP stX C (w) (w.heap.size+1) s3 (ST.mk ((pwhat C.tk C.en { sp0 with name:=fq0 } s2).1) [] []) cs4 w4):=Lib.hid (by rw[hs_s3.out];exact hl4)
 clear H2 hl4 HL3
 obtain⟨hl9,h19,hr9,ht9,hf9⟩:=HO.out _ _ HL4.out
 have HF9:=Lib.hid hf9
 clear hf9 HL4
 go_wp2_with (first | (refine gateL 65 3 rfl ?_;refine wpList_load_mid rfl 65 _ rfl (w.heap.size+1) 0 rfl _ _ hr9 Tryz.underlying65 rfl (by rw[hl9];kernel_rfl) ?_) | (refine gateS 65 2 rfl ?_;refine wpList_store_there rfl 65 _ _ rfl w.heap.size 0 rfl _ rfl (by rw[hl9];kernel_rfl) h19 ht9 ?_;intro w9 hst))
 exact bodyPost_ret (v:=_) (results_one rfl _ _ _ _ _ rfl (Tryz.stLoad hst.at' hl9)) rfl (HF9.out _ hst)
theorem simple_any (C:PC)(s:PS)(w:World)(h:PSt C s w):Calls Tryz.prog 179 #[C.p] w (PE (Vx stX) (fun s=>(ST.mk (psimple C.tk C.en s).1 [] [],(psimple C.tk C.en s).2)) C s w):=by
 by_cases h0:ptx C.tk s 0=(⟨#[112,117,116]⟩:ByteArray)
 ·exact simple_put C s w h h0
 by_cases h1:ptx C.tk s 0=(⟨#[102,114,101,101]⟩:ByteArray)
 ·exact simple_free C s w h h0 h1
 by_cases h2:ptx C.tk s 0=(⟨#[97,115,115,101,114,116]⟩:ByteArray)
 ·exact simple_assert C s w h h0 h1 h2
 by_cases h3:ptx C.tk s 0=(⟨#[99,97,108,108]⟩:ByteArray)
 ·exact simple_call C s w h h0 h1 h2 h3
 by_cases h4:ptx C.tk s 0=(⟨#[115,107,105,112]⟩:ByteArray)
 ·exact simple_skip C s w h h0 h1 h2 h3 h4
 exact simple_name C s w h h0 h1 h2 h3 h4
end
end Go.Proofs.YtcinokljkieijaaGreatDoor
