/- Parts of a proof. -/
import Derived.Test.YtcinokljkieijaaGreatDoorW01
import Derived.Test.YtcinokljkieijaaGreatDoorW03
import Derived.Test.YtcinokljkieijaaGreatDoorW04
import Derived.Test.YtcinokljkieijaaGreatDoorW05
import Derived.Test.YtcinokljkieijaaGreatDoorW06
set_option linter.unusedVariables false
set_option linter.unusedSimpArgs false
set_option maxHeartbeats 60000000
set_option maxRecDepth 100000
namespace Go.Proofs.YtcinokljkieijaaGreatDoor
namespace Dc
open Go.RowKit
theorem one_not (n:Nat)(IH:CSaid 204 (fun tk en=>done tk en n) n)(C:PC)(s:PS)(w:World)(h:PSt C s w)(hf:Fd (n+1) s)(hm:dnx C.tk s=(⟨#[33]⟩:ByteArray)):
 Calls Tryz.prog 204 #[C.p] w (PE (Vx cnX) (done C.tk C.en (n+1)) C s w):=by
 have hg:=h.lt
 have hgne:w.heap.size≠C.g:=by omega
 have HTH:Hid (∀W,KeptG C.g (w.alloc (.cells zCn.toArray 55)) W→W.there w.heap.size 0 3):=fun W hk=>hk.there (by simp) hgne (there_new w zCn 55)
 have HN:=Lib.hid (next_any C s _ (h.alloc (.cells zCn.toArray 55)))
 have HB0:Hid (∀W,Below (w.alloc (.cells zCn.toArray 55)).heap.size (w.alloc (.cells zCn.toArray 55)) W→PSt C s W∧KeptG C.g (w.alloc (.cells zCn.toArray 55)) W):=fun W hb=>⟨(h.alloc (.cells zCn.toArray 55)).up hb,KeptG.of_below hb⟩
 have hx0:=eq_lit [33] hm
 obtain⟨h0,_⟩:=dnx_inv (tk:=C.tk) (s:=s) (by rw[hm];decide)
 obtain⟨s2,hs2⟩:∃s2,s2=dbegin C.tk C.en (⟨#[33]⟩:ByteArray) s:=⟨_,rfl⟩
 obtain⟨p,hp⟩:∃p,p=done C.tk C.en n s2:=⟨_,rfl⟩
 have ed:done C.tk C.en (n+1) s=(.mk 6 [] [p.1],pup p.2):=by
  subst hp
  subst hs2
  rw[done,if_pos hm]
 have HBG:=Lib.hid (fun W (hW:PSt C s W)=>begin_any C s (⟨#[33]⟩:ByteArray) W hW (by decide))
 have X1:Hid (∀W e1 W1,PU (dbegin C.tk C.en (⟨#[33]⟩:ByteArray)) C s W e1 W1→e1= .returned (.tuple #[])∧PSt C s2 W1∧KeptG C.g W W1):=fun W e1 W1 hu=>by rw[hs2];exact hu
 have hfd:Fd n s2:=by
  have:s2=deat C.tk C.en (⟨#[33]⟩:ByteArray) (ddeeper C.tk C.en s):=by rw[hs2];unfold dbegin;rw[if_pos hm]
  rw[this]
  exact(hf.deeper h h0).mv (md_eat (tk:=C.tk) (by decide) _)
 have HPR:=Lib.hid (fun W (hW:PSt C s2 W)=>IH C s2 W hW hfd)
 have hne:∀W,PSt C s2 W→p.2.er=none→1≤p.2.ne:=fun W hW e=>by
  have hmd:Md C.tk s2 p.2:=by rw[hp];exact md_one hW n
  obtain⟨e1,_,e2⟩:=hmd.nx e
  rw[hs2]at e1 e2
  obtain⟨e3,_,e4,_⟩:=begin_ne (by decide) e1
  have:=(h.inv e3).1
  omega
 have HX:Hid (∀W e1 W1,KeptG C.g (w.alloc (.cells zCn.toArray 55)) W→PSt C s2 W→PE (Vx cnX) (done C.tk C.en n) C s2 W e1 W1→∃k va vm vc ua um uc,e1= .returned (.agg #[.int .i64 k,.slice va vm vc,.slice ua um uc])∧W1.heap.size≠C.g∧∃v:Int,(∀o,(W1.alloc o).cell? ⟨C.g,3,none⟩=some (.int .i64 v)∧(W1.alloc o).frozen? ⟨C.g,3,none⟩=false)∧
  (∀u o2,(((W1.alloc (.cells #[.int .i64 k,.slice va vm vc,.slice ua um uc] 55)).setCell ⟨C.g,3,none⟩ u).alloc o2).there w.heap.size 0 3)∧
  ∀u,u=IntKind.i64.wrap (v - 1)→∀w9,Stored w.heap.size 0 [.int .i64 6,.slice none 0 0,.slice (some ⟨W1.heap.size+1,0,none⟩) 1 1] (((W1.alloc (.cells #[.int .i64 k,.slice va vm vc,.slice ua um uc] 55)).setCell ⟨C.g,3,none⟩ (.int .i64 u)).alloc (.cells #[.int .i64 k,.slice va vm vc,.slice ua um uc] 55)) w9→PE (Vx cnX) (done C.tk C.en (n+1)) C s w (.returned (.agg #[.int .i64 6,.slice none 0 0,.slice (some ⟨W1.heap.size+1,0,none⟩) 1 1])) w9):=fun W e1 W1 hk hW ⟨v0,a1,⟨cs,a2,a3⟩,a4,a5⟩=>by
  rw[←hp]at a3 a4
  obtain⟨va,vm,vc,ua,um,uc,hcs,_⟩:=cn_open a3
  have hk1:=hk.trans a5
  have hz1:=hk.size
  have hz2:=a5.size
  have hz3:(w.alloc (.cells zCn.toArray 55)).heap.size=w.heap.size+1:=by simp
  have hgl:=a4.lt
  obtain⟨v,c3,hv⟩:=a4.c3
  have hA:∀u o2,KeptG C.g W1 (((W1.alloc (.cells #[.int .i64 p.1.kind,.slice va vm vc,.slice ua um uc] 55)).setCell ⟨C.g,3,none⟩ u).alloc o2):=fun u o2=>((KeptG.alloc _ _ _).trans KeptG.set).trans (KeptG.alloc _ _ _)
  refine⟨p.1.kind,va,vm,vc,ua,um,uc,by rw[a1,a2,hcs],by omega,v,fun o=>⟨by rw[World.cell?_alloc_lt _ _ ⟨C.g,3,none⟩ hgl];exact c3,by rw[World.frozen?_alloc_past _ _ _ (show C.g<W1.heap.size from hgl)];exact a4.fr 3⟩,fun u o2=>HTH.out _ (hk1.trans (hA u o2)),fun u hu w9 hst=> ?_⟩
  have hset:PSt C (pup p.2) ((W1.alloc (.cells #[.int .i64 p.1.kind,.slice va vm vc,.slice ua um uc] 55)).setCell ⟨C.g,3,none⟩ (.int .i64 u)):=(a4.alloc _).set3 (pup p.2) ⟨rfl,rfl⟩ u (fun e=>by
   have h1:=hv e
   have h2:=a4.inv e
   have h3:=hne W hW e
   show u=p.2.ne - 1∧0≤p.2.ne - 1∧p.2.ne - 1≤50
   rw[hu,h1]
   exact⟨IntWalk.i64_in _ (by omega),by omega,by omega⟩)
  have hsz:((W1.alloc (.cells #[.int .i64 p.1.kind,.slice va vm vc,.slice ua um uc] 55)).setCell ⟨C.g,3,none⟩ (.int .i64 u)).heap.size=W1.heap.size+1:=by simp[World.setCell]
  have hrn:=range_new ((W1.alloc (.cells #[.int .i64 p.1.kind,.slice va vm vc,.slice ua um uc] 55)).setCell ⟨C.g,3,none⟩ (.int .i64 u)) [.int .i64 p.1.kind,.slice va vm vc,.slice ua um uc] 55
  rw[hsz]at hrn
  refine box_fin (z:=zCn) hg (hk1.trans (hA _ _)) (by rw[ed];exact hset.alloc _) ?_ hst zCn_ni
  rw[ed]
  refine cnE ⟨by decide,by decide⟩ (slot_none _ _ _) (slot_one hrn ?_ ⟨by omega, ?_⟩)
  ·have h9:=sh_hi (B':=w.heap.size+1) a3 ((hA (.int .i64 u) (.cells #[.int .i64 p.1.kind,.slice va vm vc,.slice ua um uc] 55)).hi (B:=W.heap.size) (by omega)) (by omega)
   rw[hcs]at h9
   exact h9
  ·show W1.heap.size+1<(World.alloc _ _).heap.size
   rw[World.size_alloc,hsz]
   omega
 generalize PE (Vx cnX) (done C.tk C.en (n+1)) C s w=Q at*
 unfold PC.p at*
 unfold zCn at*
 clear h hf HTH ed hm hne hfd h0 hs2 hp
 generalize dnx C.tk s=tx at*
 go_enter Tryz.func204,Tryz.ntmps204
 go_wp2_with fail
 refine HN.out.mono ?_
 rintro e w1 ⟨rfl,hb⟩
 obtain⟨hp1,hk1⟩:=HB0.out w1 hb
 have HP1:=Lib.hid hp1
 have HK1:=Lib.hid hk1
 clear hb hp1 hk1 HN HB0
 have HB2:=Lib.hid (HBG.out w1 HP1.out)
 clear HBG HP1
 go_wp2_with fail
 refine HB2.out.mono ?_
 rintro e w2 hu
 obtain⟨rfl,hp2,hk2⟩:=X1.out _ _ _ hu
 have HK2:=Lib.hid (HK1.out.trans hk2)
 have HP2:=Lib.hid hp2
 have HR2:=Lib.hid (HPR.out w2 hp2)
 clear hu hp2 hk2 HB2 X1 HK1 HPR
 go_wp2_with fail
 refine HR2.out.mono ?_
 rintro e w6 hq
 obtain⟨k,va,vm,vc,ua,um,uc,rfl,hne6,v,hc3,hth,hfin⟩:=HX.out _ _ _ HK2.out HP2.out hq
 have HF:=Lib.hid hfin
 have HTH:=Lib.hid hth
 have d3:=fun o=>(hc3 o).1
 have g3:=fun o=>(hc3 o).2
 clear hq HR2 HX HK2 HP2 hfin hth hc3
 go_wp2_with (refine gateS 55 2 rfl ?_;refine wpList_store_there rfl 55 _ _ rfl w.heap.size 0 rfl [.int .i64 6,.slice none 0 0,.slice (some ⟨w6.heap.size+1,0,none⟩) 1 1] rfl (by kernel_rfl) (one3 rfl rfl) (HTH.out _ _) ?_;intro w9 hst)
 exact bodyPost_ret (v:= .agg #[.int .i64 6,.slice none 0 0,.slice (some ⟨w6.heap.size+1,0,none⟩) 1 1]) (results_one rfl _ _ _ _ _ rfl (Tryz.cnLoad hst.at' rfl)) rfl (HF.out _ (IntWalk.i64_left _).symm _ hst)
theorem one_br (n:Nat)(IH:CSaid 204 (fun tk en=>done tk en n) n)(C:PC)(s:PS)(w:World)(h:PSt C s w)(hf:Fd (n+1) s)(IC:CSaid 125 (fun tk en=>dcnd tk (done tk en n)) n)(hm:dnx C.tk s=(⟨#[91]⟩:ByteArray)):
 Calls Tryz.prog 204 #[C.p] w (PE (Vx cnX) (done C.tk C.en (n+1)) C s w):=by
 have hg:=h.lt
 have hgne:w.heap.size≠C.g:=by omega
 have HTH:Hid (∀W,KeptG C.g (w.alloc (.cells zCn.toArray 55)) W→W.there w.heap.size 0 3):=fun W hk=>hk.there (by simp) hgne (there_new w zCn 55)
 have HN:=Lib.hid (next_any C s _ (h.alloc (.cells zCn.toArray 55)))
 have HB0:Hid (∀W,Below (w.alloc (.cells zCn.toArray 55)).heap.size (w.alloc (.cells zCn.toArray 55)) W→PSt C s W∧KeptG C.g (w.alloc (.cells zCn.toArray 55)) W):=fun W hb=>⟨(h.alloc (.cells zCn.toArray 55)).up hb,KeptG.of_below hb⟩
 have hx0:((dnx C.tk s).toList == [33])=false:=ne_lit [33] (by rw[hm];decide)
 have hx1:=eq_lit [91] hm
 obtain⟨h0,_⟩:=dnx_inv (tk:=C.tk) (s:=s) (by rw[hm];decide)
 obtain⟨s2,hs2⟩:∃s2,s2=dbegin C.tk C.en (⟨#[91]⟩:ByteArray) s:=⟨_,rfl⟩
 obtain⟨p,hp⟩:∃p,p=dcnd C.tk (done C.tk C.en n) s2:=⟨_,rfl⟩
 have ed:done C.tk C.en (n+1) s=(p.1,dfin C.tk C.en (⟨#[93]⟩:ByteArray) p.2):=by
  subst hp
  subst hs2
  rw[done]
  rw[if_neg (by rw[hm];decide),if_pos hm]
 have HBG:=Lib.hid (fun W (hW:PSt C s W)=>begin_any C s (⟨#[91]⟩:ByteArray) W hW (by decide))
 have X1:Hid (∀W e1 W1,PU (dbegin C.tk C.en (⟨#[91]⟩:ByteArray)) C s W e1 W1→e1= .returned (.tuple #[])∧PSt C s2 W1∧KeptG C.g W W1):=fun W e1 W1 hu=>by rw[hs2];exact hu
 have hfd:Fd n s2:=by
  have:s2=deat C.tk C.en (⟨#[91]⟩:ByteArray) (ddeeper C.tk C.en s):=by rw[hs2];unfold dbegin;rw[if_pos hm]
  rw[this]
  exact(hf.deeper h h0).mv (md_eat (tk:=C.tk) (by decide) _)
 have HPR:=Lib.hid (fun W (hW:PSt C s2 W)=>IC C s2 W hW hfd)
 have HX:Hid (∀W e1 W1,KeptG C.g (w.alloc (.cells zCn.toArray 55)) W→PSt C s2 W→PE (Vx cnX) (dcnd C.tk (done C.tk C.en n)) C s2 W e1 W1→∃k va vm vc ua um uc,e1= .returned (.agg #[.int .i64 k,.slice va vm vc,.slice ua um uc])∧(∀o,PSt C p.2 (W1.alloc o))∧(∀W9,KeptG C.g (W1.alloc (.cells #[.int .i64 k,.slice va vm vc,.slice ua um uc] 55)) W9→W9.cell? ⟨W1.heap.size,0,none⟩=some (.int .i64 k)∧W9.cell? ⟨W1.heap.size,1,none⟩=some (.slice va vm vc)∧W9.cell? ⟨W1.heap.size,2,none⟩=some (.slice ua um uc)∧W9.there w.heap.size 0 3∧
  (PSt C (dfin C.tk C.en (⟨#[93]⟩:ByteArray) p.2) W9→∀w9,Stored w.heap.size 0 [.int .i64 k,.slice va vm vc,.slice ua um uc] W9 w9→PE (Vx cnX) (done C.tk C.en (n+1)) C s w (.returned (.agg #[.int .i64 k,.slice va vm vc,.slice ua um uc])) w9))):=fun W e1 W1 hk hW ⟨v,a1,⟨cs,a2,a3⟩,a4,a5⟩=>by
  rw[←hp]at a3 a4
  obtain⟨va,vm,vc,ua,um,uc,hcs,_⟩:=cn_open a3
  have hk1:=hk.trans a5
  have hz1:=hk.size
  have hz2:=a5.size
  have hz3:(w.alloc (.cells zCn.toArray 55)).heap.size=w.heap.size+1:=by simp
  have hgl:=a4.lt
  refine⟨p.1.kind,va,vm,vc,ua,um,uc,by rw[a1,a2,hcs],fun o=>a4.alloc o,fun W9 hk9=> ?_⟩
  have hr:=hk9.range (h:=W1.heap.size) (by simp) (by omega) (range_new W1 [.int .i64 p.1.kind,.slice va vm vc,.slice ua um uc] 55)
  have hka:KeptG C.g W1 W9:=(KeptG.alloc _ _ _).trans hk9
  refine⟨hr 0 _ rfl,hr 1 _ rfl,hr 2 _ rfl,HTH.out _ (hk1.trans hka),fun hpf w9 hst=> ?_⟩
  refine box_fin (z:=zCn) hg (hk1.trans hka) (by rw[ed];exact hpf) ?_ hst zCn_ni
  rw[ed,←hcs]
  exact sh_hi a3 (hka.hi (B:=W.heap.size) (by omega)) (by omega)
 have HFJ:=Lib.hid (fun W2 W3 (h2:PSt C s2 W2) (hW3:PSt C p.2 W3)=>finish_any C p.2 (⟨#[93]⟩:ByteArray) W3 hW3 (by decide) (fun e=>by
  obtain⟨e1,_⟩:=(md_eat (en:=C.en) (tk:=C.tk) (t:=(⟨#[93]⟩:ByteArray)) (by decide) p.2).nx e
  have hmd:Md C.tk s2 p.2:=by rw[hp];exact md_cnd h2 n
  obtain⟨e2,_,e3⟩:=hmd.nx e1
  rw[hs2]at e2 e3
  obtain⟨e4,_,e5,_⟩:=begin_ne (by decide) e2
  have:=(h.inv e4).1
  omega))
 have X3:Hid (∀W e1 W1,PU (dfin C.tk C.en (⟨#[93]⟩:ByteArray)) C p.2 W e1 W1→e1= .returned (.tuple #[])∧PSt C (dfin C.tk C.en (⟨#[93]⟩:ByteArray) p.2) W1∧KeptG C.g W W1):=fun W e1 W1 hu=>hu
 generalize PE (Vx cnX) (done C.tk C.en (n+1)) C s w=Q at*
 unfold PC.p at*
 unfold zCn at*
 clear h hf HTH ed hm hfd h0 hs2 hp IC
 generalize dnx C.tk s=tx at*
 go_enter Tryz.func204,Tryz.ntmps204
 go_wp2_with fail
 refine HN.out.mono ?_
 rintro e w1 ⟨rfl,hb⟩
 obtain⟨hp1,hk1⟩:=HB0.out w1 hb
 have HP1:=Lib.hid hp1
 have HK1:=Lib.hid hk1
 clear hb hp1 hk1 HN HB0
 have HB2:=Lib.hid (HBG.out w1 HP1.out)
 clear HBG HP1
 go_wp2_with fail
 refine HB2.out.mono ?_
 rintro e w2 hu
 obtain⟨rfl,hp2,hk2⟩:=X1.out _ _ _ hu
 have HK2:=Lib.hid (HK1.out.trans hk2)
 have HP2:=Lib.hid hp2
 have HR2:=Lib.hid (HPR.out w2 hp2)
 clear hu hp2 hk2 HB2 X1 HK1 HPR
 go_wp2_with fail
 refine HR2.out.mono ?_
 rintro e w5 hq
 obtain⟨k,va,vm,vc,ua,um,uc,rfl,hps,hall⟩:=HX.out _ _ _ HK2.out HP2.out hq
 have HPS:=Lib.hid hps
 have HAL:=Lib.hid hall
 clear hq HR2 HX hps hall HK2
 go_wp2_with fail
 refine(HFJ.out w2 _ HP2.out (HPS.out _)).mono ?_
 rintro e w6 hu
 obtain⟨rfl,hp6,hk6⟩:=X3.out _ _ _ hu
 obtain⟨z0,z1,z2,hth,hfin⟩:=HAL.out w6 hk6
 have HQ:=Lib.hid (hfin hp6)
 clear hu hp6 hk6 HFJ X3 HPS HAL HP2 hfin
 go_wp2_with (refine gateS 55 2 rfl ?_;refine wpList_store_there rfl 55 _ _ rfl w.heap.size 0 rfl [.int .i64 k,.slice va vm vc,.slice ua um uc] rfl (by kernel_rfl) (one3 rfl rfl) hth ?_;intro w9 hst)
 exact bodyPost_ret (v:= .agg #[.int .i64 k,.slice va vm vc,.slice ua um uc]) (results_one rfl _ _ _ _ _ rfl (Tryz.cnLoad hst.at' rfl)) rfl (HQ.out _ hst)
theorem one_true (n:Nat)(IH:CSaid 204 (fun tk en=>done tk en n) n)(C:PC)(s:PS)(w:World)(h:PSt C s w)(hf:Fd (n+1) s)(hm:dnx C.tk s=(⟨#[116,114,117,101]⟩:ByteArray)):
 Calls Tryz.prog 204 #[C.p] w (PE (Vx cnX) (done C.tk C.en (n+1)) C s w):=by
 have hg:=h.lt
 have hgne:w.heap.size≠C.g:=by omega
 have HTH:Hid (∀W,KeptG C.g (w.alloc (.cells zCn.toArray 55)) W→W.there w.heap.size 0 3):=fun W hk=>hk.there (by simp) hgne (there_new w zCn 55)
 have HN:=Lib.hid (next_any C s _ (h.alloc (.cells zCn.toArray 55)))
 have HB0:Hid (∀W,Below (w.alloc (.cells zCn.toArray 55)).heap.size (w.alloc (.cells zCn.toArray 55)) W→PSt C s W∧KeptG C.g (w.alloc (.cells zCn.toArray 55)) W):=fun W hb=>⟨(h.alloc (.cells zCn.toArray 55)).up hb,KeptG.of_below hb⟩
 have hx0:((dnx C.tk s).toList == [33])=false:=ne_lit [33] (by rw[hm];decide)
 have hx1:((dnx C.tk s).toList == [91])=false:=ne_lit [91] (by rw[hm];decide)
 have hx2:=eq_lit [116,114,117,101] hm
 obtain⟨h0,hnx⟩:=dnx_inv (tk:=C.tk) (s:=s) (by rw[hm];decide)
 have ed:done C.tk C.en (n+1) s=(.mk 0 [] [],pgo s):=by
  rw[done]
  rw[if_neg (by rw[hm];decide),if_neg (by rw[hm];decide),if_pos hm]
 have HX:Hid (∀W,PSt C s W→KeptG C.g (w.alloc (.cells zCn.toArray 55)) W→(W.cell? ⟨C.g,2,none⟩=some (.int .i64 s.nx)∧W.frozen? ⟨C.g,2,none⟩=false∧IntKind.i64.wrap ((s.nx:Int)+1)=(s.nx:Int)+1)∧(∀v,(W.setCell ⟨C.g,2,none⟩ v).there w.heap.size 0 3)∧∀w9,Stored w.heap.size 0 [.int .i64 0,.slice none 0 0,.slice none 0 0] (W.setCell ⟨C.g,2,none⟩ (.int .i64 ((s.nx:Int)+1))) w9→PE (Vx cnX) (done C.tk C.en (n+1)) C s w (.returned (.agg #[.int .i64 0,.slice none 0 0,.slice none 0 0])) w9):=fun W hW hk=>by
  refine⟨two_wrap hW h0,fun v=>HTH.out _ (hk.trans KeptG.set),fun w9 hst=> ?_⟩
  refine box_fin (z:=zCn) hg (hk.trans KeptG.set) (by rw[ed];exact hW.go h0 hnx) ?_ hst zCn_ni
  rw[ed]
  exact cnE ⟨by decide,by decide⟩ (slot_none _ _ _) (slot_none _ _ _)
 generalize PE (Vx cnX) (done C.tk C.en (n+1)) C s w=Q at*
 unfold PC.p at*
 unfold zCn at*
 clear h hf HTH ed hm h0 hnx IH
 generalize dnx C.tk s=tx at*
 go_enter Tryz.func204,Tryz.ntmps204
 go_wp2_with fail
 refine HN.out.mono ?_
 rintro e w1 ⟨rfl,hb⟩
 obtain⟨hp1,hk1⟩:=HB0.out w1 hb
 have HP1:=Lib.hid hp1
 have HK1:=Lib.hid hk1
 clear hb hp1 hk1 HN HB0
 obtain⟨⟨c2,f2,hw2⟩,hth,hfin⟩:=HX.out w1 HP1.out HK1.out
 have HQ:=Lib.hid hfin
 have HTH:=Lib.hid hth
 clear HX HP1 HK1 hfin hth
 go_wp2_with (refine gateS 55 2 rfl ?_;refine wpList_store_there rfl 55 _ _ rfl w.heap.size 0 rfl [.int .i64 0,.slice none 0 0,.slice none 0 0] rfl (by kernel_rfl) (one3 rfl rfl) (HTH.out _) ?_;intro w9 hst)
 exact bodyPost_ret (v:= .agg #[.int .i64 0,.slice none 0 0,.slice none 0 0]) (results_one rfl _ _ _ _ _ rfl (Tryz.cnLoad hst.at' rfl)) rfl (HQ.out _ hst)
theorem one_false (n:Nat)(IH:CSaid 204 (fun tk en=>done tk en n) n)(C:PC)(s:PS)(w:World)(h:PSt C s w)(hf:Fd (n+1) s)(hm:dnx C.tk s=(⟨#[102,97,108,115,101]⟩:ByteArray)):
 Calls Tryz.prog 204 #[C.p] w (PE (Vx cnX) (done C.tk C.en (n+1)) C s w):=by
 have hg:=h.lt
 have hgne:w.heap.size≠C.g:=by omega
 have HTH:Hid (∀W,KeptG C.g (w.alloc (.cells zCn.toArray 55)) W→W.there w.heap.size 0 3):=fun W hk=>hk.there (by simp) hgne (there_new w zCn 55)
 have HN:=Lib.hid (next_any C s _ (h.alloc (.cells zCn.toArray 55)))
 have HB0:Hid (∀W,Below (w.alloc (.cells zCn.toArray 55)).heap.size (w.alloc (.cells zCn.toArray 55)) W→PSt C s W∧KeptG C.g (w.alloc (.cells zCn.toArray 55)) W):=fun W hb=>⟨(h.alloc (.cells zCn.toArray 55)).up hb,KeptG.of_below hb⟩
 have hx0:((dnx C.tk s).toList == [33])=false:=ne_lit [33] (by rw[hm];decide)
 have hx1:((dnx C.tk s).toList == [91])=false:=ne_lit [91] (by rw[hm];decide)
 have hx2:((dnx C.tk s).toList == [116,114,117,101])=false:=ne_lit [116,114,117,101] (by rw[hm];decide)
 have hx3:=eq_lit [102,97,108,115,101] hm
 obtain⟨h0,hnx⟩:=dnx_inv (tk:=C.tk) (s:=s) (by rw[hm];decide)
 have ed:done C.tk C.en (n+1) s=(.mk 1 [] [],pgo s):=by
  rw[done]
  rw[if_neg (by rw[hm];decide),if_neg (by rw[hm];decide),if_neg (by rw[hm];decide),if_pos hm]
 have HX:Hid (∀W,PSt C s W→KeptG C.g (w.alloc (.cells zCn.toArray 55)) W→(W.cell? ⟨C.g,2,none⟩=some (.int .i64 s.nx)∧W.frozen? ⟨C.g,2,none⟩=false∧IntKind.i64.wrap ((s.nx:Int)+1)=(s.nx:Int)+1)∧(∀v,(W.setCell ⟨C.g,2,none⟩ v).there w.heap.size 0 3)∧∀w9,Stored w.heap.size 0 [.int .i64 1,.slice none 0 0,.slice none 0 0] (W.setCell ⟨C.g,2,none⟩ (.int .i64 ((s.nx:Int)+1))) w9→PE (Vx cnX) (done C.tk C.en (n+1)) C s w (.returned (.agg #[.int .i64 1,.slice none 0 0,.slice none 0 0])) w9):=fun W hW hk=>by
  refine⟨two_wrap hW h0,fun v=>HTH.out _ (hk.trans KeptG.set),fun w9 hst=> ?_⟩
  refine box_fin (z:=zCn) hg (hk.trans KeptG.set) (by rw[ed];exact hW.go h0 hnx) ?_ hst zCn_ni
  rw[ed]
  exact cnE ⟨by decide,by decide⟩ (slot_none _ _ _) (slot_none _ _ _)
 generalize PE (Vx cnX) (done C.tk C.en (n+1)) C s w=Q at*
 unfold PC.p at*
 unfold zCn at*
 clear h hf HTH ed hm h0 hnx IH
 generalize dnx C.tk s=tx at*
 go_enter Tryz.func204,Tryz.ntmps204
 go_wp2_with fail
 refine HN.out.mono ?_
 rintro e w1 ⟨rfl,hb⟩
 obtain⟨hp1,hk1⟩:=HB0.out w1 hb
 have HP1:=Lib.hid hp1
 have HK1:=Lib.hid hk1
 clear hb hp1 hk1 HN HB0
 obtain⟨⟨c2,f2,hw2⟩,hth,hfin⟩:=HX.out w1 HP1.out HK1.out
 have HQ:=Lib.hid hfin
 have HTH:=Lib.hid hth
 clear HX HP1 HK1 hfin hth
 go_wp2_with (refine gateS 55 2 rfl ?_;refine wpList_store_there rfl 55 _ _ rfl w.heap.size 0 rfl [.int .i64 1,.slice none 0 0,.slice none 0 0] rfl (by kernel_rfl) (one3 rfl rfl) (HTH.out _) ?_;intro w9 hst)
 exact bodyPost_ret (v:= .agg #[.int .i64 1,.slice none 0 0,.slice none 0 0]) (results_one rfl _ _ _ _ _ rfl (Tryz.cnLoad hst.at' rfl)) rfl (HQ.out _ hst)
end Dc
end Go.Proofs.YtcinokljkieijaaGreatDoor
