/- Parts of a proof. -/
import Derived.Test.YtcinokljkieijaaGreatDoorW01
import Derived.Test.YtcinokljkieijaaGreatDoorW03
import Derived.Test.YtcinokljkieijaaGreatDoorW04
import Derived.Test.YtcinokljkieijaaGreatDoorW05
import Derived.BigQuiet
import Derived.Test.YtcinokljkieijaaGreatDoorQ08
set_option linter.unusedVariables false
set_option linter.unusedSimpArgs false
set_option maxHeartbeats 60000000
set_option maxRecDepth 100000
namespace Go.Proofs.YtcinokljkieijaaGreatDoor
namespace Dc
open Go.RowKit
theorem prod_A1 (n:Nat)(IH:ProdSaid n)(C:PC)(s:PS)(w:World)(h:PSt C s w)(hf:Fd (n+1) s)(hm:dnx C.tk s=(⟨#[45]⟩:ByteArray))(s1:PS)(hs1:s1=pgo s)(h3:pkd C.tk s1=3)(hin:s1.nx+1<C.tk.length)(hno:(C.tk.getD (s1.nx+1) tok0).text=(⟨#[42]⟩:ByteArray)):
 Calls Tryz.prog 181 #[C.p] w (PE (Vx exX) (dprod C.tk C.en (n+1)) C s w):=by
 have hg:=h.lt
 have hgne:w.heap.size≠C.g:=by omega
 have HTH:Hid (∀W,KeptG C.g (w.alloc (.cells zEx.toArray 57)) W→W.there w.heap.size 0 4):=fun W hk=>hk.there (by simp) hgne (there_new w zEx 57)
 have HN:=Lib.hid (next_any C s _ (h.alloc (.cells zEx.toArray 57)))
 obtain⟨h0,hnx⟩:=dnx_inv (tk:=C.tk) (s:=s) (by rw[hm];decide)
 have hx0:=eq_lit [45] hm
 have F2:Hid (∀W,Below (w.alloc (.cells zEx.toArray 57)).heap.size (w.alloc (.cells zEx.toArray 57)) W→(W.cell? ⟨C.g,2,none⟩=some (.int .i64 s.nx)∧W.frozen? ⟨C.g,2,none⟩=false∧IntKind.i64.wrap ((s.nx:Int)+1)=(s.nx:Int)+1)∧PSt C s1 (W.setCell ⟨C.g,2,none⟩ (.int .i64 ((s.nx:Int)+1)))∧KeptG C.g (w.alloc (.cells zEx.toArray 57)) (W.setCell ⟨C.g,2,none⟩ (.int .i64 ((s.nx:Int)+1)))):=fun W hb=>by
  have hW:=(h.alloc (.cells zEx.toArray 57)).up hb
  exact⟨two_wrap hW h0,by rw[hs1];exact hW.go h0 hnx,(KeptG.of_below hb).trans KeptG.set⟩
 have HKD:=Lib.hid (fun W (hW:PSt C s1 W)=>kind_any C s1 W hW)
 obtain⟨h10,h1n⟩:=pkd_inv (tk:=C.tk) (s:=s1) (by rw[h3];decide)
 have hlen:=h.len.1
 have hw5:IntKind.i64.wrap ((s1.nx:Int)+1)=(s1.nx:Int)+1:=IntWalk.i64_in _ (by omega)
 have F5:Hid (∀W,PSt C s1 W→W.cell? ⟨C.g,2,none⟩=some (.int .i64 s1.nx)∧W.cell? ⟨C.g,0,none⟩=some (.slice C.a C.tk.length C.cap)):=fun W hW=>⟨hW.two h10,hW.c0⟩
 have hb5:(s1.nx:Int)+1<(C.tk.length:Int):=by omega
 have hb8:decide ((s1.nx:Int)+1<(C.tk.length:Int))=true:=decide_eq_true (by omega)
 have hb7:(0:Int)≤(s1.nx:Int)+1∧(s1.nx:Int)+1<(C.tk.length:Int):=by omega
 have F6:Hid (∀W,PSt C s1 W→∃b off,C.a=some ⟨b,off,none⟩∧W.cell? ⟨b,off+(s1.nx+1)*3+2,none⟩=some (.string (C.tk.getD (s1.nx+1) tok0).text)):=fun W hW=>by
  obtain⟨b,off,ha,_,_,t2,_⟩:=tok_at hW hin
  exact⟨b,off,ha,t2⟩
 have hx5:=eq_lit [42] hno
 obtain⟨s2,hs2⟩:∃s2,s2=ddeeper C.tk C.en s1:=⟨_,rfl⟩
 obtain⟨s3,hs3⟩:∃s3,s3=deat C.tk C.en (⟨#[42]⟩:ByteArray) (dnum C.tk C.en s2).2:=⟨_,rfl⟩
 obtain⟨p,hp⟩:∃p,p=dprod C.tk C.en n s3:=⟨_,rfl⟩
 have ed:dprod C.tk C.en (n+1) s=(.mk 4 (-(dnum C.tk C.en s2).1) (⟨#[]⟩:ByteArray) [p.1],pup p.2):=by
  subst hp
  subst hs3
  subst hs2
  subst hs1
  rw[dprod]
  simp only[if_pos hm,decide_eq_true hm,if_pos h3]
  unfold dnumE
  rw[if_pos ⟨hin,hno⟩]
  rfl
 have HD:=Lib.hid (fun W (hW:PSt C s1 W)=>deeper_any C s1 W hW h10)
 have XD:Hid (∀W e1 W1,PU (ddeeper C.tk C.en) C s1 W e1 W1→e1= .returned (.tuple #[])∧PSt C s2 W1∧KeptG C.g W W1):=fun W e1 W1 hu=>by rw[hs2];exact hu
 have HNU:=Lib.hid (fun W (hW:PSt C s2 W)=>number_any C s2 W hW)
 have XN:Hid (∀W e1 W1,PE Vi (dnum C.tk C.en) C s2 W e1 W1→e1= .returned (.int .i64 (dnum C.tk C.en s2).1)∧PSt C (dnum C.tk C.en s2).2 W1∧KeptG C.g W W1):=fun W e1 W1 hq=>pe_n hq
 have HM:=Lib.hid (fun W (hW:PSt C (dnum C.tk C.en s2).2 W)=>eat_any C (dnum C.tk C.en s2).2 (⟨#[42]⟩:ByteArray) W hW (by decide))
 have XM:Hid (∀W e1 W1,PU (deat C.tk C.en (⟨#[42]⟩:ByteArray)) C (dnum C.tk C.en s2).2 W e1 W1→e1= .returned (.tuple #[])∧PSt C s3 W1∧KeptG C.g W W1):=fun W e1 W1 hu=>by rw[hs3];exact hu
 have hfd:∀W,PSt C s1 W→Fd n s3:=fun W hW=>by
  rw[hs3,hs2]
  exact((Fd.deeper (by rw[hs1];exact hf.mv (tk:=C.tk) (md_go' h0)) hW h10).mv (md_num _)).mv (md_eat (by decide) _)
 have HPR:=Lib.hid (fun W W2 (hW:PSt C s1 W) (hW2:PSt C s3 W2)=>IH C s3 W2 hW2 (hfd W hW))
 have hne:∀W W3,PSt C s1 W→PSt C s3 W3→p.2.er=none→1≤p.2.ne:=fun W W3 hW hW3 e=>by
  have hmd:Md C.tk s3 p.2:=by rw[hp];exact md_prod hW3 n
  obtain⟨e1,_,e2⟩:=hmd.nx e
  rw[hs3]at e1 e2
  obtain⟨e3,_,e4⟩:=((md_num (tk:=C.tk) (en:=C.en) s2).trans (md_eat (en:=C.en) (t:=(⟨#[42]⟩:ByteArray)) (by decide) _)).nx e1
  rw[hs2]at e3 e4
  obtain⟨e5,e6,_⟩:=deeper_ne e3
  have:=(hW.inv e5).1
  rw[hs2]at e2
  omega
 have HX:Hid (∀W0 W e1 W1,PSt C s1 W0→KeptG C.g (w.alloc (.cells zEx.toArray 57)) W→PSt C s3 W→i64 (-(dnum C.tk C.en s2).1)→PE (Vx exX) (dprod C.tk C.en n) C s3 W e1 W1→∃k m nm va vm vc,e1= .returned (.agg #[.int .i64 k,.int .i64 m,.string nm,.slice va vm vc])∧W1.heap.size≠C.g∧∃v:Int,(∀o,(W1.alloc o).cell? ⟨C.g,3,none⟩=some (.int .i64 v)∧(W1.alloc o).frozen? ⟨C.g,3,none⟩=false)∧
  (∀u o2,(((W1.alloc (.cells #[.int .i64 k,.int .i64 m,.string nm,.slice va vm vc] 57)).setCell ⟨C.g,3,none⟩ u).alloc o2).there w.heap.size 0 4)∧
  ∀u,u=IntKind.i64.wrap (v - 1)→∀w9,Stored w.heap.size 0 [.int .i64 4,.int .i64 (-(dnum C.tk C.en s2).1),.string ⟨#[]⟩,.slice (some ⟨W1.heap.size+1,0,none⟩) 1 1] (((W1.alloc (.cells #[.int .i64 k,.int .i64 m,.string nm,.slice va vm vc] 57)).setCell ⟨C.g,3,none⟩ (.int .i64 u)).alloc (.cells #[.int .i64 k,.int .i64 m,.string nm,.slice va vm vc] 57)) w9→PE (Vx exX) (dprod C.tk C.en (n+1)) C s w (.returned (.agg #[.int .i64 4,.int .i64 (-(dnum C.tk C.en s2).1),.string ⟨#[]⟩,.slice (some ⟨W1.heap.size+1,0,none⟩) 1 1])) w9):=fun V W e1 W1 hV hk hW hn64 ⟨v0,a1,⟨cs,a2,a3⟩,a4,a5⟩=>by
  rw[←hp]at a3 a4
  obtain⟨va,vm,vc,hcs,_⟩:=ex_open a3
  have hk1:=hk.trans a5
  have hz1:=hk.size
  have hz2:=a5.size
  have hz3:(w.alloc (.cells zEx.toArray 57)).heap.size=w.heap.size+1:=by simp
  have hgl:=a4.lt
  obtain⟨v,c3,hv⟩:=a4.c3
  have hA:∀u o2,KeptG C.g W1 (((W1.alloc (.cells #[.int .i64 p.1.kind,.int .i64 p.1.n,.string p.1.name,.slice va vm vc] 57)).setCell ⟨C.g,3,none⟩ u).alloc o2):=fun u o2=>((KeptG.alloc _ _ _).trans KeptG.set).trans (KeptG.alloc _ _ _)
  refine⟨p.1.kind,p.1.n,p.1.name,va,vm,vc,by rw[a1,a2,hcs],by omega,v,fun o=>⟨by rw[World.cell?_alloc_lt _ _ ⟨C.g,3,none⟩ hgl];exact c3,by rw[World.frozen?_alloc_past _ _ _ (show C.g<W1.heap.size from hgl)];exact a4.fr 3⟩,fun u o2=>HTH.out _ (hk1.trans (hA u o2)),fun u hu w9 hst=> ?_⟩
  have hset:PSt C (pup p.2) ((W1.alloc (.cells #[.int .i64 p.1.kind,.int .i64 p.1.n,.string p.1.name,.slice va vm vc] 57)).setCell ⟨C.g,3,none⟩ (.int .i64 u)):=(a4.alloc _).set3 (pup p.2) ⟨rfl,rfl⟩ u (fun e=>by
   have h1:=hv e
   have h2:=a4.inv e
   have h3:=hne V W hV hW e
   show u=p.2.ne - 1∧0≤p.2.ne - 1∧p.2.ne - 1≤50
   rw[hu,h1]
   exact⟨IntWalk.i64_in _ (by omega),by omega,by omega⟩)
  have hsz:((W1.alloc (.cells #[.int .i64 p.1.kind,.int .i64 p.1.n,.string p.1.name,.slice va vm vc] 57)).setCell ⟨C.g,3,none⟩ (.int .i64 u)).heap.size=W1.heap.size+1:=by simp[World.setCell]
  have hrn:=range_new ((W1.alloc (.cells #[.int .i64 p.1.kind,.int .i64 p.1.n,.string p.1.name,.slice va vm vc] 57)).setCell ⟨C.g,3,none⟩ (.int .i64 u)) [.int .i64 p.1.kind,.int .i64 p.1.n,.string p.1.name,.slice va vm vc] 57
  rw[hsz]at hrn
  refine box_fin (z:=zEx) hg (hk1.trans (hA _ _)) (by rw[ed];exact hset.alloc _) ?_ hst zEx_ni
  rw[ed]
  refine exE (k:=4) (n:=(-(dnum C.tk C.en s2).1)) (nm:=(⟨#[]⟩:ByteArray)) ⟨by decide,by decide⟩ hn64 (by decide) (slot_one hrn ?_ ⟨by omega, ?_⟩)
  ·have h9:=sh_hi (B':=w.heap.size+1) a3 ((hA (.int .i64 u) (.cells #[.int .i64 p.1.kind,.int .i64 p.1.n,.string p.1.name,.slice va vm vc] 57)).hi (B:=W.heap.size) (by omega)) (by omega)
   rw[hcs]at h9
   exact h9
  ·show W1.heap.size+1<(World.alloc _ _).heap.size
   rw[World.size_alloc,hsz]
   omega
 have HZW:Hid (∀W,PSt C s2 W→IntKind.i64.wrap (-(dnum C.tk C.en s2).1)= -(dnum C.tk C.en s2).1∧i64 (-(dnum C.tk C.en s2).1)):=fun W hW=>by
  have hle:=dnum_le hW
  exact⟨IntWalk.i64_in _ (by omega),by unfold i64;omega⟩
 have h3b:(pkd C.tk s1 == 3)=true:=by rw[h3];rfl
 generalize PE (Vx exX) (dprod C.tk C.en (n+1)) C s w=Q at*
 unfold PC.p at*
 unfold zEx at*
 clear h hf HTH ed hm hno hne hfd h0 hnx
 have HS1:=Lib.hid hs1
 clear hs1 hs2 hs3 hp
 generalize (dnum C.tk C.en s2).1=z at*
 generalize (dnum C.tk C.en s2).2=s2b at*
 generalize pkd C.tk s1=kd at*
 generalize dnx C.tk s=tx at*
 generalize (C.tk.getD (s1.nx+1) tok0).text=ty at*
 generalize C.tk.length=L at*
 go_enter Tryz.func181,Tryz.ntmps181
 go_wp2_with fail
 refine HN.out.mono ?_
 rintro e w1 ⟨rfl,hb⟩
 obtain⟨⟨c2,f2,hw2⟩,hp1,hk1⟩:=F2.out w1 hb
 have HK1:=Lib.hid (HKD.out _ hp1)
 have HP1:=Lib.hid hp1
 have HKK:=Lib.hid hk1
 clear hb hp1 hk1 HN F2 HKD
 go_wp2_with fail
 refine HK1.out.mono ?_
 rintro e w2 ⟨rfl,hb⟩
 have HP2:=Lib.hid (HP1.out.up hb)
 have HK2:=Lib.hid (HKK.out.trans (KeptG.of_below hb))
 clear hb HK1 HP1 HKK c2 f2 hw2
 obtain⟨c2,c0⟩:=F5.out w2 HP2.out
 obtain⟨b,off,ha,t2⟩:=F6.out w2 HP2.out
 rw[ha]at c0
 have HPd:=Lib.hid (fun k=>HP2.out.drewN k)
 have HKd:=Lib.hid (fun k=>HK2.out.trans (kept_drewN C.g w2 k))
 clear HK2 F5 h3
 go_wp2_with fail
 go_quiet (fail)
 go_wp2_with fail
 refine(HD.out _ (HPd.out _)).mono ?_
 rintro e w3 hu
 obtain⟨rfl,hp3,hk3⟩:=XD.out _ _ _ hu
 have HK3:=Lib.hid ((HKd.out _).trans hk3)
 obtain⟨hzw,hzi⟩:=HZW.out w3 hp3
 have HZI:=Lib.hid hzi
 have HN3:=Lib.hid (HNU.out w3 hp3)
 clear hu hp3 hk3 HD XD HPd HKd HZW hzi HNU c0 c2 t2
 go_wp2_with fail
 refine HN3.out.mono ?_
 rintro e w4 hq
 obtain⟨rfl,hp4,hk4⟩:=XN.out _ _ _ hq
 have HK4:=Lib.hid (HK3.out.trans hk4)
 have HM4:=Lib.hid (HM.out w4 hp4)
 clear hq hp4 hk4 HN3 XN HM HK3
 go_wp2_with fail
 refine HM4.out.mono ?_
 rintro e w5 hu
 obtain⟨rfl,hp5,hk5⟩:=XM.out _ _ _ hu
 have HK5:=Lib.hid (HK4.out.trans hk5)
 have HP5:=Lib.hid hp5
 have HR5:=Lib.hid (HPR.out w2 w5 HP2.out hp5)
 clear hu hp5 hk5 HM4 XM HK4 HPR
 go_wp2_with fail
 refine HR5.out.mono ?_
 rintro e w6 hq
 obtain⟨k,m,nm,va,vm,vc,rfl,hne6,v,hc3,hth,hfin⟩:=HX.out w2 _ _ _ HP2.out HK5.out HP5.out HZI.out hq
 have HF:=Lib.hid hfin
 have HTH:=Lib.hid hth
 have d3:=fun o=>(hc3 o).1
 have g3:=fun o=>(hc3 o).2
 clear hq HR5 HX HK5 HP5 HP2 hfin hth hc3 HZI
 go_wp2_with (refine gateS 57 2 rfl ?_;refine wpList_store_there rfl 57 _ _ rfl w.heap.size 0 rfl [.int .i64 4,.int .i64 (-z),.string ⟨#[]⟩,.slice (some ⟨w6.heap.size+1,0,none⟩) 1 1] rfl (by kernel_rfl) (one4 rfl) (HTH.out _ _) ?_;intro w9 hst)
 exact bodyPost_ret (v:= .agg #[.int .i64 4,.int .i64 (-z),.string ⟨#[]⟩,.slice (some ⟨w6.heap.size+1,0,none⟩) 1 1]) (results_one rfl _ _ _ _ _ rfl (Tryz.exLoad hst.at' rfl)) rfl (HF.out _ (IntWalk.i64_left _).symm _ hst)
theorem prod_B1 (n:Nat)(IH:ProdSaid n)(C:PC)(s:PS)(w:World)(h:PSt C s w)(hf:Fd (n+1) s)(hm:¬dnx C.tk s=(⟨#[45]⟩:ByteArray))(s1:PS)(hs1:s1=s)(h3:pkd C.tk s1=3)(hin:s1.nx+1<C.tk.length)(hno:(C.tk.getD (s1.nx+1) tok0).text=(⟨#[42]⟩:ByteArray)):
 Calls Tryz.prog 181 #[C.p] w (PE (Vx exX) (dprod C.tk C.en (n+1)) C s w):=by
 have hg:=h.lt
 have hgne:w.heap.size≠C.g:=by omega
 have HTH:Hid (∀W,KeptG C.g (w.alloc (.cells zEx.toArray 57)) W→W.there w.heap.size 0 4):=fun W hk=>hk.there (by simp) hgne (there_new w zEx 57)
 have HN:=Lib.hid (next_any C s _ (h.alloc (.cells zEx.toArray 57)))
 have hx0:=ne_lit [45] hm
 have F2:Hid (∀W,Below (w.alloc (.cells zEx.toArray 57)).heap.size (w.alloc (.cells zEx.toArray 57)) W→PSt C s1 W):=fun W hb=>by rw[hs1];exact(h.alloc (.cells zEx.toArray 57)).up hb
 have HKD:=Lib.hid (fun W (hW:PSt C s1 W)=>kind_any C s1 W hW)
 obtain⟨h10,h1n⟩:=pkd_inv (tk:=C.tk) (s:=s1) (by rw[h3];decide)
 have hlen:=h.len.1
 have hw5:IntKind.i64.wrap ((s1.nx:Int)+1)=(s1.nx:Int)+1:=IntWalk.i64_in _ (by omega)
 have F5:Hid (∀W,PSt C s1 W→W.cell? ⟨C.g,2,none⟩=some (.int .i64 s1.nx)∧W.cell? ⟨C.g,0,none⟩=some (.slice C.a C.tk.length C.cap)):=fun W hW=>⟨hW.two h10,hW.c0⟩
 have hb5:(s1.nx:Int)+1<(C.tk.length:Int):=by omega
 have hb8:decide ((s1.nx:Int)+1<(C.tk.length:Int))=true:=decide_eq_true (by omega)
 have hb7:(0:Int)≤(s1.nx:Int)+1∧(s1.nx:Int)+1<(C.tk.length:Int):=by omega
 have F6:Hid (∀W,PSt C s1 W→∃b off,C.a=some ⟨b,off,none⟩∧W.cell? ⟨b,off+(s1.nx+1)*3+2,none⟩=some (.string (C.tk.getD (s1.nx+1) tok0).text)):=fun W hW=>by
  obtain⟨b,off,ha,_,_,t2,_⟩:=tok_at hW hin
  exact⟨b,off,ha,t2⟩
 have hx5:=eq_lit [42] hno
 obtain⟨s2,hs2⟩:∃s2,s2=ddeeper C.tk C.en s1:=⟨_,rfl⟩
 obtain⟨s3,hs3⟩:∃s3,s3=deat C.tk C.en (⟨#[42]⟩:ByteArray) (dnum C.tk C.en s2).2:=⟨_,rfl⟩
 obtain⟨p,hp⟩:∃p,p=dprod C.tk C.en n s3:=⟨_,rfl⟩
 have ed:dprod C.tk C.en (n+1) s=(.mk 4 (dnum C.tk C.en s2).1 (⟨#[]⟩:ByteArray) [p.1],pup p.2):=by
  subst hp
  subst hs3
  subst hs2
  subst hs1
  rw[dprod]
  simp only[if_neg hm,decide_eq_false hm,if_pos h3]
  unfold dnumE
  rw[if_pos ⟨hin,hno⟩]
  rfl
 have HD:=Lib.hid (fun W (hW:PSt C s1 W)=>deeper_any C s1 W hW h10)
 have XD:Hid (∀W e1 W1,PU (ddeeper C.tk C.en) C s1 W e1 W1→e1= .returned (.tuple #[])∧PSt C s2 W1∧KeptG C.g W W1):=fun W e1 W1 hu=>by rw[hs2];exact hu
 have HNU:=Lib.hid (fun W (hW:PSt C s2 W)=>number_any C s2 W hW)
 have XN:Hid (∀W e1 W1,PE Vi (dnum C.tk C.en) C s2 W e1 W1→e1= .returned (.int .i64 (dnum C.tk C.en s2).1)∧PSt C (dnum C.tk C.en s2).2 W1∧KeptG C.g W W1):=fun W e1 W1 hq=>pe_n hq
 have HM:=Lib.hid (fun W (hW:PSt C (dnum C.tk C.en s2).2 W)=>eat_any C (dnum C.tk C.en s2).2 (⟨#[42]⟩:ByteArray) W hW (by decide))
 have XM:Hid (∀W e1 W1,PU (deat C.tk C.en (⟨#[42]⟩:ByteArray)) C (dnum C.tk C.en s2).2 W e1 W1→e1= .returned (.tuple #[])∧PSt C s3 W1∧KeptG C.g W W1):=fun W e1 W1 hu=>by rw[hs3];exact hu
 have hfd:∀W,PSt C s1 W→Fd n s3:=fun W hW=>by
  rw[hs3,hs2]
  exact((Fd.deeper (by rw[hs1];exact hf) hW h10).mv (md_num _)).mv (md_eat (by decide) _)
 have HPR:=Lib.hid (fun W W2 (hW:PSt C s1 W) (hW2:PSt C s3 W2)=>IH C s3 W2 hW2 (hfd W hW))
 have hne:∀W W3,PSt C s1 W→PSt C s3 W3→p.2.er=none→1≤p.2.ne:=fun W W3 hW hW3 e=>by
  have hmd:Md C.tk s3 p.2:=by rw[hp];exact md_prod hW3 n
  obtain⟨e1,_,e2⟩:=hmd.nx e
  rw[hs3]at e1 e2
  obtain⟨e3,_,e4⟩:=((md_num (tk:=C.tk) (en:=C.en) s2).trans (md_eat (en:=C.en) (t:=(⟨#[42]⟩:ByteArray)) (by decide) _)).nx e1
  rw[hs2]at e3 e4
  obtain⟨e5,e6,_⟩:=deeper_ne e3
  have:=(hW.inv e5).1
  rw[hs2]at e2
  omega
 have HX:Hid (∀W0 W e1 W1,PSt C s1 W0→KeptG C.g (w.alloc (.cells zEx.toArray 57)) W→PSt C s3 W→i64 (dnum C.tk C.en s2).1→PE (Vx exX) (dprod C.tk C.en n) C s3 W e1 W1→∃k m nm va vm vc,e1= .returned (.agg #[.int .i64 k,.int .i64 m,.string nm,.slice va vm vc])∧W1.heap.size≠C.g∧∃v:Int,(∀o,(W1.alloc o).cell? ⟨C.g,3,none⟩=some (.int .i64 v)∧(W1.alloc o).frozen? ⟨C.g,3,none⟩=false)∧
  (∀u o2,(((W1.alloc (.cells #[.int .i64 k,.int .i64 m,.string nm,.slice va vm vc] 57)).setCell ⟨C.g,3,none⟩ u).alloc o2).there w.heap.size 0 4)∧
  ∀u,u=IntKind.i64.wrap (v - 1)→∀w9,Stored w.heap.size 0 [.int .i64 4,.int .i64 (dnum C.tk C.en s2).1,.string ⟨#[]⟩,.slice (some ⟨W1.heap.size+1,0,none⟩) 1 1] (((W1.alloc (.cells #[.int .i64 k,.int .i64 m,.string nm,.slice va vm vc] 57)).setCell ⟨C.g,3,none⟩ (.int .i64 u)).alloc (.cells #[.int .i64 k,.int .i64 m,.string nm,.slice va vm vc] 57)) w9→PE (Vx exX) (dprod C.tk C.en (n+1)) C s w (.returned (.agg #[.int .i64 4,.int .i64 (dnum C.tk C.en s2).1,.string ⟨#[]⟩,.slice (some ⟨W1.heap.size+1,0,none⟩) 1 1])) w9):=fun V W e1 W1 hV hk hW hn64 ⟨v0,a1,⟨cs,a2,a3⟩,a4,a5⟩=>by
  rw[←hp]at a3 a4
  obtain⟨va,vm,vc,hcs,_⟩:=ex_open a3
  have hk1:=hk.trans a5
  have hz1:=hk.size
  have hz2:=a5.size
  have hz3:(w.alloc (.cells zEx.toArray 57)).heap.size=w.heap.size+1:=by simp
  have hgl:=a4.lt
  obtain⟨v,c3,hv⟩:=a4.c3
  have hA:∀u o2,KeptG C.g W1 (((W1.alloc (.cells #[.int .i64 p.1.kind,.int .i64 p.1.n,.string p.1.name,.slice va vm vc] 57)).setCell ⟨C.g,3,none⟩ u).alloc o2):=fun u o2=>((KeptG.alloc _ _ _).trans KeptG.set).trans (KeptG.alloc _ _ _)
  refine⟨p.1.kind,p.1.n,p.1.name,va,vm,vc,by rw[a1,a2,hcs],by omega,v,fun o=>⟨by rw[World.cell?_alloc_lt _ _ ⟨C.g,3,none⟩ hgl];exact c3,by rw[World.frozen?_alloc_past _ _ _ (show C.g<W1.heap.size from hgl)];exact a4.fr 3⟩,fun u o2=>HTH.out _ (hk1.trans (hA u o2)),fun u hu w9 hst=> ?_⟩
  have hset:PSt C (pup p.2) ((W1.alloc (.cells #[.int .i64 p.1.kind,.int .i64 p.1.n,.string p.1.name,.slice va vm vc] 57)).setCell ⟨C.g,3,none⟩ (.int .i64 u)):=(a4.alloc _).set3 (pup p.2) ⟨rfl,rfl⟩ u (fun e=>by
   have h1:=hv e
   have h2:=a4.inv e
   have h3:=hne V W hV hW e
   show u=p.2.ne - 1∧0≤p.2.ne - 1∧p.2.ne - 1≤50
   rw[hu,h1]
   exact⟨IntWalk.i64_in _ (by omega),by omega,by omega⟩)
  have hsz:((W1.alloc (.cells #[.int .i64 p.1.kind,.int .i64 p.1.n,.string p.1.name,.slice va vm vc] 57)).setCell ⟨C.g,3,none⟩ (.int .i64 u)).heap.size=W1.heap.size+1:=by simp[World.setCell]
  have hrn:=range_new ((W1.alloc (.cells #[.int .i64 p.1.kind,.int .i64 p.1.n,.string p.1.name,.slice va vm vc] 57)).setCell ⟨C.g,3,none⟩ (.int .i64 u)) [.int .i64 p.1.kind,.int .i64 p.1.n,.string p.1.name,.slice va vm vc] 57
  rw[hsz]at hrn
  refine box_fin (z:=zEx) hg (hk1.trans (hA _ _)) (by rw[ed];exact hset.alloc _) ?_ hst zEx_ni
  rw[ed]
  refine exE (k:=4) (n:=(dnum C.tk C.en s2).1) (nm:=(⟨#[]⟩:ByteArray)) ⟨by decide,by decide⟩ hn64 (by decide) (slot_one hrn ?_ ⟨by omega, ?_⟩)
  ·have h9:=sh_hi (B':=w.heap.size+1) a3 ((hA (.int .i64 u) (.cells #[.int .i64 p.1.kind,.int .i64 p.1.n,.string p.1.name,.slice va vm vc] 57)).hi (B:=W.heap.size) (by omega)) (by omega)
   rw[hcs]at h9
   exact h9
  ·show W1.heap.size+1<(World.alloc _ _).heap.size
   rw[World.size_alloc,hsz]
   omega
 have HZW:Hid (∀W,PSt C s2 W→IntKind.i64.wrap (-(dnum C.tk C.en s2).1)= -(dnum C.tk C.en s2).1∧i64 (dnum C.tk C.en s2).1):=fun W hW=>by
  have hle:=dnum_le hW
  exact⟨IntWalk.i64_in _ (by omega),by unfold i64;omega⟩
 have h3b:(pkd C.tk s1 == 3)=true:=by rw[h3];rfl
 generalize PE (Vx exX) (dprod C.tk C.en (n+1)) C s w=Q at*
 unfold PC.p at*
 unfold zEx at*
 clear h hf HTH ed hm hno hne hfd
 have HS1:=Lib.hid hs1
 clear hs1 hs2 hs3 hp
 generalize (dnum C.tk C.en s2).1=z at*
 generalize (dnum C.tk C.en s2).2=s2b at*
 generalize pkd C.tk s1=kd at*
 generalize dnx C.tk s=tx at*
 generalize (C.tk.getD (s1.nx+1) tok0).text=ty at*
 generalize C.tk.length=L at*
 go_enter Tryz.func181,Tryz.ntmps181
 go_wp2_with fail
 refine HN.out.mono ?_
 rintro e w1 ⟨rfl,hb⟩
 have HK1:=Lib.hid (HKD.out _ (F2.out w1 hb))
 have HP1:=Lib.hid (F2.out w1 hb)
 have HKK:=Lib.hid (KeptG.of_below (g:=C.g) hb)
 clear hb HN F2 HKD
 go_wp2_with fail
 refine HK1.out.mono ?_
 rintro e w2 ⟨rfl,hb⟩
 have HP2:=Lib.hid (HP1.out.up hb)
 have HK2:=Lib.hid (HKK.out.trans (KeptG.of_below hb))
 clear hb HK1 HP1 HKK
 obtain⟨c2,c0⟩:=F5.out w2 HP2.out
 obtain⟨b,off,ha,t2⟩:=F6.out w2 HP2.out
 rw[ha]at c0
 have HPd:=Lib.hid (fun k=>HP2.out.drewN k)
 have HKd:=Lib.hid (fun k=>HK2.out.trans (kept_drewN C.g w2 k))
 clear HK2 F5 h3
 go_wp2_with fail
 go_quiet (fail)
 go_wp2_with fail
 refine(HD.out _ (HPd.out _)).mono ?_
 rintro e w3 hu
 obtain⟨rfl,hp3,hk3⟩:=XD.out _ _ _ hu
 have HK3:=Lib.hid ((HKd.out _).trans hk3)
 obtain⟨hzw,hzi⟩:=HZW.out w3 hp3
 have HZI:=Lib.hid hzi
 have HN3:=Lib.hid (HNU.out w3 hp3)
 clear hu hp3 hk3 HD XD HPd HKd HZW hzi HNU c0 c2 t2
 go_wp2_with fail
 refine HN3.out.mono ?_
 rintro e w4 hq
 obtain⟨rfl,hp4,hk4⟩:=XN.out _ _ _ hq
 have HK4:=Lib.hid (HK3.out.trans hk4)
 have HM4:=Lib.hid (HM.out w4 hp4)
 clear hq hp4 hk4 HN3 XN HM HK3
 go_wp2_with fail
 refine HM4.out.mono ?_
 rintro e w5 hu
 obtain⟨rfl,hp5,hk5⟩:=XM.out _ _ _ hu
 have HK5:=Lib.hid (HK4.out.trans hk5)
 have HP5:=Lib.hid hp5
 have HR5:=Lib.hid (HPR.out w2 w5 HP2.out hp5)
 clear hu hp5 hk5 HM4 XM HK4 HPR
 go_wp2_with fail
 refine HR5.out.mono ?_
 rintro e w6 hq
 obtain⟨k,m,nm,va,vm,vc,rfl,hne6,v,hc3,hth,hfin⟩:=HX.out w2 _ _ _ HP2.out HK5.out HP5.out HZI.out hq
 have HF:=Lib.hid hfin
 have HTH:=Lib.hid hth
 have d3:=fun o=>(hc3 o).1
 have g3:=fun o=>(hc3 o).2
 clear hq HR5 HX HK5 HP5 HP2 hfin hth hc3 HZI
 go_wp2_with (refine gateS 57 2 rfl ?_;refine wpList_store_there rfl 57 _ _ rfl w.heap.size 0 rfl [.int .i64 4,.int .i64 z,.string ⟨#[]⟩,.slice (some ⟨w6.heap.size+1,0,none⟩) 1 1] rfl (by kernel_rfl) (one4 rfl) (HTH.out _ _) ?_;intro w9 hst)
 exact bodyPost_ret (v:= .agg #[.int .i64 4,.int .i64 z,.string ⟨#[]⟩,.slice (some ⟨w6.heap.size+1,0,none⟩) 1 1]) (results_one rfl _ _ _ _ _ rfl (Tryz.exLoad hst.at' rfl)) rfl (HF.out _ (IntWalk.i64_left _).symm _ hst)
end Dc
namespace Dc
open Go.RowKit
theorem prod_said:∀n,ProdSaid n
 | 0=>fun C s w h hf=>absurd hf.pos (by decide)
 | n+1=>fun C s w h hf=>by
   have IH:=prod_said n
   by_cases hm:dnx C.tk s=(⟨#[45]⟩:ByteArray)
   ·by_cases h3:pkd C.tk (pgo s)=3
    ·by_cases hin:(pgo s).nx+1<C.tk.length
     ·by_cases hno:(C.tk.getD ((pgo s).nx+1) tok0).text=(⟨#[42]⟩:ByteArray)
      ·exact prod_A1 n IH C s w h hf hm (pgo s) rfl h3 hin hno
      ·exact prod_A2n n IH C s w h hf hm (pgo s) rfl h3 hin hno
     ·exact prod_A2e n IH C s w h hf hm (pgo s) rfl h3 hin
    ·exact prod_A3 n IH C s w h hf hm (pgo s) rfl h3
   ·by_cases h3:pkd C.tk s=3
    ·by_cases hin:s.nx+1<C.tk.length
     ·by_cases hno:(C.tk.getD (s.nx+1) tok0).text=(⟨#[42]⟩:ByteArray)
      ·exact prod_B1 n IH C s w h hf hm s rfl h3 hin hno
      ·exact prod_B2n n IH C s w h hf hm s rfl h3 hin hno
     ·exact prod_B2e n IH C s w h hf hm s rfl h3 hin
    ·by_cases hb:dnx C.tk s=(⟨#[40]⟩:ByteArray)
     ·exact prod_C n IH C s w h hf (fun C s w h hf=>expr_loop n IH C s w h hf) hm s rfl h3 hb
     ·exact prod_D n IH C s w h hf hm s rfl h3 hb
theorem expr_any (C:PC)(s:PS)(w:World)(h:PSt C s w):Calls Tryz.prog 126 #[C.p] w (PE (Vx exX) (dex C.tk C.en) C s w):=expr_loop 53 (prod_said 53) C s w h h.top
theorem md_ex {C:PC}{s:PS}{w:World}(h:PSt C s w):Md C.tk s (dex C.tk C.en s).2:=md_of (ag_ex h.sh (Sq.same h.ok)) (mv_ex s)
theorem md_one {C:PC}{s:PS}{w:World}(h:PSt C s w)(n:Nat):Md C.tk s (done C.tk C.en n s).2:=md_of (ag_one h.sh n (Sq.same h.ok)) (mv_one n s)
theorem md_all {C:PC}{s:PS}{w:World}(h:PSt C s w)(n:Nat):Md C.tk s (dall C.tk (done C.tk C.en n) s).2:=md_of (ag_all h.sh (fun h'=>ag_one h.sh n h') (fun s=>mv_one n s) (Sq.same h.ok)) (mv_all (fun s=>mv_one n s) s)
theorem md_cnd {C:PC}{s:PS}{w:World}(h:PSt C s w)(n:Nat):Md C.tk s (dcnd C.tk (done C.tk C.en n) s).2:=md_of (ag_cnd h.sh (fun h'=>ag_one h.sh n h') (fun s=>mv_one n s) (Sq.same h.ok)) (mv_cnd (fun s=>mv_one n s) s)
theorem cn_open {S:Nat→Prop}{w:World}{cs:List Value}{x:CT}(h:cnX.rel S w cs x):∃a m c a2 m2 c2,cs=[.int .i64 x.kind,.slice a m c,.slice a2 m2 c2]∧i64 x.kind:=by
 obtain⟨n,h⟩:=h
 cases n with
 | zero=>exact h.elim
 | succ n=>
   obtain⟨u,v,h1,h2,⟨a,c,rfl,_⟩,⟨a2,c2,rfl,_⟩⟩:=h
   exact⟨a,_,c,a2,_,c2,h1,h2⟩
def CSaid (fn:Nat)(f:List Tok→Nat→PS→CT×PS)(n:Nat):Prop:=∀(C:PC) (s:PS) (w:World),PSt C s w→Fd n s→Calls Tryz.prog fn #[C.p] w (PE (Vx cnX) (f C.tk C.en) C s w)
theorem all_loop (n:Nat)(IH:CSaid 204 (fun tk en=>(done tk en n)) n)(C:PC)(s:PS)(w:World)(h:PSt C s w)(hf:Fd n s):
 Calls Tryz.prog 180 #[C.p] w (PE (Vx cnX) ((dall C.tk (done C.tk C.en n))) C s w):=by
 have hg:=h.lt
 have HC0:=Lib.hid (IH C s _ (h.alloc (.cells zCn.toArray 55)) hf)
 obtain⟨T,hT⟩:∃T,T=(dall C.tk (done C.tk C.en n)) s:=⟨_,rfl⟩
 have HS:Hid (∀W1 e1,PE (Vx cnX) ((done C.tk C.en n)) C s (w.alloc (.cells zCn.toArray 55)) e1 W1→∃cs:List Value,e1= .returned (.agg cs.toArray)∧cs.length=3∧(∀u∈cs,u.oneCell'=true)∧Hid (LP cnX C w W1.heap.size ((done C.tk C.en n) s).2 ((done C.tk C.en n) s).1 cs (W1.alloc (.cells cs.toArray 55)))):=fun W1 e1 ⟨v,a1,⟨cs,a2,a3⟩,a4,a5⟩=>⟨cs,by rw[a1,a2],cnX.len a3,cnX.one a3,LP.start hg rfl zCn_ni a4 a5 (by simpa using a3)⟩
 have hfin:∀k x s2,dbin C.tk (⟨#[38,38]⟩:ByteArray) (fun a b=>CT.mk 7 [] [a,b]) ((done C.tk C.en n)) k x s2=T→(k=0→False)→¬dnx C.tk s2=(⟨#[38,38]⟩:ByteArray)→(dall C.tk (done C.tk C.en n)) s=(x,s2):=fun k x s2 hk h0 hp=>by
  cases k with
  | zero=>exact(h0 rfl).elim
  | succ k=>
    unfold dbin at hk
    rw[if_neg hp]at hk
    rw[←hT,←hk]
 have HF:=Lib.hid hfin
 have hst0:dbin C.tk (⟨#[38,38]⟩:ByteArray) (fun a b=>CT.mk 7 [] [a,b]) ((done C.tk C.en n)) (C.tk.length+1) ((done C.tk C.en n) s).1 ((done C.tk C.en n) s).2=T:=by rw[hT];rfl
 have HT0:=Lib.hid hst0
 have HFU:=Lib.hid (fun s2 (m:Md C.tk s s2)=>hf.mv m)
 have m0:=Lib.hid (md_one h n)
 have HEND:Hid (∀M s2 x cs wr w9 k,LP cnX C w M s2 x cs wr→Stored w.heap.size 0 cs wr w9→dbin C.tk (⟨#[38,38]⟩:ByteArray) (fun a b=>CT.mk 7 [] [a,b]) ((done C.tk C.en n)) k x s2=T→(k=0→False)→¬dnx C.tk s2=(⟨#[38,38]⟩:ByteArray)→PE (Vx cnX) ((dall C.tk (done C.tk C.en n))) C s w (.returned (.agg cs.toArray)) w9):=fun M s2 x cs wr w9 k hl hst hk h0 hp=>hl.fin hst (HF.out k x s2 hk h0 hp)
 generalize PE (Vx cnX) ((dall C.tk (done C.tk C.en n))) C s w=Q at*
 clear h hf hT hst0 hfin HF
 unfold zCn at*
 go_enter Tryz.func180,Tryz.ntmps180
 go_wp2_with fail
 refine HC0.out.mono ?_
 rintro e w1 hq
 obtain⟨cs0,rfl,hl0,ho0,hlp0⟩:=HS.out _ _ hq
 clear hq HC0 HS
 have hM:w1.heap.size≠C.g:=by have:=hlp0.out.ml.1;omega
 go_wp2_with (refine gateS 55 3 rfl ?_;refine wpList_store_fresh (by kernel_rfl) 55 _ _ rfl _ rfl cs0 rfl (by rw[hl0];kernel_rfl) (by rw[hl0];rfl) ho0 ?_)
 have hM1:w.heap.size+1≤w1.heap.size:=hlp0.out.ml.1
 generalize w1.heap.size=M at*
 simp only[Act.put]
 go_loopw [] (fun wr=>∃(k:Nat) (s2:PS) (x:CT) (cs:List Value),Hid (LP cnX C w M s2 x cs wr)∧Hid (dbin C.tk (⟨#[38,38]⟩:ByteArray) (fun a b=>CT.mk 7 [] [a,b]) ((done C.tk C.en n)) k x s2=T)∧Hid (Md C.tk s s2)∧Hid (1≤k∧(s2.er=none→C.tk.length+1≤k+s2.nx))) (fun wr=>mz C wr)
 case atStart=>exact⟨_,_,_,_,hlp0,HT0.out,m0,Lib.hid ⟨Nat.succ_le_succ (Nat.zero_le _),fun _=>Nat.le_add_right _ _⟩⟩
 case round=>
  clear hlp0 HT0 m0 hl0 ho0
  obtain⟨k,s2,x,cs,hlp,hk,hmv,hfu⟩:=hrel
  obtain⟨wo,rfl⟩:∃wo:World,wo=wr:=⟨_,rfl⟩
  have HN:=Lib.hid (next_any C s2 wo hlp.out.ps)
  by_cases hp:dnx C.tk s2=(⟨#[38,38]⟩:ByteArray)
  ·obtain⟨h20,hnx⟩:=dnx_inv (tk:=C.tk) (s:=s2) (by rw[hp];decide)
   have hmv3:Md C.tk s (pgo s2):=hmv.out.trans (md_go h20)
   have HG:Hid (∀W,Below wo.heap.size wo W→(W.cell? ⟨C.g,2,none⟩=some (.int .i64 s2.nx)∧W.frozen? ⟨C.g,2,none⟩=false∧IntKind.i64.wrap ((s2.nx:Int)+1)=(s2.nx:Int)+1)∧LP cnX C w M (pgo s2) x cs (W.setCell ⟨C.g,2,none⟩ (.int .i64 ((s2.nx:Int)+1)))):=fun W hb=>by
    have hW:=hlp.out.ps.up hb
    exact⟨two_wrap hW h20,hlp.out.step ((KeptG.of_below hb).trans KeptG.set) (hW.go h20 hnx)⟩
   have HPS:=Lib.hid (fun W (hl:LP cnX C w M (pgo s2) x cs W)=>IH C (pgo s2) W hl.ps (HFU.out _ hmv3))
   obtain⟨xa,xm,xc,xa2,xm2,xc2,hcs,_⟩:=cn_open hlp.out.tree
   have HX:Hid (∀W e4 W4,LP cnX C w M (pgo s2) x cs W→PE (Vx cnX) ((done C.tk C.en n)) C (pgo s2) W e4 W4→∃k2 va vm vc va2 vm2 vc2,e4= .returned (.agg #[.int .i64 k2,.slice va vm vc,.slice va2 vm2 vc2])∧W4.heap.size≠M∧
    (∀o,(W4.alloc o).cell? ⟨M,0,none⟩=some (.int .i64 x.kind)∧(W4.alloc o).cell? ⟨M,1,none⟩=some (.slice xa xm xc)∧(W4.alloc o).cell? ⟨M,2,none⟩=some (.slice xa2 xm2 xc2))∧(∀o1 o2,((W4.alloc o1).alloc o2).there M 0 3)∧
    ∀W9,Stored M 0 [.int .i64 7,.slice none 0 0,.slice (some ⟨W4.heap.size+1,0,none⟩) 2 2] ((W4.alloc (.cells #[.int .i64 k2,.slice va vm vc,.slice va2 vm2 vc2] 55)).alloc (.cells #[.int .i64 x.kind,.slice xa xm xc,.slice xa2 xm2 xc2,.int .i64 k2,.slice va vm vc,.slice va2 vm2 vc2] 55)) W9→LP cnX C w M ((done C.tk C.en n) (pgo s2)).2 (CT.mk 7 [] [x,((done C.tk C.en n) (pgo s2)).1]) [.int .i64 7,.slice none 0 0,.slice (some ⟨W4.heap.size+1,0,none⟩) 2 2] W9):=fun W e4 W4 hl ⟨v,b1,⟨cs2,b2,b3⟩,b4,b5⟩=>by
    obtain⟨va,vm,vc,va2,vm2,vc2,hcs2,_⟩:=cn_open b3
    have h1:=hl.gl
    have h2:=hl.ml
    have h3:=hl.kept.size
    have h5:=b5.size
    refine⟨_,va,vm,vc,va2,vm2,vc2,by rw[b1,b2,hcs2],by omega,fun o=> ?_,fun o1 o2=> ?_,fun W9 hst=> ?_⟩
    ·have hb2:=(b5.trans (KeptG.alloc C.g W4 o)).range h2.2 (by omega) hl.box
     rw[hcs]at hb2
     exact⟨hb2 0 _ rfl,hb2 1 _ rfl,hb2 2 _ rfl⟩
    ·exact((b5.trans (KeptG.alloc C.g W4 o1)).trans (KeptG.alloc C.g _ o2)).there h2.2 (by omega) hl.th
    ·have ka:KeptG C.g W4 (W4.alloc (.cells #[.int .i64 ((done C.tk C.en n) (pgo s2)).1.kind,.slice va vm vc,.slice va2 vm2 vc2] 55)):=KeptG.alloc _ _ _
     have hsz:(W4.alloc (.cells #[.int .i64 ((done C.tk C.en n) (pgo s2)).1.kind,.slice va vm vc,.slice va2 vm2 vc2] 55)).heap.size=W4.heap.size+1:=by simp
     rw[←hsz]
     rw[←hsz]at hst
     refine hl.next (s1:=pgo s2) (KeptG.refl _ _) (b5.trans ka) (b4.alloc _) (sh_hi b3 (ka.hi (B:=W.heap.size) (by omega)) (Nat.le_refl _)) (t:=55) (z:=CT.mk 7 [] [x,((done C.tk C.en n) (pgo s2)).1]) ?_ (cn_ni hl.tree) rfl (fun S W h=>cnE ⟨by decide,by decide⟩ (slot_none _ _ _) h)
     rw[hcs,hcs2]
     exact hst
   have HK3:Hid (∀s3 y cs3 W9,LP cnX C w M s3 y cs3 W9→s3=((done C.tk C.en n) (pgo s2)).2→y=CT.mk 7 [] [x,((done C.tk C.en n) (pgo s2)).1]→(∃(k:Nat) (s2:PS) (x:CT) (cs:List Value),Hid (LP cnX C w M s2 x cs W9)∧Hid (dbin C.tk (⟨#[38,38]⟩:ByteArray) (fun a b=>CT.mk 7 [] [a,b]) ((done C.tk C.en n)) k x s2=T)∧Hid (Md C.tk s s2)∧Hid (1≤k∧(s2.er=none→C.tk.length+1≤k+s2.nx)))∧mz C W9<mz C wo):=fun s3 y cs3 W9 hl e3 ey=>by
    have hG:=HG.out wo (Below.refl _ _)
    have hm4:Md C.tk (pgo s2) s3:=by rw[e3];exact md_one hG.2.ps n
    have hnn:s3.er=none→s2.nx+1≤s3.nx:=fun e=>(hm4.nx e).2.1
    have hfk:=hfu.out.2 h20
    have hk1:2≤k:=by omega
    obtain⟨k,rfl⟩:∃k',k=k'+1:=⟨k - 1,by omega⟩
    refine⟨⟨k,s3,y,cs3,hl, ?_, ?_, ?_⟩,mz_less hlp.out.ps h20 hl.ps (fun e=>by have:=hnn e;omega)⟩
    ·have:=hk.out
     unfold dbin at this
     rw[if_pos hp]at this
     rw[e3,ey];exact this
    ·exact hmv3.trans hm4
    ·exact⟨by omega,fun e=>by have:=hnn e;omega⟩
   have hx1:=eq_lit [38,38] hp
   generalize dnx C.tk s2=tx at*
   clear hlp hk hmv hfu hmv3 h20 hp hnx
   go_wp2_with fail
   refine HN.out.mono ?_
   rintro e w3 ⟨rfl,hb⟩
   obtain⟨⟨c2,f2,hw2⟩,hlp3⟩:=HG.out w3 hb
   have HP3:=Lib.hid (HPS.out _ hlp3)
   have HX3:=Lib.hid (fun e4 W4=>HX.out _ e4 W4 hlp3)
   clear hb hlp3 HPS HX HN HG
   go_wp2_with fail
   refine HP3.out.mono ?_
   rintro e w4 hq
   obtain⟨k2,va,vm,vc,va2,vm2,vc2,rfl,hne4,hz,hth,hfin⟩:=HX3.out _ _ hq
   have HF:=Lib.hid hfin
   have z0:=fun o=>(hz o).1
   have z1:=fun o=>(hz o).2.1
   have z2:=fun o=>(hz o).2.2
   have HTH:=Lib.hid hth
   clear hq hfin hth hz HX3 HP3 c2 f2
   go_wp2_with (refine gateS 55 3 rfl ?_;refine wpList_store_there rfl 55 _ _ rfl M 0 rfl [.int .i64 7,.slice none 0 0,.slice (some ⟨w4.heap.size+1,0,none⟩) 2 2] rfl (by kernel_rfl) (one3 rfl rfl) (HTH.out _ _) ?_;intro w9 hst)
   have HL:=Lib.hid (HK3.out _ _ _ _ (HF.out _ hst) rfl rfl)
   clear HF HTH z0 z1 z2 HK3 HEND HFU hst
   go_roundw
   case rel=>first | exact HL.out.1 | ((repeat apply Exists.intro);exact⟨HL.out.1,rfl⟩)
   case measure=>exact HL.out.2
  ·have hx1:=ne_lit [38,38] hp
   have HL:Hid (∀W,Below wo.heap.size wo W→LP cnX C w M s2 x cs W):=fun W hb=>hlp.out.step (KeptG.of_below hb) (hlp.out.ps.up hb)
   obtain⟨xa,xm,xc,xa2,xm2,xc2,hcs,_⟩:=cn_open hlp.out.tree
   have HE9:=Lib.hid (fun wr w9 hl hst=>HEND.out M s2 x cs wr w9 k hl hst hk.out (fun e=>by have:=hfu.out.1;omega) hp)
   rw[hcs]at HE9 HL
   clear hlp hk hmv hfu hp HEND HFU hcs
   generalize dnx C.tk s2=tx at*
   go_wp2_with fail
   refine HN.out.mono ?_
   rintro e w3 ⟨rfl,hb⟩
   have hl3:=HL.out w3 hb
   have q0:w3.cell? ⟨M,0,none⟩=some (.int .i64 x.kind):=hl3.box 0 _ rfl
   have q1:w3.cell? ⟨M,1,none⟩=some (.slice xa xm xc):=hl3.box 1 _ rfl
   have q2:w3.cell? ⟨M,2,none⟩=some (.slice xa2 xm2 xc2):=hl3.box 2 _ rfl
   have HL3:=Lib.hid hl3
   clear hb hl3 HL HN
   go_wp2_with (refine gateS 55 2 rfl ?_;refine wpList_store_there rfl 55 _ _ rfl w.heap.size 0 rfl [.int .i64 x.kind,.slice xa xm xc,.slice xa2 xm2 xc2] rfl (by kernel_rfl) (one3 rfl rfl) HL3.out.res ?_;intro w9 hst)
   exact bodyPost_ret (v:= .agg #[.int .i64 x.kind,.slice xa xm xc,.slice xa2 xm2 xc2]) (results_one rfl _ _ _ _ _ rfl (Tryz.cnLoad hst.at' rfl)) rfl (HE9.out _ _ HL3.out hst)
theorem cond_loop (n:Nat)(IH:CSaid 180 (fun tk en=>(dall tk (done tk en n))) n)(C:PC)(s:PS)(w:World)(h:PSt C s w)(hf:Fd n s):
 Calls Tryz.prog 125 #[C.p] w (PE (Vx cnX) ((dcnd C.tk (done C.tk C.en n))) C s w):=by
 have hg:=h.lt
 have HC0:=Lib.hid (IH C s _ (h.alloc (.cells zCn.toArray 55)) hf)
 obtain⟨T,hT⟩:∃T,T=(dcnd C.tk (done C.tk C.en n)) s:=⟨_,rfl⟩
 have HS:Hid (∀W1 e1,PE (Vx cnX) ((dall C.tk (done C.tk C.en n))) C s (w.alloc (.cells zCn.toArray 55)) e1 W1→∃cs:List Value,e1= .returned (.agg cs.toArray)∧cs.length=3∧(∀u∈cs,u.oneCell'=true)∧Hid (LP cnX C w W1.heap.size ((dall C.tk (done C.tk C.en n)) s).2 ((dall C.tk (done C.tk C.en n)) s).1 cs (W1.alloc (.cells cs.toArray 55)))):=fun W1 e1 ⟨v,a1,⟨cs,a2,a3⟩,a4,a5⟩=>⟨cs,by rw[a1,a2],cnX.len a3,cnX.one a3,LP.start hg rfl zCn_ni a4 a5 (by simpa using a3)⟩
 have hfin:∀k x s2,dbin C.tk (⟨#[124,124]⟩:ByteArray) (fun a b=>CT.mk 8 [] [a,b]) ((dall C.tk (done C.tk C.en n))) k x s2=T→(k=0→False)→¬dnx C.tk s2=(⟨#[124,124]⟩:ByteArray)→(dcnd C.tk (done C.tk C.en n)) s=(x,s2):=fun k x s2 hk h0 hp=>by
  cases k with
  | zero=>exact(h0 rfl).elim
  | succ k=>
    unfold dbin at hk
    rw[if_neg hp]at hk
    rw[←hT,←hk]
 have HF:=Lib.hid hfin
 have hst0:dbin C.tk (⟨#[124,124]⟩:ByteArray) (fun a b=>CT.mk 8 [] [a,b]) ((dall C.tk (done C.tk C.en n))) (C.tk.length+1) ((dall C.tk (done C.tk C.en n)) s).1 ((dall C.tk (done C.tk C.en n)) s).2=T:=by rw[hT];rfl
 have HT0:=Lib.hid hst0
 have HFU:=Lib.hid (fun s2 (m:Md C.tk s s2)=>hf.mv m)
 have m0:=Lib.hid (md_all h n)
 have HEND:Hid (∀M s2 x cs wr w9 k,LP cnX C w M s2 x cs wr→Stored w.heap.size 0 cs wr w9→dbin C.tk (⟨#[124,124]⟩:ByteArray) (fun a b=>CT.mk 8 [] [a,b]) ((dall C.tk (done C.tk C.en n))) k x s2=T→(k=0→False)→¬dnx C.tk s2=(⟨#[124,124]⟩:ByteArray)→PE (Vx cnX) ((dcnd C.tk (done C.tk C.en n))) C s w (.returned (.agg cs.toArray)) w9):=fun M s2 x cs wr w9 k hl hst hk h0 hp=>hl.fin hst (HF.out k x s2 hk h0 hp)
 generalize PE (Vx cnX) ((dcnd C.tk (done C.tk C.en n))) C s w=Q at*
 clear h hf hT hst0 hfin HF
 unfold zCn at*
 go_enter Tryz.func125,Tryz.ntmps125
 go_wp2_with fail
 refine HC0.out.mono ?_
 rintro e w1 hq
 obtain⟨cs0,rfl,hl0,ho0,hlp0⟩:=HS.out _ _ hq
 clear hq HC0 HS
 have hM:w1.heap.size≠C.g:=by have:=hlp0.out.ml.1;omega
 go_wp2_with (refine gateS 55 3 rfl ?_;refine wpList_store_fresh (by kernel_rfl) 55 _ _ rfl _ rfl cs0 rfl (by rw[hl0];kernel_rfl) (by rw[hl0];rfl) ho0 ?_)
 have hM1:w.heap.size+1≤w1.heap.size:=hlp0.out.ml.1
 generalize w1.heap.size=M at*
 simp only[Act.put]
 go_loopw [] (fun wr=>∃(k:Nat) (s2:PS) (x:CT) (cs:List Value),Hid (LP cnX C w M s2 x cs wr)∧Hid (dbin C.tk (⟨#[124,124]⟩:ByteArray) (fun a b=>CT.mk 8 [] [a,b]) ((dall C.tk (done C.tk C.en n))) k x s2=T)∧Hid (Md C.tk s s2)∧Hid (1≤k∧(s2.er=none→C.tk.length+1≤k+s2.nx))) (fun wr=>mz C wr)
 case atStart=>exact⟨_,_,_,_,hlp0,HT0.out,m0,Lib.hid ⟨Nat.succ_le_succ (Nat.zero_le _),fun _=>Nat.le_add_right _ _⟩⟩
 case round=>
  clear hlp0 HT0 m0 hl0 ho0
  obtain⟨k,s2,x,cs,hlp,hk,hmv,hfu⟩:=hrel
  obtain⟨wo,rfl⟩:∃wo:World,wo=wr:=⟨_,rfl⟩
  have HN:=Lib.hid (next_any C s2 wo hlp.out.ps)
  by_cases hp:dnx C.tk s2=(⟨#[124,124]⟩:ByteArray)
  ·obtain⟨h20,hnx⟩:=dnx_inv (tk:=C.tk) (s:=s2) (by rw[hp];decide)
   have hmv3:Md C.tk s (pgo s2):=hmv.out.trans (md_go h20)
   have HG:Hid (∀W,Below wo.heap.size wo W→(W.cell? ⟨C.g,2,none⟩=some (.int .i64 s2.nx)∧W.frozen? ⟨C.g,2,none⟩=false∧IntKind.i64.wrap ((s2.nx:Int)+1)=(s2.nx:Int)+1)∧LP cnX C w M (pgo s2) x cs (W.setCell ⟨C.g,2,none⟩ (.int .i64 ((s2.nx:Int)+1)))):=fun W hb=>by
    have hW:=hlp.out.ps.up hb
    exact⟨two_wrap hW h20,hlp.out.step ((KeptG.of_below hb).trans KeptG.set) (hW.go h20 hnx)⟩
   have HPS:=Lib.hid (fun W (hl:LP cnX C w M (pgo s2) x cs W)=>IH C (pgo s2) W hl.ps (HFU.out _ hmv3))
   obtain⟨xa,xm,xc,xa2,xm2,xc2,hcs,_⟩:=cn_open hlp.out.tree
   have HX:Hid (∀W e4 W4,LP cnX C w M (pgo s2) x cs W→PE (Vx cnX) ((dall C.tk (done C.tk C.en n))) C (pgo s2) W e4 W4→∃k2 va vm vc va2 vm2 vc2,e4= .returned (.agg #[.int .i64 k2,.slice va vm vc,.slice va2 vm2 vc2])∧W4.heap.size≠M∧
    (∀o,(W4.alloc o).cell? ⟨M,0,none⟩=some (.int .i64 x.kind)∧(W4.alloc o).cell? ⟨M,1,none⟩=some (.slice xa xm xc)∧(W4.alloc o).cell? ⟨M,2,none⟩=some (.slice xa2 xm2 xc2))∧(∀o1 o2,((W4.alloc o1).alloc o2).there M 0 3)∧
    ∀W9,Stored M 0 [.int .i64 8,.slice none 0 0,.slice (some ⟨W4.heap.size+1,0,none⟩) 2 2] ((W4.alloc (.cells #[.int .i64 k2,.slice va vm vc,.slice va2 vm2 vc2] 55)).alloc (.cells #[.int .i64 x.kind,.slice xa xm xc,.slice xa2 xm2 xc2,.int .i64 k2,.slice va vm vc,.slice va2 vm2 vc2] 55)) W9→LP cnX C w M ((dall C.tk (done C.tk C.en n)) (pgo s2)).2 (CT.mk 8 [] [x,((dall C.tk (done C.tk C.en n)) (pgo s2)).1]) [.int .i64 8,.slice none 0 0,.slice (some ⟨W4.heap.size+1,0,none⟩) 2 2] W9):=fun W e4 W4 hl ⟨v,b1,⟨cs2,b2,b3⟩,b4,b5⟩=>by
    obtain⟨va,vm,vc,va2,vm2,vc2,hcs2,_⟩:=cn_open b3
    have h1:=hl.gl
    have h2:=hl.ml
    have h3:=hl.kept.size
    have h5:=b5.size
    refine⟨_,va,vm,vc,va2,vm2,vc2,by rw[b1,b2,hcs2],by omega,fun o=> ?_,fun o1 o2=> ?_,fun W9 hst=> ?_⟩
    ·have hb2:=(b5.trans (KeptG.alloc C.g W4 o)).range h2.2 (by omega) hl.box
     rw[hcs]at hb2
     exact⟨hb2 0 _ rfl,hb2 1 _ rfl,hb2 2 _ rfl⟩
    ·exact((b5.trans (KeptG.alloc C.g W4 o1)).trans (KeptG.alloc C.g _ o2)).there h2.2 (by omega) hl.th
    ·have ka:KeptG C.g W4 (W4.alloc (.cells #[.int .i64 ((dall C.tk (done C.tk C.en n)) (pgo s2)).1.kind,.slice va vm vc,.slice va2 vm2 vc2] 55)):=KeptG.alloc _ _ _
     have hsz:(W4.alloc (.cells #[.int .i64 ((dall C.tk (done C.tk C.en n)) (pgo s2)).1.kind,.slice va vm vc,.slice va2 vm2 vc2] 55)).heap.size=W4.heap.size+1:=by simp
     rw[←hsz]
     rw[←hsz]at hst
     refine hl.next (s1:=pgo s2) (KeptG.refl _ _) (b5.trans ka) (b4.alloc _) (sh_hi b3 (ka.hi (B:=W.heap.size) (by omega)) (Nat.le_refl _)) (t:=55) (z:=CT.mk 8 [] [x,((dall C.tk (done C.tk C.en n)) (pgo s2)).1]) ?_ (cn_ni hl.tree) rfl (fun S W h=>cnE ⟨by decide,by decide⟩ (slot_none _ _ _) h)
     rw[hcs,hcs2]
     exact hst
   have HK3:Hid (∀s3 y cs3 W9,LP cnX C w M s3 y cs3 W9→s3=((dall C.tk (done C.tk C.en n)) (pgo s2)).2→y=CT.mk 8 [] [x,((dall C.tk (done C.tk C.en n)) (pgo s2)).1]→(∃(k:Nat) (s2:PS) (x:CT) (cs:List Value),Hid (LP cnX C w M s2 x cs W9)∧Hid (dbin C.tk (⟨#[124,124]⟩:ByteArray) (fun a b=>CT.mk 8 [] [a,b]) ((dall C.tk (done C.tk C.en n))) k x s2=T)∧Hid (Md C.tk s s2)∧Hid (1≤k∧(s2.er=none→C.tk.length+1≤k+s2.nx)))∧mz C W9<mz C wo):=fun s3 y cs3 W9 hl e3 ey=>by
    have hG:=HG.out wo (Below.refl _ _)
    have hm4:Md C.tk (pgo s2) s3:=by rw[e3];exact md_all hG.2.ps n
    have hnn:s3.er=none→s2.nx+1≤s3.nx:=fun e=>(hm4.nx e).2.1
    have hfk:=hfu.out.2 h20
    have hk1:2≤k:=by omega
    obtain⟨k,rfl⟩:∃k',k=k'+1:=⟨k - 1,by omega⟩
    refine⟨⟨k,s3,y,cs3,hl, ?_, ?_, ?_⟩,mz_less hlp.out.ps h20 hl.ps (fun e=>by have:=hnn e;omega)⟩
    ·have:=hk.out
     unfold dbin at this
     rw[if_pos hp]at this
     rw[e3,ey];exact this
    ·exact hmv3.trans hm4
    ·exact⟨by omega,fun e=>by have:=hnn e;omega⟩
   have hx1:=eq_lit [124,124] hp
   generalize dnx C.tk s2=tx at*
   clear hlp hk hmv hfu hmv3 h20 hp hnx
   go_wp2_with fail
   refine HN.out.mono ?_
   rintro e w3 ⟨rfl,hb⟩
   obtain⟨⟨c2,f2,hw2⟩,hlp3⟩:=HG.out w3 hb
   have HP3:=Lib.hid (HPS.out _ hlp3)
   have HX3:=Lib.hid (fun e4 W4=>HX.out _ e4 W4 hlp3)
   clear hb hlp3 HPS HX HN HG
   go_wp2_with fail
   refine HP3.out.mono ?_
   rintro e w4 hq
   obtain⟨k2,va,vm,vc,va2,vm2,vc2,rfl,hne4,hz,hth,hfin⟩:=HX3.out _ _ hq
   have HF:=Lib.hid hfin
   have z0:=fun o=>(hz o).1
   have z1:=fun o=>(hz o).2.1
   have z2:=fun o=>(hz o).2.2
   have HTH:=Lib.hid hth
   clear hq hfin hth hz HX3 HP3 c2 f2
   go_wp2_with (refine gateS 55 3 rfl ?_;refine wpList_store_there rfl 55 _ _ rfl M 0 rfl [.int .i64 8,.slice none 0 0,.slice (some ⟨w4.heap.size+1,0,none⟩) 2 2] rfl (by kernel_rfl) (one3 rfl rfl) (HTH.out _ _) ?_;intro w9 hst)
   have HL:=Lib.hid (HK3.out _ _ _ _ (HF.out _ hst) rfl rfl)
   clear HF HTH z0 z1 z2 HK3 HEND HFU hst
   go_roundw
   case rel=>first | exact HL.out.1 | ((repeat apply Exists.intro);exact⟨HL.out.1,rfl⟩)
   case measure=>exact HL.out.2
  ·have hx1:=ne_lit [124,124] hp
   have HL:Hid (∀W,Below wo.heap.size wo W→LP cnX C w M s2 x cs W):=fun W hb=>hlp.out.step (KeptG.of_below hb) (hlp.out.ps.up hb)
   obtain⟨xa,xm,xc,xa2,xm2,xc2,hcs,_⟩:=cn_open hlp.out.tree
   have HE9:=Lib.hid (fun wr w9 hl hst=>HEND.out M s2 x cs wr w9 k hl hst hk.out (fun e=>by have:=hfu.out.1;omega) hp)
   rw[hcs]at HE9 HL
   clear hlp hk hmv hfu hp HEND HFU hcs
   generalize dnx C.tk s2=tx at*
   go_wp2_with fail
   refine HN.out.mono ?_
   rintro e w3 ⟨rfl,hb⟩
   have hl3:=HL.out w3 hb
   have q0:w3.cell? ⟨M,0,none⟩=some (.int .i64 x.kind):=hl3.box 0 _ rfl
   have q1:w3.cell? ⟨M,1,none⟩=some (.slice xa xm xc):=hl3.box 1 _ rfl
   have q2:w3.cell? ⟨M,2,none⟩=some (.slice xa2 xm2 xc2):=hl3.box 2 _ rfl
   have HL3:=Lib.hid hl3
   clear hb hl3 HL HN
   go_wp2_with (refine gateS 55 2 rfl ?_;refine wpList_store_there rfl 55 _ _ rfl w.heap.size 0 rfl [.int .i64 x.kind,.slice xa xm xc,.slice xa2 xm2 xc2] rfl (by kernel_rfl) (one3 rfl rfl) HL3.out.res ?_;intro w9 hst)
   exact bodyPost_ret (v:= .agg #[.int .i64 x.kind,.slice xa xm xc,.slice xa2 xm2 xc2]) (results_one rfl _ _ _ _ _ rfl (Tryz.cnLoad hst.at' rfl)) rfl (HE9.out _ _ HL3.out hst)
end Dc
end Go.Proofs.YtcinokljkieijaaGreatDoor
