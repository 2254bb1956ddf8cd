/- Parts of a proof. -/
import Derived.Test.YtcinokljkieijaaGreatDoorW01
import Derived.Test.YtcinokljkieijaaGreatDoorW03
import Derived.Test.YtcinokljkieijaaGreatDoorW04
import Derived.Test.YtcinokljkieijaaGreatDoorW05
import Derived.Test.YtcinokljkieijaaGreatDoorW06
set_option linter.unusedVariables false
set_option linter.unusedSimpArgs false
set_option maxHeartbeats 60000000
set_option maxRecDepth 100000
namespace Go.Proofs.YtcinokljkieijaaGreatDoor
namespace Dc
open Go.RowKit
theorem one_cmp0 (n:Nat)(IH:CSaid 204 (fun tk en=>done tk en n) n)(C:PC)(s:PS)(w:World)(h:PSt C s w)(hf:Fd (n+1) s)(m1:¬dnx C.tk s=(⟨#[33]⟩:ByteArray))(m2:¬dnx C.tk s=(⟨#[91]⟩:ByteArray))(m3:¬dnx C.tk s=(⟨#[116,114,117,101]⟩:ByteArray))(m4:¬dnx C.tk s=(⟨#[102,97,108,115,101]⟩:ByteArray))(ho:dnx C.tk (dex C.tk C.en s).2=(⟨#[61,61]⟩:ByteArray)):
 Calls Tryz.prog 204 #[C.p] w (PE (Vx cnX) (done C.tk C.en (n+1)) C s w):=by
 have hg:=h.lt
 have hgne:w.heap.size≠C.g:=by omega
 have HTH:Hid (∀W,KeptG C.g (w.alloc (.cells zCn.toArray 55)) W→W.there w.heap.size 0 3):=fun W hk=>hk.there (by simp) hgne (there_new w zCn 55)
 have HN:=Lib.hid (next_any C s _ (h.alloc (.cells zCn.toArray 55)))
 have HB0:Hid (∀W,Below (w.alloc (.cells zCn.toArray 55)).heap.size (w.alloc (.cells zCn.toArray 55)) W→PSt C s W∧KeptG C.g (w.alloc (.cells zCn.toArray 55)) W):=fun W hb=>⟨(h.alloc (.cells zCn.toArray 55)).up hb,KeptG.of_below hb⟩
 have hx0:=ne_lit [33] m1
 have hx1:=ne_lit [91] m2
 have hx2:=ne_lit [116,114,117,101] m3
 have hx3:=ne_lit [102,97,108,115,101] m4
 obtain⟨p,hp⟩:∃p,p=dex C.tk C.en s:=⟨_,rfl⟩
 rw[←hp]at ho
 have hy0:=eq_lit [61,61] ho
 have hy1:((dnx C.tk p.2).toList == [33,61])=false:=ne_lit [33,61] (by rw[ho];decide)
 have hy2:((dnx C.tk p.2).toList == [60])=false:=ne_lit [60] (by rw[ho];decide)
 have hy3:((dnx C.tk p.2).toList == [60,61])=false:=ne_lit [60,61] (by rw[ho];decide)
 obtain⟨h0,hnx⟩:=dnx_inv (tk:=C.tk) (s:=p.2) (by rw[ho];decide)
 obtain⟨s2,hs2⟩:∃s2,s2=pgo p.2:=⟨_,rfl⟩
 obtain⟨q,hq⟩:∃q,q=dex C.tk C.en s2:=⟨_,rfl⟩
 have ed:done C.tk C.en (n+1) s=(.mk 2 [p.1,q.1] [],q.2):=by
  rw[done,if_neg m1,if_neg m2,if_neg m3,if_neg m4]
  unfold dcmp
  dsimp only
  rw[←hp]
  rw[ho]
  rw[hq,hs2]
  rfl
 have HE1:=Lib.hid (fun W (hW:PSt C s W)=>expr_any C s W hW)
 have HE2:=Lib.hid (fun W (hW:PSt C s2 W)=>expr_any C s2 W hW)
 have HX:Hid (∀W e1 W1,KeptG C.g (w.alloc (.cells zCn.toArray 55)) W→PE (Vx exX) (dex C.tk C.en) C s W e1 W1→∃k m nm va vm vc,e1= .returned (.agg #[.int .i64 k,.int .i64 m,.string nm,.slice va vm vc])∧(∀o,PSt C p.2 (W1.alloc o))∧
  ∀W5,KeptG C.g (W1.alloc (.cells #[.int .i64 k,.int .i64 m,.string nm,.slice va vm vc] 57)) W5→PSt C s2 W5→∀e6 W6,PE (Vx exX) (dex C.tk C.en) C s2 W5 e6 W6→∃k2 m2 nm2 ua um uc,e6= .returned (.agg #[.int .i64 k2,.int .i64 m2,.string nm2,.slice ua um uc])∧W6.heap.size≠W1.heap.size∧
   (∀o,(W6.alloc o).cell? ⟨W1.heap.size,0,none⟩=some (.int .i64 k)∧(W6.alloc o).cell? ⟨W1.heap.size,1,none⟩=some (.int .i64 m)∧(W6.alloc o).cell? ⟨W1.heap.size,2,none⟩=some (.string nm)∧(W6.alloc o).cell? ⟨W1.heap.size,3,none⟩=some (.slice va vm vc))∧(∀o1 o2,((W6.alloc o1).alloc o2).there w.heap.size 0 3)∧
   ∀w9,Stored w.heap.size 0 [.int .i64 2,.slice (some ⟨W6.heap.size+1,0,none⟩) 2 2,.slice none 0 0] ((W6.alloc (.cells #[.int .i64 k2,.int .i64 m2,.string nm2,.slice ua um uc] 57)).alloc (.cells #[.int .i64 k,.int .i64 m,.string nm,.slice va vm vc,.int .i64 k2,.int .i64 m2,.string nm2,.slice ua um uc] 57)) w9→PE (Vx cnX) (done C.tk C.en (n+1)) C s w (.returned (.agg #[.int .i64 2,.slice (some ⟨W6.heap.size+1,0,none⟩) 2 2,.slice none 0 0])) w9):=fun W e1 W1 hk ⟨v,a1,⟨cs,a2,a3⟩,a4,a5⟩=>by
  rw[←hp]at a3 a4
  obtain⟨va,vm,vc,hcs,_⟩:=ex_open a3
  have hk1:=hk.trans a5
  have hz1:=hk.size
  have hz2:=a5.size
  have hz3:(w.alloc (.cells zCn.toArray 55)).heap.size=w.heap.size+1:=by simp
  have hgl:=a4.lt
  refine⟨p.1.kind,p.1.n,p.1.name,va,vm,vc,by rw[a1,a2,hcs],fun o=>a4.alloc o,fun W5 hk5 hp5 e6 W6 ⟨v6,b1,⟨cs2,b2,b3⟩,b4,b5⟩=> ?_⟩
  rw[←hq]at b3 b4
  obtain⟨ua,um,uc,hcs2,_⟩:=ex_open b3
  have hz5:=hk5.size
  have hz7:(W1.alloc (.cells #[.int .i64 p.1.kind,.int .i64 p.1.n,.string p.1.name,.slice va vm vc] 57)).heap.size=W1.heap.size+1:=by simp
  have hz6:=b5.size
  have hk16:KeptG C.g W1 W6:=((KeptG.alloc _ _ _).trans hk5).trans b5
  have hA:∀o1 o2,KeptG C.g W6 ((W6.alloc o1).alloc o2):=fun o1 o2=>(KeptG.alloc _ _ _).trans (KeptG.alloc _ _ _)
  refine⟨q.1.kind,q.1.n,q.1.name,ua,um,uc,by rw[b1,b2,hcs2],by omega,fun o=> ?_,fun o1 o2=>HTH.out _ ((hk1.trans hk16).trans (hA o1 o2)),fun w9 hst=> ?_⟩
  ·have hr:=((hk5.trans b5).trans (KeptG.alloc C.g W6 o)).range (h:=W1.heap.size) (by simp) (by omega) (range_new W1 [.int .i64 p.1.kind,.int .i64 p.1.n,.string p.1.name,.slice va vm vc] 57)
   exact⟨hr 0 _ rfl,hr 1 _ rfl,hr 2 _ rfl,hr 3 _ rfl⟩
  ·have hsz:(W6.alloc (.cells #[.int .i64 q.1.kind,.int .i64 q.1.n,.string q.1.name,.slice ua um uc] 57)).heap.size=W6.heap.size+1:=by simp
   have hrn:=range_new (W6.alloc (.cells #[.int .i64 q.1.kind,.int .i64 q.1.n,.string q.1.name,.slice ua um uc] 57)) ([.int .i64 p.1.kind,.int .i64 p.1.n,.string p.1.name,.slice va vm vc] ++ [.int .i64 q.1.kind,.int .i64 q.1.n,.string q.1.name,.slice ua um uc]) 57
   rw[hsz]at hrn
   refine box_fin (z:=zCn) hg ((hk1.trans hk16).trans (hA _ _)) (by rw[ed];exact(b4.alloc _).alloc _) ?_ hst zCn_ni
   rw[ed]
   refine cnE ⟨by decide,by decide⟩ (slot_two hrn ?_ ?_ ⟨by omega, ?_⟩) (slot_none _ _ _)
   ·have h9:=sh_hi (B':=w.heap.size+1) a3 ((hk16.trans (hA (.cells #[.int .i64 q.1.kind,.int .i64 q.1.n,.string q.1.name,.slice ua um uc] 57) (.cells #[.int .i64 p.1.kind,.int .i64 p.1.n,.string p.1.name,.slice va vm vc,.int .i64 q.1.kind,.int .i64 q.1.n,.string q.1.name,.slice ua um uc] 57))).hi (B:=W.heap.size) (by omega)) (by omega)
    rw[hcs]at h9
    exact h9
   ·have h9:=sh_hi (B':=w.heap.size+1) b3 ((hA (.cells #[.int .i64 q.1.kind,.int .i64 q.1.n,.string q.1.name,.slice ua um uc] 57) (.cells #[.int .i64 p.1.kind,.int .i64 p.1.n,.string p.1.name,.slice va vm vc,.int .i64 q.1.kind,.int .i64 q.1.n,.string q.1.name,.slice ua um uc] 57)).hi (B:=W5.heap.size) (by omega)) (by omega)
    rw[hcs2]at h9
    exact h9
   ·show W6.heap.size+1<(World.alloc _ _).heap.size
    rw[World.size_alloc,hsz]
    omega
 have HNX:=Lib.hid (fun W (hW:PSt C p.2 W)=>next_any C p.2 W hW)
 have X1:Hid (∀W,PSt C p.2 W→(W.cell? ⟨C.g,2,none⟩=some (.int .i64 p.2.nx)∧W.frozen? ⟨C.g,2,none⟩=false∧IntKind.i64.wrap ((p.2.nx:Int)+1)=(p.2.nx:Int)+1)∧PSt C s2 (W.setCell ⟨C.g,2,none⟩ (.int .i64 ((p.2.nx:Int)+1)))∧KeptG C.g W (W.setCell ⟨C.g,2,none⟩ (.int .i64 ((p.2.nx:Int)+1)))):=fun W hW=>⟨two_wrap hW h0,by rw[hs2];exact hW.go h0 hnx,KeptG.set⟩
 generalize PE (Vx cnX) (done C.tk C.en (n+1)) C s w=Q at*
 unfold PC.p at*
 unfold zCn at*
 clear h hf HTH ed m1 m2 m3 m4 IH hs2 hp hq ho h0 hnx
 generalize dnx C.tk s=tx at*
 generalize dnx C.tk p.2=ty at*
 go_enter Tryz.func204,Tryz.ntmps204
 go_wp2_with fail
 refine HN.out.mono ?_
 rintro e w1 ⟨rfl,hb⟩
 obtain⟨hp1,hk1⟩:=HB0.out w1 hb
 have HP1:=Lib.hid hp1
 have HK1:=Lib.hid hk1
 clear hb hp1 hk1 HN HB0
 have HA1:=Lib.hid (HE1.out w1 HP1.out)
 clear HE1 HP1
 go_wp2_with fail
 refine HA1.out.mono ?_
 rintro e w2 hq2
 obtain⟨k,m,nm,va,vm,vc,rfl,hps,hall⟩:=HX.out _ _ _ HK1.out hq2
 have HPS:=Lib.hid (hps (.cells #[.int .i64 k,.int .i64 m,.string nm,.slice va vm vc] 57))
 have HAL:=Lib.hid hall
 have HN2:=Lib.hid (HNX.out _ (hps (.cells #[.int .i64 k,.int .i64 m,.string nm,.slice va vm vc] 57)))
 clear hq2 HA1 HX hps hall HK1 HNX
 go_wp2_with fail
 refine HN2.out.mono ?_
 rintro e w3 ⟨rfl,hb⟩
 have HP3:=Lib.hid (HPS.out.up hb)
 have HK3:=Lib.hid (KeptG.of_below (g:=C.g) hb)
 clear hb HN2 HPS
 obtain⟨⟨c2,f2,hw2⟩,hp4,hk4⟩:=X1.out w3 HP3.out
 have HP4:=Lib.hid hp4
 have HK4:=Lib.hid (HK3.out.trans hk4)
 clear hp4 hk4 X1 HK3 HP3
 have HA4:=Lib.hid (HE2.out _ HP4.out)
 clear HE2
 go_wp2_with fail
 refine HA4.out.mono ?_
 rintro e w6 hq6
 obtain⟨k2,m2,nm2,ua,um,uc,rfl,hne6,hz,hth,hfin⟩:=HAL.out _ HK4.out HP4.out _ _ hq6
 have HF9:=Lib.hid hfin
 have HTH:=Lib.hid hth
 have z0:=fun o=>(hz o).1
 have z1:=fun o=>(hz o).2.1
 have z2:=fun o=>(hz o).2.2.1
 have z3:=fun o=>(hz o).2.2.2
 clear hq6 HA4 HAL HK4 HP4 hfin hth hz
 go_wp2_with (refine gateS 55 2 rfl ?_;refine wpList_store_there rfl 55 _ _ rfl w.heap.size 0 rfl [.int .i64 2,.slice (some ⟨w6.heap.size+1,0,none⟩) 2 2,.slice none 0 0] rfl (by kernel_rfl) (one3 rfl rfl) (HTH.out _ _) ?_;intro w9 hst)
 exact bodyPost_ret (v:= .agg #[.int .i64 2,.slice (some ⟨w6.heap.size+1,0,none⟩) 2 2,.slice none 0 0]) (results_one rfl _ _ _ _ _ rfl (Tryz.cnLoad hst.at' rfl)) rfl (HF9.out _ hst)
theorem one_cmp1 (n:Nat)(IH:CSaid 204 (fun tk en=>done tk en n) n)(C:PC)(s:PS)(w:World)(h:PSt C s w)(hf:Fd (n+1) s)(m1:¬dnx C.tk s=(⟨#[33]⟩:ByteArray))(m2:¬dnx C.tk s=(⟨#[91]⟩:ByteArray))(m3:¬dnx C.tk s=(⟨#[116,114,117,101]⟩:ByteArray))(m4:¬dnx C.tk s=(⟨#[102,97,108,115,101]⟩:ByteArray))(ho:dnx C.tk (dex C.tk C.en s).2=(⟨#[33,61]⟩:ByteArray)):
 Calls Tryz.prog 204 #[C.p] w (PE (Vx cnX) (done C.tk C.en (n+1)) C s w):=by
 have hg:=h.lt
 have hgne:w.heap.size≠C.g:=by omega
 have HTH:Hid (∀W,KeptG C.g (w.alloc (.cells zCn.toArray 55)) W→W.there w.heap.size 0 3):=fun W hk=>hk.there (by simp) hgne (there_new w zCn 55)
 have HN:=Lib.hid (next_any C s _ (h.alloc (.cells zCn.toArray 55)))
 have HB0:Hid (∀W,Below (w.alloc (.cells zCn.toArray 55)).heap.size (w.alloc (.cells zCn.toArray 55)) W→PSt C s W∧KeptG C.g (w.alloc (.cells zCn.toArray 55)) W):=fun W hb=>⟨(h.alloc (.cells zCn.toArray 55)).up hb,KeptG.of_below hb⟩
 have hx0:=ne_lit [33] m1
 have hx1:=ne_lit [91] m2
 have hx2:=ne_lit [116,114,117,101] m3
 have hx3:=ne_lit [102,97,108,115,101] m4
 obtain⟨p,hp⟩:∃p,p=dex C.tk C.en s:=⟨_,rfl⟩
 rw[←hp]at ho
 have hy0:((dnx C.tk p.2).toList == [61,61])=false:=ne_lit [61,61] (by rw[ho];decide)
 have hy1:=eq_lit [33,61] ho
 have hy2:((dnx C.tk p.2).toList == [60])=false:=ne_lit [60] (by rw[ho];decide)
 have hy3:((dnx C.tk p.2).toList == [60,61])=false:=ne_lit [60,61] (by rw[ho];decide)
 obtain⟨h0,hnx⟩:=dnx_inv (tk:=C.tk) (s:=p.2) (by rw[ho];decide)
 obtain⟨s2,hs2⟩:∃s2,s2=pgo p.2:=⟨_,rfl⟩
 obtain⟨q,hq⟩:∃q,q=dex C.tk C.en s2:=⟨_,rfl⟩
 have ed:done C.tk C.en (n+1) s=(.mk 3 [p.1,q.1] [],q.2):=by
  rw[done,if_neg m1,if_neg m2,if_neg m3,if_neg m4]
  unfold dcmp
  dsimp only
  rw[←hp]
  rw[ho]
  rw[hq,hs2]
  rfl
 have HE1:=Lib.hid (fun W (hW:PSt C s W)=>expr_any C s W hW)
 have HE2:=Lib.hid (fun W (hW:PSt C s2 W)=>expr_any C s2 W hW)
 have HX:Hid (∀W e1 W1,KeptG C.g (w.alloc (.cells zCn.toArray 55)) W→PE (Vx exX) (dex C.tk C.en) C s W e1 W1→∃k m nm va vm vc,e1= .returned (.agg #[.int .i64 k,.int .i64 m,.string nm,.slice va vm vc])∧(∀o,PSt C p.2 (W1.alloc o))∧
  ∀W5,KeptG C.g (W1.alloc (.cells #[.int .i64 k,.int .i64 m,.string nm,.slice va vm vc] 57)) W5→PSt C s2 W5→∀e6 W6,PE (Vx exX) (dex C.tk C.en) C s2 W5 e6 W6→∃k2 m2 nm2 ua um uc,e6= .returned (.agg #[.int .i64 k2,.int .i64 m2,.string nm2,.slice ua um uc])∧W6.heap.size≠W1.heap.size∧
   (∀o,(W6.alloc o).cell? ⟨W1.heap.size,0,none⟩=some (.int .i64 k)∧(W6.alloc o).cell? ⟨W1.heap.size,1,none⟩=some (.int .i64 m)∧(W6.alloc o).cell? ⟨W1.heap.size,2,none⟩=some (.string nm)∧(W6.alloc o).cell? ⟨W1.heap.size,3,none⟩=some (.slice va vm vc))∧(∀o1 o2,((W6.alloc o1).alloc o2).there w.heap.size 0 3)∧
   ∀w9,Stored w.heap.size 0 [.int .i64 3,.slice (some ⟨W6.heap.size+1,0,none⟩) 2 2,.slice none 0 0] ((W6.alloc (.cells #[.int .i64 k2,.int .i64 m2,.string nm2,.slice ua um uc] 57)).alloc (.cells #[.int .i64 k,.int .i64 m,.string nm,.slice va vm vc,.int .i64 k2,.int .i64 m2,.string nm2,.slice ua um uc] 57)) w9→PE (Vx cnX) (done C.tk C.en (n+1)) C s w (.returned (.agg #[.int .i64 3,.slice (some ⟨W6.heap.size+1,0,none⟩) 2 2,.slice none 0 0])) w9):=fun W e1 W1 hk ⟨v,a1,⟨cs,a2,a3⟩,a4,a5⟩=>by
  rw[←hp]at a3 a4
  obtain⟨va,vm,vc,hcs,_⟩:=ex_open a3
  have hk1:=hk.trans a5
  have hz1:=hk.size
  have hz2:=a5.size
  have hz3:(w.alloc (.cells zCn.toArray 55)).heap.size=w.heap.size+1:=by simp
  have hgl:=a4.lt
  refine⟨p.1.kind,p.1.n,p.1.name,va,vm,vc,by rw[a1,a2,hcs],fun o=>a4.alloc o,fun W5 hk5 hp5 e6 W6 ⟨v6,b1,⟨cs2,b2,b3⟩,b4,b5⟩=> ?_⟩
  rw[←hq]at b3 b4
  obtain⟨ua,um,uc,hcs2,_⟩:=ex_open b3
  have hz5:=hk5.size
  have hz7:(W1.alloc (.cells #[.int .i64 p.1.kind,.int .i64 p.1.n,.string p.1.name,.slice va vm vc] 57)).heap.size=W1.heap.size+1:=by simp
  have hz6:=b5.size
  have hk16:KeptG C.g W1 W6:=((KeptG.alloc _ _ _).trans hk5).trans b5
  have hA:∀o1 o2,KeptG C.g W6 ((W6.alloc o1).alloc o2):=fun o1 o2=>(KeptG.alloc _ _ _).trans (KeptG.alloc _ _ _)
  refine⟨q.1.kind,q.1.n,q.1.name,ua,um,uc,by rw[b1,b2,hcs2],by omega,fun o=> ?_,fun o1 o2=>HTH.out _ ((hk1.trans hk16).trans (hA o1 o2)),fun w9 hst=> ?_⟩
  ·have hr:=((hk5.trans b5).trans (KeptG.alloc C.g W6 o)).range (h:=W1.heap.size) (by simp) (by omega) (range_new W1 [.int .i64 p.1.kind,.int .i64 p.1.n,.string p.1.name,.slice va vm vc] 57)
   exact⟨hr 0 _ rfl,hr 1 _ rfl,hr 2 _ rfl,hr 3 _ rfl⟩
  ·have hsz:(W6.alloc (.cells #[.int .i64 q.1.kind,.int .i64 q.1.n,.string q.1.name,.slice ua um uc] 57)).heap.size=W6.heap.size+1:=by simp
   have hrn:=range_new (W6.alloc (.cells #[.int .i64 q.1.kind,.int .i64 q.1.n,.string q.1.name,.slice ua um uc] 57)) ([.int .i64 p.1.kind,.int .i64 p.1.n,.string p.1.name,.slice va vm vc] ++ [.int .i64 q.1.kind,.int .i64 q.1.n,.string q.1.name,.slice ua um uc]) 57
   rw[hsz]at hrn
   refine box_fin (z:=zCn) hg ((hk1.trans hk16).trans (hA _ _)) (by rw[ed];exact(b4.alloc _).alloc _) ?_ hst zCn_ni
   rw[ed]
   refine cnE ⟨by decide,by decide⟩ (slot_two hrn ?_ ?_ ⟨by omega, ?_⟩) (slot_none _ _ _)
   ·have h9:=sh_hi (B':=w.heap.size+1) a3 ((hk16.trans (hA (.cells #[.int .i64 q.1.kind,.int .i64 q.1.n,.string q.1.name,.slice ua um uc] 57) (.cells #[.int .i64 p.1.kind,.int .i64 p.1.n,.string p.1.name,.slice va vm vc,.int .i64 q.1.kind,.int .i64 q.1.n,.string q.1.name,.slice ua um uc] 57))).hi (B:=W.heap.size) (by omega)) (by omega)
    rw[hcs]at h9
    exact h9
   ·have h9:=sh_hi (B':=w.heap.size+1) b3 ((hA (.cells #[.int .i64 q.1.kind,.int .i64 q.1.n,.string q.1.name,.slice ua um uc] 57) (.cells #[.int .i64 p.1.kind,.int .i64 p.1.n,.string p.1.name,.slice va vm vc,.int .i64 q.1.kind,.int .i64 q.1.n,.string q.1.name,.slice ua um uc] 57)).hi (B:=W5.heap.size) (by omega)) (by omega)
    rw[hcs2]at h9
    exact h9
   ·show W6.heap.size+1<(World.alloc _ _).heap.size
    rw[World.size_alloc,hsz]
    omega
 have HNX:=Lib.hid (fun W (hW:PSt C p.2 W)=>next_any C p.2 W hW)
 have X1:Hid (∀W,PSt C p.2 W→(W.cell? ⟨C.g,2,none⟩=some (.int .i64 p.2.nx)∧W.frozen? ⟨C.g,2,none⟩=false∧IntKind.i64.wrap ((p.2.nx:Int)+1)=(p.2.nx:Int)+1)∧PSt C s2 (W.setCell ⟨C.g,2,none⟩ (.int .i64 ((p.2.nx:Int)+1)))∧KeptG C.g W (W.setCell ⟨C.g,2,none⟩ (.int .i64 ((p.2.nx:Int)+1)))):=fun W hW=>⟨two_wrap hW h0,by rw[hs2];exact hW.go h0 hnx,KeptG.set⟩
 generalize PE (Vx cnX) (done C.tk C.en (n+1)) C s w=Q at*
 unfold PC.p at*
 unfold zCn at*
 clear h hf HTH ed m1 m2 m3 m4 IH hs2 hp hq ho h0 hnx
 generalize dnx C.tk s=tx at*
 generalize dnx C.tk p.2=ty at*
 go_enter Tryz.func204,Tryz.ntmps204
 go_wp2_with fail
 refine HN.out.mono ?_
 rintro e w1 ⟨rfl,hb⟩
 obtain⟨hp1,hk1⟩:=HB0.out w1 hb
 have HP1:=Lib.hid hp1
 have HK1:=Lib.hid hk1
 clear hb hp1 hk1 HN HB0
 have HA1:=Lib.hid (HE1.out w1 HP1.out)
 clear HE1 HP1
 go_wp2_with fail
 refine HA1.out.mono ?_
 rintro e w2 hq2
 obtain⟨k,m,nm,va,vm,vc,rfl,hps,hall⟩:=HX.out _ _ _ HK1.out hq2
 have HPS:=Lib.hid (hps (.cells #[.int .i64 k,.int .i64 m,.string nm,.slice va vm vc] 57))
 have HAL:=Lib.hid hall
 have HN2:=Lib.hid (HNX.out _ (hps (.cells #[.int .i64 k,.int .i64 m,.string nm,.slice va vm vc] 57)))
 clear hq2 HA1 HX hps hall HK1 HNX
 go_wp2_with fail
 refine HN2.out.mono ?_
 rintro e w3 ⟨rfl,hb⟩
 have HP3:=Lib.hid (HPS.out.up hb)
 have HK3:=Lib.hid (KeptG.of_below (g:=C.g) hb)
 clear hb HN2 HPS
 obtain⟨⟨c2,f2,hw2⟩,hp4,hk4⟩:=X1.out w3 HP3.out
 have HP4:=Lib.hid hp4
 have HK4:=Lib.hid (HK3.out.trans hk4)
 clear hp4 hk4 X1 HK3 HP3
 have HA4:=Lib.hid (HE2.out _ HP4.out)
 clear HE2
 go_wp2_with fail
 refine HA4.out.mono ?_
 rintro e w6 hq6
 obtain⟨k2,m2,nm2,ua,um,uc,rfl,hne6,hz,hth,hfin⟩:=HAL.out _ HK4.out HP4.out _ _ hq6
 have HF9:=Lib.hid hfin
 have HTH:=Lib.hid hth
 have z0:=fun o=>(hz o).1
 have z1:=fun o=>(hz o).2.1
 have z2:=fun o=>(hz o).2.2.1
 have z3:=fun o=>(hz o).2.2.2
 clear hq6 HA4 HAL HK4 HP4 hfin hth hz
 go_wp2_with (refine gateS 55 2 rfl ?_;refine wpList_store_there rfl 55 _ _ rfl w.heap.size 0 rfl [.int .i64 3,.slice (some ⟨w6.heap.size+1,0,none⟩) 2 2,.slice none 0 0] rfl (by kernel_rfl) (one3 rfl rfl) (HTH.out _ _) ?_;intro w9 hst)
 exact bodyPost_ret (v:= .agg #[.int .i64 3,.slice (some ⟨w6.heap.size+1,0,none⟩) 2 2,.slice none 0 0]) (results_one rfl _ _ _ _ _ rfl (Tryz.cnLoad hst.at' rfl)) rfl (HF9.out _ hst)
theorem one_cmp2 (n:Nat)(IH:CSaid 204 (fun tk en=>done tk en n) n)(C:PC)(s:PS)(w:World)(h:PSt C s w)(hf:Fd (n+1) s)(m1:¬dnx C.tk s=(⟨#[33]⟩:ByteArray))(m2:¬dnx C.tk s=(⟨#[91]⟩:ByteArray))(m3:¬dnx C.tk s=(⟨#[116,114,117,101]⟩:ByteArray))(m4:¬dnx C.tk s=(⟨#[102,97,108,115,101]⟩:ByteArray))(ho:dnx C.tk (dex C.tk C.en s).2=(⟨#[60]⟩:ByteArray)):
 Calls Tryz.prog 204 #[C.p] w (PE (Vx cnX) (done C.tk C.en (n+1)) C s w):=by
 have hg:=h.lt
 have hgne:w.heap.size≠C.g:=by omega
 have HTH:Hid (∀W,KeptG C.g (w.alloc (.cells zCn.toArray 55)) W→W.there w.heap.size 0 3):=fun W hk=>hk.there (by simp) hgne (there_new w zCn 55)
 have HN:=Lib.hid (next_any C s _ (h.alloc (.cells zCn.toArray 55)))
 have HB0:Hid (∀W,Below (w.alloc (.cells zCn.toArray 55)).heap.size (w.alloc (.cells zCn.toArray 55)) W→PSt C s W∧KeptG C.g (w.alloc (.cells zCn.toArray 55)) W):=fun W hb=>⟨(h.alloc (.cells zCn.toArray 55)).up hb,KeptG.of_below hb⟩
 have hx0:=ne_lit [33] m1
 have hx1:=ne_lit [91] m2
 have hx2:=ne_lit [116,114,117,101] m3
 have hx3:=ne_lit [102,97,108,115,101] m4
 obtain⟨p,hp⟩:∃p,p=dex C.tk C.en s:=⟨_,rfl⟩
 rw[←hp]at ho
 have hy0:((dnx C.tk p.2).toList == [61,61])=false:=ne_lit [61,61] (by rw[ho];decide)
 have hy1:((dnx C.tk p.2).toList == [33,61])=false:=ne_lit [33,61] (by rw[ho];decide)
 have hy2:=eq_lit [60] ho
 have hy3:((dnx C.tk p.2).toList == [60,61])=false:=ne_lit [60,61] (by rw[ho];decide)
 obtain⟨h0,hnx⟩:=dnx_inv (tk:=C.tk) (s:=p.2) (by rw[ho];decide)
 obtain⟨s2,hs2⟩:∃s2,s2=pgo p.2:=⟨_,rfl⟩
 obtain⟨q,hq⟩:∃q,q=dex C.tk C.en s2:=⟨_,rfl⟩
 have ed:done C.tk C.en (n+1) s=(.mk 4 [p.1,q.1] [],q.2):=by
  rw[done,if_neg m1,if_neg m2,if_neg m3,if_neg m4]
  unfold dcmp
  dsimp only
  rw[←hp]
  rw[ho]
  rw[hq,hs2]
  rfl
 have HE1:=Lib.hid (fun W (hW:PSt C s W)=>expr_any C s W hW)
 have HE2:=Lib.hid (fun W (hW:PSt C s2 W)=>expr_any C s2 W hW)
 have HX:Hid (∀W e1 W1,KeptG C.g (w.alloc (.cells zCn.toArray 55)) W→PE (Vx exX) (dex C.tk C.en) C s W e1 W1→∃k m nm va vm vc,e1= .returned (.agg #[.int .i64 k,.int .i64 m,.string nm,.slice va vm vc])∧(∀o,PSt C p.2 (W1.alloc o))∧
  ∀W5,KeptG C.g (W1.alloc (.cells #[.int .i64 k,.int .i64 m,.string nm,.slice va vm vc] 57)) W5→PSt C s2 W5→∀e6 W6,PE (Vx exX) (dex C.tk C.en) C s2 W5 e6 W6→∃k2 m2 nm2 ua um uc,e6= .returned (.agg #[.int .i64 k2,.int .i64 m2,.string nm2,.slice ua um uc])∧W6.heap.size≠W1.heap.size∧
   (∀o,(W6.alloc o).cell? ⟨W1.heap.size,0,none⟩=some (.int .i64 k)∧(W6.alloc o).cell? ⟨W1.heap.size,1,none⟩=some (.int .i64 m)∧(W6.alloc o).cell? ⟨W1.heap.size,2,none⟩=some (.string nm)∧(W6.alloc o).cell? ⟨W1.heap.size,3,none⟩=some (.slice va vm vc))∧(∀o1 o2,((W6.alloc o1).alloc o2).there w.heap.size 0 3)∧
   ∀w9,Stored w.heap.size 0 [.int .i64 4,.slice (some ⟨W6.heap.size+1,0,none⟩) 2 2,.slice none 0 0] ((W6.alloc (.cells #[.int .i64 k2,.int .i64 m2,.string nm2,.slice ua um uc] 57)).alloc (.cells #[.int .i64 k,.int .i64 m,.string nm,.slice va vm vc,.int .i64 k2,.int .i64 m2,.string nm2,.slice ua um uc] 57)) w9→PE (Vx cnX) (done C.tk C.en (n+1)) C s w (.returned (.agg #[.int .i64 4,.slice (some ⟨W6.heap.size+1,0,none⟩) 2 2,.slice none 0 0])) w9):=fun W e1 W1 hk ⟨v,a1,⟨cs,a2,a3⟩,a4,a5⟩=>by
  rw[←hp]at a3 a4
  obtain⟨va,vm,vc,hcs,_⟩:=ex_open a3
  have hk1:=hk.trans a5
  have hz1:=hk.size
  have hz2:=a5.size
  have hz3:(w.alloc (.cells zCn.toArray 55)).heap.size=w.heap.size+1:=by simp
  have hgl:=a4.lt
  refine⟨p.1.kind,p.1.n,p.1.name,va,vm,vc,by rw[a1,a2,hcs],fun o=>a4.alloc o,fun W5 hk5 hp5 e6 W6 ⟨v6,b1,⟨cs2,b2,b3⟩,b4,b5⟩=> ?_⟩
  rw[←hq]at b3 b4
  obtain⟨ua,um,uc,hcs2,_⟩:=ex_open b3
  have hz5:=hk5.size
  have hz7:(W1.alloc (.cells #[.int .i64 p.1.kind,.int .i64 p.1.n,.string p.1.name,.slice va vm vc] 57)).heap.size=W1.heap.size+1:=by simp
  have hz6:=b5.size
  have hk16:KeptG C.g W1 W6:=((KeptG.alloc _ _ _).trans hk5).trans b5
  have hA:∀o1 o2,KeptG C.g W6 ((W6.alloc o1).alloc o2):=fun o1 o2=>(KeptG.alloc _ _ _).trans (KeptG.alloc _ _ _)
  refine⟨q.1.kind,q.1.n,q.1.name,ua,um,uc,by rw[b1,b2,hcs2],by omega,fun o=> ?_,fun o1 o2=>HTH.out _ ((hk1.trans hk16).trans (hA o1 o2)),fun w9 hst=> ?_⟩
  ·have hr:=((hk5.trans b5).trans (KeptG.alloc C.g W6 o)).range (h:=W1.heap.size) (by simp) (by omega) (range_new W1 [.int .i64 p.1.kind,.int .i64 p.1.n,.string p.1.name,.slice va vm vc] 57)
   exact⟨hr 0 _ rfl,hr 1 _ rfl,hr 2 _ rfl,hr 3 _ rfl⟩
  ·have hsz:(W6.alloc (.cells #[.int .i64 q.1.kind,.int .i64 q.1.n,.string q.1.name,.slice ua um uc] 57)).heap.size=W6.heap.size+1:=by simp
   have hrn:=range_new (W6.alloc (.cells #[.int .i64 q.1.kind,.int .i64 q.1.n,.string q.1.name,.slice ua um uc] 57)) ([.int .i64 p.1.kind,.int .i64 p.1.n,.string p.1.name,.slice va vm vc] ++ [.int .i64 q.1.kind,.int .i64 q.1.n,.string q.1.name,.slice ua um uc]) 57
   rw[hsz]at hrn
   refine box_fin (z:=zCn) hg ((hk1.trans hk16).trans (hA _ _)) (by rw[ed];exact(b4.alloc _).alloc _) ?_ hst zCn_ni
   rw[ed]
   refine cnE ⟨by decide,by decide⟩ (slot_two hrn ?_ ?_ ⟨by omega, ?_⟩) (slot_none _ _ _)
   ·have h9:=sh_hi (B':=w.heap.size+1) a3 ((hk16.trans (hA (.cells #[.int .i64 q.1.kind,.int .i64 q.1.n,.string q.1.name,.slice ua um uc] 57) (.cells #[.int .i64 p.1.kind,.int .i64 p.1.n,.string p.1.name,.slice va vm vc,.int .i64 q.1.kind,.int .i64 q.1.n,.string q.1.name,.slice ua um uc] 57))).hi (B:=W.heap.size) (by omega)) (by omega)
    rw[hcs]at h9
    exact h9
   ·have h9:=sh_hi (B':=w.heap.size+1) b3 ((hA (.cells #[.int .i64 q.1.kind,.int .i64 q.1.n,.string q.1.name,.slice ua um uc] 57) (.cells #[.int .i64 p.1.kind,.int .i64 p.1.n,.string p.1.name,.slice va vm vc,.int .i64 q.1.kind,.int .i64 q.1.n,.string q.1.name,.slice ua um uc] 57)).hi (B:=W5.heap.size) (by omega)) (by omega)
    rw[hcs2]at h9
    exact h9
   ·show W6.heap.size+1<(World.alloc _ _).heap.size
    rw[World.size_alloc,hsz]
    omega
 have HNX:=Lib.hid (fun W (hW:PSt C p.2 W)=>next_any C p.2 W hW)
 have X1:Hid (∀W,PSt C p.2 W→(W.cell? ⟨C.g,2,none⟩=some (.int .i64 p.2.nx)∧W.frozen? ⟨C.g,2,none⟩=false∧IntKind.i64.wrap ((p.2.nx:Int)+1)=(p.2.nx:Int)+1)∧PSt C s2 (W.setCell ⟨C.g,2,none⟩ (.int .i64 ((p.2.nx:Int)+1)))∧KeptG C.g W (W.setCell ⟨C.g,2,none⟩ (.int .i64 ((p.2.nx:Int)+1)))):=fun W hW=>⟨two_wrap hW h0,by rw[hs2];exact hW.go h0 hnx,KeptG.set⟩
 generalize PE (Vx cnX) (done C.tk C.en (n+1)) C s w=Q at*
 unfold PC.p at*
 unfold zCn at*
 clear h hf HTH ed m1 m2 m3 m4 IH hs2 hp hq ho h0 hnx
 generalize dnx C.tk s=tx at*
 generalize dnx C.tk p.2=ty at*
 go_enter Tryz.func204,Tryz.ntmps204
 go_wp2_with fail
 refine HN.out.mono ?_
 rintro e w1 ⟨rfl,hb⟩
 obtain⟨hp1,hk1⟩:=HB0.out w1 hb
 have HP1:=Lib.hid hp1
 have HK1:=Lib.hid hk1
 clear hb hp1 hk1 HN HB0
 have HA1:=Lib.hid (HE1.out w1 HP1.out)
 clear HE1 HP1
 go_wp2_with fail
 refine HA1.out.mono ?_
 rintro e w2 hq2
 obtain⟨k,m,nm,va,vm,vc,rfl,hps,hall⟩:=HX.out _ _ _ HK1.out hq2
 have HPS:=Lib.hid (hps (.cells #[.int .i64 k,.int .i64 m,.string nm,.slice va vm vc] 57))
 have HAL:=Lib.hid hall
 have HN2:=Lib.hid (HNX.out _ (hps (.cells #[.int .i64 k,.int .i64 m,.string nm,.slice va vm vc] 57)))
 clear hq2 HA1 HX hps hall HK1 HNX
 go_wp2_with fail
 refine HN2.out.mono ?_
 rintro e w3 ⟨rfl,hb⟩
 have HP3:=Lib.hid (HPS.out.up hb)
 have HK3:=Lib.hid (KeptG.of_below (g:=C.g) hb)
 clear hb HN2 HPS
 obtain⟨⟨c2,f2,hw2⟩,hp4,hk4⟩:=X1.out w3 HP3.out
 have HP4:=Lib.hid hp4
 have HK4:=Lib.hid (HK3.out.trans hk4)
 clear hp4 hk4 X1 HK3 HP3
 have HA4:=Lib.hid (HE2.out _ HP4.out)
 clear HE2
 go_wp2_with fail
 refine HA4.out.mono ?_
 rintro e w6 hq6
 obtain⟨k2,m2,nm2,ua,um,uc,rfl,hne6,hz,hth,hfin⟩:=HAL.out _ HK4.out HP4.out _ _ hq6
 have HF9:=Lib.hid hfin
 have HTH:=Lib.hid hth
 have z0:=fun o=>(hz o).1
 have z1:=fun o=>(hz o).2.1
 have z2:=fun o=>(hz o).2.2.1
 have z3:=fun o=>(hz o).2.2.2
 clear hq6 HA4 HAL HK4 HP4 hfin hth hz
 go_wp2_with (refine gateS 55 2 rfl ?_;refine wpList_store_there rfl 55 _ _ rfl w.heap.size 0 rfl [.int .i64 4,.slice (some ⟨w6.heap.size+1,0,none⟩) 2 2,.slice none 0 0] rfl (by kernel_rfl) (one3 rfl rfl) (HTH.out _ _) ?_;intro w9 hst)
 exact bodyPost_ret (v:= .agg #[.int .i64 4,.slice (some ⟨w6.heap.size+1,0,none⟩) 2 2,.slice none 0 0]) (results_one rfl _ _ _ _ _ rfl (Tryz.cnLoad hst.at' rfl)) rfl (HF9.out _ hst)
theorem one_cmp3 (n:Nat)(IH:CSaid 204 (fun tk en=>done tk en n) n)(C:PC)(s:PS)(w:World)(h:PSt C s w)(hf:Fd (n+1) s)(m1:¬dnx C.tk s=(⟨#[33]⟩:ByteArray))(m2:¬dnx C.tk s=(⟨#[91]⟩:ByteArray))(m3:¬dnx C.tk s=(⟨#[116,114,117,101]⟩:ByteArray))(m4:¬dnx C.tk s=(⟨#[102,97,108,115,101]⟩:ByteArray))(ho:dnx C.tk (dex C.tk C.en s).2=(⟨#[60,61]⟩:ByteArray)):
 Calls Tryz.prog 204 #[C.p] w (PE (Vx cnX) (done C.tk C.en (n+1)) C s w):=by
 have hg:=h.lt
 have hgne:w.heap.size≠C.g:=by omega
 have HTH:Hid (∀W,KeptG C.g (w.alloc (.cells zCn.toArray 55)) W→W.there w.heap.size 0 3):=fun W hk=>hk.there (by simp) hgne (there_new w zCn 55)
 have HN:=Lib.hid (next_any C s _ (h.alloc (.cells zCn.toArray 55)))
 have HB0:Hid (∀W,Below (w.alloc (.cells zCn.toArray 55)).heap.size (w.alloc (.cells zCn.toArray 55)) W→PSt C s W∧KeptG C.g (w.alloc (.cells zCn.toArray 55)) W):=fun W hb=>⟨(h.alloc (.cells zCn.toArray 55)).up hb,KeptG.of_below hb⟩
 have hx0:=ne_lit [33] m1
 have hx1:=ne_lit [91] m2
 have hx2:=ne_lit [116,114,117,101] m3
 have hx3:=ne_lit [102,97,108,115,101] m4
 obtain⟨p,hp⟩:∃p,p=dex C.tk C.en s:=⟨_,rfl⟩
 rw[←hp]at ho
 have hy0:((dnx C.tk p.2).toList == [61,61])=false:=ne_lit [61,61] (by rw[ho];decide)
 have hy1:((dnx C.tk p.2).toList == [33,61])=false:=ne_lit [33,61] (by rw[ho];decide)
 have hy2:((dnx C.tk p.2).toList == [60])=false:=ne_lit [60] (by rw[ho];decide)
 have hy3:=eq_lit [60,61] ho
 obtain⟨h0,hnx⟩:=dnx_inv (tk:=C.tk) (s:=p.2) (by rw[ho];decide)
 obtain⟨s2,hs2⟩:∃s2,s2=pgo p.2:=⟨_,rfl⟩
 obtain⟨q,hq⟩:∃q,q=dex C.tk C.en s2:=⟨_,rfl⟩
 have ed:done C.tk C.en (n+1) s=(.mk 5 [p.1,q.1] [],q.2):=by
  rw[done,if_neg m1,if_neg m2,if_neg m3,if_neg m4]
  unfold dcmp
  dsimp only
  rw[←hp]
  rw[ho]
  rw[hq,hs2]
  rfl
 have HE1:=Lib.hid (fun W (hW:PSt C s W)=>expr_any C s W hW)
 have HE2:=Lib.hid (fun W (hW:PSt C s2 W)=>expr_any C s2 W hW)
 have HX:Hid (∀W e1 W1,KeptG C.g (w.alloc (.cells zCn.toArray 55)) W→PE (Vx exX) (dex C.tk C.en) C s W e1 W1→∃k m nm va vm vc,e1= .returned (.agg #[.int .i64 k,.int .i64 m,.string nm,.slice va vm vc])∧(∀o,PSt C p.2 (W1.alloc o))∧
  ∀W5,KeptG C.g (W1.alloc (.cells #[.int .i64 k,.int .i64 m,.string nm,.slice va vm vc] 57)) W5→PSt C s2 W5→∀e6 W6,PE (Vx exX) (dex C.tk C.en) C s2 W5 e6 W6→∃k2 m2 nm2 ua um uc,e6= .returned (.agg #[.int .i64 k2,.int .i64 m2,.string nm2,.slice ua um uc])∧W6.heap.size≠W1.heap.size∧
   (∀o,(W6.alloc o).cell? ⟨W1.heap.size,0,none⟩=some (.int .i64 k)∧(W6.alloc o).cell? ⟨W1.heap.size,1,none⟩=some (.int .i64 m)∧(W6.alloc o).cell? ⟨W1.heap.size,2,none⟩=some (.string nm)∧(W6.alloc o).cell? ⟨W1.heap.size,3,none⟩=some (.slice va vm vc))∧(∀o1 o2,((W6.alloc o1).alloc o2).there w.heap.size 0 3)∧
   ∀w9,Stored w.heap.size 0 [.int .i64 5,.slice (some ⟨W6.heap.size+1,0,none⟩) 2 2,.slice none 0 0] ((W6.alloc (.cells #[.int .i64 k2,.int .i64 m2,.string nm2,.slice ua um uc] 57)).alloc (.cells #[.int .i64 k,.int .i64 m,.string nm,.slice va vm vc,.int .i64 k2,.int .i64 m2,.string nm2,.slice ua um uc] 57)) w9→PE (Vx cnX) (done C.tk C.en (n+1)) C s w (.returned (.agg #[.int .i64 5,.slice (some ⟨W6.heap.size+1,0,none⟩) 2 2,.slice none 0 0])) w9):=fun W e1 W1 hk ⟨v,a1,⟨cs,a2,a3⟩,a4,a5⟩=>by
  rw[←hp]at a3 a4
  obtain⟨va,vm,vc,hcs,_⟩:=ex_open a3
  have hk1:=hk.trans a5
  have hz1:=hk.size
  have hz2:=a5.size
  have hz3:(w.alloc (.cells zCn.toArray 55)).heap.size=w.heap.size+1:=by simp
  have hgl:=a4.lt
  refine⟨p.1.kind,p.1.n,p.1.name,va,vm,vc,by rw[a1,a2,hcs],fun o=>a4.alloc o,fun W5 hk5 hp5 e6 W6 ⟨v6,b1,⟨cs2,b2,b3⟩,b4,b5⟩=> ?_⟩
  rw[←hq]at b3 b4
  obtain⟨ua,um,uc,hcs2,_⟩:=ex_open b3
  have hz5:=hk5.size
  have hz7:(W1.alloc (.cells #[.int .i64 p.1.kind,.int .i64 p.1.n,.string p.1.name,.slice va vm vc] 57)).heap.size=W1.heap.size+1:=by simp
  have hz6:=b5.size
  have hk16:KeptG C.g W1 W6:=((KeptG.alloc _ _ _).trans hk5).trans b5
  have hA:∀o1 o2,KeptG C.g W6 ((W6.alloc o1).alloc o2):=fun o1 o2=>(KeptG.alloc _ _ _).trans (KeptG.alloc _ _ _)
  refine⟨q.1.kind,q.1.n,q.1.name,ua,um,uc,by rw[b1,b2,hcs2],by omega,fun o=> ?_,fun o1 o2=>HTH.out _ ((hk1.trans hk16).trans (hA o1 o2)),fun w9 hst=> ?_⟩
  ·have hr:=((hk5.trans b5).trans (KeptG.alloc C.g W6 o)).range (h:=W1.heap.size) (by simp) (by omega) (range_new W1 [.int .i64 p.1.kind,.int .i64 p.1.n,.string p.1.name,.slice va vm vc] 57)
   exact⟨hr 0 _ rfl,hr 1 _ rfl,hr 2 _ rfl,hr 3 _ rfl⟩
  ·have hsz:(W6.alloc (.cells #[.int .i64 q.1.kind,.int .i64 q.1.n,.string q.1.name,.slice ua um uc] 57)).heap.size=W6.heap.size+1:=by simp
   have hrn:=range_new (W6.alloc (.cells #[.int .i64 q.1.kind,.int .i64 q.1.n,.string q.1.name,.slice ua um uc] 57)) ([.int .i64 p.1.kind,.int .i64 p.1.n,.string p.1.name,.slice va vm vc] ++ [.int .i64 q.1.kind,.int .i64 q.1.n,.string q.1.name,.slice ua um uc]) 57
   rw[hsz]at hrn
   refine box_fin (z:=zCn) hg ((hk1.trans hk16).trans (hA _ _)) (by rw[ed];exact(b4.alloc _).alloc _) ?_ hst zCn_ni
   rw[ed]
   refine cnE ⟨by decide,by decide⟩ (slot_two hrn ?_ ?_ ⟨by omega, ?_⟩) (slot_none _ _ _)
   ·have h9:=sh_hi (B':=w.heap.size+1) a3 ((hk16.trans (hA (.cells #[.int .i64 q.1.kind,.int .i64 q.1.n,.string q.1.name,.slice ua um uc] 57) (.cells #[.int .i64 p.1.kind,.int .i64 p.1.n,.string p.1.name,.slice va vm vc,.int .i64 q.1.kind,.int .i64 q.1.n,.string q.1.name,.slice ua um uc] 57))).hi (B:=W.heap.size) (by omega)) (by omega)
    rw[hcs]at h9
    exact h9
   ·have h9:=sh_hi (B':=w.heap.size+1) b3 ((hA (.cells #[.int .i64 q.1.kind,.int .i64 q.1.n,.string q.1.name,.slice ua um uc] 57) (.cells #[.int .i64 p.1.kind,.int .i64 p.1.n,.string p.1.name,.slice va vm vc,.int .i64 q.1.kind,.int .i64 q.1.n,.string q.1.name,.slice ua um uc] 57)).hi (B:=W5.heap.size) (by omega)) (by omega)
    rw[hcs2]at h9
    exact h9
   ·show W6.heap.size+1<(World.alloc _ _).heap.size
    rw[World.size_alloc,hsz]
    omega
 have HNX:=Lib.hid (fun W (hW:PSt C p.2 W)=>next_any C p.2 W hW)
 have X1:Hid (∀W,PSt C p.2 W→(W.cell? ⟨C.g,2,none⟩=some (.int .i64 p.2.nx)∧W.frozen? ⟨C.g,2,none⟩=false∧IntKind.i64.wrap ((p.2.nx:Int)+1)=(p.2.nx:Int)+1)∧PSt C s2 (W.setCell ⟨C.g,2,none⟩ (.int .i64 ((p.2.nx:Int)+1)))∧KeptG C.g W (W.setCell ⟨C.g,2,none⟩ (.int .i64 ((p.2.nx:Int)+1)))):=fun W hW=>⟨two_wrap hW h0,by rw[hs2];exact hW.go h0 hnx,KeptG.set⟩
 generalize PE (Vx cnX) (done C.tk C.en (n+1)) C s w=Q at*
 unfold PC.p at*
 unfold zCn at*
 clear h hf HTH ed m1 m2 m3 m4 IH hs2 hp hq ho h0 hnx
 generalize dnx C.tk s=tx at*
 generalize dnx C.tk p.2=ty at*
 go_enter Tryz.func204,Tryz.ntmps204
 go_wp2_with fail
 refine HN.out.mono ?_
 rintro e w1 ⟨rfl,hb⟩
 obtain⟨hp1,hk1⟩:=HB0.out w1 hb
 have HP1:=Lib.hid hp1
 have HK1:=Lib.hid hk1
 clear hb hp1 hk1 HN HB0
 have HA1:=Lib.hid (HE1.out w1 HP1.out)
 clear HE1 HP1
 go_wp2_with fail
 refine HA1.out.mono ?_
 rintro e w2 hq2
 obtain⟨k,m,nm,va,vm,vc,rfl,hps,hall⟩:=HX.out _ _ _ HK1.out hq2
 have HPS:=Lib.hid (hps (.cells #[.int .i64 k,.int .i64 m,.string nm,.slice va vm vc] 57))
 have HAL:=Lib.hid hall
 have HN2:=Lib.hid (HNX.out _ (hps (.cells #[.int .i64 k,.int .i64 m,.string nm,.slice va vm vc] 57)))
 clear hq2 HA1 HX hps hall HK1 HNX
 go_wp2_with fail
 refine HN2.out.mono ?_
 rintro e w3 ⟨rfl,hb⟩
 have HP3:=Lib.hid (HPS.out.up hb)
 have HK3:=Lib.hid (KeptG.of_below (g:=C.g) hb)
 clear hb HN2 HPS
 obtain⟨⟨c2,f2,hw2⟩,hp4,hk4⟩:=X1.out w3 HP3.out
 have HP4:=Lib.hid hp4
 have HK4:=Lib.hid (HK3.out.trans hk4)
 clear hp4 hk4 X1 HK3 HP3
 have HA4:=Lib.hid (HE2.out _ HP4.out)
 clear HE2
 go_wp2_with fail
 refine HA4.out.mono ?_
 rintro e w6 hq6
 obtain⟨k2,m2,nm2,ua,um,uc,rfl,hne6,hz,hth,hfin⟩:=HAL.out _ HK4.out HP4.out _ _ hq6
 have HF9:=Lib.hid hfin
 have HTH:=Lib.hid hth
 have z0:=fun o=>(hz o).1
 have z1:=fun o=>(hz o).2.1
 have z2:=fun o=>(hz o).2.2.1
 have z3:=fun o=>(hz o).2.2.2
 clear hq6 HA4 HAL HK4 HP4 hfin hth hz
 go_wp2_with (refine gateS 55 2 rfl ?_;refine wpList_store_there rfl 55 _ _ rfl w.heap.size 0 rfl [.int .i64 5,.slice (some ⟨w6.heap.size+1,0,none⟩) 2 2,.slice none 0 0] rfl (by kernel_rfl) (one3 rfl rfl) (HTH.out _ _) ?_;intro w9 hst)
 exact bodyPost_ret (v:= .agg #[.int .i64 5,.slice (some ⟨w6.heap.size+1,0,none⟩) 2 2,.slice none 0 0]) (results_one rfl _ _ _ _ _ rfl (Tryz.cnLoad hst.at' rfl)) rfl (HF9.out _ hst)
theorem one_cmpN (n:Nat)(IH:CSaid 204 (fun tk en=>done tk en n) n)(C:PC)(s:PS)(w:World)(h:PSt C s w)(hf:Fd (n+1) s)(m1:¬dnx C.tk s=(⟨#[33]⟩:ByteArray))(m2:¬dnx C.tk s=(⟨#[91]⟩:ByteArray))(m3:¬dnx C.tk s=(⟨#[116,114,117,101]⟩:ByteArray))(m4:¬dnx C.tk s=(⟨#[102,97,108,115,101]⟩:ByteArray))(o1:¬dnx C.tk (dex C.tk C.en s).2=(⟨#[61,61]⟩:ByteArray))(o2:¬dnx C.tk (dex C.tk C.en s).2=(⟨#[33,61]⟩:ByteArray))(o3:¬dnx C.tk (dex C.tk C.en s).2=(⟨#[60]⟩:ByteArray))(o4:¬dnx C.tk (dex C.tk C.en s).2=(⟨#[60,61]⟩:ByteArray)):
 Calls Tryz.prog 204 #[C.p] w (PE (Vx cnX) (done C.tk C.en (n+1)) C s w):=by
 have hg:=h.lt
 have hgne:w.heap.size≠C.g:=by omega
 have HTH:Hid (∀W,KeptG C.g (w.alloc (.cells zCn.toArray 55)) W→W.there w.heap.size 0 3):=fun W hk=>hk.there (by simp) hgne (there_new w zCn 55)
 have HN:=Lib.hid (next_any C s _ (h.alloc (.cells zCn.toArray 55)))
 have HB0:Hid (∀W,Below (w.alloc (.cells zCn.toArray 55)).heap.size (w.alloc (.cells zCn.toArray 55)) W→PSt C s W∧KeptG C.g (w.alloc (.cells zCn.toArray 55)) W):=fun W hb=>⟨(h.alloc (.cells zCn.toArray 55)).up hb,KeptG.of_below hb⟩
 have hx0:=ne_lit [33] m1
 have hx1:=ne_lit [91] m2
 have hx2:=ne_lit [116,114,117,101] m3
 have hx3:=ne_lit [102,97,108,115,101] m4
 obtain⟨p,hp⟩:∃p,p=dex C.tk C.en s:=⟨_,rfl⟩
 rw[←hp]at o1 o2 o3 o4
 have hy0:=ne_lit [61,61] o1
 have hy1:=ne_lit [33,61] o2
 have hy2:=ne_lit [60] o3
 have hy3:=ne_lit [60,61] o4
 obtain⟨s2,hs2⟩:∃s2,s2=pfail C.tk C.en 11 p.2:=⟨_,rfl⟩
 obtain⟨q,hq⟩:∃q,q=dex C.tk C.en s2:=⟨_,rfl⟩
 have ed:done C.tk C.en (n+1) s=(.mk 0 [p.1,q.1] [],q.2):=by
  rw[done,if_neg m1,if_neg m2,if_neg m3,if_neg m4]
  unfold dcmp
  dsimp only
  rw[←hp]
  rw[if_neg o1,if_neg o2,if_neg o3,if_neg o4]
  rw[hq,hs2]
  rfl
 have HE1:=Lib.hid (fun W (hW:PSt C s W)=>expr_any C s W hW)
 have HE2:=Lib.hid (fun W (hW:PSt C s2 W)=>expr_any C s2 W hW)
 have HX:Hid (∀W e1 W1,KeptG C.g (w.alloc (.cells zCn.toArray 55)) W→PE (Vx exX) (dex C.tk C.en) C s W e1 W1→∃k m nm va vm vc,e1= .returned (.agg #[.int .i64 k,.int .i64 m,.string nm,.slice va vm vc])∧(∀o,PSt C p.2 (W1.alloc o))∧
  ∀W5,KeptG C.g (W1.alloc (.cells #[.int .i64 k,.int .i64 m,.string nm,.slice va vm vc] 57)) W5→PSt C s2 W5→∀e6 W6,PE (Vx exX) (dex C.tk C.en) C s2 W5 e6 W6→∃k2 m2 nm2 ua um uc,e6= .returned (.agg #[.int .i64 k2,.int .i64 m2,.string nm2,.slice ua um uc])∧W6.heap.size≠W1.heap.size∧
   (∀o,(W6.alloc o).cell? ⟨W1.heap.size,0,none⟩=some (.int .i64 k)∧(W6.alloc o).cell? ⟨W1.heap.size,1,none⟩=some (.int .i64 m)∧(W6.alloc o).cell? ⟨W1.heap.size,2,none⟩=some (.string nm)∧(W6.alloc o).cell? ⟨W1.heap.size,3,none⟩=some (.slice va vm vc))∧(∀o1 o2,((W6.alloc o1).alloc o2).there w.heap.size 0 3)∧
   ∀w9,Stored w.heap.size 0 [.int .i64 0,.slice (some ⟨W6.heap.size+1,0,none⟩) 2 2,.slice none 0 0] ((W6.alloc (.cells #[.int .i64 k2,.int .i64 m2,.string nm2,.slice ua um uc] 57)).alloc (.cells #[.int .i64 k,.int .i64 m,.string nm,.slice va vm vc,.int .i64 k2,.int .i64 m2,.string nm2,.slice ua um uc] 57)) w9→PE (Vx cnX) (done C.tk C.en (n+1)) C s w (.returned (.agg #[.int .i64 0,.slice (some ⟨W6.heap.size+1,0,none⟩) 2 2,.slice none 0 0])) w9):=fun W e1 W1 hk ⟨v,a1,⟨cs,a2,a3⟩,a4,a5⟩=>by
  rw[←hp]at a3 a4
  obtain⟨va,vm,vc,hcs,_⟩:=ex_open a3
  have hk1:=hk.trans a5
  have hz1:=hk.size
  have hz2:=a5.size
  have hz3:(w.alloc (.cells zCn.toArray 55)).heap.size=w.heap.size+1:=by simp
  have hgl:=a4.lt
  refine⟨p.1.kind,p.1.n,p.1.name,va,vm,vc,by rw[a1,a2,hcs],fun o=>a4.alloc o,fun W5 hk5 hp5 e6 W6 ⟨v6,b1,⟨cs2,b2,b3⟩,b4,b5⟩=> ?_⟩
  rw[←hq]at b3 b4
  obtain⟨ua,um,uc,hcs2,_⟩:=ex_open b3
  have hz5:=hk5.size
  have hz7:(W1.alloc (.cells #[.int .i64 p.1.kind,.int .i64 p.1.n,.string p.1.name,.slice va vm vc] 57)).heap.size=W1.heap.size+1:=by simp
  have hz6:=b5.size
  have hk16:KeptG C.g W1 W6:=((KeptG.alloc _ _ _).trans hk5).trans b5
  have hA:∀o1 o2,KeptG C.g W6 ((W6.alloc o1).alloc o2):=fun o1 o2=>(KeptG.alloc _ _ _).trans (KeptG.alloc _ _ _)
  refine⟨q.1.kind,q.1.n,q.1.name,ua,um,uc,by rw[b1,b2,hcs2],by omega,fun o=> ?_,fun o1 o2=>HTH.out _ ((hk1.trans hk16).trans (hA o1 o2)),fun w9 hst=> ?_⟩
  ·have hr:=((hk5.trans b5).trans (KeptG.alloc C.g W6 o)).range (h:=W1.heap.size) (by simp) (by omega) (range_new W1 [.int .i64 p.1.kind,.int .i64 p.1.n,.string p.1.name,.slice va vm vc] 57)
   exact⟨hr 0 _ rfl,hr 1 _ rfl,hr 2 _ rfl,hr 3 _ rfl⟩
  ·have hsz:(W6.alloc (.cells #[.int .i64 q.1.kind,.int .i64 q.1.n,.string q.1.name,.slice ua um uc] 57)).heap.size=W6.heap.size+1:=by simp
   have hrn:=range_new (W6.alloc (.cells #[.int .i64 q.1.kind,.int .i64 q.1.n,.string q.1.name,.slice ua um uc] 57)) ([.int .i64 p.1.kind,.int .i64 p.1.n,.string p.1.name,.slice va vm vc] ++ [.int .i64 q.1.kind,.int .i64 q.1.n,.string q.1.name,.slice ua um uc]) 57
   rw[hsz]at hrn
   refine box_fin (z:=zCn) hg ((hk1.trans hk16).trans (hA _ _)) (by rw[ed];exact(b4.alloc _).alloc _) ?_ hst zCn_ni
   rw[ed]
   refine cnE ⟨by decide,by decide⟩ (slot_two hrn ?_ ?_ ⟨by omega, ?_⟩) (slot_none _ _ _)
   ·have h9:=sh_hi (B':=w.heap.size+1) a3 ((hk16.trans (hA (.cells #[.int .i64 q.1.kind,.int .i64 q.1.n,.string q.1.name,.slice ua um uc] 57) (.cells #[.int .i64 p.1.kind,.int .i64 p.1.n,.string p.1.name,.slice va vm vc,.int .i64 q.1.kind,.int .i64 q.1.n,.string q.1.name,.slice ua um uc] 57))).hi (B:=W.heap.size) (by omega)) (by omega)
    rw[hcs]at h9
    exact h9
   ·have h9:=sh_hi (B':=w.heap.size+1) b3 ((hA (.cells #[.int .i64 q.1.kind,.int .i64 q.1.n,.string q.1.name,.slice ua um uc] 57) (.cells #[.int .i64 p.1.kind,.int .i64 p.1.n,.string p.1.name,.slice va vm vc,.int .i64 q.1.kind,.int .i64 q.1.n,.string q.1.name,.slice ua um uc] 57)).hi (B:=W5.heap.size) (by omega)) (by omega)
    rw[hcs2]at h9
    exact h9
   ·show W6.heap.size+1<(World.alloc _ _).heap.size
    rw[World.size_alloc,hsz]
    omega
 have HNX:=Lib.hid (fun W (hW:PSt C p.2 W)=>next_any C p.2 W hW)
 have HF:=Lib.hid (fun W (hW:PSt C p.2 W)=>amiss_any C p.2 11 W hW (by decide))
 have X1:Hid (∀W e1 W1,PU (pfail C.tk C.en 11) C p.2 W e1 W1→e1= .returned (.tuple #[])∧PSt C s2 W1∧KeptG C.g W W1):=fun W e1 W1 hu=>by rw[hs2];exact hu
 generalize PE (Vx cnX) (done C.tk C.en (n+1)) C s w=Q at*
 unfold PC.p at*
 unfold zCn at*
 clear h hf HTH ed m1 m2 m3 m4 IH hs2 hp hq o1 o2 o3 o4
 generalize dnx C.tk s=tx at*
 generalize dnx C.tk p.2=ty at*
 go_enter Tryz.func204,Tryz.ntmps204
 go_wp2_with fail
 refine HN.out.mono ?_
 rintro e w1 ⟨rfl,hb⟩
 obtain⟨hp1,hk1⟩:=HB0.out w1 hb
 have HP1:=Lib.hid hp1
 have HK1:=Lib.hid hk1
 clear hb hp1 hk1 HN HB0
 have HA1:=Lib.hid (HE1.out w1 HP1.out)
 clear HE1 HP1
 go_wp2_with fail
 refine HA1.out.mono ?_
 rintro e w2 hq2
 obtain⟨k,m,nm,va,vm,vc,rfl,hps,hall⟩:=HX.out _ _ _ HK1.out hq2
 have HPS:=Lib.hid (hps (.cells #[.int .i64 k,.int .i64 m,.string nm,.slice va vm vc] 57))
 have HAL:=Lib.hid hall
 have HN2:=Lib.hid (HNX.out _ (hps (.cells #[.int .i64 k,.int .i64 m,.string nm,.slice va vm vc] 57)))
 clear hq2 HA1 HX hps hall HK1 HNX
 go_wp2_with fail
 refine HN2.out.mono ?_
 rintro e w3 ⟨rfl,hb⟩
 have HP3:=Lib.hid (HPS.out.up hb)
 have HK3:=Lib.hid (KeptG.of_below (g:=C.g) hb)
 clear hb HN2 HPS
 have HF3:=Lib.hid (HF.out w3 HP3.out)
 clear HF HP3
 go_wp2_with fail
 refine HF3.out.mono ?_
 rintro e w4 hu
 obtain⟨rfl,hp4,hk4⟩:=X1.out _ _ _ hu
 have HP4:=Lib.hid hp4
 have HK4:=Lib.hid (HK3.out.trans hk4)
 clear hu hp4 hk4 HF3 X1 HK3
 have HA4:=Lib.hid (HE2.out _ HP4.out)
 clear HE2
 go_wp2_with fail
 refine HA4.out.mono ?_
 rintro e w6 hq6
 obtain⟨k2,m2,nm2,ua,um,uc,rfl,hne6,hz,hth,hfin⟩:=HAL.out _ HK4.out HP4.out _ _ hq6
 have HF9:=Lib.hid hfin
 have HTH:=Lib.hid hth
 have z0:=fun o=>(hz o).1
 have z1:=fun o=>(hz o).2.1
 have z2:=fun o=>(hz o).2.2.1
 have z3:=fun o=>(hz o).2.2.2
 clear hq6 HA4 HAL HK4 HP4 hfin hth hz
 go_wp2_with (refine gateS 55 2 rfl ?_;refine wpList_store_there rfl 55 _ _ rfl w.heap.size 0 rfl [.int .i64 0,.slice (some ⟨w6.heap.size+1,0,none⟩) 2 2,.slice none 0 0] rfl (by kernel_rfl) (one3 rfl rfl) (HTH.out _ _) ?_;intro w9 hst)
 exact bodyPost_ret (v:= .agg #[.int .i64 0,.slice (some ⟨w6.heap.size+1,0,none⟩) 2 2,.slice none 0 0]) (results_one rfl _ _ _ _ _ rfl (Tryz.cnLoad hst.at' rfl)) rfl (HF9.out _ hst)
end Dc
end Go.Proofs.YtcinokljkieijaaGreatDoor
