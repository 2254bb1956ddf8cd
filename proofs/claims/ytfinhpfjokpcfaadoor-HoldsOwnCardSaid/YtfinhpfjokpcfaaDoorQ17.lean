/- Parts of a proof. -/
import Derived.Test.YtfinhpfjokpcfaaDoorQ14
import Derived.Test.YtfinhpfjokpcfaaDoorQ16
import Derived.Deep.RegionWith
set_option linter.unusedVariables false
set_option linter.unusedSimpArgs false
set_option maxHeartbeats 60000000
set_option maxRecDepth 100000
namespace Go.Proofs.YtfinhpfjokpcfaaDoor
section
open Go.RowKit
theorem TkEnd.boxed {g:Nat}{vv cv:Value}{ys0 ys:List HC}{hb0 hb:Bool}{ob:Option Nat}{z:Bool}{w W:World}{r:Ending}{w':World}(h:TkEnd g vv cv ys hb ob z W r w')(hk:Kp g ob w W):TkEnd g vv cv ys hb ob z w r w':=by
 obtain⟨h1,h2,ob',h3,h4⟩:=h
 refine⟨h1,hk.trans h2 (.inl rfl),ob',h3, ?_⟩
 rcases h4 with e | ⟨k,e,hk2⟩
 ·exact .inl e
 ·exact .inr ⟨k,e,Nat.le_trans hk.low.size hk2⟩
theorem take_0 (g:Nat)(av ah:Option Addr)(nv nh c1 c2:Nat)(ys:List HC)(hb:Bool)(ob:Option Nat)(ca:List Value)(w:World)(ht:TkO g (.slice av nv c1) (.slice ah nh c2) ys hb ob w)(hlen:ca.length=15)(q0:ca[0]? =some (.int .i64 0)):
 Calls Tryd.prog 11 #[.pointer (some ⟨g,0,none⟩),.agg ca.toArray] w (TkEnd g (.slice av nv c1) (.slice ah nh c2) ys hb ob true w):=by
 have hg:=ht.lt
 have hol:=ht.ob_lt
 have HA:Hid (Below w.heap.size w (w.alloc (.cells ca.toArray 30))):=box_low
 have HB0:Hid (Below (w.alloc (.cells ca.toArray 30)).heap.size (w.alloc (.cells ca.toArray 30)) (w.alloc (.cells ca.toArray 30))):=Below.refl _ _
 have HT0:=Lib.hid (ht.below HA.out)
 have HK0:=Lib.hid (Kp.of HA.out hg (ob:=ob))
 have HGA:Hid (Below g w (w.alloc (.cells ca.toArray 30))):=Lib.hid (HA.out.mono (Nat.le_of_lt hg))
 have HG:=Lib.hid hg
 have HNE:Hid (¬w.heap.size=g):=Lib.hid (by omega)
 have HNO:Hid (some w.heap.size≠ob):=Lib.hid (fun e=>by have:=hol _ e.symm;omega)
 have HLT:Hid (w.heap.size<(w.alloc (.cells ca.toArray 30)).heap.size):=Lib.hid (by simp)
 have L0:=Lib.hid hlen
 have k0:=box_at q0 HB0.out
 clear ht hlen q0 hg hol
 go_enter Tryd.func11,Tryd.ntmps11
 go_wp2_with fail
 go_ret
 exact⟨rfl,HK0.out,ob,HT0.out,.inl rfl⟩
theorem take_2 (g:Nat)(av ah:Option Addr)(nv nh c1 c2:Nat)(ys:List HC)(hb:Bool)(ob:Option Nat)(ys1:List HC)(hb1 z:Bool)(ca:List Value)(w:World)(ht:TkO g (.slice av nv c1) (.slice ah nh c2) ys hb ob w)(hlen:ca.length=15)(q0:ca[0]? =some (.int .i64 2))(x:Calls Tryd.prog 19 #[.pointer (some ⟨g,0,none⟩),.agg ca.toArray] (w.alloc (.cells ca.toArray 30)) (TkEnd g (.slice av nv c1) (.slice ah nh c2) ys1 hb1 ob z (w.alloc (.cells ca.toArray 30)))):
 Calls Tryd.prog 11 #[.pointer (some ⟨g,0,none⟩),.agg ca.toArray] w (TkEnd g (.slice av nv c1) (.slice ah nh c2) ys1 hb1 ob z w):=by
 have hg:=ht.lt
 have hol:=ht.ob_lt
 have HA:Hid (Below w.heap.size w (w.alloc (.cells ca.toArray 30))):=box_low
 have HB0:Hid (Below (w.alloc (.cells ca.toArray 30)).heap.size (w.alloc (.cells ca.toArray 30)) (w.alloc (.cells ca.toArray 30))):=Below.refl _ _
 have HT0:=Lib.hid (ht.below HA.out)
 have HK0:=Lib.hid (Kp.of HA.out hg (ob:=ob))
 have HGA:Hid (Below g w (w.alloc (.cells ca.toArray 30))):=Lib.hid (HA.out.mono (Nat.le_of_lt hg))
 have HG:=Lib.hid hg
 have HNE:Hid (¬w.heap.size=g):=Lib.hid (by omega)
 have HNO:Hid (some w.heap.size≠ob):=Lib.hid (fun e=>by have:=hol _ e.symm;omega)
 have HLT:Hid (w.heap.size<(w.alloc (.cells ca.toArray 30)).heap.size):=Lib.hid (by simp)
 have L0:=Lib.hid hlen
 have k0:=box_at q0 HB0.out
 have P0:=Lib.hid (fun W (hb:Below (w.alloc (.cells ca.toArray 30)).heap.size (w.alloc (.cells ca.toArray 30)) W)=>box_part (cs:=ca) (l:=ca) (o:=0) (fun i v h=>by rw[Nat.zero_add];exact h) hb)
 have X:=Lib.hid x
 clear ht hlen q0 hg hol x
 go_enter Tryd.func11,Tryd.ntmps11
 go_wp2_with (first | go_skip | (refine wpList_load_w (by kernel_rfl) 30 _ rfl ⟨w.heap.size,0,none⟩ rfl ca _ (P0.out _ HB0.out) Tryd.underlying30 rfl (by rw[L0.out];kernel_rfl) ?_))
 refine X.out.mono ?_
 rintro r w2 h2
 have H2:=Lib.hid (h2.boxed (ys0:=ys) (hb0:=hb) HK0.out)
 have hr:=h2.1
 subst hr
 clear h2 X
 go_wp2_with fail
 go_ret
 exact⟨rfl,H2.out.2⟩
theorem take_3 (g:Nat)(av ah:Option Addr)(nv nh c1 c2:Nat)(ys:List HC)(hb:Bool)(ob:Option Nat)(ys1:List HC)(hb1 z:Bool)(ca:List Value)(w:World)(ht:TkO g (.slice av nv c1) (.slice ah nh c2) ys hb ob w)(hlen:ca.length=15)(q0:ca[0]? =some (.int .i64 3))(x:Calls Tryd.prog 19 #[.pointer (some ⟨g,0,none⟩),.agg ca.toArray] (w.alloc (.cells ca.toArray 30)) (TkEnd g (.slice av nv c1) (.slice ah nh c2) ys1 hb1 ob z (w.alloc (.cells ca.toArray 30)))):
 Calls Tryd.prog 11 #[.pointer (some ⟨g,0,none⟩),.agg ca.toArray] w (TkEnd g (.slice av nv c1) (.slice ah nh c2) ys1 hb1 ob z w):=by
 have hg:=ht.lt
 have hol:=ht.ob_lt
 have HA:Hid (Below w.heap.size w (w.alloc (.cells ca.toArray 30))):=box_low
 have HB0:Hid (Below (w.alloc (.cells ca.toArray 30)).heap.size (w.alloc (.cells ca.toArray 30)) (w.alloc (.cells ca.toArray 30))):=Below.refl _ _
 have HT0:=Lib.hid (ht.below HA.out)
 have HK0:=Lib.hid (Kp.of HA.out hg (ob:=ob))
 have HGA:Hid (Below g w (w.alloc (.cells ca.toArray 30))):=Lib.hid (HA.out.mono (Nat.le_of_lt hg))
 have HG:=Lib.hid hg
 have HNE:Hid (¬w.heap.size=g):=Lib.hid (by omega)
 have HNO:Hid (some w.heap.size≠ob):=Lib.hid (fun e=>by have:=hol _ e.symm;omega)
 have HLT:Hid (w.heap.size<(w.alloc (.cells ca.toArray 30)).heap.size):=Lib.hid (by simp)
 have L0:=Lib.hid hlen
 have k0:=box_at q0 HB0.out
 have P0:=Lib.hid (fun W (hb:Below (w.alloc (.cells ca.toArray 30)).heap.size (w.alloc (.cells ca.toArray 30)) W)=>box_part (cs:=ca) (l:=ca) (o:=0) (fun i v h=>by rw[Nat.zero_add];exact h) hb)
 have X:=Lib.hid x
 clear ht hlen q0 hg hol x
 go_enter Tryd.func11,Tryd.ntmps11
 go_wp2_with (first | go_skip | (refine wpList_load_w (by kernel_rfl) 30 _ rfl ⟨w.heap.size,0,none⟩ rfl ca _ (P0.out _ HB0.out) Tryd.underlying30 rfl (by rw[L0.out];kernel_rfl) ?_))
 refine X.out.mono ?_
 rintro r w2 h2
 have H2:=Lib.hid (h2.boxed (ys0:=ys) (hb0:=hb) HK0.out)
 have hr:=h2.1
 subst hr
 clear h2 X
 go_wp2_with fail
 go_ret
 exact⟨rfl,H2.out.2⟩
theorem take_1 (g:Nat)(av ah:Option Addr)(nv nh c1 c2:Nat)(ys:List HC)(hb:Bool)(ob:Option Nat)(ca:List Value)(w:World)(ht:TkO g (.slice av nv c1) (.slice ah nh c2) ys hb ob w)(hlen:ca.length=15)(q0:ca[0]? =some (.int .i64 1))(cc:List Value)(l1:cc.length=3)(p1:Part ca 1 cc)(t z:Bool)(x:∀W,Below g w W→ValAll 18 #[.agg cc.toArray,.slice av nv c1] (.tuple #[.bool t,.bool z]) W):
 Calls Tryd.prog 11 #[.pointer (some ⟨g,0,none⟩),.agg ca.toArray] w (TkEnd g (.slice av nv c1) (.slice ah nh c2) ys (hb && t) ob z w):=by
 have hg:=ht.lt
 have hol:=ht.ob_lt
 have HA:Hid (Below w.heap.size w (w.alloc (.cells ca.toArray 30))):=box_low
 have HB0:Hid (Below (w.alloc (.cells ca.toArray 30)).heap.size (w.alloc (.cells ca.toArray 30)) (w.alloc (.cells ca.toArray 30))):=Below.refl _ _
 have HT0:=Lib.hid (ht.below HA.out)
 have HK0:=Lib.hid (Kp.of HA.out hg (ob:=ob))
 have HGA:Hid (Below g w (w.alloc (.cells ca.toArray 30))):=Lib.hid (HA.out.mono (Nat.le_of_lt hg))
 have HG:=Lib.hid hg
 have HNE:Hid (¬w.heap.size=g):=Lib.hid (by omega)
 have HNO:Hid (some w.heap.size≠ob):=Lib.hid (fun e=>by have:=hol _ e.symm;omega)
 have HLT:Hid (w.heap.size<(w.alloc (.cells ca.toArray 30)).heap.size):=Lib.hid (by simp)
 have L0:=Lib.hid hlen
 have k0:=box_at q0 HB0.out
 have P1:=Lib.hid (fun W (hb:Below (w.alloc (.cells ca.toArray 30)).heap.size (w.alloc (.cells ca.toArray 30)) W)=>box_part p1 hb)
 have L1:=Lib.hid l1
 have X:=Lib.hid x
 clear ht hlen q0 hg hol x p1 l1
 go_enter Tryd.func11,Tryd.ntmps11
 have r0:=(X.out _ HGA.out).reg
 have k1:=cell_regrown HT0.out.c0
 go_wp2_with fail
 refine wp_region_quiet_below (by kernel_rfl) (by kernel_rfl) ?_
 repeat (first | (go_big_quiet_step (with_reducible exact r0 _ _)) | (refine wpQuiet_load_c 25 _ rfl ⟨w.heap.size,1,none⟩ rfl cc _ P1.out rfl Tryd.underlying25 rfl (by rw[L1.out];kernel_rfl) _ (by simp only[Act.put,List.setIfInBounds_toArray,List.set_cons_succ,List.set_cons_zero];rfl) ?_))
 refine wpQuiet_nil ?_
 intro w9 hw'
 obtain⟨⟨dq,osq⟩,hw''⟩:=hw'
 have H1:Hid (Below (w.alloc (.cells ca.toArray 30)).heap.size (w.alloc (.cells ca.toArray 30)) w9):=Lib.hid (by rw[hw''];exact below_regrown _ dq osq)
 clear hw'' r0 k1 k0
 have HT1:=Lib.hid (HT0.out.below H1.out)
 have HK1:=Lib.hid (HK0.out.below H1.out HG.out)
 have q3:=HT1.out.c3
 have f3:=HT1.out.fz 3
 have HE:Hid (∀b,Kp g ob w (w9.setCell ⟨g,3,none⟩ (.bool b))∧TkO g (.slice av nv c1) (.slice ah nh c2) ys b ob (w9.setCell ⟨g,3,none⟩ (.bool b))):=Lib.hid fun b=>⟨HK1.out.set 3 _,HT1.out.hold b⟩
 clear HT1 HT0 HK1 X
 cases hb<;>cases t<;>(
  go_wp2_with fail
  go_ret
  exact⟨rfl,(HE.out _).1,ob,(HE.out _).2,.inl rfl⟩)
theorem take_4 (g:Nat)(av ah:Option Addr)(nv nh c1 c2:Nat)(ys:List HC)(hb:Bool)(ob:Option Nat)(ca:List Value)(w:World)(ht:TkO g (.slice av nv c1) (.slice ah nh c2) ys hb ob w)(hlen:ca.length=15)(q0:ca[0]? =some (.int .i64 4))(b off cap:Nat)(hq:ca[14]? =some (.slice (some ⟨b,off,none⟩) 2 cap))(hbg:b<g)(d0 d1:List Value)(e0:d0.length=15)(e1:d1.length=15)(m0:∀j v,d0[j]? =some v→w.cell? ((⟨b,off,none⟩:Addr).add j)=some v)(m1:∀j v,d1[j]? =some v→w.cell? ((⟨b,off+15,none⟩:Addr).add j)=some v)(ys0 ys1:List HC)(h0 h1 z0 z1:Bool)(x0:Calls Tryd.prog 11 #[.pointer (some ⟨g,0,none⟩),.agg d0.toArray] (w.alloc (.cells ca.toArray 30)) (TkEnd g (.slice av nv c1) (.slice ah nh c2) ys0 h0 ob z0 (w.alloc (.cells ca.toArray 30))))(x1:∀W ob1,Kp g ob (w.alloc (.cells ca.toArray 30)) W→TkO g (.slice av nv c1) (.slice ah nh c2) ys0 h0 ob1 W→Calls Tryd.prog 11 #[.pointer (some ⟨g,0,none⟩),.agg d1.toArray] W (TkEnd g (.slice av nv c1) (.slice ah nh c2) ys1 h1 ob1 z1 W)):
 Calls Tryd.prog 11 #[.pointer (some ⟨g,0,none⟩),.agg ca.toArray] w (TkEnd g (.slice av nv c1) (.slice ah nh c2) ys1 h1 ob (z1 && z0) w):=by
 have hg:=ht.lt
 have hol:=ht.ob_lt
 have HA:Hid (Below w.heap.size w (w.alloc (.cells ca.toArray 30))):=box_low
 have HB0:Hid (Below (w.alloc (.cells ca.toArray 30)).heap.size (w.alloc (.cells ca.toArray 30)) (w.alloc (.cells ca.toArray 30))):=Below.refl _ _
 have HT0:=Lib.hid (ht.below HA.out)
 have HK0:=Lib.hid (Kp.of HA.out hg (ob:=ob))
 have HGA:Hid (Below g w (w.alloc (.cells ca.toArray 30))):=Lib.hid (HA.out.mono (Nat.le_of_lt hg))
 have HG:=Lib.hid hg
 have HNE:Hid (¬w.heap.size=g):=Lib.hid (by omega)
 have HNO:Hid (some w.heap.size≠ob):=Lib.hid (fun e=>by have:=hol _ e.symm;omega)
 have HLT:Hid (w.heap.size<(w.alloc (.cells ca.toArray 30)).heap.size):=Lib.hid (by simp)
 have L0:=Lib.hid hlen
 have k0:=box_at q0 HB0.out
 have Q14:=Lib.hid (fun W (hb:Below (w.alloc (.cells ca.toArray 30)).heap.size (w.alloc (.cells ca.toArray 30)) W)=>box_at hq hb)
 have D0:=Lib.hid e0
 have D1:=Lib.hid e1
 have HBG:=Lib.hid hbg
 have M0:Hid (∀W,Below g w W→∀j v,d0[j]? =some v→W.cell? ((⟨b,off,none⟩:Addr).add j)=some v):=Lib.hid fun W hW j v hv=>by
  have:=m0 j v hv
  rw[show(⟨b,off,none⟩:Addr).add j=⟨b,off+j,none⟩ by unfold Addr.add;split<;>simp_all]at this⊢
  exact(hW.cell (p:=⟨b,off+j,none⟩) HBG.out).trans this
 have M1:Hid (∀W,Below g w W→∀j v,d1[j]? =some v→W.cell? ((⟨b,off+15,none⟩:Addr).add j)=some v):=Lib.hid fun W hW j v hv=>by
  have:=m1 j v hv
  rw[show(⟨b,off+15,none⟩:Addr).add j=⟨b,off+15+j,none⟩ by unfold Addr.add;split<;>simp_all]at this⊢
  exact(hW.cell (p:=⟨b,off+15+j,none⟩) HBG.out).trans this
 have q14:=Q14.out _ HB0.out
 have X0:=Lib.hid x0
 have X1:=Lib.hid x1
 clear ht hlen q0 hg hol x0 x1 e0 e1 m0 m1 hq hbg
 go_enter Tryd.func11,Tryd.ntmps11
 go_wp2_with (first | go_skip | (refine wpList_load_w (by kernel_rfl) 30 _ rfl ⟨b,off,none⟩ rfl d0 _ (M0.out _ HGA.out) Tryd.underlying30 rfl (by rw[D0.out];kernel_rfl) ?_))
 refine X0.out.mono ?_
 rintro r w2 ⟨rfl,hk2,ob2,ht2,hn2⟩
 have HK2:=Lib.hid hk2
 have HT2:=Lib.hid ht2
 have HN2:=Lib.hid hn2
 have HKW:=Lib.hid (HK0.out.trans hk2 (.inl rfl))
 have q14b:w2.cell? ⟨w.heap.size,14,none⟩=some (.slice (some ⟨b,off,none⟩) 2 cap):=(hk2.cell ⟨w.heap.size,14,none⟩ HLT.out HNE.out HNO.out).trans q14
 clear hk2 ht2 hn2 k0 q14 X0
 have e2:off+1*15=off+15:=by omega
 go_wp2_with (first | go_skip | (refine wpList_load_w (by kernel_rfl) 30 _ rfl ⟨b,off+15,none⟩ rfl d1 _ (M1.out _ HKW.out.low) Tryd.underlying30 rfl (by rw[D1.out];kernel_rfl) ?_))
 refine(X1.out _ _ HK2.out HT2.out).mono ?_
 rintro r w3 ⟨rfl,hk3,ob3,ht3,hn3⟩
 have HE:Hid (Kp g ob w w3∧TkO g (.slice av nv c1) (.slice ah nh c2) ys1 h1 ob3 w3∧New ob ob3 w.heap.size):=Lib.hid (by
  have hn2:New ob ob2 w.heap.size:=by
   rcases HN2.out with e | ⟨k,e,h⟩
   ·exact .inl e
   ·exact .inr ⟨k,e,Nat.le_trans HA.out.size h⟩
  exact⟨HKW.out.trans hk3 hn2,ht3,hn2.trans hn3 HKW.out.low.size⟩)
 clear hk3 ht3 hn3 HK2 HT2 HN2 HKW X1 q14b
 cases z1<;>(
  go_wp2_with fail
  go_ret
  exact⟨rfl,HE.out.1,ob3,HE.out.2.1,HE.out.2.2⟩)
theorem take_5n (g:Nat)(av ah:Option Addr)(nv nh c1 c2:Nat)(ys:List HC)(hb:Bool)(ob:Option Nat)(ca:List Value)(w:World)(ht:TkO g (.slice av nv c1) (.slice ah nh c2) ys hb ob w)(hlen:ca.length=15)(q0:ca[0]? =some (.int .i64 5))(cc:List Value)(l1:cc.length=3)(p1:Part ca 1 cc)(t:Bool)(x:∀W,Below g w W→ValAll 18 #[.agg cc.toArray,.slice av nv c1] (.tuple #[.bool t,.bool false]) W):
 Calls Tryd.prog 11 #[.pointer (some ⟨g,0,none⟩),.agg ca.toArray] w (TkEnd g (.slice av nv c1) (.slice ah nh c2) ys hb ob false w):=by
 have hg:=ht.lt
 have hol:=ht.ob_lt
 have HA:Hid (Below w.heap.size w (w.alloc (.cells ca.toArray 30))):=box_low
 have HB0:Hid (Below (w.alloc (.cells ca.toArray 30)).heap.size (w.alloc (.cells ca.toArray 30)) (w.alloc (.cells ca.toArray 30))):=Below.refl _ _
 have HT0:=Lib.hid (ht.below HA.out)
 have HK0:=Lib.hid (Kp.of HA.out hg (ob:=ob))
 have HGA:Hid (Below g w (w.alloc (.cells ca.toArray 30))):=Lib.hid (HA.out.mono (Nat.le_of_lt hg))
 have HG:=Lib.hid hg
 have HNE:Hid (¬w.heap.size=g):=Lib.hid (by omega)
 have HNO:Hid (some w.heap.size≠ob):=Lib.hid (fun e=>by have:=hol _ e.symm;omega)
 have HLT:Hid (w.heap.size<(w.alloc (.cells ca.toArray 30)).heap.size):=Lib.hid (by simp)
 have L0:=Lib.hid hlen
 have k0:=box_at q0 HB0.out
 have P1:=Lib.hid (fun W (hb:Below (w.alloc (.cells ca.toArray 30)).heap.size (w.alloc (.cells ca.toArray 30)) W)=>box_part p1 hb)
 have L1:=Lib.hid l1
 have X:=Lib.hid x
 clear ht hlen q0 hg hol x p1 l1
 go_enter Tryd.func11,Tryd.ntmps11
 have r0:=(X.out _ HGA.out).reg
 have k1:=cell_regrown HT0.out.c0
 go_wp2_with fail
 refine wp_region_quiet_below (by kernel_rfl) (by kernel_rfl) ?_
 repeat (first | (go_big_quiet_step (with_reducible exact r0 _ _)) | (refine wpQuiet_load_c 25 _ rfl ⟨w.heap.size,1,none⟩ rfl cc _ P1.out rfl Tryd.underlying25 rfl (by rw[L1.out];kernel_rfl) _ (by simp only[Act.put,List.setIfInBounds_toArray,List.set_cons_succ,List.set_cons_zero];rfl) ?_))
 refine wpQuiet_nil ?_
 intro w9 hw'
 obtain⟨⟨dq,osq⟩,hw''⟩:=hw'
 have H1:Hid (Below (w.alloc (.cells ca.toArray 30)).heap.size (w.alloc (.cells ca.toArray 30)) w9):=Lib.hid (by rw[hw''];exact below_regrown _ dq osq)
 clear hw'' r0 k1 k0
 have HT1:=Lib.hid (HT0.out.below H1.out)
 have HK1:=Lib.hid (HK0.out.below H1.out HG.out)
 have HE:=Lib.hid HT1.out
 have HE2:=Lib.hid HK1.out
 clear HT1 HT0 HK1 X
 cases t<;>(
  go_wp2_with fail
  go_ret
  exact⟨rfl,HE2.out,ob,HE.out,.inl rfl⟩)
theorem take_5t (g:Nat)(av ah:Option Addr)(nv nh c1 c2:Nat)(ys:List HC)(hb:Bool)(ob:Option Nat)(ca:List Value)(w:World)(ht:TkO g (.slice av nv c1) (.slice ah nh c2) ys hb ob w)(hlen:ca.length=15)(q0:ca[0]? =some (.int .i64 5))(cc:List Value)(l1:cc.length=3)(p1:Part ca 1 cc)(b off cap:Nat)(hq:ca[14]? =some (.slice (some ⟨b,off,none⟩) 2 cap))(hbg:b<g)(d0 d1:List Value)(e0:d0.length=15)(e1:d1.length=15)(m0:∀j v,d0[j]? =some v→w.cell? ((⟨b,off,none⟩:Addr).add j)=some v)(m1:∀j v,d1[j]? =some v→w.cell? ((⟨b,off+15,none⟩:Addr).add j)=some v)(x:∀W,Below g w W→ValAll 18 #[.agg cc.toArray,.slice av nv c1] (.tuple #[.bool true,.bool true]) W)(ys1:List HC)(h1 z1:Bool)(x1:∀W,Below w.heap.size w W→Calls Tryd.prog 11 #[.pointer (some ⟨g,0,none⟩),.agg d0.toArray] W (TkEnd g (.slice av nv c1) (.slice ah nh c2) ys1 h1 ob z1 W)):
 Calls Tryd.prog 11 #[.pointer (some ⟨g,0,none⟩),.agg ca.toArray] w (TkEnd g (.slice av nv c1) (.slice ah nh c2) ys1 h1 ob z1 w):=by
 have hg:=ht.lt
 have hol:=ht.ob_lt
 have HA:Hid (Below w.heap.size w (w.alloc (.cells ca.toArray 30))):=box_low
 have HB0:Hid (Below (w.alloc (.cells ca.toArray 30)).heap.size (w.alloc (.cells ca.toArray 30)) (w.alloc (.cells ca.toArray 30))):=Below.refl _ _
 have HT0:=Lib.hid (ht.below HA.out)
 have HK0:=Lib.hid (Kp.of HA.out hg (ob:=ob))
 have HGA:Hid (Below g w (w.alloc (.cells ca.toArray 30))):=Lib.hid (HA.out.mono (Nat.le_of_lt hg))
 have HG:=Lib.hid hg
 have HNE:Hid (¬w.heap.size=g):=Lib.hid (by omega)
 have HNO:Hid (some w.heap.size≠ob):=Lib.hid (fun e=>by have:=hol _ e.symm;omega)
 have HLT:Hid (w.heap.size<(w.alloc (.cells ca.toArray 30)).heap.size):=Lib.hid (by simp)
 have L0:=Lib.hid hlen
 have k0:=box_at q0 HB0.out
 have Q14:=Lib.hid (fun W (hb:Below (w.alloc (.cells ca.toArray 30)).heap.size (w.alloc (.cells ca.toArray 30)) W)=>box_at hq hb)
 have D0:=Lib.hid e0
 have D1:=Lib.hid e1
 have HBG:=Lib.hid hbg
 have M0:Hid (∀W,Below g w W→∀j v,d0[j]? =some v→W.cell? ((⟨b,off,none⟩:Addr).add j)=some v):=Lib.hid fun W hW j v hv=>by
  have:=m0 j v hv
  rw[show(⟨b,off,none⟩:Addr).add j=⟨b,off+j,none⟩ by unfold Addr.add;split<;>simp_all]at this⊢
  exact(hW.cell (p:=⟨b,off+j,none⟩) HBG.out).trans this
 have M1:Hid (∀W,Below g w W→∀j v,d1[j]? =some v→W.cell? ((⟨b,off+15,none⟩:Addr).add j)=some v):=Lib.hid fun W hW j v hv=>by
  have:=m1 j v hv
  rw[show(⟨b,off+15,none⟩:Addr).add j=⟨b,off+15+j,none⟩ by unfold Addr.add;split<;>simp_all]at this⊢
  exact(hW.cell (p:=⟨b,off+15+j,none⟩) HBG.out).trans this
 have P1:=Lib.hid (fun W (hb:Below (w.alloc (.cells ca.toArray 30)).heap.size (w.alloc (.cells ca.toArray 30)) W)=>box_part p1 hb)
 have L1:=Lib.hid l1
 have X:=Lib.hid x
 have X1:=Lib.hid x1
 clear ht hlen q0 hg hol x p1 l1 x1 e0 e1 m0 m1 hq hbg
 go_enter Tryd.func11,Tryd.ntmps11
 have r0:=(X.out _ HGA.out).reg
 have k1:=cell_regrown HT0.out.c0
 go_wp2_with fail
 refine wp_region_quiet_below (by kernel_rfl) (by kernel_rfl) ?_
 repeat (first | (go_big_quiet_step (with_reducible exact r0 _ _)) | (refine wpQuiet_load_c 25 _ rfl ⟨w.heap.size,1,none⟩ rfl cc _ P1.out rfl Tryd.underlying25 rfl (by rw[L1.out];kernel_rfl) _ (by simp only[Act.put,List.setIfInBounds_toArray,List.set_cons_succ,List.set_cons_zero];rfl) ?_))
 refine wpQuiet_nil ?_
 intro w9 hw'
 obtain⟨⟨dq,osq⟩,hw''⟩:=hw'
 have H1:Hid (Below (w.alloc (.cells ca.toArray 30)).heap.size (w.alloc (.cells ca.toArray 30)) w9):=Lib.hid (by rw[hw''];exact below_regrown _ dq osq)
 clear hw'' r0 k1 k0
 have HT1:=Lib.hid (HT0.out.below H1.out)
 have HK1:=Lib.hid (HK0.out.below H1.out HG.out)
 have q14:=Q14.out _ H1.out
 have e2:off+1*15=off+15:=by omega
 clear HT1 HT0 X
 go_wp2_with (first | go_skip | (refine wpList_load_w (by kernel_rfl) 30 _ rfl ⟨b,off,none⟩ rfl d0 _ (M0.out _ HK1.out.low) Tryd.underlying30 rfl (by rw[D0.out];kernel_rfl) ?_))
 refine(X1.out _ (HA.out.trans (H1.out.mono HA.out.size))).mono ?_
 rintro r w3 ⟨rfl,hk3,ob3,ht3,hn3⟩
 have HE:Hid (Kp g ob w w3∧TkO g (.slice av nv c1) (.slice ah nh c2) ys1 h1 ob3 w3∧New ob ob3 w.heap.size):=Lib.hid (by
  refine⟨HK1.out.trans hk3 (.inl rfl),ht3, ?_⟩
  rcases hn3 with e | ⟨k,e,h⟩
  ·exact .inl e
  ·exact .inr ⟨k,e,Nat.le_trans HK1.out.low.size h⟩)
 clear hk3 ht3 hn3 X1 q14 HK1
 go_wp2_with fail
 go_ret
 exact⟨rfl,HE.out.1,ob3,HE.out.2.1,HE.out.2.2⟩
theorem take_5f (g:Nat)(av ah:Option Addr)(nv nh c1 c2:Nat)(ys:List HC)(hb:Bool)(ob:Option Nat)(ca:List Value)(w:World)(ht:TkO g (.slice av nv c1) (.slice ah nh c2) ys hb ob w)(hlen:ca.length=15)(q0:ca[0]? =some (.int .i64 5))(cc:List Value)(l1:cc.length=3)(p1:Part ca 1 cc)(b off cap:Nat)(hq:ca[14]? =some (.slice (some ⟨b,off,none⟩) 2 cap))(hbg:b<g)(d0 d1:List Value)(e0:d0.length=15)(e1:d1.length=15)(m0:∀j v,d0[j]? =some v→w.cell? ((⟨b,off,none⟩:Addr).add j)=some v)(m1:∀j v,d1[j]? =some v→w.cell? ((⟨b,off+15,none⟩:Addr).add j)=some v)(x:∀W,Below g w W→ValAll 18 #[.agg cc.toArray,.slice av nv c1] (.tuple #[.bool false,.bool true]) W)(ys1:List HC)(h1 z1:Bool)(x1:∀W,Below w.heap.size w W→Calls Tryd.prog 11 #[.pointer (some ⟨g,0,none⟩),.agg d1.toArray] W (TkEnd g (.slice av nv c1) (.slice ah nh c2) ys1 h1 ob z1 W)):
 Calls Tryd.prog 11 #[.pointer (some ⟨g,0,none⟩),.agg ca.toArray] w (TkEnd g (.slice av nv c1) (.slice ah nh c2) ys1 h1 ob z1 w):=by
 have hg:=ht.lt
 have hol:=ht.ob_lt
 have HA:Hid (Below w.heap.size w (w.alloc (.cells ca.toArray 30))):=box_low
 have HB0:Hid (Below (w.alloc (.cells ca.toArray 30)).heap.size (w.alloc (.cells ca.toArray 30)) (w.alloc (.cells ca.toArray 30))):=Below.refl _ _
 have HT0:=Lib.hid (ht.below HA.out)
 have HK0:=Lib.hid (Kp.of HA.out hg (ob:=ob))
 have HGA:Hid (Below g w (w.alloc (.cells ca.toArray 30))):=Lib.hid (HA.out.mono (Nat.le_of_lt hg))
 have HG:=Lib.hid hg
 have HNE:Hid (¬w.heap.size=g):=Lib.hid (by omega)
 have HNO:Hid (some w.heap.size≠ob):=Lib.hid (fun e=>by have:=hol _ e.symm;omega)
 have HLT:Hid (w.heap.size<(w.alloc (.cells ca.toArray 30)).heap.size):=Lib.hid (by simp)
 have L0:=Lib.hid hlen
 have k0:=box_at q0 HB0.out
 have Q14:=Lib.hid (fun W (hb:Below (w.alloc (.cells ca.toArray 30)).heap.size (w.alloc (.cells ca.toArray 30)) W)=>box_at hq hb)
 have D0:=Lib.hid e0
 have D1:=Lib.hid e1
 have HBG:=Lib.hid hbg
 have M0:Hid (∀W,Below g w W→∀j v,d0[j]? =some v→W.cell? ((⟨b,off,none⟩:Addr).add j)=some v):=Lib.hid fun W hW j v hv=>by
  have:=m0 j v hv
  rw[show(⟨b,off,none⟩:Addr).add j=⟨b,off+j,none⟩ by unfold Addr.add;split<;>simp_all]at this⊢
  exact(hW.cell (p:=⟨b,off+j,none⟩) HBG.out).trans this
 have M1:Hid (∀W,Below g w W→∀j v,d1[j]? =some v→W.cell? ((⟨b,off+15,none⟩:Addr).add j)=some v):=Lib.hid fun W hW j v hv=>by
  have:=m1 j v hv
  rw[show(⟨b,off+15,none⟩:Addr).add j=⟨b,off+15+j,none⟩ by unfold Addr.add;split<;>simp_all]at this⊢
  exact(hW.cell (p:=⟨b,off+15+j,none⟩) HBG.out).trans this
 have P1:=Lib.hid (fun W (hb:Below (w.alloc (.cells ca.toArray 30)).heap.size (w.alloc (.cells ca.toArray 30)) W)=>box_part p1 hb)
 have L1:=Lib.hid l1
 have X:=Lib.hid x
 have X1:=Lib.hid x1
 clear ht hlen q0 hg hol x p1 l1 x1 e0 e1 m0 m1 hq hbg
 go_enter Tryd.func11,Tryd.ntmps11
 have r0:=(X.out _ HGA.out).reg
 have k1:=cell_regrown HT0.out.c0
 go_wp2_with fail
 refine wp_region_quiet_below (by kernel_rfl) (by kernel_rfl) ?_
 repeat (first | (go_big_quiet_step (with_reducible exact r0 _ _)) | (refine wpQuiet_load_c 25 _ rfl ⟨w.heap.size,1,none⟩ rfl cc _ P1.out rfl Tryd.underlying25 rfl (by rw[L1.out];kernel_rfl) _ (by simp only[Act.put,List.setIfInBounds_toArray,List.set_cons_succ,List.set_cons_zero];rfl) ?_))
 refine wpQuiet_nil ?_
 intro w9 hw'
 obtain⟨⟨dq,osq⟩,hw''⟩:=hw'
 have H1:Hid (Below (w.alloc (.cells ca.toArray 30)).heap.size (w.alloc (.cells ca.toArray 30)) w9):=Lib.hid (by rw[hw''];exact below_regrown _ dq osq)
 clear hw'' r0 k1 k0
 have HT1:=Lib.hid (HT0.out.below H1.out)
 have HK1:=Lib.hid (HK0.out.below H1.out HG.out)
 have q14:=Q14.out _ H1.out
 have e2:off+1*15=off+15:=by omega
 clear HT1 HT0 X
 go_wp2_with (first | go_skip | (refine wpList_load_w (by kernel_rfl) 30 _ rfl ⟨b,off+15,none⟩ rfl d1 _ (M1.out _ HK1.out.low) Tryd.underlying30 rfl (by rw[D1.out];kernel_rfl) ?_))
 refine(X1.out _ (HA.out.trans (H1.out.mono HA.out.size))).mono ?_
 rintro r w3 ⟨rfl,hk3,ob3,ht3,hn3⟩
 have HE:Hid (Kp g ob w w3∧TkO g (.slice av nv c1) (.slice ah nh c2) ys1 h1 ob3 w3∧New ob ob3 w.heap.size):=Lib.hid (by
  refine⟨HK1.out.trans hk3 (.inl rfl),ht3, ?_⟩
  rcases hn3 with e | ⟨k,e,h⟩
  ·exact .inl e
  ·exact .inr ⟨k,e,Nat.le_trans HK1.out.low.size h⟩)
 clear hk3 ht3 hn3 X1 q14 HK1
 go_wp2_with fail
 go_ret
 exact⟨rfl,HE.out.1,ob3,HE.out.2.1,HE.out.2.2⟩
end
section
open Go.RowKit
def takA (ρ:ByteArray→Int)(hs:List HC):Nat→AT→List HC×Bool×Bool
 | 0,_=>([],true,false)
 | n+1,a=>
   if a.kind=1 then([],(truC ρ n a.c).1,(truC ρ n a.c).2)
   else if a.kind=2∨a.kind=3 then
    ([⟨(valE ρ n a.e).1,a.field,a.n⟩],(getR hs ((valE ρ n a.e).1,a.field.toList)).2 && (a.kind == 2 || (getR hs ((valE ρ n a.e).1,a.field.toList)).1 == (valE ρ n a.v).1),(valE ρ n a.e).2 && (valE ρ n a.v).2)
   else if a.kind=4 then
    ((takA ρ hs n (a.ks.getD 0 default)).1 ++ (takA ρ hs n (a.ks.getD 1 default)).1,(takA ρ hs n (a.ks.getD 0 default)).2.1 && (takA ρ hs n (a.ks.getD 1 default)).2.1,(takA ρ hs n (a.ks.getD 1 default)).2.2 && (takA ρ hs n (a.ks.getD 0 default)).2.2)
   else if a.kind=5 then
    (if(truC ρ n a.c).2=true then(if(truC ρ n a.c).1=true then takA ρ hs n (a.ks.getD 0 default) else takA ρ hs n (a.ks.getD 1 default)) else([],true,false))
   else([],true,true)
theorem rel_lo {T:Type}{sh:Pak.Sh T}{g:Nat}{w W:World}{cs:List Value}{x:T}(h:sh.rel (Pak.Lo g) w cs x)(hW:Below g w W)(hg:g≤W.heap.size):sh.rel (Pak.Lo W.heap.size) W cs x:=
 sh.keep (fun b (h:b<g)=>Nat.lt_of_lt_of_le h hg) (fun b o (h:b<g)=>hW.cell (p:=⟨b,o,none⟩) h) h
theorem rel_in {T:Type}{sh:Pak.Sh T}{g:Nat}{w W:World}{cs:List Value}{x:T}(h:sh.rel (Pak.Lo g) w cs x)(hW:Below g w W):sh.rel (Pak.Lo g) W cs x:=
 sh.keep (fun b h=>h) (fun b o (h:b<g)=>hW.cell (p:=⟨b,o,none⟩) h) h
theorem noE_sn {nm:ByteArray→Bool}{n:Nat}{e:ET}(h:noE e=true):snE nm (n+1) e=true:=by
 unfold noE at h
 simp only[Bool.and_eq_true,beq_iff_eq]at h
 obtain⟨⟨⟨h1,h2⟩,h3⟩,h4⟩:=h
 have h5:e.ks=[]:=List.length_eq_zero_iff.1 h4
 unfold snE
 rw[if_neg (by omega),if_pos (by omega),h1,h2,h3,h5]
 rfl
theorem snA_parts {nm:ByteArray→Bool}{n:Nat}{a:AT}(h:snA nm (n+1) a=true):(0≤a.kind∧a.kind≤5)∧a.ks.length=ksA a.kind∧(∀x∈a.ks,snA nm n x=true)∧shA nm n a=true∧(a.kind=1∨a.kind=5→snC nm n a.c=true):=by
 unfold snA at h
 by_cases hk:0≤a.kind∧a.kind≤5
 ·rw[if_pos hk]at h
  simp only[Bool.and_eq_true,beq_iff_eq,List.all_eq_true]at h
  obtain⟨h1,h2,h3,h4⟩:=h
  exact⟨hk,h1,h2,h3,fun hc=>by rw[if_pos hc]at h4;exact h4⟩
 ·rw[if_neg hk]at h;cases h
theorem two_kids {n g:Nat}{w:World}{a:Option Addr}{ks:List AT}(h:Pak.Sits (assnSh n) (Pak.Lo g) w a ks)(hl:ks.length=2):
 ∃b off d0 d1,a=some ⟨b,off,none⟩∧b<g∧d0.length=15∧d1.length=15∧(∀j v,d0[j]? =some v→w.cell? ((⟨b,off,none⟩:Addr).add j)=some v)∧(∀j v,d1[j]? =some v→w.cell? ((⟨b,off+15,none⟩:Addr).add j)=some v)∧
  (assnSh n).rel (Pak.Lo g) w d0 (ks.getD 0 default)∧(assnSh n).rel (Pak.Lo g) w d1 (ks.getD 1 default):=by
 obtain⟨b,off,x0,rfl,hb,_,_⟩:=h.2 0 (by omega)
 obtain⟨d0,hc0,hr0⟩:=sits_at h (i:=0) (by omega)
 obtain⟨d1,hc1,hr1⟩:=sits_at h (i:=1) (by omega)
 rw[assnSh_k]at hc0 hc1
 have g0:ks.getD 0 default=ks[0]:=by rw[List.getD_eq_getElem?_getD,List.getElem?_eq_getElem (by omega)];rfl
 have g1:ks.getD 1 default=ks[1]:=by rw[List.getD_eq_getElem?_getD,List.getElem?_eq_getElem (by omega)];rfl
 refine⟨b,off,d0,d1,rfl,hb,((assnSh n).len hr0).trans (assnSh_k n),((assnSh n).len hr1).trans (assnSh_k n), ?_, ?_,by rw[g0];exact hr0,by rw[g1];exact hr1⟩
 ·intro j v hv
  have:=hc0 j v hv
  rwa [show off+0*15=off by omega]at this
 ·intro j v hv
  have:=hc1 j v hv
  rwa [show off+1*15=off+15 by omega]at this
theorem getD_in {T:Type}[Inhabited T]{l:List T}{i:Nat}(h:i<l.length):l.getD i default∈l:=by
 rw[List.getD_eq_getElem?_getD,List.getElem?_eq_getElem h]
 exact List.getElem_mem h
theorem take_any (nm:ByteArray→Bool)(xs:List (ByteArray×Int))(av:Option Addr)(c1:Nat)(hs:List HC)(ah:Option Addr)(c2 g:Nat)(hst:Stand hs)(hnm:hs.length≤1000000):
 ∀(n:Nat) (a:AT) (cs:List Value) (ys:List HC) (hb:Bool) (ob:Option Nat) (w:World),snA nm n a=true→(assnSh n).rel (Pak.Lo g) w cs a→Pak.Sits varSh (Pak.Lo g) w av xs→HLies g w ah hs→
  TkO g (.slice av xs.length c1) (.slice ah hs.length c2) ys hb ob w→ys.length+(takA (fun s=>varOf s xs) hs n a).1.length≤1000000→
  Calls Tryd.prog 11 #[.pointer (some ⟨g,0,none⟩),.agg cs.toArray] w (TkEnd g (.slice av xs.length c1) (.slice ah hs.length c2) (ys ++ (takA (fun s=>varOf s xs) hs n a).1) (hb && (takA (fun s=>varOf s xs) hs n a).2.1) ob (takA (fun s=>varOf s xs) hs n a).2.2 w)
 | 0,_,_,_,_,_,_,h,_,_,_,_,_=>absurd h (by simp[snA])
 | n+1,a,cs,ys,hb,ob,w,hsn,hrel,hx,hh,ht,hsz=>by
   have IH:=take_any nm xs av c1 hs ah c2 g hst hnm n
   obtain⟨hk,hkl,hkids,hsh,hcn⟩:=snA_parts hsn
   obtain⟨cc,ce,cv,a5,c5,A⟩:=assn_is hrel
   have hgs:=ht.lt
   have hA:Below w.heap.size w (w.alloc (.cells cs.toArray 30)):=box_low
   have hAg:Below g w (w.alloc (.cells cs.toArray 30)):=hA.mono (Nat.le_of_lt hgs)
   have vE:∀(e:ET) (l:List Value),snE nm n e=true→(exprSh n).rel (Pak.Lo g) w l e→∀W,Below g w W→ValAll 14 #[.agg l.toArray,.slice av xs.length c1] (.tuple #[.int .i64 (valE (fun s=>varOf s xs) n e).1,.bool (valE (fun s=>varOf s xs) n e).2]) W:=fun e l he hr W hW=>
    have hgW:g≤W.heap.size:=Nat.le_trans (Nat.le_of_lt hgs) hW.size
    hexpr_all nm xs av c1 n e l W he (rel_lo hr hW hgW) (hx.below hW hgW)
   have vC:(a.kind=1∨a.kind=5)→∀W,Below g w W→ValAll 18 #[.agg cc.toArray,.slice av xs.length c1] (.tuple #[.bool (truC (fun s=>varOf s xs) n a.c).1,.bool (truC (fun s=>varOf s xs) n a.c).2]) W:=fun hkc W hW V hV=>
    have hgV:g≤V.heap.size:=Nat.le_trans (Nat.le_of_lt hgs) (Nat.le_trans hW.size hV.size)
    have hgW:g≤W.heap.size:=Nat.le_trans (Nat.le_of_lt hgs) hW.size
    have hWV:Below g w V:=hW.trans (hV.mono hgW)
    hcond_any nm xs av c1 n a.c cc V (hcn hkc) (rel_lo A.rc hWV hgV) (hx.below hWV hgV)
   have vG:∀(z:Int) W,Below g w W→ValAll 31 #[.slice ah hs.length c2,.int .i64 z,.string a.field] (.tuple #[.int .i64 (getR hs (z,a.field.toList)).1,getE (getR hs (z,a.field.toList)).2]) W:=fun z W hW=>
    have hgW:g≤W.heap.size:=Nat.le_trans (Nat.le_of_lt hgs) hW.size
    hget_any hs ah hs.length c2 z a.field W rfl hnm ((hh.below hW).mono hgW) hst
   have hkind:=A.kind
   have n1:1≤n:=by
    rcases n with _ | n
    ·exact A.re.elim
    ·omega
   obtain⟨m,rfl⟩:∃m,n=m+1:=⟨n - 1,by omega⟩
   unfold takA at hsz⊢
   have hkk:a.kind=0∨a.kind=1∨a.kind=2∨a.kind=3∨a.kind=4∨a.kind=5:=by omega
   rcases hkk with e | e | e | e | e | e
   ·rw[if_neg (by omega),if_neg (by omega),if_neg (by omega),if_neg (by omega)]
    simp only[List.append_nil,Bool.and_true]
    exact take_0 g av ah _ _ c1 c2 ys hb ob cs w ht A.len (by rw[←e];exact hkind)
   ·rw[if_pos e]
    simp only[List.append_nil]
    exact take_1 g av ah _ _ c1 c2 ys hb ob cs w ht A.len (by rw[←e];exact hkind) cc A.lc A.pc _ _ (vC (.inl e))
   ·rw[if_neg (by omega),if_pos (.inl e)]at hsz⊢
    unfold shA at hsh
    rw[if_pos e]at hsh
    simp only[Bool.and_eq_true]at hsh
    refine take_2 g av ah _ _ c1 c2 ys hb ob _ _ _ cs w ht A.len (by rw[←e];exact hkind) ?_
    rw[show a.kind=(2:Int) from e]at hkind⊢
    exact share_box g av ah _ _ c1 c2 ys hb ob 2 a.n _ _ _ a.field _ _ _ cs ce cv _ (ht.below hA) (by simp at hsz;omega) A.len hkind A.pe A.pv A.field A.num A.le (((exprSh _).len A.rv).trans (exprSh_k _)) (fun W hW=>vE a.e ce hsh.2.1.1 A.re W (hAg.trans hW)) (fun W hW=>vE a.v cv (noE_sn hsh.1) A.rv W (hAg.trans hW)) (fun W hW=>vG _ W (hAg.trans hW))
   ·rw[if_neg (by omega),if_pos (.inr e)]at hsz⊢
    unfold shA at hsh
    rw[if_neg (by omega),if_pos e]at hsh
    simp only[Bool.and_eq_true]at hsh
    refine take_3 g av ah _ _ c1 c2 ys hb ob _ _ _ cs w ht A.len (by rw[←e];exact hkind) ?_
    rw[show a.kind=(3:Int) from e]at hkind⊢
    exact share_box g av ah _ _ c1 c2 ys hb ob 3 a.n _ _ _ a.field _ _ _ cs ce cv _ (ht.below hA) (by simp at hsz;omega) A.len hkind A.pe A.pv A.field A.num A.le (((exprSh _).len A.rv).trans (exprSh_k _)) (fun W hW=>vE a.e ce hsh.2.1.1 A.re W (hAg.trans hW)) (fun W hW=>vE a.v cv hsh.1 A.rv W (hAg.trans hW)) (fun W hW=>vG _ W (hAg.trans hW))
   ·rw[if_neg (by omega),if_neg (by omega),if_pos e]at hsz⊢
    have hl2:a.ks.length=2:=by rw[hkl];unfold ksA;rw[if_pos (.inl e)]
    obtain⟨b,off,d0,d1,rfl,hb1,l0,l1,m0,m1,r0,r1⟩:=two_kids A.rkids hl2
    have s0:=hkids _ (getD_in (l:=a.ks) (i:=0) (by omega))
    have s1:=hkids _ (getD_in (l:=a.ks) (i:=1) (by omega))
    simp only[List.length_append]at hsz
    have hkid:=A.kids
    rw[hl2]at hkid
    rw[←List.append_assoc,←Bool.and_assoc]
    exact take_4 g av ah _ _ c1 c2 ys hb ob cs w ht A.len (by rw[←e];exact hkind) b off c5 hkid hb1 d0 d1 l0 l1 m0 m1 _ _ _ _ _ _
     (IH _ d0 ys hb ob _ s0 (rel_in r0 hAg) (hx.up hAg) (hh.below hAg) (ht.below hA) (by omega))
     (fun W ob1 hK hT=>IH _ d1 _ _ ob1 W s1 (rel_in r1 (hAg.trans hK.low)) (hx.up (hAg.trans hK.low)) (hh.below (hAg.trans hK.low)) hT (by rw[List.length_append];omega))
   ·rw[if_neg (by omega),if_neg (by omega),if_neg (by omega),if_pos e]at hsz⊢
    have hl2:a.ks.length=2:=by rw[hkl];unfold ksA;rw[if_pos (.inr e)]
    obtain⟨b,off,d0,d1,rfl,hb1,l0,l1,m0,m1,r0,r1⟩:=two_kids A.rkids hl2
    have s0:=hkids _ (getD_in (l:=a.ks) (i:=0) (by omega))
    have s1:=hkids _ (getD_in (l:=a.ks) (i:=1) (by omega))
    have hkid:=A.kids
    rw[hl2]at hkid
    have V:=vC (.inr e)
    have hq:cs[0]? =some (.int .i64 5):=by rw[←e];exact hkind
    generalize truC (fun s=>varOf s xs) (m+1) a.c=t at hsz V⊢
    obtain⟨t1,t2⟩:=t
    cases t2 with
    | false=>
      simp only[Bool.false_eq_true,if_false,List.append_nil,Bool.and_true]
      exact take_5n g av ah _ _ c1 c2 ys hb ob cs w ht A.len hq cc A.lc A.pc t1 V
    | true=>
      simp only[if_true]at hsz⊢
      cases t1 with
      | true=>
        simp only[if_true]at hsz⊢
        exact take_5t g av ah _ _ c1 c2 ys hb ob cs w ht A.len hq cc A.lc A.pc b off c5 hkid hb1 d0 d1 l0 l1 m0 m1 V _ _ _
         (fun W hW=>have hWg:=hW.mono (Nat.le_of_lt hgs);IH _ d0 ys hb ob W s0 (rel_in r0 hWg) (hx.up hWg) (hh.below hWg) (ht.below hW) hsz)
      | false=>
        simp only[Bool.false_eq_true,if_false]at hsz⊢
        exact take_5f g av ah _ _ c1 c2 ys hb ob cs w ht A.len hq cc A.lc A.pc b off c5 hkid hb1 d0 d1 l0 l1 m0 m1 V _ _ _
         (fun W hW=>have hWg:=hW.mono (Nat.le_of_lt hgs);IH _ d1 ys hb ob W s1 (rel_in r1 hWg) (hx.up hWg) (hh.below hWg) (ht.below hW) hsz)
end
section
open Go.RowKit
def ndA:Nat→AT→Nat
 | 0,_=>0
 | n+1,a=>1+(a.ks.map (ndA n)).sum
def ndS (n:Nat)(l:List AT):Nat:=(l.map (ndA n)).sum
theorem ndA_succ (n:Nat)(a:AT):ndA (n+1) a=1+ndS n a.ks:=rfl
theorem ndS_snoc {n:Nat}{l:List AT}{j:Nat}(h:j<l.length):ndS n (l.take (j+1))=ndS n (l.take j)+ndA n l[j]:=by
 unfold ndS
 rw[List.take_succ_eq_append_getElem h,List.map_append,List.sum_append]
 simp
theorem getD_nd {n:Nat}{l:List AT}(h:l.length=2):ndS n l=ndA n (l.getD 0 default)+ndA n (l.getD 1 default):=by
 match l,h with
 | [x,y],_=>simp[ndS]
theorem takA_nd {nm:ByteArray→Bool}{ρ:ByteArray→Int}{hs:List HC}:∀ {n:Nat} {a:AT},snA nm n a=true→(takA ρ hs n a).1.length≤ndA n a
 | 0,_,h=>absurd h (by simp[snA])
 | n+1,a,h=>by
   obtain⟨hk,hkl,hkids,hsh,_⟩:=snA_parts h
   rw[ndA_succ]
   unfold takA
   have hkk:a.kind=0∨a.kind=1∨a.kind=2∨a.kind=3∨a.kind=4∨a.kind=5:=by omega
   have h2:a.kind=4∨a.kind=5→(takA ρ hs n (a.ks.getD 0 default)).1.length≤ndA n (a.ks.getD 0 default)∧(takA ρ hs n (a.ks.getD 1 default)).1.length≤ndA n (a.ks.getD 1 default)∧ndS n a.ks=ndA n (a.ks.getD 0 default)+ndA n (a.ks.getD 1 default):=fun e=>by
    have hl2:a.ks.length=2:=by rw[hkl];unfold ksA;rw[if_pos e]
    exact⟨takA_nd (hkids _ (getD_in (by omega))),takA_nd (hkids _ (getD_in (by omega))),getD_nd hl2⟩
   rcases hkk with e | e | e | e | e | e
   ·rw[if_neg (by omega),if_neg (by omega),if_neg (by omega),if_neg (by omega)];simp
   ·rw[if_pos e];simp
   ·rw[if_neg (by omega),if_pos (.inl e)];simp
   ·rw[if_neg (by omega),if_pos (.inr e)];simp
   ·rw[if_neg (by omega),if_neg (by omega),if_pos e]
    have:=h2 (.inl e)
    rw[List.length_append]
    omega
   ·rw[if_neg (by omega),if_neg (by omega),if_neg (by omega),if_pos e]
    have:=h2 (.inr e)
    split
    ·split
     ·omega
     ·omega
    ·simp
theorem sits_two {T:Type}{sh:Pak.Sh T}{W:World}{g:Nat}{cs ds:List Value}{x y:T}{t:TypeId}(hg:W.heap[g]? =some (.cells (cs ++ ds).toArray t (0,0)))(hlt:g<W.heap.size)(hl:cs.length=sh.k)(h1:sh.rel (Pak.Lo W.heap.size) W cs x)(h2:sh.rel (Pak.Lo W.heap.size) W ds y):Pak.Sits sh (Pak.Lo W.heap.size) W (some ⟨g,0,none⟩) [x,y]:=by
 refine⟨by simp,fun i hi=> ?_⟩
 have hc:∀(o:Nat) v,(cs ++ ds)[o]? =some v→W.cell? ⟨g,o,none⟩=some v:=fun o v hv=>(cell_of_row _ _ _ _ _ _ hg).trans (by rw[List.getElem?_toArray];exact hv)
 have hi2:i=0∨i=1:=by simp at hi;omega
 rcases hi2 with rfl | rfl
 ·refine⟨g,0,cs,rfl,hlt,fun j u hu=>hc _ _ ?_,h1⟩
  rw[show 0+0*sh.k+j=j by omega,List.getElem?_append_left (List.getElem?_eq_some_iff.1 hu).1]
  exact hu
 ·refine⟨g,0,ds,rfl,hlt,fun j u hu=>hc _ _ ?_,h2⟩
  rw[show 0+1*sh.k+j=cs.length+j by omega,List.getElem?_append_right (Nat.le_add_right _ _),Nat.add_sub_cancel_left]
  exact hu
end
section
open Go.RowKit
theorem sizeA_box (n:Nat)(es:List AT)(a:Option Addr)(m cap:Nat)(l dd:Int)(w:World)(hm:es.length=m)(hd0:0≤dd)(hd1:dd≤300)(hl0: -1≤l)(hl1:l≤300)(hs:Pak.Sits (assnSh (n+1)) (Pak.Lo w.heap.size) w a es)
 (hk:∀(x:AT) (u:Option Addr) (c:Nat) (q:Int) (W:World),x∈es→1≤dd→ -1≤q→q≤300→Below w.heap.size w W→Pak.Sits (assnSh n) (Pak.Lo W.heap.size) W u x.ks→Calls Tryd.prog 9 #[.slice u x.ks.length c,.int .i64 q,.int .i64 (dd - 1)] W (SzEnd (4*ndS n x.ks) q W)):
 Calls Tryd.prog 9 #[.slice a m cap,.int .i64 l,.int .i64 dd] w (SzEnd (4*ndS (n+1) es) l w):=by
 have HS:=Lib.hid hs
 have HM:=Lib.hid hm
 have hmm:m≤9223372036854775807:=by rw[←hm];exact hs.1
 have HK:=Lib.hid hk
 have HD0:=Lib.hid hd0
 have HD1:=Lib.hid hd1
 have HL0:=Lib.hid hl0
 have HL1:=Lib.hid hl1
 clear hs hm hk hd0 hd1 hl0 hl1
 by_cases hz:dd=0
 ·have e0:(dd == 0)=true:=by rw[hz];rfl
  clear hz
  go_enter Tryd.func9,Tryd.ntmps9
  go_wp2_with fail
  go_ret
  exact⟨-1,rfl,by omega,HL0.out,by omega,Below.refl _ _⟩
 ·have e0:(dd == 0)=false:=beq_eq_false_iff_ne.2 hz
  have HD2:Hid (1≤dd):=Lib.hid (by have:=HD0.out;omega)
  have ed:IntKind.i64.wrap (dd - 1)=dd - 1:=IntWalk.i64_in _ (by have:=HD0.out;have:=HD1.out;omega)
  clear hz
  go_enter Tryd.func9,Tryd.ntmps9
  go_wp2_with fail
  go_loopw [1,7] (fun t i wr=>∃(j:Nat) (x:Int),j≤m∧t= .int .i64 x∧i= .int .i64 j∧Hid (-1≤x∧x≤l∧(0≤x→x+(4*ndS (n+1) (es.take j):Nat)≤l))∧Hid (Below w.heap.size w wr)) (fun _ i _=>m - (intOf i).toNat)
  case atStart=>exact⟨0,l,Nat.zero_le _,rfl,rfl,Lib.hid ⟨HL0.out,Int.le_refl _,fun _=>by simp[ndS]⟩,Below.refl _ _⟩
  case round=>
   obtain⟨j,x,hj,rfl,rfl,hin,hbr⟩:=hrel
   by_cases hx:0≤x
   ·have g1:decide (x ≥ 0)=true:=decide_eq_true hx
    have g2:decide (0≤x)=true:=decide_eq_true hx
    have ex:IntKind.i64.wrap (x - 1)=x - 1:=IntWalk.i64_in _ (by have:=hin.out;have:=HL1.out;omega)
    have HX:=Lib.hid hx
    clear hx
    by_cases hlt:j<m
    ·have hlx:j<es.length:=by rw[HM.out];exact hlt
     obtain⟨b,off,cs,rfl,hbl,hc,hrl⟩:=HS.out.2 j hlx
     have HND:=Lib.hid (ndS_snoc (n:=n+1) hlx)
     have HKJ:=Lib.hid (fun u c q W=>HK.out es[j] u c q W (List.getElem_mem hlx) HD2.out)
     obtain⟨k,a1,d1,a2,d2,a3,d3,a4,d4,a5,d5,hnk,rfl,hnn,hrc,hre,hrv,hks⟩:=assn_form hrl
     rw[←hnk]at hrc hre hrv hks
     clear hnk hrl
     generalize es[j]=y at*
     generalize hfs:y.field=fs at hc
     have HQ:Hid (∀W,Below w.heap.size w W→∀i v,([.int .i64 y.kind,.int .i64 y.c.kind,.slice a1 y.c.es.length d1,.slice a2 y.c.ks.length d2,.int .i64 y.e.kind,.int .i64 y.e.n,.string y.e.name,.slice a3 y.e.ks.length d3,.int .i64 y.v.kind,.int .i64 y.v.n,.string y.v.name,.slice a4 y.v.ks.length d4,.string fs,.int .i64 y.n,.slice a5 y.ks.length d5]:List Value)[i]? =some v→W.cell? ⟨b,off+j*15+i,none⟩=some v):=Lib.hid fun W hW i v hv=>by
      have:=(hW.cell (p:=⟨b,_,none⟩) hbl).trans (hc i v hv)
      rwa [assnSh_k]at this
     have HC1:=Lib.hid (fun q W hq0 hq1 (hW:Below w.heap.size w W)=>sizeC_any n [y.c] (some ⟨W.heap.size,0,none⟩) 1 q (dd - 1) (W.alloc (.cells #[.int .i64 y.c.kind,.slice a1 y.c.es.length d1,.slice a2 y.c.ks.length d2] 25)) (by have:=HD2.out;omega) (by have:=HD1.out;omega) hq0 hq1 (sits_block (heap_alloc_new W _) (by simp) (rel_low hrc (hW.alloc hW.size _))))
     have HC2:=Lib.hid (fun q W hq0 hq1 (hW:Below w.heap.size w W)=>sizeE_any n [y.e,y.v] (some ⟨W.heap.size,0,none⟩) 2 q (dd - 1) (W.alloc (.cells #[.int .i64 y.e.kind,.int .i64 y.e.n,.string y.e.name,.slice a3 y.e.ks.length d3,.int .i64 y.v.kind,.int .i64 y.v.n,.string y.v.name,.slice a4 y.v.ks.length d4] 27)) (by have:=HD2.out;omega) (by have:=HD1.out;omega) hq0 hq1 (sits_two (cs:=[.int .i64 y.e.kind,.int .i64 y.e.n,.string y.e.name,.slice a3 y.e.ks.length d3]) (ds:=[.int .i64 y.v.kind,.int .i64 y.v.n,.string y.v.name,.slice a4 y.v.ks.length d4]) (heap_alloc_new W _) (by simp) (by rw[exprSh_k];rfl) (rel_low hre (hW.alloc hW.size _)) (rel_low hrv (hW.alloc hW.size _))))
     have HC3:=Lib.hid (fun q W hq0 hq1 (hW:Below w.heap.size w W)=>HKJ.out a5 d5 q W hq0 hq1 hW (hks.below hW hW.size))
     have HN0:Hid (ndA (n+1) y=1+ndS n y.ks):=Lib.hid (ndA_succ n y)
     have hji:(j:Int)<(m:Int):=by omega
     clear hc hks hrc hre hrv HKJ hnn
     generalize ndS n y.ks=nk at*
     have c1:=HQ.out _ hbr.out 1 _ rfl
     have c2:=HQ.out _ hbr.out 2 _ rfl
     have c3:=HQ.out _ hbr.out 3 _ rfl
     go_wp2_with fail
     refine(HC1.out (x - 1) _ (by have:=HX.out;omega) (by have:=hin.out;have:=HL1.out;omega) hbr.out).mono ?_
     rintro r w3 ⟨x2,rfl,h1,h2,h3,hb⟩
     have HB3:=Lib.hid ((hbr.out.alloc hbr.out.size _).trans (hb.mono (hbr.out.alloc hbr.out.size _).size))
     have H12:Hid (-1≤x2∧x2≤x - 1∧(0≤x2→x2+1≤x - 1)):=Lib.hid ⟨h1,h2,fun h=>by have:=h3 h;simpa using this⟩
     clear h1 h2 h3 hb HC1 c1 c2 c3
     by_cases hx2:0≤x2
     ·have p1:decide (x2 ≥ 0)=true:=decide_eq_true hx2
      have p2:decide (0≤x2)=true:=decide_eq_true hx2
      have HX2:=Lib.hid hx2
      have c4:=HQ.out _ HB3.out 4 _ rfl
      have c5:=HQ.out _ HB3.out 5 _ rfl
      have c6:=HQ.out _ HB3.out 6 _ rfl
      have c7:=HQ.out _ HB3.out 7 _ rfl
      have c8:=HQ.out _ HB3.out 8 _ rfl
      have c9:=HQ.out _ HB3.out 9 _ rfl
      have c10:=HQ.out _ HB3.out 10 _ rfl
      have c11:=HQ.out _ HB3.out 11 _ rfl
      clear hx2
      have HC2D:=Lib.hid (HC2.out x2 w3.drew H12.out.1 (by have:=H12.out;have:=hin.out;have:=HL1.out;omega) HB3.out.drew)
      have HB3D:Hid (Below w.heap.size w (w3.drew.alloc (.cells #[.int .i64 y.e.kind,.int .i64 y.e.n,.string y.e.name,.slice a3 y.e.ks.length d3,.int .i64 y.v.kind,.int .i64 y.v.n,.string y.v.name,.slice a4 y.v.ks.length d4] 27))):=Lib.hid (HB3.out.drew.alloc HB3.out.drew.size _)
      clear HC2
      go_wp2_with fail
      go_region_with (go_at_call 16;refine HC2D.out.mono ?_;rintro r w4 ⟨x3,rfl,h1,h2,h3,hb⟩)
      all_goals (
       have HB4:=Lib.hid (HB3D.out.trans (hb.mono HB3D.out.size))
       have H23:Hid (-1≤x3∧x3≤x2∧(0≤x3→x3+2≤x2)):=Lib.hid ⟨h1,h2,fun h=>by have:=h3 h;simpa using this⟩
       clear h1 h2 h3 hb HC2D HB3D c4 c5 c6 c7 c8 c9 c10 c11
       by_cases hx3:0≤x3
       ·have r1:decide (x3 ≥ 0)=true:=decide_eq_true hx3
        have r2:decide (0≤x3)=true:=decide_eq_true hx3
        have HX3:=Lib.hid hx3
        have c14:=HQ.out _ HB4.out 14 _ rfl
        clear hx3
        go_wp2_with fail
        refine(HC3.out x3 _ H23.out.1 (by have:=H23.out;have:=H12.out;have:=hin.out;have:=HL1.out;omega) HB4.out).mono ?_
        rintro r w5 ⟨x4,rfl,h1,h2,h3,hb⟩
        have HB5:=Lib.hid (HB4.out.trans (hb.mono HB4.out.size))
        have HN:Hid (-1≤x4∧x4≤l∧(0≤x4→x4+(4*ndS (n+1) (es.take (j+1)):Nat)≤l)):=Lib.hid (by
         have q1:=H23.out
         have q2:=H12.out
         have q3:=hin.out
         refine⟨h1,by omega,fun h=> ?_⟩
         have q4:=h3 h
         have q5:=q3.2.2 HX.out
         have q6:=q1.2.2 HX3.out
         have q7:=q2.2.2 HX2.out
         rw[HND.out,HN0.out]
         omega)
        clear h1 h2 h3 hb HC3 hin hbr c14
        have c12:=HQ.out _ HB5.out 12 _ rfl
        by_cases hn:(200:Int)<(fs.size:Int)
        ·have t1:decide ((fs.size:Int) > 200)=true:=decide_eq_true hn
         have t2:decide ((200:Int)<(fs.size:Int))=true:=decide_eq_true hn
         have t3:200<fs.size:=by omega
         clear hn
         go_wp2_with fail
         go_ret
         exact⟨-1,rfl,by omega,HL0.out,by omega,HB5.out⟩
        ·have t1:decide ((fs.size:Int) > 200)=false:=decide_eq_false hn
         have t2:decide ((200:Int)<(fs.size:Int))=false:=decide_eq_false hn
         have t3:¬ 200<fs.size:=by omega
         clear hn
         go_wp2_with fail
         go_roundw
         case rel=>exact⟨j+1,x4,by omega,rfl,by go_num,HN,HB5⟩
         case measure=>simp[intOf];omega
       ·have r1:decide (x3 ≥ 0)=false:=decide_eq_false hx3
        have r2:decide (0≤x3)=false:=decide_eq_false hx3
        have HN:Hid (-1≤x3∧x3≤l∧(0≤x3→x3+(4*ndS (n+1) (es.take (j+1)):Nat)≤l)):=Lib.hid (by have:=H23.out;have:=H12.out;have:=hin.out;exact⟨by omega,by omega,fun h=>absurd h hx3⟩)
        clear hx3 HC3 hin hbr
        have c12:=HQ.out _ HB4.out 12 _ rfl
        by_cases hn:(200:Int)<(fs.size:Int)
        ·have t1:decide ((fs.size:Int) > 200)=true:=decide_eq_true hn
         have t2:decide ((200:Int)<(fs.size:Int))=true:=decide_eq_true hn
         have t3:200<fs.size:=by omega
         clear hn
         go_wp2_with fail
         go_ret
         exact⟨-1,rfl,by omega,HL0.out,by omega,HB4.out⟩
        ·have t1:decide ((fs.size:Int) > 200)=false:=decide_eq_false hn
         have t2:decide ((200:Int)<(fs.size:Int))=false:=decide_eq_false hn
         have t3:¬ 200<fs.size:=by omega
         clear hn
         go_wp2_with fail
         go_roundw
         case rel=>exact⟨j+1,x3,by omega,rfl,by go_num,HN,HB4⟩
         case measure=>simp[intOf];omega
      )
     ·have p1:decide (x2 ≥ 0)=false:=decide_eq_false hx2
      have p2:decide (0≤x2)=false:=decide_eq_false hx2
      have HN:Hid (-1≤x2∧x2≤l∧(0≤x2→x2+(4*ndS (n+1) (es.take (j+1)):Nat)≤l)):=Lib.hid (by have:=H12.out;have:=hin.out;exact⟨by omega,by omega,fun h=>absurd h hx2⟩)
      clear hx2 HC2 HC3 hin hbr
      have c12:=HQ.out _ HB3.out 12 _ rfl
      by_cases hn:(200:Int)<(fs.size:Int)
      ·have t1:decide ((fs.size:Int) > 200)=true:=decide_eq_true hn
       have t2:decide ((200:Int)<(fs.size:Int))=true:=decide_eq_true hn
       have t3:200<fs.size:=by omega
       clear hn
       go_wp2_with fail
       go_ret
       exact⟨-1,rfl,by omega,HL0.out,by omega,HB3.out⟩
      ·have t1:decide ((fs.size:Int) > 200)=false:=decide_eq_false hn
       have t2:decide ((200:Int)<(fs.size:Int))=false:=decide_eq_false hn
       have t3:¬ 200<fs.size:=by omega
       clear hn
       go_wp2_with fail
       go_roundw
       case rel=>exact⟨j+1,x2,by omega,rfl,by go_num,HN,HB3⟩
       case measure=>simp[intOf];omega
    ·obtain rfl:j=m:=by omega
     have HE:Hid (SzEnd (4*ndS (n+1) es) l w (.returned (.int .i64 x)) wr):=Lib.hid ⟨x,rfl,hin.out.1,hin.out.2.1,by have h:=hin.out.2.2;rw[←HM.out,List.take_length]at h;exact h,hbr.out⟩
     go_wp2_with fail
     go_ret
     exact HE.out
   ·have g1:decide (x ≥ 0)=false:=decide_eq_false hx
    have g2:decide (0≤x)=false:=decide_eq_false hx
    have HE:Hid (SzEnd (4*ndS (n+1) es) l w (.returned (.int .i64 x)) wr):=Lib.hid ⟨x,rfl,hin.out.1,hin.out.2.1,fun h=>absurd h hx,hbr.out⟩
    clear hx
    by_cases hlt:j<m
    ·have hji:(j:Int)<(m:Int):=by omega
     go_wp2_with fail
     go_ret
     exact HE.out
    ·obtain rfl:j=m:=by omega
     go_wp2_with fail
     go_ret
     exact HE.out
end
section
open Go.RowKit
theorem sizeA_any:∀(n:Nat) (es:List AT) (a:Option Addr) (cap:Nat) (l dd:Int) (w:World),0≤dd→dd≤300→ -1≤l→l≤300→Pak.Sits (assnSh n) (Pak.Lo w.heap.size) w a es→
 Calls Tryd.prog 9 #[.slice a es.length cap,.int .i64 l,.int .i64 dd] w (SzEnd (4*ndS n es) l w)
 | 0,es,a,cap,l,dd,w,h1,h2,h3,h4,hs=>by
   have he:es=[]:=by
    cases es with
    | nil=>rfl
    | cons x xs=>
      obtain⟨_,_,_,_,_,_,hr⟩:=hs.2 0 (by simp)
      exact hr.elim
   subst he
   exact sizeA_box 0 [] a 0 cap l dd w rfl h1 h2 h3 h4 (Pak.Sits.nil _ _ _ _) fun x u c q W hx _ _ _ _ _=>absurd hx (by simp)
 | n+1,es,a,cap,l,dd,w,h1,h2,h3,h4,hs=>
   sizeA_box n es a es.length cap l dd w rfl h1 h2 h3 h4 hs fun x u c q W _ hd hq0 hq1 hW hsx=>
    sizeA_any n x.ks u c q (dd - 1) W (by omega) (by omega) hq0 hq1 hsx
def SmEnd (p:Prop)(w:World)(r:Ending)(w':World):Prop:=∃b:Bool,r= .returned (.bool b)∧(b=true→p)∧Below w.heap.size w w'
theorem smallA_any (n:Nat)(y:AT)(cs:List Value)(w:World)(h:(assnSh n).rel (Pak.Lo w.heap.size) w cs y):
 Calls Tryd.prog 5 #[.agg cs.toArray] w (SmEnd (4*ndA n y≤300) w):=by
 have hlen:=((assnSh n).len h).trans (assnSh_k _)
 have HA:Hid (Below w.heap.size w (w.alloc (.cells cs.toArray 30))):=box_low
 have HB0:Hid (Below (w.alloc (.cells cs.toArray 30)).heap.size (w.alloc (.cells cs.toArray 30)) (w.alloc (.cells cs.toArray 30))):=Below.refl _ _
 have P0:=Lib.hid (fun W (hb:Below (w.alloc (.cells cs.toArray 30)).heap.size (w.alloc (.cells cs.toArray 30)) W)=>box_part (cs:=cs) (l:=cs) (o:=0) (fun i v h=>by rw[Nat.zero_add];exact h) hb)
 have L0:=Lib.hid hlen
 have HC:=Lib.hid (fun W g (hW:Below w.heap.size w W) (hg:W.heap[g]? =some (.cells cs.toArray 30 (0,0)))=>sizeA_any n [y] (some ⟨g,0,none⟩) 1 300 300 W (by omega) (by omega) (by omega) (by omega) (sits_block hg (Array.getElem?_eq_some_iff.1 hg).1 (rel_low h hW)))
 have hfold:List.foldl (fun(xs:Array Value) (x:Value×Nat)=>xs.setIfInBounds x.2 x.1) #[.int .i64 0,.int .i64 0,.slice none 0 0,.slice none 0 0,.int .i64 0,.int .i64 0,.string ⟨#[]⟩,.slice none 0 0,.int .i64 0,.int .i64 0,.string ⟨#[]⟩,.slice none 0 0,.string ⟨#[]⟩,.int .i64 0,.slice none 0 0] cs.zipIdx=cs.toArray:=fold_put cs [] zAc (by rw[hlen];rfl)
 have HA2:Hid (Below w.heap.size w ((w.alloc (.cells cs.toArray 30)).alloc (.cells cs.toArray 30))):=Lib.hid (HA.out.alloc HA.out.size _)
 have HC2:=Lib.hid (HC.out _ (w.heap.size+1) HA2.out (by have:=heap_alloc_new (w.alloc (.cells cs.toArray 30)) (.cells cs.toArray 30);rwa [show(w.alloc (.cells cs.toArray 30)).heap.size=w.heap.size+1 by simp]at this))
 clear h
 go_enter Tryd.func5,Tryd.ntmps5
 go_wp2_with (first | go_skip | (refine wpList_load_w (by kernel_rfl) 30 _ rfl ⟨w.heap.size,0,none⟩ rfl cs _ (P0.out _ HB0.out) Tryd.underlying30 rfl (by rw[L0.out];kernel_rfl) ?_))
 refine HC2.out.mono ?_
 rintro r w2 ⟨x,rfl,h1,h2,h3,hb⟩
 have HE:Hid (0≤x→4*ndA n y≤300):=Lib.hid (fun h=>by have:=h3 h;simp[ndS]at this;omega)
 have HB:=Lib.hid (HA2.out.trans (hb.mono HA2.out.size))
 clear h1 h2 h3 hb HC HC2 hfold hlen
 by_cases hx:0≤x
 ·have g1:decide (x ≥ 0)=true:=decide_eq_true hx
  have g2:decide (0≤x)=true:=decide_eq_true hx
  have HX:=Lib.hid (HE.out hx)
  clear hx HE
  go_wp2_with fail
  go_ret
  exact⟨true,rfl,fun _=>HX.out,HB.out⟩
 ·have g1:decide (x ≥ 0)=false:=decide_eq_false hx
  have g2:decide (0≤x)=false:=decide_eq_false hx
  clear hx HE
  go_wp2_with fail
  go_ret
  exact⟨false,rfl,fun h=>(by cases h),HB.out⟩
end
end Go.Proofs.YtfinhpfjokpcfaaDoor
