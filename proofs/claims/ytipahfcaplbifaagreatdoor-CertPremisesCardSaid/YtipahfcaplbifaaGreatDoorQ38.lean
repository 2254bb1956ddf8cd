/- Parts of a proof. -/
import Derived.Test.YtipahfcaplbifaaGreatDoorQ23
import Derived.Test.YtipahfcaplbifaaGreatDoorQ36
import Derived.Carry
import Derived.Lib.SmallJoins
import Derived.Deep.RegionWith
import Derived.Lib.QuietBelow
import Derived.BigQuiet
set_option linter.unusedVariables false
set_option linter.unusedSimpArgs false
set_option maxHeartbeats 60000000
set_option maxRecDepth 100000
namespace Go.Proofs.YtipahfcaplbifaaGreatDoor
section
open Go.RowKit
theorem OwnP.lower {T:Type}{sh:Pak.Sh T}{e:TypeId}{B B':Nat}{S:Nat→Prop}{xs:List T}{v:Value}{w:World}(h:OwnP sh e B S xs v w)(hB:B'≤B):OwnP sh e B' S xs v w:=by
 obtain⟨css,h1,h2,h3⟩:=h.row
 exact⟨⟨css,h1,Joins.ownsRow_le h2 hB,h3⟩,h.ok⟩
theorem mk_end {n:Nat}{f:FT}{w w5 w8:World}{mp:Nat}{r5 r8:Option Nat}{S5 S8:Nat→Prop}{av:Value}(hm:w.heap.size+2≤mp)(hG5:GS (mp+1) (mp+2) mp (atomsF n f) r5 S5 w5)(hO5:OwnP linSh 36 (mp+2) S5 (atomsF n f) av w5)
 (hk:∀q,q<w5.heap.size→q≠mp+1→w8.heap[q]? =w5.heap[q]?) (hL8:LS (mp+1) w5.heap.size mp av (makF n f).n (clsF n f) r8 S8 w8) (hsz:w5.heap.size≤w8.heap.size) (hb:Below w.heap.size w w8) (hrc:RC w8 (w.heap.size+1)):∃cv,MkEnd n f w w8 (mp+1) av cv:=by
 obtain⟨cv,h2,h3,h4⟩:=hL8.ex
 have hlt:=hG5.lt
 refine⟨cv,⟨⟨w5.heap.size,S5,S8,by omega,hsz,(hO5.lower (by omega)).keep hsz (fun q hq=>hk q ?_ ?_),fun b hb=>⟨by have:=hG5.lo b hb;omega,hG5.ok b hb⟩,fun q hq=>(hO5.lt q hq).2,h4,hL8.lo,fun b hb o=> ?_⟩,hL8.c0,hL8.c1,h2,hrc,⟨by omega,by omega⟩,hb⟩⟩
 ·rcases hq with hq | hq
  ·exact hG5.ok q hq
  ·exact(hO5.lt q hq).2
 ·rcases hq with hq | hq
  ·have:=hG5.lo q hq;omega
  ·have:=(hO5.lt q hq).1;omega
 ·rcases hb with hb | hb
  ·exact(World.frozen?_of_block (a:=⟨b,o,none⟩) (hk b (hG5.ok b hb) (by have:=hG5.lo b hb;omega))).trans (hG5.nf b hb o)
  ·exact hL8.nf b hb o
theorem make_go (n:Nat)(f:FT)(cs:List Value)(w:World)(h:FLies w.heap.size w (n+1) f cs)(ht:Tens w.heap.size w)(hi:isF (n+1) f=true):
 Calls Tryz.prog 31 #[.agg cs.toArray] w (CnfEnd (n+1) f w):=by
 obtain⟨ta,tcap,ka,kcap,rfl,h4,h5,h6,h7⟩:=h
 have hfl:FLies w.heap.size w (n+1) f [.int .i64 f.kind,.int .i64 f.c,.slice ta f.t.length tcap,.slice ka f.ks.length kcap]:=⟨ta,tcap,ka,kcap,rfl,h4,h5,h6,h7⟩
 obtain⟨hq1,hq2,hq3,hq4⟩:=cls_len hi
 have hmd:madeF (n+1) f=true:=by unfold isF at hi;simp only[Bool.and_eq_true]at hi;exact hi.2.2
 have HK:Hid (cnfK (n+1) f=if 8192<(makF (n+1) f).n∨Prp.chkK (makF (n+1) f).n (clsF (n+1) f)≠0 then 2 else 0):=Lib.hid (by unfold cnfK;rw[if_neg (by rw[hi];simp)])
 have hA:Below w.heap.size w (w.alloc (.cells #[.int .i64 f.kind,.int .i64 f.c,.slice ta f.t.length tcap,.slice ka f.ks.length kcap] 39)):=(Below.refl _ w).alloc (Nat.le_refl _) _
 have HB:=box_start w f.kind f.c ta ka f.t.length tcap f.ks.length kcap
 have hA2:Below (w.alloc (.cells #[.int .i64 f.kind,.int .i64 f.c,.slice ta f.t.length tcap,.slice ka f.ks.length kcap] 39)).heap.size (w.alloc (.cells #[.int .i64 f.kind,.int .i64 f.c,.slice ta f.t.length tcap,.slice ka f.ks.length kcap] 39)) ((w.alloc (.cells #[.int .i64 f.kind,.int .i64 f.c,.slice ta f.t.length tcap,.slice ka f.ks.length kcap] 39)).alloc (.cells #[.int .i64 0,.slice none 0 0,.slice none 0 0] 71)):=(Below.refl _ _).alloc (Nat.le_refl _) _
 have hz1:(w.alloc (.cells #[.int .i64 f.kind,.int .i64 f.c,.slice ta f.t.length tcap,.slice ka f.ks.length kcap] 39)).heap.size=w.heap.size+1:=by simp
 have hrc:=rc_new (w.alloc (.cells #[.int .i64 f.kind,.int .i64 f.c,.slice ta f.t.length tcap,.slice ka f.ks.length kcap] 39)) (w.heap.size+1) hz1
 have hAA:=hA.trans (hA2.mono hA.size)
 have hz2:((w.alloc (.cells #[.int .i64 f.kind,.int .i64 f.c,.slice ta f.t.length tcap,.slice ka f.ks.length kcap] 39)).alloc (.cells #[.int .i64 0,.slice none 0 0,.slice none 0 0] 71)).heap.size=w.heap.size+2:=by simp
 have HIS:=Lib.hid (nis_any (n+1) f _ _ ((hfl.below hAA).mono hAA.size))
 rw[hi]at HIS
 have hbx:=fun j=>hA2.cell (p:=⟨w.heap.size,j,none⟩) (show w.heap.size<_ by rw[hz1];omega)
 have b0:=(hbx 0).trans HB.c0
 have b1:=(hbx 1).trans HB.c1
 have b2:=(hbx 2).trans HB.c2
 have b3:=(hbx 3).trans HB.c3
 have HGAT:=Lib.hid (fun(W:World) (mp:Nat) (hmp:w.heap.size≤mp) (hb:Below w.heap.size w W) (hS:GS (mp+1) (mp+2) mp [] none (fun _=>False) W)=>gat_any w.heap.size (mp+1) (mp+2) mp hmp (n+1) f _ [] none (fun _=>False) W (hfl.below hb) hmd hS (ht.up hb hmp) (by have:=hq1;simp;omega))
 have HLIT:=Lib.hid (fun(W:World) (mp K:Nat) (av:Value) (hmp:w.heap.size≤mp) (hb:Below w.heap.size w W) (hS:LS (mp+1) K mp av (atomsF (n+1) f).length [] none (fun _=>False) W) (hp:Places (atomsF (n+1) f) mp W)=>lit_any (atomsF (n+1) f) w.heap.size (mp+1) K mp av (by omega) (by omega) (n+1) f _ (atomsF (n+1) f).length [] none (fun _=>False) W (hfl.below hb) hmd hS hp (ht.up hb (by omega)) (by omega) (by simp;omega))
 have hlf:=mkF_far (am:=atomsF (n+1) f) (N:=(atomsF (n+1) f).length) (cl:=[]) hmd (by omega)
 have HQ:=Lib.hid (And.intro hq1 (And.intro hq2 (And.intro hq3 hq4)))
 have HZ2:=Lib.hid hz2
 have HRC:=Lib.hid hrc
 have HAA:=Lib.hid hAA
 have HMK:Hid (mkF (atomsF (n+1) f) (n+1) f (atomsF (n+1) f).length []=makF (n+1) f):=rfl
 have HCL:Hid (clsF (n+1) f=(makF (n+1) f).cl ++ [[(makF (n+1) f).lit]]):=rfl
 rw[HMK.out]at HLIT hlf
 clear hA HB hA2 hz1 hz2 hrc hAA hbx hfl h4 h7 hi ht hmd hq1 hq2 hq3 hq4
 unfold CnfEnd
 generalize f.kind=fk at*
 generalize f.c=fc at*
 generalize f.t.length=ft at*
 generalize f.ks.length=fl at*
 go_enter Tryz.func31,Tryz.ntmps31
 go_wp2_with fail
 generalize (w.alloc (.cells #[.int .i64 fk,.int .i64 fc,.slice ta ft tcap,.slice ka fl kcap] 39)).alloc (.cells #[.int .i64 0,.slice none 0 0,.slice none 0 0] 71)=W2 at*
 refine HIS.out.mono ?_
 rintro e w3 ⟨rfl,hb3⟩
 have hk3:=fun j=>hb3.cell (p:=⟨w.heap.size,j,none⟩) (show w.heap.size<_ by rw[HZ2.out];omega)
 have x0:=(hk3 0).trans b0
 have x1:=(hk3 1).trans b1
 have x2:=(hk3 2).trans b2
 have x3:=(hk3 3).trans b3
 have hz3:w.heap.size+2≤w3.heap.size:=by have:=hb3.size;rw[HZ2.out]at this;exact this
 obtain⟨mp,hmp⟩:∃mp,w3.heap.size=mp:=⟨_,rfl⟩
 have hGS:=GS.start hmp
 have HM:Hid (w.heap.size+2≤mp):=by rw[←hmp];exact hz3
 have hAm:Below w3.heap.size w3 ((w3.alloc (.map #[] 0)).alloc (.cells #[.int .i64 0,.slice none 0 0,.slice none 0 0,.map (some mp)] 110)):=((Below.refl _ w3).alloc (Nat.le_refl _) _).alloc (by simp) _
 have HB3:=Lib.hid (HAA.out.trans (hb3.mono HAA.out.size))
 have HR3:=Lib.hid (HRC.out.keep (hb3.block (w.heap.size+1) (by rw[HZ2.out];omega)))
 have HB4:=Lib.hid (HB3.out.trans (hAm.mono HB3.out.size))
 have HR4:=Lib.hid (HR3.out.keep (hAm.block (w.heap.size+1) (by omega)))
 have HG4:=Lib.hid (HGAT.out _ mp (by omega) HB4.out hGS)
 have hk4:=fun j=>hAm.cell (p:=⟨w.heap.size,j,none⟩) (show w.heap.size<_ by omega)
 have y0:=(hk4 0).trans x0
 have y1:=(hk4 1).trans x1
 have y2:=(hk4 2).trans x2
 have y3:=(hk4 3).trans x3
 have HGS:=Lib.hid hGS
 have HY:=Lib.hid (And.intro y0 (And.intro y1 (And.intro y2 y3)))
 have hmm:= @run_makeMap Tryz.prog
 clear hb3 b0 b1 b2 b3 hk3 hk4 HGAT HIS HR3 HB3 hAm hGS x0 x1 x2 x3
 subst hmp
 clear hz3
 go_wp2_with fail
 clear hmm
 clear y0 y1 y2 y3
 generalize (w3.alloc (.map #[] 0)).alloc (.cells #[.int .i64 0,.slice none 0 0,.slice none 0 0,.map (some w3.heap.size)] 110)=W4 at*
 generalize w3.heap.size=mp at*
 refine HG4.out.mono ?_
 rintro e w5 ⟨rfl,S5,hS5,r5,hG5,hr5,hK5⟩
 obtain⟨av,ha5,hrow5,hO5⟩:=hG5.ex
 obtain⟨aa,ac,rfl⟩:=hO5.form
 have hl5:=HGS.out.low hK5
 have hb5:Below w.heap.size w w5:=HB4.out.trans (hl5.mono (by have:=HM.out;omega))
 have hmpw:w.heap.size<mp:=by have:=HM.out;omega
 have hk5:=fun j=>hl5.cell (p:=⟨w.heap.size,j,none⟩) hmpw
 have y0:=(hk5 0).trans HY.out.1
 have y1:=(hk5 1).trans HY.out.2.1
 have y2:=(hk5 2).trans HY.out.2.2.1
 have y3:=(hk5 3).trans HY.out.2.2.2
 have HR5:=Lib.hid (HR4.out.keep (hl5.block (w.heap.size+1) (by have:=HM.out;omega)))
 have m0:=hG5.c0
 have mf:=hG5.fz 0
 have HBG:=Lib.hid (hG5.begin ha5 (atomsF (n+1) f).length)
 have HG5:Hid (GS (mp+1) (mp+2) mp (atomsF (n+1) f) r5 S5 w5):=Lib.hid hG5
 have HO5:Hid (OwnP linSh 36 (mp+2) S5 (atomsF (n+1) f) (.slice aa (atomsF (n+1) f).length ac) w5):=Lib.hid hO5
 have HB5:=Lib.hid hb5
 have hln:gatF (n+1) f []=atomsF (n+1) f:=rfl
 rw[hln]at ha5 HBG
 have HST:Hid (Below mp w5 (w5.setCell ⟨mp+1,0,none⟩ (.int .i64 (atomsF (n+1) f).length))):=(Below.refl mp w5).setCell (p:=⟨mp+1,0,none⟩) (Nat.le_succ _) _
 have HSB:Hid (∀q,q≠mp+1→(w5.setCell ⟨mp+1,0,none⟩ (.int .i64 (atomsF (n+1) f).length)).heap[q]? =w5.heap[q]?):=Lib.hid fun q hq=>Below.heap_setCell _ _ _ _ hq
 have HLT:=Lib.hid (HLIT.out (w5.setCell ⟨mp+1,0,none⟩ (.int .i64 (atomsF (n+1) f).length)) mp w5.heap.size (.slice aa (atomsF (n+1) f).length ac) (by omega) (HB5.out.trans (HST.out.mono (by omega))) HBG.out.1 HBG.out.2)
 have hne:mp+1≠w.heap.size:=by omega
 have hz6:(w5.setCell ⟨mp+1,0,none⟩ (.int .i64 (atomsF (n+1) f).length)).heap.size=w5.heap.size:=by simp[World.setCell]
 have HZ6:=Lib.hid hz6
 have HMW:=Lib.hid hmpw
 clear hl5 hb5 hk5 hG5 hO5 hrow5 hK5 hr5 hS5 HLIT HG4 HR4 hln HY hz6 HGS hmpw
 generalize (atomsF (n+1) f).length=al at*
 go_wp2_with fail
 clear y0 y1 y2 y3 m0 mf
 generalize w5.setCell ⟨mp+1,0,none⟩ (.int .i64 al)=w6 at*
 refine HLT.out.mono ?_
 rintro e w7 ⟨rfl,S7,hS7,r7,hL7,hr7,hK7⟩
 have hA7:Below w7.heap.size w7 (w7.alloc (.cells #[.int .i64 (makF (n+1) f).lit] 3)):=(Below.refl _ _).alloc (Nat.le_refl _) _
 have hIn:=ints_new w7 [(makF (n+1) f).lit] (fun y hy=>by
  rw[List.mem_singleton]at hy
  subst hy;omega) (by simp)
 have hcl:(makF (n+1) f).cl.length≤4194304:=by
  have:=HQ.out.2.2.1
  rw[HCL.out,List.length_append]at this
  omega
 have hz67:=hK7.size
 have HZ7:=Lib.hid hz67
 have HCA:=Lib.hid (clause_any (mp+1) w5.heap.size mp _ _ _ _ _ _ 1 1 [(makF (n+1) f).lit] S7 _ (hL7.below hA7) hcl rfl hIn (fun b hb=>by
  subst hb
  exact⟨by rw[←HZ6.out];exact hz67,by simp,fun e=>by have:=(hL7.row _ e).2.1;omega⟩) (fun b hb o=>by
  subst hb
  exact frozen_of_row _ _ _ _ _ (heap_alloc_new w7 _)))
 have HA7:=Lib.hid hA7
 have HK7:=Lib.hid hK7
 have HR7:=Lib.hid hr7
 clear hA7 hIn hcl hz67 hK7 hr7 hL7 hS7 HLT HBG
 go_wp2_with fail
 generalize w7.alloc (.cells #[.int .i64 (makF (n+1) f).lit] 3)=w8a at*
 refine HCA.out.mono ?_
 rintro e w8 ⟨rfl,r8,hL8,hr8,hK8⟩
 have hk8:∀q,q<w5.heap.size→q≠mp+1→w8.heap[q]? =w5.heap[q]? :=fun q hq hn=>by
  have z7:=HZ7.out
  have z6:=HZ6.out
  have za:=HA7.out.size
  have h1:=hK8.block q (by omega) hn (fun e=>by
   rcases HR7.out with h | ⟨u,h,hu⟩
   ·rw[h]at e;cases e
   ·rw[h]at e;injection e with e;omega)
  have h2:=HA7.out.block q (by omega)
  have h3:=HK7.out.block q (by omega) hn (fun e=>by cases e)
  exact h1.trans (h2.trans (h3.trans (HSB.out q hn)))
 have hz8:w5.heap.size≤w8.heap.size:=by
  have z7:=HZ7.out
  have z6:=HZ6.out
  have za:=HA7.out.size
  have zb:=hK8.size
  omega
 have hbl8:Below w.heap.size w w8:=by
  refine HB5.out.trans ((HST.out.mono (by have:=HMW.out;omega)).trans ?_)
  have z7:=HZ7.out
  have z6:=HZ6.out
  have za:=HA7.out.size
  have zm:=HG5.out.lt
  have zw:=HMW.out
  refine⟨hK8.os.trans (HA7.out.os.trans HK7.out.os),hK8.tape.trans (HA7.out.tape.trans HK7.out.tape),hK8.output.trans (HA7.out.output.trans HK7.out.output),by have:=hK8.size;omega,fun q hq=> ?_⟩
  rw[hk8 q (by omega) (by omega),HSB.out q (by omega)]
 have hrc8:RC w8 (w.heap.size+1):=HR5.out.keep (hk8 _ (by have:=HG5.out.lt;have:=HM.out;omega) (by have:=HM.out;omega))
 rw[←HCL.out]at hL8
 obtain⟨cv,hE⟩:=mk_end HM.out HG5.out HO5.out hk8 hL8 hz8 hbl8 hrc8
 have HE:=Lib.hid hE
 clear hk8 hz8 hbl8 hrc8 hL8 hr8 hK8 HA7 HZ7 HZ6 HSB HR7 HK7 HST HB5 HG5 HO5 HR5 HCA HB4 hlf hE
 have HM2:Hid (w.heap.size+2<mp+1):=Lib.hid (by have:=HM.out;omega)
 clear HM HMW hne HCL HMK HAA HRC HZ2
 obtain⟨K,Sa,Sc,k1,k2,k3,k4,k5,k6,k7,k8⟩:=HE.out.ok
 obtain⟨ca,cc,rfl,hsit⟩:=k6.slot (by have:=HQ.out.2.2.1;omega)
 have hcl:=clies_of hsit (B:=w8.heap.size) (fun b hb=>by
  rcases hb with hb | hb
  ·exact(k6.ok b hb).1
  ·exact(k6.lt b hb).2)
 have HCH:=Lib.hid (fun W (hb:Below w8.heap.size w8 W)=>Prp.check_any (makF (n+1) f).n ca (clsF (n+1) f).length cc (clsF (n+1) f) W rfl (by have:=HQ.out.2.2.1;omega) ((hcl.below hb).mono hb.size) (fun _ j hj=>by
  have:=HQ.out.2.2.2 ((clsF (n+1) f).getD j []) (by rw[List.getD_eq_getElem?_getD,List.getElem?_eq_getElem hj];exact List.getElem_mem hj)
  omega))
 have cS:=fun p os=>Calls.regrown_of (HCH.out _ (regrown_trans (Below.refl w8.heap.size w8) (Nat.le_refl _) p os))
 have q0:=fun d os=>cell_regrown HE.out.c0 d os
 have q2:=fun d os=>cell_regrown HE.out.c2 d os
 have n1:=fun W=>Tryz.neNil W
 have n2:∀(k:Int) (W:World),(binOp .neq 26 (.iface 60 (.int .i64 k)) .nilIface).run Tryz.prog W= .ok (.bool true) W:=fun k W=>by simp[go_sem]
 clear hcl hsit k1 k2 k3 k4 k5 k6 k7 k8 HCH HQ h5 h6
 by_cases hbad:8192<(makF (n+1) f).n∨Prp.chkK (makF (n+1) f).n (clsF (n+1) f)≠0
 ·have HKV:Hid (cnfK (n+1) f=2):=Lib.hid (by rw[HK.out,if_pos hbad])
  by_cases hlong:8192<(makF (n+1) f).n
  ·have hli:(8192:Int)<((makF (n+1) f).n:Int):=by omega
   clear hbad hlong HK
   go_wp2_with fail
   refine wp_region_quiet_below (by kernel_rfl) (by kernel_rfl) ?_
   repeat (go_big_quiet_step (with_reducible exact cS _ _))
   refine wpQuiet_nil ?_
   intro w9 hw'
   obtain⟨⟨dq,osq⟩,hw''⟩:=hw'
   have HE9:Hid (MkEnd (n+1) f w w9 (mp+1) (.slice aa al ac) (.slice ca (clsF (n+1) f).length cc)):=Lib.hid (by rw[hw''];exact HE.out.below (below_regrown w8 dq osq))
   clear hw'' q0 q2 cS HE n1 n2
   obtain⟨r0,r1,r2,rf⟩:=HE9.out.rc
   go_wp2_with fail
   clear r0 r1 r2 rf
   refine bodyPost_ret (v:= .tuple #[.agg #[.int .i64 0,.slice none 0 0,.slice none 0 0],.iface 60 (.int .i64 2)]) ?_ rfl ⟨fun _=>by rw[HKV.out],fun h=>absurd h (by rw[HKV.out];decide),below3 HE9.out.bel (Nat.le_succ _) _ _ _⟩
   obtain⟨e0,e1,e2⟩:=res3 HE9.out.rc (.int .i64 0) (.slice none 0 0) (.slice none 0 0)
   simp[results,Tryz.results31,go_sem,e0,e1,e2]
  ·have hli:decide ((8192:Int)<((makF (n+1) f).n:Int))=false:=decide_eq_false (by omega)
   have hck:Prp.chkK (makF (n+1) f).n (clsF (n+1) f)≠0:=(hbad.resolve_left hlong)
   have hcv:Prp.codeV (Prp.chkK (makF (n+1) f).n (clsF (n+1) f))= .iface 60 (.int .i64 (Prp.chkK (makF (n+1) f).n (clsF (n+1) f))):=by unfold Prp.codeV;rw[if_neg hck]
   rw[hcv]at cS
   clear hbad hlong HK hck hcv
   generalize Prp.chkK (makF (n+1) f).n (clsF (n+1) f)=kk at*
   go_wp2_with fail
   refine wp_region_quiet_below (by kernel_rfl) (by kernel_rfl) ?_
   repeat (go_big_quiet_step (with_reducible exact cS _ _))
   refine wpQuiet_nil ?_
   intro w9 hw'
   obtain⟨⟨dq,osq⟩,hw''⟩:=hw'
   have HE9:Hid (MkEnd (n+1) f w w9 (mp+1) (.slice aa al ac) (.slice ca (clsF (n+1) f).length cc)):=Lib.hid (by rw[hw''];exact HE.out.below (below_regrown w8 dq osq))
   clear hw'' q0 q2 cS HE n1 n2
   obtain⟨r0,r1,r2,rf⟩:=HE9.out.rc
   go_wp2_with fail
   clear r0 r1 r2 rf
   refine bodyPost_ret (v:= .tuple #[.agg #[.int .i64 0,.slice none 0 0,.slice none 0 0],.iface 60 (.int .i64 2)]) ?_ rfl ⟨fun _=>by rw[HKV.out],fun h=>absurd h (by rw[HKV.out];decide),below3 HE9.out.bel (Nat.le_succ _) _ _ _⟩
   obtain⟨e0,e1,e2⟩:=res3 HE9.out.rc (.int .i64 0) (.slice none 0 0) (.slice none 0 0)
   simp[results,Tryz.results31,go_sem,e0,e1,e2]
 ·have HKV:Hid (cnfK (n+1) f=0):=Lib.hid (by rw[HK.out,if_neg hbad])
  have hli:decide ((8192:Int)<((makF (n+1) f).n:Int))=false:=decide_eq_false (by omega)
  have hck:Prp.chkK (makF (n+1) f).n (clsF (n+1) f)=0:=Classical.byContradiction fun h=>hbad (.inr h)
  have hcv:Prp.codeV (Prp.chkK (makF (n+1) f).n (clsF (n+1) f))= .nilIface:=by unfold Prp.codeV;rw[if_pos hck]
  rw[hcv]at cS
  clear hbad HK hck hcv
  go_wp2_with fail
  refine wp_region_quiet_below (by kernel_rfl) (by kernel_rfl) ?_
  repeat (go_big_quiet_step (with_reducible exact cS _ _))
  refine wpQuiet_nil ?_
  intro w9 hw'
  obtain⟨⟨dq,osq⟩,hw''⟩:=hw'
  have HE9:Hid (MkEnd (n+1) f w w9 (mp+1) (.slice aa al ac) (.slice ca (clsF (n+1) f).length cc)):=Lib.hid (by rw[hw''];exact HE.out.below (below_regrown w8 dq osq))
  clear hw'' q0 q2 cS HE n1 n2
  obtain⟨r0,r1,r2,rf⟩:=HE9.out.rc
  have h0:=HE9.out.c0
  have h1:=HE9.out.c1
  have h2:=HE9.out.c2
  go_wp2_with fail
  clear r0 r1 r2 rf h0 h1 h2
  refine bodyPost_ret (v:= .tuple #[.agg #[.int .i64 (makF (n+1) f).n,.slice aa al ac,.slice ca (clsF (n+1) f).length cc],.nilIface]) ?_ rfl ⟨fun h=>absurd HKV.out h,fun h=>⟨_,_,rfl, ?_⟩,below3 HE9.out.bel (Nat.le_succ _) _ _ _⟩
  ·obtain⟨e0,e1,e2⟩:=res3 HE9.out.rc (.int .i64 (makF (n+1) f).n) (.slice aa al ac) (.slice ca (clsF (n+1) f).length cc)
   simp[results,Tryz.results31,go_sem,e0,e1,e2]
  ·obtain⟨K,Sa,Sc,k1,k2,k3,k4,k5,k6,k7,k8⟩:=cnfOk_set HE9.out.ok (show w.heap.size+1<w.heap.size+2 by omega) (.int .i64 (makF (n+1) f).n) (.slice aa al ac) (.slice ca (clsF (n+1) f).length cc)
   exact⟨K,Sa,Sc,by omega,k2,k3.lower (by omega),fun b hb=>⟨by have:=(k4 b hb).1;omega,(k4 b hb).2⟩,k5,k6,k7,k8⟩
theorem make_any (n:Nat)(f:FT)(cs:List Value)(w:World)(h:FLies w.heap.size w n f cs)(ht:Tens w.heap.size w):
 Calls Tryz.prog 31 #[.agg cs.toArray] w (CnfEnd n f w):=by
 cases n with
 | zero=>exact h.elim
 | succ n=>
   cases hi:isF (n+1) f with
   | false=>exact make_no n f cs w h hi
   | true=>exact make_go n f cs w h ht hi
end
section
open Go.RowKit
theorem rmk_0 (am:List (Int×List (Int×Int)))(B K:Nat)(la:Option Addr)(lc:Nat)(hB:B≤K)(n:Nat)(IH:RMkSaid am B K la lc n)(f:FT)(cs:List Value)(N:Nat)(cl:List (List Int))(S:Nat→Prop)(v:Value)(w:World)(h:FLies B w (n+1) f cs)(hm:madeF (n+1) f=true)(hl:Pak.Sits linSh (Pak.Lo K) w la am)(hv:CRow K S cl v w)(hK:K≤w.heap.size)(hb1:am.length+N+siz (n+1) f≤100000)(hb2:cl.length+2*siz (n+1) f≤1000000)(hk:f.kind=0):
 Calls Tryz.prog 64 #[.agg cs.toArray,.slice la am.length lc,.int .i64 N,v] w (RMEnd K (mkF am (n+1) f N cl) S v w):=by
 obtain⟨ta,tcap,ka,kcap,rfl,hT,hl1,hl2,hks⟩:=h
 rw[mkF_x ⟨by omega,by omega⟩,hk]
 have hA:Below w.heap.size w (w.alloc (.cells #[.int .i64 f.kind,.int .i64 f.c,.slice ta f.t.length tcap,.slice ka f.ks.length kcap] 39)):=(Below.refl _ w).alloc (Nat.le_refl _) _
 have HB:=box_start w f.kind f.c ta ka f.t.length tcap f.ks.length kcap
 have HM:=Lib.hid (made_kids hm)
 have HTF:=Lib.hid (mkTo_fits am n f.ks N cl (made_kids hm))
 have HLZ:=Lib.hid (len_siz n f.ks (made_kids hm) f.ks.length (Nat.le_refl _))
 have HI:=Lib.hid IH
 have HK:=Lib.hid hks
 have HA:=Lib.hid hA
 have HBK:=Lib.hid (And.intro hB hK)
 have HLS:=Lib.hid hl
 have hsz:=sizTo_len n f
 rw[hsz]at hb1 hb2
 have HB1:=Lib.hid hb1
 have HB2:=Lib.hid hb2
 have HBX:=Lib.hid HB
 have hq1:w.heap.size<(w.alloc (.cells #[.int .i64 f.kind,.int .i64 f.c,.slice ta f.t.length tcap,.slice ka f.ks.length kcap] 39)).heap.size:=by simp
 have HQ1:=Lib.hid hq1
 have HQ:Hid (v.ownBlock≠some w.heap.size):=Lib.hid fun e=>by have:=(hv.lt _ e).2;omega
 have HVL:=Lib.hid (fun q (e:v.ownBlock=some q)=>(hv.lt q e).1)
 have HR1:=Lib.hid (KR.start (hv.below hA))
 have b0:=HB.c0
 have b3:=HB.c3
 obtain⟨va,vc,hvf⟩:=hv.form
 rw[hk]at*
 clear IH hks hT hv hA HB hm hsz hb1 hb2 hB hq1 hl1 hK hl hk
 obtain⟨cll,hcll⟩:∃cll,cll=cl.length:=⟨_,rfl⟩
 obtain⟨al,hal⟩:∃al,al=am.length:=⟨_,rfl⟩
 rw[←hcll]at hvf HB2
 subst hvf
 have HAL:=Lib.hid hal
 rw[←hal]
 rw[←hal]at HB1 HTF
 have HCLL:=Lib.hid hcll
 clear hcll hal
 generalize f.c=fc at*
 generalize f.t.length=ft at*
 generalize hlen:f.ks.length=len at*
 have HLEN:=Lib.hid hlen
 clear hlen
 go_enter Tryz.func64,Tryz.ntmps64
 go_wp2_with fail
 clear b0
 generalize w.alloc (.cells #[.int .i64 0,.int .i64 fc,.slice ta ft tcap,.slice ka len kcap] 39)=W1 at*
 go_loopw [2,3,14,15] (fun m3 u3 o i wr=>∃(k ol oc ul uc:Nat) (oa ua:Option Addr),i= .int .i64 k∧k≤len∧m3= .int .i64 (mkTo am n f.ks N cl k).1∧u3= .slice ua ul uc∧o= .slice oa ol oc∧Hid (∃S',KR K S W1 (.slice va cll vc) (mkTo am n f.ks N cl k).2.1 (mkTo am n f.ks N cl k).2.2 (.slice ua ul uc) S' (.slice oa ol oc) wr)) (fun _ _ _ i _=>len - (intOf i).toNat)
 case atStart=>exact⟨0,0,0,cll,vc,none,va,rfl,Nat.zero_le _,rfl,rfl,rfl,⟨S,HR1.out⟩⟩
 case round=>
  clear HR1
  obtain⟨k,ol,oc,ul,uc,oa,ua,rfl,hk,rfl,rfl,rfl,hS⟩:=hrel
  obtain⟨S1,hKR⟩:=hS.out
  have HKR:=Lib.hid hKR
  have hg:=hKR.rt.2.1
  have hbk:=HBK.out
  have hKW:K≤W1.heap.size:=Nat.le_trans hbk.2 HA.out.size
  have hMw:Below K w wr:=(HA.out.mono hbk.2).trans (grown_low hg hKW HVL.out)
  have HMW:=Lib.hid hMw
  have HKW:=Lib.hid hKW
  have hc:=fun j=>World.cell?_of_block (a:=⟨w.heap.size,j,none⟩) (hg.block w.heap.size HQ1.out (fun e=>HQ.out e.symm))
  have x3:=(hc 3).trans b3
  have x0:=(hc 0).trans HBX.out.c0
  clear hg hMw hc hKR hS hKW
  by_cases hlt:k<len
  ·have hlti:(k:Int)<(len:Int):=by omega
   have hkl:k<f.ks.length:=by rw[HLEN.out];exact hlt
   obtain⟨b,off,c0,c1,c2,c3,rfl,hbl,g0,g1,g2,g3,hf⟩:=HK.out k hlt
   have hblM:b<K:=by omega
   rw[←HMW.out.cell (p:=⟨b,_,none⟩) hblM]at g0 g1 g2 g3
   obtain⟨ck,cc,cta,ctn,ctcap,cka,ckn,ckcap,rfl,rfl,rfl,rfl⟩:=hf.form
   have hmk:=HM.out k hlt
   obtain⟨⟨f1,f2,_⟩,f4,_⟩:=HTF.out k (Nat.le_of_lt hlt)
   have hs1:=sizTo_succ n f.ks k hkl
   have hs2:=sizTo_mono n f.ks (i:=k+1) (j:=f.ks.length) hkl
   have hb1:=HB1.out
   have hb2:=HB2.out
   have hlz:=HLZ.out
   have hl:=HLEN.out
   have hal:=HAL.out
   rw[hl]at hs2
   have hcl0:cl.length≤cl.length:=Nat.le_refl _
   have hih:=HI.out (f.ks.getD k default) _ (mkTo am n f.ks N cl k).1 (mkTo am n f.ks N cl k).2.1 S1 (.slice ua ul uc) wr (hf.below (HMW.out.mono hbk.1)) hmk (HLS.out.up HMW.out) HKR.out.rt.1 (Nat.le_trans hbk.2 HMW.out.size) (by omega) (by have:=HCLL.out;omega)
   rw[←hal]at hih
   have hfar:=mkF_far (am:=am) (n:=n) (f:=f.ks.getD k default) (N:=(mkTo am n f.ks N cl k).1) (cl:=(mkTo am n f.ks N cl k).2.1) hmk (by omega)
   have HSTEP:=Lib.hid (fun cl3 v3 S3 w3 hS3 hR3=>HKR.out.step (Nat.le_trans hbk.2 HMW.out.size) (cl3:=cl3) (v3:=v3) (S3:=S3) (w3:=w3) hS3 hR3 (by omega) (x:=(mkF am n (f.ks.getD k default) (mkTo am n f.ks N cl k).1 (mkTo am n f.ks N cl k).2.1).lit) (by omega))
   have HSU:=Lib.hid (mkTo_succ am n f.ks N cl k hkl)
   have HIH:=Lib.hid hih
   clear hmk f1 f2 f4 hs1 hs2 hb1 hb2 hlz hl hal hih hfar hf hbl hblM hbk hkl hcl0
   generalize mkF am n (f.ks.getD k default) (mkTo am n f.ks N cl k).1 (mkTo am n f.ks N cl k).2.1=q at*
   go_wp2_with fail
   clear g0 g1 g2 g3 x0 x3
   refine HIH.out.mono ?_
   rintro e w3 ⟨v3,S3,rfl,hS3,hR3⟩
   obtain⟨a4,n4,c4,w4,hr4,hk4⟩:=HSTEP.out _ _ S3 w3 hS3 hR3
   obtain⟨a5,c5,e5⟩:=hR3.1.form
   generalize q.cl.length=n5 at e5
   subst e5
   have HK4:Hid (∃S',KR K S W1 (.slice va cll vc) (mkTo am n f.ks N cl (k+1)).2.1 (mkTo am n f.ks N cl (k+1)).2.2 (.slice a5 n5 c5) S' (.slice a4 n4 c4) w4):=Lib.hid ⟨S3,by rw[HSU.out];exact hk4⟩
   have HN4:Hid ((mkTo am n f.ks N cl (k+1)).1=q.n):=Lib.hid (by rw[HSU.out])
   clear hS3 hR3 hk4 HSTEP HIH HSU HKR
   go_wp2_with (at_builtin;refine Lib.wpList_append_run _ rfl _ _ _ _ rfl _ _ rfl rfl _ _ (hr4 _) ?_)
   go_roundw
   case rel=>exact⟨k+1,n4,c4,n5,c5,a4,a5,by go_num,by omega,by rw[HN4.out],rfl,rfl,HK4⟩
   case measure=>simp[intOf];omega
  ·have hlti:¬(k:Int)<(len:Int):=by omega
   obtain rfl:k=len:=by omega
   obtain⟨⟨f1,f2,_⟩,f4,f5⟩:=HTF.out k (Nat.le_refl _)
   have hb1:=HB1.out
   have hb2:=HB2.out
   have hlz:=HLZ.out
   have HF5:=Lib.hid f5
   have hcc:=HCLL.out
   obtain⟨p,hpp⟩:∃p,mkTo am n f.ks N cl k=p:=⟨_,rfl⟩
   have HPP:=Lib.hid hpp
   have hsz1:sizTo n f.ks k≤100000:=by omega
   rw[hpp]at HKR f1 f2 f4 HF5⊢
   clear f5 hpp
   obtain⟨m,hmm⟩:∃m:Nat,m=p.1+1:=⟨_,rfl⟩
   have hwm:IntKind.i64.wrap ((p.1:Int)+1)=(m:Int):=by rw[hmm];exact IntWalk.i64_in _ (by omega)
   have hwn:IntKind.i64.wrap (-(m:Int))= -(m:Int):=IntWalk.i64_in _ (by omega)
   have hmB:m≤200000:=by omega
   have hclB:p.2.1.length≤1000000:=by omega
   have hlitB:p.2.2.length≤100000:=by omega
   have HXB:Hid (∀x∈p.2.2, -1000000≤x∧x≤1000000):=Lib.hid fun x hx=>by have:=HF5.out x hx;omega
   have HMM:=Lib.hid hmm
   have HEND:=Lib.hid (fun(v6:Value) (S6:Nat→Prop) (w6:World) (hs:∀b,S6 b→S b∨W1.heap.size≤b) (hR:CTo K S6 (p.2.1 ++ ownC 0 m p.2.2) (.slice va cll vc) W1 v6 w6)=>(show RMEnd K ⟨m,p.2.1 ++ ownC 0 m p.2.2,m⟩ S (.slice va cll vc) w (.returned (.tuple #[v6,.int .i64 m,.int .i64 m])) w6 from⟨v6,S6,rfl,fun b hb=>(hs b hb).imp id (fun h=>Nat.le_trans HA.out.size h),hR.before HA.out⟩))
   have HGO:Hid ((⟨p.1+1,p.2.1 ++ ownC 0 ((p.1+1:Nat):Int) p.2.2,((p.1+1:Nat):Int)⟩:MkR)=⟨m,p.2.1 ++ ownC 0 m p.2.2,m⟩):=Lib.hid (by rw[hmm])
   rw[HGO.out]
   clear hmm HB1 HB2 HTF HLZ HK HM HI hb1 hb2 hlz f1 f2 HF5 hcc f4 HMW HLS HBK HQ HQ1 HBX hbk
   have hzW:=HKR.out.rt.2.1.size
   have hkw:=HKW.out
   have hA2:Below wr.heap.size wr (wr.alloc (.cells #[.int .i64 (m:Int)] 3)):=(Below.refl _ _).alloc (Nat.le_refl _) _
   have hz2:(wr.alloc (.cells #[.int .i64 (m:Int)] 3)).heap.size=wr.heap.size+1:=by simp
   have hvl:=fun q e=>(HKR.out.rt.1.lt q e).2
   have hIn:Pak.Sits Pak.intSh (fun b=>b=wr.heap.size) (wr.alloc (.cells #[.int .i64 (m:Int)] 3)) (some ⟨wr.heap.size,0,none⟩) [(m:Int)]:=ints_new wr [(m:Int)] (fun y hy=>by
    rw[List.mem_singleton]at hy
    subst hy;omega) (by simp)
   obtain⟨a6,n6,c6,w6,hr6,k1,k2,k3⟩:=CRow.add (HKR.out.rt.after hA2) (by omega) (by omega) (cap:=1) (n:=1) (zs:=[(m:Int)]) rfl hIn (fun b e=>⟨by omega,fun e2=>by have:=hvl b e2;omega⟩)
   rw[hz2]at hr6
   have HE:=Lib.hid (HEND.out _ (fun b=>S1 b∨b=wr.heap.size) w6 (fun b hb=>by
    rcases hb with hb | hb
    ·exact HKR.out.sl b hb
    ·right;omega) (by rw[ownC_0];exact k1))
   clear k1 k2 k3 hIn hvl hA2 hz2 hzW hkw HKR HEND HXB
   go_wp2_with (at_builtin;refine Lib.wpList_append_run _ rfl _ _ _ _ rfl _ _ rfl rfl _ _ (hr6 _) ?_)
   go_ret3
   have e2:(p.1:Int)+1=(m:Int):=by rw[HMM.out];rfl
   rw[HPP.out,e2,←HMM.out]
   exact HE.out
end
section
open Go.RowKit
theorem rmk_any (am:List (Int×List (Int×Int)))(B K:Nat)(la:Option Addr)(lc:Nat)(hB:B≤K)(hsh:short am):∀n,RMkSaid am B K la lc n
 | 0=>fun f cs N cl S v w h=>h.elim
 | n+1=>fun f cs N cl S v w h hm hl hv hK hb1 hb2=>by
   rcases made_kind hm with hk | hk | hk | hk | hk | hk
   ·exact rmk_0 am B K la lc hB n (rmk_any am B K la lc hB hsh n) f cs N cl S v w h hm hl hv hK hb1 hb2 hk
   ·exact rmk_1 am B K la lc hB n (rmk_any am B K la lc hB hsh n) f cs N cl S v w h hm hl hv hK hb1 hb2 hk
   ·exact rmk_2 am B K la lc hB hsh n f cs N cl S v w h hm hl hv hK hk
   ·exact rmk_4 am B K la lc hB n (rmk_any am B K la lc hB hsh n) f cs N cl S v w h hm hl hv hK hb1 hb2 hk
   ·exact rmk_5 am B K la lc hB n (rmk_any am B K la lc hB hsh n) f cs N cl S v w h hm hl hv hK hb1 hb2 hk
   ·exact rmk_6 am B K la lc hB n (rmk_any am B K la lc hB hsh n) f cs N cl S v w h hm hl hv hK hb1 hb2 hk
def RCnfEnd (n:Nat)(f:FT)(w:World)(e:Ending)(w':World):Prop:=
 (cnfK n f≠0→e= .returned (.tuple #[.agg #[.int .i64 0,.slice none 0 0,.slice none 0 0],.int .i64 (cnfK n f)]))∧(cnfK n f=0→∃aa ac ca cc,e= .returned (.tuple #[.agg #[.int .i64 (makF n f).n,.slice aa (atomsF n f).length ac,.slice ca (clsF n f).length cc],.int .i64 0])∧Pak.Sits linSh (Pak.Lo w'.heap.size) w' aa (atomsF n f)∧Pak.Sits Pak.clauseSh (Pak.Lo w'.heap.size) w' ca (clsF n f))∧Below w.heap.size w w'
theorem ret_made {n:Nat}{f:FT}(h:isF n f=true):madeF n f=true:=by
 unfold isF at h
 simp only[Bool.and_eq_true]at h
 exact h.2.2
theorem set3_block {W:World}{No b:Nat}(hb:b≠No)(x0 x1 x2:Value):(((W.setCell ⟨No,0,none⟩ x0).setCell ⟨No,1,none⟩ x1).setCell ⟨No,2,none⟩ x2).heap[b]? =W.heap[b]? :=by
 rw[Below.heap_setCell _ _ _ _ hb,Below.heap_setCell _ _ _ _ hb,Below.heap_setCell _ _ _ _ hb]
theorem rmake_any (n:Nat)(f:FT)(cs:List Value)(w:World)(h:FLies w.heap.size w n f cs):
 Calls Tryz.prog 37 #[.agg cs.toArray] w (RCnfEnd n f w):=by
 obtain⟨n,rfl⟩:∃m,n=m+1:=by
  cases n with
  | zero=>exact h.elim
  | succ n=>exact⟨n,rfl⟩
 obtain⟨ta,tcap,ka,kcap,rfl,h4,h5,h6,h7⟩:=h
 have hfl:FLies w.heap.size w (n+1) f [.int .i64 f.kind,.int .i64 f.c,.slice ta f.t.length tcap,.slice ka f.ks.length kcap]:=⟨ta,tcap,ka,kcap,rfl,h4,h5,h6,h7⟩
 have hA:Below w.heap.size w (w.alloc (.cells #[.int .i64 f.kind,.int .i64 f.c,.slice ta f.t.length tcap,.slice ka f.ks.length kcap] 39)):=(Below.refl _ w).alloc (Nat.le_refl _) _
 have HB:=box_start w f.kind f.c ta ka f.t.length tcap f.ks.length kcap
 have hA2:Below (w.alloc (.cells #[.int .i64 f.kind,.int .i64 f.c,.slice ta f.t.length tcap,.slice ka f.ks.length kcap] 39)).heap.size (w.alloc (.cells #[.int .i64 f.kind,.int .i64 f.c,.slice ta f.t.length tcap,.slice ka f.ks.length kcap] 39)) ((w.alloc (.cells #[.int .i64 f.kind,.int .i64 f.c,.slice ta f.t.length tcap,.slice ka f.ks.length kcap] 39)).alloc (.cells #[.int .i64 0,.slice none 0 0,.slice none 0 0] 71)):=(Below.refl _ _).alloc (Nat.le_refl _) _
 have hz1:(w.alloc (.cells #[.int .i64 f.kind,.int .i64 f.c,.slice ta f.t.length tcap,.slice ka f.ks.length kcap] 39)).heap.size=w.heap.size+1:=by simp
 have hrc:=rc_new (w.alloc (.cells #[.int .i64 f.kind,.int .i64 f.c,.slice ta f.t.length tcap,.slice ka f.ks.length kcap] 39)) (w.heap.size+1) hz1
 have hAA:=hA.trans (hA2.mono hA.size)
 have hz2:((w.alloc (.cells #[.int .i64 f.kind,.int .i64 f.c,.slice ta f.t.length tcap,.slice ka f.ks.length kcap] 39)).alloc (.cells #[.int .i64 0,.slice none 0 0,.slice none 0 0] 71)).heap.size=w.heap.size+2:=by simp
 have HIS:=Lib.hid (rnis_any (n+1) f _ _ ((hfl.below hAA).mono hAA.size))
 have hbx:=fun j=>hA2.cell (p:=⟨w.heap.size,j,none⟩) (show w.heap.size<_ by rw[hz1];omega)
 have b0:=(hbx 0).trans HB.c0
 have b1:=(hbx 1).trans HB.c1
 have b2:=(hbx 2).trans HB.c2
 have b3:=(hbx 3).trans HB.c3
 have HFL:=Lib.hid hfl
 have HZ2:=Lib.hid hz2
 have HRC:=Lib.hid hrc
 have HAA:=Lib.hid hAA
 have HCF:=Lib.hid (fun hi=>cls_len (n:=n+1) (f:=f) hi)
 have HMD:=Lib.hid (fun hi=>ret_made (n:=n+1) (f:=f) hi)
 have HKK:Hid (cnfK (n+1) f=if isF (n+1) f=false then 5 else if 8192<(makF (n+1) f).n∨Prp.chkK (makF (n+1) f).n (clsF (n+1) f)≠0 then 2 else 0):=rfl
 clear hA HB hA2 hz1 hz2 hrc hAA hbx hfl h4 h7
 generalize f.kind=fk at*
 generalize f.c=fc at*
 generalize f.t.length=ft at*
 generalize f.ks.length=fl at*
 go_enter Tryz.func37,Tryz.ntmps37
 go_wp2_with fail
 generalize (w.alloc (.cells #[.int .i64 fk,.int .i64 fc,.slice ta ft tcap,.slice ka fl kcap] 39)).alloc (.cells #[.int .i64 0,.slice none 0 0,.slice none 0 0] 71)=W2 at*
 refine HIS.out.mono ?_
 rintro e w3 ⟨rfl,hb3⟩
 have hk3:=fun j=>hb3.cell (p:=⟨w.heap.size,j,none⟩) (show w.heap.size<_ by rw[HZ2.out];omega)
 have x0:=(hk3 0).trans b0
 have x1:=(hk3 1).trans b1
 have x2:=(hk3 2).trans b2
 have x3:=(hk3 3).trans b3
 have HR3:=Lib.hid (HRC.out.keep (hb3.block (w.heap.size+1) (by rw[HZ2.out];omega)))
 have HB3:=Lib.hid (HAA.out.trans (hb3.mono HAA.out.size))
 have HZ3:Hid (w.heap.size+2≤w3.heap.size):=Lib.hid (by have:=hb3.size;rw[HZ2.out]at this;exact this)
 clear hb3 hk3 b0 b1 b2 b3 HIS HRC HAA HZ2
 cases hi:isF (n+1) f with
 | false=>
   have HKV:Hid (cnfK (n+1) f=5):=Lib.hid (by rw[HKK.out,if_pos hi])
   clear x0 x1 x2 x3 HKK hi
   obtain⟨r0,r1,r2,rf⟩:=HR3.out
   go_wp2_with fail
   clear r0 r1 r2 rf
   refine bodyPost_ret (v:= .tuple #[.agg #[.int .i64 0,.slice none 0 0,.slice none 0 0],.int .i64 5]) ?_ rfl ⟨fun _=>by rw[HKV.out],fun h=>absurd h (by rw[HKV.out];decide),below3 HB3.out (Nat.le_succ _) _ _ _⟩
   obtain⟨e0,e1,e2⟩:=res3 HR3.out (.int .i64 0) (.slice none 0 0) (.slice none 0 0)
   simp[results,Tryz.results37,go_sem,e0,e1,e2]
 | true=>
   obtain⟨hq1,hq2,hq3,hq4⟩:=HCF.out hi
   have hmd:=HMD.out hi
   have HHI:=Lib.hid hi
   have hsh0:short []:=fun y hy=>by cases hy
   have HSH:=Lib.hid (short_gat (n+1) f [] hmd hsh0)
   have hr0:ARow w.heap.size w3.heap.size [] (.slice none 0 0) w3:=(OwnP.nil linSh 36 w3.heap.size w3).more (fun b h=>h.elim) (fun b hb=>⟨Nat.lt_of_lt_of_le hb HB3.out.size,fun e=>by cases e⟩)
   have HATO:=Lib.hid (rat_any w.heap.size w3.heap.size HB3.out.size (n+1) f _ [] _ w3 (HFL.out.below HB3.out) hmd hr0 (Nat.le_refl _) hsh0 (by simp;omega))
   have HQ:=Lib.hid (And.intro hq1 (And.intro hq2 (And.intro hq3 hq4)))
   have HMD2:=Lib.hid hmd
   clear hi hq1 hq2 hq3 hq4 hmd hr0 hsh0 HCF HMD
   go_wp2_with fail
   refine HATO.out.mono ?_
   rintro e w4 ⟨v4,rfl,hR4⟩
   obtain⟨aa,ac,ea⟩:=hR4.1.form
   subst ea
   have hb4:Below w3.heap.size w3 w4:=grown_low hR4.2.1 (Nat.le_refl _) (fun q e=>by cases e)
   have hlt3:w.heap.size<w3.heap.size:=by have:=HZ3.out;omega
   have y0:=(hb4.cell (p:=⟨w.heap.size,0,none⟩) hlt3).trans x0
   have y1:=(hb4.cell (p:=⟨w.heap.size,1,none⟩) hlt3).trans x1
   have y2:=(hb4.cell (p:=⟨w.heap.size,2,none⟩) hlt3).trans x2
   have y3:=(hb4.cell (p:=⟨w.heap.size,3,none⟩) hlt3).trans x3
   have HR4:=Lib.hid (HR3.out.keep (hb4.block (w.heap.size+1) (by have:=HZ3.out;omega)))
   have HB4:=Lib.hid (HB3.out.trans (hb4.mono HB3.out.size))
   have HZ4:=Lib.hid hb4.size
   obtain⟨aa',ac',ea,hsA⟩:=hR4.1.slot (by have:=HQ.out.1;unfold atomsF at this;omega)
   injection ea with ea1 ea2 ea3
   subst ea1 ea3
   have HSA0:Hid (Pak.Sits linSh (fun b=>b≠w.heap.size+1∧b<w4.heap.size) w4 aa (atomsF (n+1) f)):=Lib.hid (hsA.keep (fun b hb=>by
    rcases hb with hb | hb
    ·exact⟨by have:b<w.heap.size:=hb;omega,(hR4.1.ok b hb).1⟩
    ·exact⟨by have:=(hR4.1.lt b hb).1;have:=HZ3.out;omega,(hR4.1.lt b hb).2⟩) (fun _ _ _=>rfl))
   have HSA:Hid (Pak.Sits linSh (Pak.Lo w4.heap.size) w4 aa (atomsF (n+1) f)):=Lib.hid (HSA0.out.lo (fun b hb=>hb.2))
   have HMK:=Lib.hid (rmk_any (atomsF (n+1) f) w.heap.size w4.heap.size aa ac HB4.out.size HSH.out (n+1) f _ (atomsF (n+1) f).length [] (fun _=>False) (.slice none 0 0) w4 (HFL.out.below HB4.out) HMD2.out HSA.out (OwnP.nil _ _ _ _) (Nat.le_refl _) (by have:=HQ.out.1;omega) (by have:=HQ.out.1;simp;omega))
   have hln:(gatF (n+1) f []).length=(atomsF (n+1) f).length:=rfl
   have hmk0:mkF (atomsF (n+1) f) (n+1) f (atomsF (n+1) f).length []=makF (n+1) f:=rfl
   rw[hmk0]at HMK
   have hlf:=mkF_far (am:=atomsF (n+1) f) (N:=(atomsF (n+1) f).length) (cl:=[]) HMD2.out (by have:=HQ.out.1;omega)
   rw[hmk0]at hlf
   rw[hln]
   clear hR4 hb4 x0 x1 x2 x3 hsA hlt3 hmk0 hln HR3 HB3 HATO HSH
   obtain⟨al,hal⟩:∃al,al=(atomsF (n+1) f).length:=⟨_,rfl⟩
   have HAL:=Lib.hid hal
   rw[←hal]at HMK⊢
   clear hal
   go_wp2_with fail
   refine HMK.out.mono ?_
   rintro e w5 ⟨v5,S5,rfl,hS5,hR5⟩
   have hIn:=ints_new w5 [(makF (n+1) f).lit] (fun y hy=>by
    rw[List.mem_singleton]at hy
    subst hy;omega) (by simp)
   have hA5:Below w5.heap.size w5 (w5.alloc (.cells #[.int .i64 (makF (n+1) f).lit] 3)):=(Below.refl _ _).alloc (Nat.le_refl _) _
   have hz5:(w5.alloc (.cells #[.int .i64 (makF (n+1) f).lit] 3)).heap.size=w5.heap.size+1:=by simp
   have h45:=hR5.2.1.size
   have hvl:=fun q e=>(hR5.1.lt q e).2
   have hcl:(makF (n+1) f).cl.length≤4000000:=by
    have:=HQ.out.2.2.1
    unfold clsF at this
    rw[List.length_append]at this
    omega
   obtain⟨a6,n6,c6,w6,hr6,k1,k2,k3⟩:=CRow.add (hR5.after hA5) (by omega) hcl (cap:=1) (n:=1) (zs:=[(makF (n+1) f).lit]) rfl hIn (fun b e=>⟨by omega,fun e2=>by have:=hvl b e2;omega⟩)
   rw[hz5]at hr6
   have k1:CTo w4.heap.size (fun b=>S5 b∨b=w5.heap.size) (clsF (n+1) f) (.slice none 0 0) w4 (.slice a6 n6 c6) w6:=k1
   have hb6:Below w4.heap.size w4 w6:=grown_low k1.2.1 (Nat.le_refl _) (fun q e=>by cases e)
   obtain⟨a6',c6',e6,hs6⟩:=k1.1.slot (by have:=HQ.out.2.2.1;omega)
   injection e6 with e61 e62 e63
   subst e61 e62 e63
   have hlo:∀b,((S5 b∨b=w5.heap.size)∨(Value.slice a6 (clsF (n+1) f).length c6).ownBlock=some b)→b<w6.heap.size:=fun b hb=>by
    rcases hb with hb | hb
    ·exact(k1.1.ok b hb).1
    ·exact(k1.1.lt b hb).2
   have hcl6:=clies_of hs6 hlo
   have HS6:Hid (Pak.Sits Pak.clauseSh (fun b=>b≠w.heap.size+1∧b<w6.heap.size) w6 a6 (clsF (n+1) f)):=Lib.hid (hs6.keep (fun b hb=>by
    have hz3:=HZ3.out
    have hz4:=HZ4.out
    refine⟨?_,hlo b hb⟩
    rcases hb with (hb | hb) | hb
    ·rcases hS5 b hb with hb | hb
     ·exact hb.elim
     ·omega
    ·omega
    ·have:=(k1.1.lt b hb).1;omega) (fun _ _ _=>rfl))
   have HRC:=Lib.hid (Prp.rcheck_any (makF (n+1) f).n a6 (clsF (n+1) f).length c6 (clsF (n+1) f) w6 rfl (by have:=HQ.out.2.2.1;omega) hcl6 (fun _ j hj=>by
    have:=HQ.out.2.2.2 ((clsF (n+1) f).getD j []) (by rw[List.getD_eq_getElem?_getD,List.getElem?_eq_getElem hj];exact List.getElem_mem hj)
    omega))
   have HR6:=Lib.hid (HR4.out.keep (hb6.block (w.heap.size+1) (by have:=HZ3.out;have:=HZ4.out;omega)))
   have HB6:=Lib.hid (HB4.out.trans (hb6.mono HB4.out.size))
   have HSA6:Hid (Pak.Sits linSh (fun b=>b≠w.heap.size+1∧b<w6.heap.size) w6 aa (atomsF (n+1) f)):=Lib.hid (HSA0.out.keep (fun b hb=>⟨hb.1,Nat.lt_of_lt_of_le hb.2 hb6.size⟩) (fun b o hb=>hb6.cell (p:=⟨b,o,none⟩) hb.2))
   obtain⟨va5,vc5,e5⟩:=hR5.1.form
   generalize (makF (n+1) f).cl.length=l5 at e5
   subst e5
   clear hS5 hR5 hIn hA5 hz5 h45 hvl hcl k1 k2 k3 hb6 hs6 hlo hcl6 HMK HR4 HB4 HSA hlf y0 y1 y2 y3
   have HAL2:=HAL
   obtain⟨cln,hcn⟩:∃cln,cln=(clsF (n+1) f).length:=⟨_,rfl⟩
   have HCN:=Lib.hid hcn
   rw[←hcn]at hr6 HRC
   clear hcn
   by_cases hbad:8192<(makF (n+1) f).n∨Prp.chkK (makF (n+1) f).n (clsF (n+1) f)≠0
   ·have HKV:Hid (cnfK (n+1) f=2):=Lib.hid (by rw[HKK.out,if_neg (by rw[HHI.out];simp),if_pos hbad])
    by_cases hlong:8192<(makF (n+1) f).n
    ·have hli:(8192:Int)<((makF (n+1) f).n:Int):=by omega
     clear hbad hlong HKK HHI
     obtain⟨r0,r1,r2,rf⟩:=HR6.out
     go_wp2_with (at_builtin;refine Lib.wpList_append_run _ rfl _ _ _ _ rfl _ _ rfl rfl _ _ (hr6 _) ?_)
     clear r0 r1 r2 rf
     refine bodyPost_ret (v:= .tuple #[.agg #[.int .i64 0,.slice none 0 0,.slice none 0 0],.int .i64 2]) ?_ rfl ⟨fun _=>by rw[HKV.out],fun h=>absurd h (by rw[HKV.out];decide),below3 HB6.out (Nat.le_succ _) _ _ _⟩
     obtain⟨e0,e1,e2⟩:=res3 HR6.out (.int .i64 0) (.slice none 0 0) (.slice none 0 0)
     simp[results,Tryz.results37,go_sem,e0,e1,e2]
    ·have hli:decide ((8192:Int)<((makF (n+1) f).n:Int))=false:=decide_eq_false (by omega)
     have hck:=hbad.resolve_left hlong
     clear hbad hlong HKK HHI
     generalize Prp.chkK (makF (n+1) f).n (clsF (n+1) f)=kk at*
     have hne:(kk != 0)=true:=by simp[hck]
     obtain⟨r0,r1,r2,rf⟩:=HR6.out
     go_wp2_with (at_builtin;refine Lib.wpList_append_run _ rfl _ _ _ _ rfl _ _ rfl rfl _ _ (hr6 _) ?_)
     refine HRC.out.mono ?_
     rintro e w7 ⟨rfl,rfl⟩
     go_wp2_with fail
     clear r0 r1 r2 rf
     refine bodyPost_ret (v:= .tuple #[.agg #[.int .i64 0,.slice none 0 0,.slice none 0 0],.int .i64 2]) ?_ rfl ⟨fun _=>by rw[HKV.out],fun h=>absurd h (by rw[HKV.out];decide),below3 HB6.out (Nat.le_succ _) _ _ _⟩
     obtain⟨e0,e1,e2⟩:=res3 HR6.out (.int .i64 0) (.slice none 0 0) (.slice none 0 0)
     simp[results,Tryz.results37,go_sem,e0,e1,e2]
   ·have HKV:Hid (cnfK (n+1) f=0):=Lib.hid (by rw[HKK.out,if_neg (by rw[HHI.out];simp),if_neg hbad])
    have hli:decide ((8192:Int)<((makF (n+1) f).n:Int))=false:=decide_eq_false (by omega)
    have hck:Prp.chkK (makF (n+1) f).n (clsF (n+1) f)=0:=Classical.byContradiction fun h=>hbad (.inr h)
    rw[hck]at HRC
    clear hbad HKK HHI hck
    obtain⟨r0,r1,r2,rf⟩:=HR6.out
    go_wp2_with (at_builtin;refine Lib.wpList_append_run _ rfl _ _ _ _ rfl _ _ rfl rfl _ _ (hr6 _) ?_)
    refine HRC.out.mono ?_
    rintro e w7 ⟨rfl,rfl⟩
    go_wp2_with fail
    clear r0 r1 r2 rf
    refine bodyPost_ret (v:= .tuple #[.agg #[.int .i64 (makF (n+1) f).n,.slice aa al ac,.slice a6 cln c6],.int .i64 0]) ?_ rfl ⟨fun h=>absurd HKV.out h,fun h=>⟨aa,ac,a6,c6,by rw[←HAL.out,←HCN.out], ?_, ?_⟩,below3 HB6.out (Nat.le_succ _) _ _ _⟩
    ·obtain⟨e0,e1,e2⟩:=res3 HR6.out (.int .i64 (makF (n+1) f).n) (.slice aa al ac) (.slice a6 cln c6)
     simp[results,Tryz.results37,go_sem,e0,e1,e2]
    ·exact HSA6.out.keep (fun b hb=>by simpa [World.setCell]using hb.2) (fun b o hb=>World.cell?_of_block (set3_block hb.1 _ _ _))
    ·exact HS6.out.keep (fun b hb=>by simpa [World.setCell]using hb.2) (fun b o hb=>World.cell?_of_block (set3_block hb.1 _ _ _))
end
section
open Go.RowKit
theorem flies_leafU (B:Nat)(w:World)(k c:Int)(t:List (Int×Int))(ta:Option Addr)(tcap:Nat)(ht:t.length≤9223372036854775807)(h:Lies B w ta t):FLies B w 1 (.mk k c t []) [.int .i64 k,.int .i64 c,.slice ta t.length tcap,.slice none 0 0]:=
 ⟨ta,tcap,none,0,rfl,h,ht,Nat.zero_le _,fun i hi=>absurd hi (Nat.not_lt_zero i)⟩
theorem Tryz.eqNilNil (w:World):(binOp .eql 26 .nilIface .nilIface).run Tryz.prog w= .ok (.bool true) w:=by simp[go_sem]
def LLies (B:Nat)(w:World)(a:Option Addr)(ls:List (Int×List (Int×Int))):Prop:=
 ∀i,i<ls.length→∃b off ta tcap,a=some ⟨b,off,none⟩∧b<B∧w.cell? ⟨b,off+i*2,none⟩=some (.int .i64 (ls.getD i (0,[])).1)∧w.cell? ⟨b,off+i*2+1,none⟩=some (.slice ta (ls.getD i (0,[])).2.length tcap)∧Lies B w ta (ls.getD i (0,[])).2
theorem llies_of {S:Nat→Prop}{w:World}{a:Option Addr}{ls:List (Int×List (Int×Int))}{B:Nat}(h:Pak.Sits linSh S w a ls)(hS:∀b,S b→b<B):LLies B w a ls:=fun i hi=>by
 obtain⟨b,off,us,e,hb,hc,ta,cap,rfl,hn⟩:=h.2 i hi
 have e1:linSh.k=2:=rfl
 have c0:=hc 0 _ rfl
 have c1:=hc 1 _ rfl
 rw[e1,Nat.add_zero]at c0
 rw[e1]at c1
 rw[List.getD_eq_getElem?_getD,List.getElem?_eq_getElem hi,Option.getD_some]
 exact⟨b,off,ta,cap,e,hS b hb,c0,c1,hn.lies hS⟩
theorem LLies.below {B:Nat}{w w':World}{a:Option Addr}{ls:List (Int×List (Int×Int))}(h:LLies B w a ls)(hb:Below B w w'):LLies B w' a ls:=fun i hi=>by
 obtain⟨b,off,ta,tcap,e,hlt,c0,c1,hl⟩:=h i hi
 exact⟨b,off,ta,tcap,e,hlt,(hb.cell (p:=⟨b,off+i*2,none⟩) hlt).trans c0,(hb.cell (p:=⟨b,off+i*2+1,none⟩) hlt).trans c1,hl.below hb⟩
theorem LLies.mono {B B':Nat}{w:World}{a:Option Addr}{ls:List (Int×List (Int×Int))}(h:LLies B w a ls)(hb:B≤B'):LLies B' w a ls:=fun i hi=>by
 obtain⟨b,off,ta,tcap,e,hlt,c0,c1,hl⟩:=h i hi
 exact⟨b,off,ta,tcap,e,Nat.lt_of_lt_of_le hlt hb,c0,c1,hl.mono hb⟩
end
section
open Go.RowKit
theorem cnfK_in (n:Nat)(f:FT):0≤cnfK n f∧cnfK n f≤16:=by unfold cnfK;repeat (first | split | omega)
theorem cnfK_made {n:Nat}{f:FT}(h:cnfK n f=0):isF n f=true:=by
 unfold cnfK at h
 split at h
 ·cases h
 ·rename_i hh;simpa using hh
theorem tree_cells (w:World)(x y z:Value):(w.alloc (.cells #[x,y,z] 71)).cell? ⟨w.heap.size,0,none⟩=some x∧(w.alloc (.cells #[x,y,z] 71)).cell? ⟨w.heap.size,1,none⟩=some y∧(w.alloc (.cells #[x,y,z] 71)).cell? ⟨w.heap.size,2,none⟩=some z:=by
 have hn:=heap_alloc_new w (.cells #[x,y,z] 71)
 exact⟨(cell_of_row _ _ _ _ _ _ hn).trans rfl,(cell_of_row _ _ _ _ _ _ hn).trans rfl,(cell_of_row _ _ _ _ _ _ hn).trans rfl⟩
theorem CnfOk.lies {n:Nat}{f:FT}{B:Nat}{w:World}{av cv:Value}(h:CnfOk n f B w av cv)(hi:isF n f=true):∃aa ac ca cc,av= .slice aa (atomsF n f).length ac∧cv= .slice ca (clsF n f).length cc∧LLies w.heap.size w aa (atomsF n f)∧Prp.CLies w.heap.size w ca (clsF n f):=by
 obtain⟨K,Sa,Sc,k1,k2,k3,k4,k5,k6,k7,k8⟩:=h
 obtain⟨q1,q2,q3,q4⟩:=cls_len hi
 obtain⟨aa,ac,rfl,hs⟩:=k3.slot (by omega)
 obtain⟨ca,cc,rfl,ht⟩:=k6.slot (by omega)
 refine⟨aa,ac,ca,cc,rfl,rfl,llies_of hs (fun b hb=> ?_),clies_of ht (fun b hb=> ?_)⟩
 ·rcases hb with hb | hb
  ·exact(k3.ok b hb).1
  ·exact(k3.lt b hb).2
 ·rcases hb with hb | hb
  ·exact(k6.ok b hb).1
  ·exact(k6.lt b hb).2
theorem short_atoms {n:Nat}{f:FT}(hi:isF n f=true):∀i,i<(atomsF n f).length→((atomsF n f).getD i (0,[])).2.length≤9223372036854775807:=fun i hi2=>by
 have:=short_gat n f [] (ret_made hi) (fun y hy=>by cases hy) _ (List.getElem_mem hi2)
 rw[List.getD_eq_getElem?_getD,List.getElem?_eq_getElem hi2,Option.getD_some]
 exact Nat.le_trans this (by decide)
end
end Go.Proofs.YtipahfcaplbifaaGreatDoor
