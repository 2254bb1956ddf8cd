/- Parts of a proof. -/
import Derived.Test.YtipahfcaplbifaaGreatDoorV01
import Derived.Carry
import Derived.Lib.SmallJoins
import Derived.Test.YtipahfcaplbifaaGreatDoorQ21
import Derived.Test.YtipahfcaplbifaaGreatDoorQ22
set_option linter.unusedVariables false
set_option linter.unusedSimpArgs false
set_option maxHeartbeats 60000000
set_option maxRecDepth 100000
namespace Go.Proofs.YtipahfcaplbifaaGreatDoor
section
open Go.RowKit
theorem OwnP.lower {T:Type}{sh:Pak.Sh T}{e:TypeId}{B B':Nat}{S:Nat→Prop}{xs:List T}{v:Value}{w:World}(h:OwnP sh e B S xs v w)(hB:B'≤B):OwnP sh e B' S xs v w:=by
 obtain⟨css,h1,h2,h3⟩:=h.row
 exact⟨⟨css,h1,Joins.ownsRow_le h2 hB,h3⟩,h.ok⟩
theorem mk_end {n:Nat}{f:FT}{w w5 w8:World}{mp:Nat}{r5 r8:Option Nat}{S5 S8:Nat→Prop}{av:Value}(hm:w.heap.size+2≤mp)(hG5:GS (mp+1) (mp+2) mp (atomsF n f) r5 S5 w5)(hO5:OwnP linSh 36 (mp+2) S5 (atomsF n f) av w5)
 (hk:∀q,q<w5.heap.size→q≠mp+1→w8.heap[q]? =w5.heap[q]?) (hL8:LS (mp+1) w5.heap.size mp av (makF n f).n (clsF n f) r8 S8 w8) (hsz:w5.heap.size≤w8.heap.size) (hb:Below w.heap.size w w8) (hrc:RC w8 (w.heap.size+1)):∃cv,MkEnd n f w w8 (mp+1) av cv:=by
 obtain⟨cv,h2,h3,h4⟩:=hL8.ex
 have hlt:=hG5.lt
 refine⟨cv,⟨⟨w5.heap.size,S5,S8,by omega,hsz,(hO5.lower (by omega)).keep hsz (fun q hq=>hk q ?_ ?_),fun b hb=>⟨by have:=hG5.lo b hb;omega,hG5.ok b hb⟩,fun q hq=>(hO5.lt q hq).2,h4,hL8.lo,fun b hb o=> ?_⟩,hL8.c0,hL8.c1,h2,hrc,⟨by omega,by omega⟩,hb⟩⟩
 ·rcases hq with hq | hq
  ·exact hG5.ok q hq
  ·exact(hO5.lt q hq).2
 ·rcases hq with hq | hq
  ·have:=hG5.lo q hq;omega
  ·have:=(hO5.lt q hq).1;omega
 ·rcases hb with hb | hb
  ·exact(World.frozen?_of_block (a:=⟨b,o,none⟩) (hk b (hG5.ok b hb) (by have:=hG5.lo b hb;omega))).trans (hG5.nf b hb o)
  ·exact hL8.nf b hb o
theorem make_go (n:Nat)(f:FT)(cs:List Value)(w:World)(h:FLies w.heap.size w (n+1) f cs)(ht:Tens w.heap.size w)(hi:isF (n+1) f=true):
 Calls Tryz.prog 31 #[.agg cs.toArray] w (CnfEnd (n+1) f w):=by
 obtain⟨ta,tcap,ka,kcap,rfl,h4,h5,h6,h7⟩:=h
 have hfl:FLies w.heap.size w (n+1) f [.int .i64 f.kind,.int .i64 f.c,.slice ta f.t.length tcap,.slice ka f.ks.length kcap]:=⟨ta,tcap,ka,kcap,rfl,h4,h5,h6,h7⟩
 obtain⟨hq1,hq2,hq3,hq4⟩:=cls_len hi
 have hmd:madeF (n+1) f=true:=by unfold isF at hi;simp only[Bool.and_eq_true]at hi;exact hi.2.2
 have HK:Hid (cnfK (n+1) f=if 8192<(makF (n+1) f).n∨Prp.chkK (makF (n+1) f).n (clsF (n+1) f)≠0 then 2 else 0):=Lib.hid (by unfold cnfK;rw[if_neg (by rw[hi];simp)])
 have hA:Below w.heap.size w (w.alloc (.cells #[.int .i64 f.kind,.int .i64 f.c,.slice ta f.t.length tcap,.slice ka f.ks.length kcap] 39)):=(Below.refl _ w).alloc (Nat.le_refl _) _
 have HB:=box_start w f.kind f.c ta ka f.t.length tcap f.ks.length kcap
 have hA2:Below (w.alloc (.cells #[.int .i64 f.kind,.int .i64 f.c,.slice ta f.t.length tcap,.slice ka f.ks.length kcap] 39)).heap.size (w.alloc (.cells #[.int .i64 f.kind,.int .i64 f.c,.slice ta f.t.length tcap,.slice ka f.ks.length kcap] 39)) ((w.alloc (.cells #[.int .i64 f.kind,.int .i64 f.c,.slice ta f.t.length tcap,.slice ka f.ks.length kcap] 39)).alloc (.cells #[.int .i64 0,.slice none 0 0,.slice none 0 0] 71)):=(Below.refl _ _).alloc (Nat.le_refl _) _
 have hz1:(w.alloc (.cells #[.int .i64 f.kind,.int .i64 f.c,.slice ta f.t.length tcap,.slice ka f.ks.length kcap] 39)).heap.size=w.heap.size+1:=by simp
 have hrc:=rc_new (w.alloc (.cells #[.int .i64 f.kind,.int .i64 f.c,.slice ta f.t.length tcap,.slice ka f.ks.length kcap] 39)) (w.heap.size+1) hz1
 have hAA:=hA.trans (hA2.mono hA.size)
 have hz2:((w.alloc (.cells #[.int .i64 f.kind,.int .i64 f.c,.slice ta f.t.length tcap,.slice ka f.ks.length kcap] 39)).alloc (.cells #[.int .i64 0,.slice none 0 0,.slice none 0 0] 71)).heap.size=w.heap.size+2:=by simp
 have HIS:=Lib.hid (nis_any (n+1) f _ _ ((hfl.below hAA).mono hAA.size))
 rw[hi]at HIS
 have hbx:=fun j=>hA2.cell (p:=⟨w.heap.size,j,none⟩) (show w.heap.size<_ by rw[hz1];omega)
 have b0:=(hbx 0).trans HB.c0
 have b1:=(hbx 1).trans HB.c1
 have b2:=(hbx 2).trans HB.c2
 have b3:=(hbx 3).trans HB.c3
 have HGAT:=Lib.hid (fun(W:World) (mp:Nat) (hmp:w.heap.size≤mp) (hb:Below w.heap.size w W) (hS:GS (mp+1) (mp+2) mp [] none (fun _=>False) W)=>gat_any w.heap.size (mp+1) (mp+2) mp hmp (n+1) f _ [] none (fun _=>False) W (hfl.below hb) hmd hS (ht.up hb hmp) (by have:=hq1;simp;omega))
 have HLIT:=Lib.hid (fun(W:World) (mp K:Nat) (av:Value) (hmp:w.heap.size≤mp) (hb:Below w.heap.size w W) (hS:LS (mp+1) K mp av (atomsF (n+1) f).length [] none (fun _=>False) W) (hp:Places (atomsF (n+1) f) mp W)=>lit_any (atomsF (n+1) f) w.heap.size (mp+1) K mp av (by omega) (by omega) (n+1) f _ (atomsF (n+1) f).length [] none (fun _=>False) W (hfl.below hb) hmd hS hp (ht.up hb (by omega)) (by omega) (by simp;omega))
 have hlf:=mkF_far (am:=atomsF (n+1) f) (N:=(atomsF (n+1) f).length) (cl:=[]) hmd (by omega)
 have HQ:=Lib.hid (And.intro hq1 (And.intro hq2 (And.intro hq3 hq4)))
 have HZ2:=Lib.hid hz2
 have HRC:=Lib.hid hrc
 have HAA:=Lib.hid hAA
 have HMK:Hid (mkF (atomsF (n+1) f) (n+1) f (atomsF (n+1) f).length []=makF (n+1) f):=rfl
 have HCL:Hid (clsF (n+1) f=(makF (n+1) f).cl ++ [[(makF (n+1) f).lit]]):=rfl
 rw[HMK.out]at HLIT hlf
 clear hA HB hA2 hz1 hz2 hrc hAA hbx hfl h4 h7 hi ht hmd hq1 hq2 hq3 hq4
 unfold CnfEnd
 generalize f.kind=fk at*
 generalize f.c=fc at*
 generalize f.t.length=ft at*
 generalize f.ks.length=fl at*
 go_enter Tryz.func31,Tryz.ntmps31
 go_wp2_with fail
 generalize (w.alloc (.cells #[.int .i64 fk,.int .i64 fc,.slice ta ft tcap,.slice ka fl kcap] 39)).alloc (.cells #[.int .i64 0,.slice none 0 0,.slice none 0 0] 71)=W2 at*
 refine HIS.out.mono ?_
 rintro e w3 ⟨rfl,hb3⟩
 have hk3:=fun j=>hb3.cell (p:=⟨w.heap.size,j,none⟩) (show w.heap.size<_ by rw[HZ2.out];omega)
 have x0:=(hk3 0).trans b0
 have x1:=(hk3 1).trans b1
 have x2:=(hk3 2).trans b2
 have x3:=(hk3 3).trans b3
 have hz3:w.heap.size+2≤w3.heap.size:=by have:=hb3.size;rw[HZ2.out]at this;exact this
 obtain⟨mp,hmp⟩:∃mp,w3.heap.size=mp:=⟨_,rfl⟩
 have hGS:=GS.start hmp
 have HM:Hid (w.heap.size+2≤mp):=by rw[←hmp];exact hz3
 have hAm:Below w3.heap.size w3 ((w3.alloc (.map #[] 0)).alloc (.cells #[.int .i64 0,.slice none 0 0,.slice none 0 0,.map (some mp)] 110)):=((Below.refl _ w3).alloc (Nat.le_refl _) _).alloc (by simp) _
 have HB3:=Lib.hid (HAA.out.trans (hb3.mono HAA.out.size))
 have HR3:=Lib.hid (HRC.out.keep (hb3.block (w.heap.size+1) (by rw[HZ2.out];omega)))
 have HB4:=Lib.hid (HB3.out.trans (hAm.mono HB3.out.size))
 have HR4:=Lib.hid (HR3.out.keep (hAm.block (w.heap.size+1) (by omega)))
 have HG4:=Lib.hid (HGAT.out _ mp (by omega) HB4.out hGS)
 have hk4:=fun j=>hAm.cell (p:=⟨w.heap.size,j,none⟩) (show w.heap.size<_ by omega)
 have y0:=(hk4 0).trans x0
 have y1:=(hk4 1).trans x1
 have y2:=(hk4 2).trans x2
 have y3:=(hk4 3).trans x3
 have HGS:=Lib.hid hGS
 have HY:=Lib.hid (And.intro y0 (And.intro y1 (And.intro y2 y3)))
 have hmm:= @run_makeMap Tryz.prog
 clear hb3 b0 b1 b2 b3 hk3 hk4 HGAT HIS HR3 HB3 hAm hGS x0 x1 x2 x3
 subst hmp
 clear hz3
 go_wp2_with fail
 clear hmm
 clear y0 y1 y2 y3
 generalize (w3.alloc (.map #[] 0)).alloc (.cells #[.int .i64 0,.slice none 0 0,.slice none 0 0,.map (some w3.heap.size)] 110)=W4 at*
 generalize w3.heap.size=mp at*
 refine HG4.out.mono ?_
 rintro e w5 ⟨rfl,S5,hS5,r5,hG5,hr5,hK5⟩
 obtain⟨av,ha5,hrow5,hO5⟩:=hG5.ex
 obtain⟨aa,ac,rfl⟩:=hO5.form
 have hl5:=HGS.out.low hK5
 have hb5:Below w.heap.size w w5:=HB4.out.trans (hl5.mono (by have:=HM.out;omega))
 have hmpw:w.heap.size<mp:=by have:=HM.out;omega
 have hk5:=fun j=>hl5.cell (p:=⟨w.heap.size,j,none⟩) hmpw
 have y0:=(hk5 0).trans HY.out.1
 have y1:=(hk5 1).trans HY.out.2.1
 have y2:=(hk5 2).trans HY.out.2.2.1
 have y3:=(hk5 3).trans HY.out.2.2.2
 have HR5:=Lib.hid (HR4.out.keep (hl5.block (w.heap.size+1) (by have:=HM.out;omega)))
 have m0:=hG5.c0
 have mf:=hG5.fz 0
 have HBG:=Lib.hid (hG5.begin ha5 (atomsF (n+1) f).length)
 have HG5:Hid (GS (mp+1) (mp+2) mp (atomsF (n+1) f) r5 S5 w5):=Lib.hid hG5
 have HO5:Hid (OwnP linSh 36 (mp+2) S5 (atomsF (n+1) f) (.slice aa (atomsF (n+1) f).length ac) w5):=Lib.hid hO5
 have HB5:=Lib.hid hb5
 have hln:gatF (n+1) f []=atomsF (n+1) f:=rfl
 rw[hln]at ha5 HBG
 have HST:Hid (Below mp w5 (w5.setCell ⟨mp+1,0,none⟩ (.int .i64 (atomsF (n+1) f).length))):=(Below.refl mp w5).setCell (p:=⟨mp+1,0,none⟩) (Nat.le_succ _) _
 have HSB:Hid (∀q,q≠mp+1→(w5.setCell ⟨mp+1,0,none⟩ (.int .i64 (atomsF (n+1) f).length)).heap[q]? =w5.heap[q]?):=Lib.hid fun q hq=>Below.heap_setCell _ _ _ _ hq
 have HLT:=Lib.hid (HLIT.out (w5.setCell ⟨mp+1,0,none⟩ (.int .i64 (atomsF (n+1) f).length)) mp w5.heap.size (.slice aa (atomsF (n+1) f).length ac) (by omega) (HB5.out.trans (HST.out.mono (by omega))) HBG.out.1 HBG.out.2)
 have hne:mp+1≠w.heap.size:=by omega
 have hz6:(w5.setCell ⟨mp+1,0,none⟩ (.int .i64 (atomsF (n+1) f).length)).heap.size=w5.heap.size:=by simp[World.setCell]
 have HZ6:=Lib.hid hz6
 have HMW:=Lib.hid hmpw
 clear hl5 hb5 hk5 hG5 hO5 hrow5 hK5 hr5 hS5 HLIT HG4 HR4 hln HY hz6 HGS hmpw
 generalize (atomsF (n+1) f).length=al at*
 go_wp2_with fail
 clear y0 y1 y2 y3 m0 mf
 generalize w5.setCell ⟨mp+1,0,none⟩ (.int .i64 al)=w6 at*
 refine HLT.out.mono ?_
 rintro e w7 ⟨rfl,S7,hS7,r7,hL7,hr7,hK7⟩
 have hA7:Below w7.heap.size w7 (w7.alloc (.cells #[.int .i64 (makF (n+1) f).lit] 3)):=(Below.refl _ _).alloc (Nat.le_refl _) _
 have hIn:=ints_new w7 [(makF (n+1) f).lit] (fun y hy=>by
  rw[List.mem_singleton]at hy
  subst hy;omega) (by simp)
 have hcl:(makF (n+1) f).cl.length≤4194304:=by
  have:=HQ.out.2.2.1
  rw[HCL.out,List.length_append]at this
  omega
 have hz67:=hK7.size
 have HZ7:=Lib.hid hz67
 have HCA:=Lib.hid (clause_any (mp+1) w5.heap.size mp _ _ _ _ _ _ 1 1 [(makF (n+1) f).lit] S7 _ (hL7.below hA7) hcl rfl hIn (fun b hb=>by
  subst hb
  exact⟨by rw[←HZ6.out];exact hz67,by simp,fun e=>by have:=(hL7.row _ e).2.1;omega⟩) (fun b hb o=>by
  subst hb
  exact frozen_of_row _ _ _ _ _ (heap_alloc_new w7 _)))
 have HA7:=Lib.hid hA7
 have HK7:=Lib.hid hK7
 have HR7:=Lib.hid hr7
 clear hA7 hIn hcl hz67 hK7 hr7 hL7 hS7 HLT HBG
 go_wp2_with fail
 generalize w7.alloc (.cells #[.int .i64 (makF (n+1) f).lit] 3)=w8a at*
 refine HCA.out.mono ?_
 rintro e w8 ⟨rfl,r8,hL8,hr8,hK8⟩
 have hk8:∀q,q<w5.heap.size→q≠mp+1→w8.heap[q]? =w5.heap[q]? :=fun q hq hn=>by
  have z7:=HZ7.out
  have z6:=HZ6.out
  have za:=HA7.out.size
  have h1:=hK8.block q (by omega) hn (fun e=>by
   rcases HR7.out with h | ⟨u,h,hu⟩
   ·rw[h]at e;cases e
   ·rw[h]at e;injection e with e;omega)
  have h2:=HA7.out.block q (by omega)
  have h3:=HK7.out.block q (by omega) hn (fun e=>by cases e)
  exact h1.trans (h2.trans (h3.trans (HSB.out q hn)))
 have hz8:w5.heap.size≤w8.heap.size:=by
  have z7:=HZ7.out
  have z6:=HZ6.out
  have za:=HA7.out.size
  have zb:=hK8.size
  omega
 have hbl8:Below w.heap.size w w8:=by
  refine HB5.out.trans ((HST.out.mono (by have:=HMW.out;omega)).trans ?_)
  have z7:=HZ7.out
  have z6:=HZ6.out
  have za:=HA7.out.size
  have zm:=HG5.out.lt
  have zw:=HMW.out
  refine⟨hK8.os.trans (HA7.out.os.trans HK7.out.os),hK8.tape.trans (HA7.out.tape.trans HK7.out.tape),hK8.output.trans (HA7.out.output.trans HK7.out.output),by have:=hK8.size;omega,fun q hq=> ?_⟩
  rw[hk8 q (by omega) (by omega),HSB.out q (by omega)]
 have hrc8:RC w8 (w.heap.size+1):=HR5.out.keep (hk8 _ (by have:=HG5.out.lt;have:=HM.out;omega) (by have:=HM.out;omega))
 rw[←HCL.out]at hL8
 obtain⟨cv,hE⟩:=mk_end HM.out HG5.out HO5.out hk8 hL8 hz8 hbl8 hrc8
 have HE:=Lib.hid hE
 clear hk8 hz8 hbl8 hrc8 hL8 hr8 hK8 HA7 HZ7 HZ6 HSB HR7 HK7 HST HB5 HG5 HO5 HR5 HCA HB4 hlf hE
 have HM2:Hid (w.heap.size+2<mp+1):=Lib.hid (by have:=HM.out;omega)
 clear HM HMW hne HCL HMK HAA HRC HZ2
 obtain⟨K,Sa,Sc,k1,k2,k3,k4,k5,k6,k7,k8⟩:=HE.out.ok
 obtain⟨ca,cc,rfl,hsit⟩:=k6.slot (by have:=HQ.out.2.2.1;omega)
 have hcl:=clies_of hsit (B:=w8.heap.size) (fun b hb=>by
  rcases hb with hb | hb
  ·exact(k6.ok b hb).1
  ·exact(k6.lt b hb).2)
 have HCH:=Lib.hid (fun W (hb:Below w8.heap.size w8 W)=>Prp.check_any (makF (n+1) f).n ca (clsF (n+1) f).length cc (clsF (n+1) f) W rfl (by have:=HQ.out.2.2.1;omega) ((hcl.below hb).mono hb.size) (fun _ j hj=>by
  have:=HQ.out.2.2.2 ((clsF (n+1) f).getD j []) (by rw[List.getD_eq_getElem?_getD,List.getElem?_eq_getElem hj];exact List.getElem_mem hj)
  omega))
 have cS:=fun p os=>Calls.regrown_of (HCH.out _ (regrown_trans (Below.refl w8.heap.size w8) (Nat.le_refl _) p os))
 have q0:=fun d os=>cell_regrown HE.out.c0 d os
 have q2:=fun d os=>cell_regrown HE.out.c2 d os
 have n1:=fun W=>Tryz.neNil W
 have n2:∀(k:Int) (W:World),(binOp .neq 26 (.iface 60 (.int .i64 k)) .nilIface).run Tryz.prog W= .ok (.bool true) W:=fun k W=>by simp[go_sem]
 clear hcl hsit k1 k2 k3 k4 k5 k6 k7 k8 HCH HQ h5 h6
 by_cases hbad:8192<(makF (n+1) f).n∨Prp.chkK (makF (n+1) f).n (clsF (n+1) f)≠0
 ·have HKV:Hid (cnfK (n+1) f=2):=Lib.hid (by rw[HK.out,if_pos hbad])
  by_cases hlong:8192<(makF (n+1) f).n
  ·have hli:(8192:Int)<((makF (n+1) f).n:Int):=by omega
   clear hbad hlong HK
   go_wp2_with fail
   refine wp_region_quiet_below (by kernel_rfl) (by kernel_rfl) ?_
   repeat (go_big_quiet_step (with_reducible exact cS _ _))
   refine wpQuiet_nil ?_
   intro w9 hw'
   obtain⟨⟨dq,osq⟩,hw''⟩:=hw'
   have HE9:Hid (MkEnd (n+1) f w w9 (mp+1) (.slice aa al ac) (.slice ca (clsF (n+1) f).length cc)):=Lib.hid (by rw[hw''];exact HE.out.below (below_regrown w8 dq osq))
   clear hw'' q0 q2 cS HE n1 n2
   obtain⟨r0,r1,r2,rf⟩:=HE9.out.rc
   go_wp2_with fail
   clear r0 r1 r2 rf
   refine bodyPost_ret (v:= .tuple #[.agg #[.int .i64 0,.slice none 0 0,.slice none 0 0],.iface 60 (.int .i64 2)]) ?_ rfl ⟨fun _=>by rw[HKV.out],fun h=>absurd h (by rw[HKV.out];decide),below3 HE9.out.bel (Nat.le_succ _) _ _ _⟩
   obtain⟨e0,e1,e2⟩:=res3 HE9.out.rc (.int .i64 0) (.slice none 0 0) (.slice none 0 0)
   simp[results,Tryz.results31,go_sem,e0,e1,e2]
  ·have hli:decide ((8192:Int)<((makF (n+1) f).n:Int))=false:=decide_eq_false (by omega)
   have hck:Prp.chkK (makF (n+1) f).n (clsF (n+1) f)≠0:=(hbad.resolve_left hlong)
   have hcv:Prp.codeV (Prp.chkK (makF (n+1) f).n (clsF (n+1) f))= .iface 60 (.int .i64 (Prp.chkK (makF (n+1) f).n (clsF (n+1) f))):=by unfold Prp.codeV;rw[if_neg hck]
   rw[hcv]at cS
   clear hbad hlong HK hck hcv
   generalize Prp.chkK (makF (n+1) f).n (clsF (n+1) f)=kk at*
   go_wp2_with fail
   refine wp_region_quiet_below (by kernel_rfl) (by kernel_rfl) ?_
   repeat (go_big_quiet_step (with_reducible exact cS _ _))
   refine wpQuiet_nil ?_
   intro w9 hw'
   obtain⟨⟨dq,osq⟩,hw''⟩:=hw'
   have HE9:Hid (MkEnd (n+1) f w w9 (mp+1) (.slice aa al ac) (.slice ca (clsF (n+1) f).length cc)):=Lib.hid (by rw[hw''];exact HE.out.below (below_regrown w8 dq osq))
   clear hw'' q0 q2 cS HE n1 n2
   obtain⟨r0,r1,r2,rf⟩:=HE9.out.rc
   go_wp2_with fail
   clear r0 r1 r2 rf
   refine bodyPost_ret (v:= .tuple #[.agg #[.int .i64 0,.slice none 0 0,.slice none 0 0],.iface 60 (.int .i64 2)]) ?_ rfl ⟨fun _=>by rw[HKV.out],fun h=>absurd h (by rw[HKV.out];decide),below3 HE9.out.bel (Nat.le_succ _) _ _ _⟩
   obtain⟨e0,e1,e2⟩:=res3 HE9.out.rc (.int .i64 0) (.slice none 0 0) (.slice none 0 0)
   simp[results,Tryz.results31,go_sem,e0,e1,e2]
 ·have HKV:Hid (cnfK (n+1) f=0):=Lib.hid (by rw[HK.out,if_neg hbad])
  have hli:decide ((8192:Int)<((makF (n+1) f).n:Int))=false:=decide_eq_false (by omega)
  have hck:Prp.chkK (makF (n+1) f).n (clsF (n+1) f)=0:=Classical.byContradiction fun h=>hbad (.inr h)
  have hcv:Prp.codeV (Prp.chkK (makF (n+1) f).n (clsF (n+1) f))= .nilIface:=by unfold Prp.codeV;rw[if_pos hck]
  rw[hcv]at cS
  clear hbad HK hck hcv
  go_wp2_with fail
  refine wp_region_quiet_below (by kernel_rfl) (by kernel_rfl) ?_
  repeat (go_big_quiet_step (with_reducible exact cS _ _))
  refine wpQuiet_nil ?_
  intro w9 hw'
  obtain⟨⟨dq,osq⟩,hw''⟩:=hw'
  have HE9:Hid (MkEnd (n+1) f w w9 (mp+1) (.slice aa al ac) (.slice ca (clsF (n+1) f).length cc)):=Lib.hid (by rw[hw''];exact HE.out.below (below_regrown w8 dq osq))
  clear hw'' q0 q2 cS HE n1 n2
  obtain⟨r0,r1,r2,rf⟩:=HE9.out.rc
  have h0:=HE9.out.c0
  have h1:=HE9.out.c1
  have h2:=HE9.out.c2
  go_wp2_with fail
  clear r0 r1 r2 rf h0 h1 h2
  refine bodyPost_ret (v:= .tuple #[.agg #[.int .i64 (makF (n+1) f).n,.slice aa al ac,.slice ca (clsF (n+1) f).length cc],.nilIface]) ?_ rfl ⟨fun h=>absurd HKV.out h,fun h=>⟨_,_,rfl, ?_⟩,below3 HE9.out.bel (Nat.le_succ _) _ _ _⟩
  ·obtain⟨e0,e1,e2⟩:=res3 HE9.out.rc (.int .i64 (makF (n+1) f).n) (.slice aa al ac) (.slice ca (clsF (n+1) f).length cc)
   simp[results,Tryz.results31,go_sem,e0,e1,e2]
  ·obtain⟨K,Sa,Sc,k1,k2,k3,k4,k5,k6,k7,k8⟩:=cnfOk_set HE9.out.ok (show w.heap.size+1<w.heap.size+2 by omega) (.int .i64 (makF (n+1) f).n) (.slice aa al ac) (.slice ca (clsF (n+1) f).length cc)
   exact⟨K,Sa,Sc,by omega,k2,k3.lower (by omega),fun b hb=>⟨by have:=(k4 b hb).1;omega,(k4 b hb).2⟩,k5,k6,k7,k8⟩
theorem make_any (n:Nat)(f:FT)(cs:List Value)(w:World)(h:FLies w.heap.size w n f cs)(ht:Tens w.heap.size w):
 Calls Tryz.prog 31 #[.agg cs.toArray] w (CnfEnd n f w):=by
 cases n with
 | zero=>exact h.elim
 | succ n=>
   cases hi:isF (n+1) f with
   | false=>exact make_no n f cs w h hi
   | true=>exact make_go n f cs w h ht hi
end
section
open Go.RowKit
theorem value_4 (n:Nat)(f:FT)(cs:List Value)(a2:Option Addr)(n2 cap2:Nat)(zs:List Int)(w:World)(IH:∀(f:FT) (cs:List Value) (a2:Option Addr) (n2 cap2:Nat) (zs:List Int) (w:World),FLies w.heap.size w n f cs→sndF n f=true→zs.length=n2→Nums w.heap.size w a2 zs→Calls Tryz.prog 41 #[.agg cs.toArray,.slice a2 n2 cap2] w (ValEnd w.heap.size (vOf zs n f) w))
 (h:FLies w.heap.size w (n+1) f cs) (hs:sndF (n+1) f=true) (hn2:zs.length=n2) (hz:Nums w.heap.size w a2 zs) (hk:f.kind=5):
 Calls Tryz.prog 41 #[.agg cs.toArray,.slice a2 n2 cap2] w (ValEnd w.heap.size (vOf zs (n+1) f) w):=by
 obtain⟨hown,hkids⟩:=sndF_split hs
 obtain⟨ta,tcap,ka,kcap,rfl,hlt,ht4,hk4,hks⟩:=h
 have B0:=Lib.hid (box_start w f.kind f.c ta ka f.t.length tcap f.ks.length kcap)
 have hv:vOf zs (n+1) f=vTo zs n true f.ks f.ks.length:=by
  show(if f.kind=0 then _ else if f.kind=1 then _ else if f.kind=2∨f.kind=3 then _ else if f.kind=4 then _ else _)=_
  rw[if_neg (by omega),if_neg (by omega),if_neg (by omega),if_neg (by omega)]
  unfold vTo
  rw[List.take_length,show(f.kind == 5)=true from by rw[hk];rfl]
 have HST:=Lib.hid (vTo_succ zs n true f.ks)
 have HI:=Lib.hid IH
 have HK:=Lib.hid hks
 have HS:=Lib.hid hkids
 have HZ:=Lib.hid hz
 have HN2:=Lib.hid hn2
 rw[hv]
 have S0:Hid ((true,true)=vTo zs n true f.ks 0):=rfl
 generalize hr:vTo zs n true f.ks f.ks.length=r
 have HR:=Lib.hid hr
 rw[hk]at B0⊢
 clear IH hks hkids hlt hown hs hz hv hn2 hk hr
 generalize f.c=fc at B0
 generalize f.t.length=ft at B0
 generalize hl:f.ks.length=len at B0 HK hk4 HST HR HS
 clear hl
 go_enter Tryz.func41,Tryz.ntmps41
 go_wp2_with fail
 go_loopw [4,5,67] (fun s4 s5 i wr=>∃(k:Nat) (o u:Bool),k≤len∧i= .int .i64 k∧s4= .bool o∧s5= .bool u∧Hid ((o,u)=vTo zs n true f.ks k)∧Below w.heap.size w wr) (fun _ _ i _=>len - (intOf i).toNat)
 case atStart=>exact⟨0,true,true,Nat.zero_le _,rfl,rfl,rfl,S0,B0.out.bel⟩
 case round=>
  obtain⟨k,o,u,hk,rfl,rfl,rfl,hou,hb⟩:=hrel
  by_cases hlt:k<len
  ·obtain⟨b,off,c0,c1,c2,c3,rfl,hblt,g0,g1,g2,g3,hf⟩:=HK.out k hlt
   rw[←hb.cell (p:=⟨b,_,none⟩) hblt]at g0 g1 g2 g3
   obtain⟨ck,cc,cta,ctn,ctcap,cka,ckn,ckcap,rfl,rfl,rfl,rfl⟩:=hf.form
   have hb2:=hb.alloc hb.size (.cells #[.int .i64 ck,.int .i64 cc,.slice cta ctn ctcap,.slice cka ckn ckcap] 39)
   have hih:=HI.out (f.ks.getD k default) _ a2 n2 cap2 zs _ ((hf.below hb2).mono hb2.size) (HS.out k hlt) HN2.out ((HZ.out.below hb2).mono hb2.size)
   have hst:=HST.out k hlt
   rw[←hou.out]at hst
   generalize vOf zs n (f.ks.getD k default)=p at hih hst
   obtain⟨v,y⟩:=p
   have HO:=Lib.hid hst
   clear hf hst hou
   go_wp2_with fail
   refine hih.mono ?_
   rintro e w1 ⟨rfl,hb1⟩
   have HB1:=Lib.hid (hb2.trans (hb1.mono hb2.size))
   clear g0 g1 g2 g3 hih hb1 hb2
   cases u<;>cases v<;>cases y
   all_goals
    go_wp2_with fail
    go_roundw
    case rel=>exact⟨k+1,_,_,by omega,by go_num,rfl,rfl,(HO.out.trans (by cases o<;>rfl)).symm,HB1.out⟩
    case measure=>simp[intOf];omega
  ·have hr:r=(o,u):=by
    obtain rfl:k=len:=by omega
    rw[←HR.out,hou.out]
   subst hr
   clear hou
   go_wp2_with fail
   refine bodyPost_ret (v:= .tuple #[.bool o,.bool u]) ?_ rfl ⟨rfl,hb⟩
   simp[results,Tryz.results41,go_sem]
end
section
open Go.RowKit
theorem value_5 (n:Nat)(f:FT)(cs:List Value)(a2:Option Addr)(n2 cap2:Nat)(zs:List Int)(w:World)(IH:∀(f:FT) (cs:List Value) (a2:Option Addr) (n2 cap2:Nat) (zs:List Int) (w:World),FLies w.heap.size w n f cs→sndF n f=true→zs.length=n2→Nums w.heap.size w a2 zs→Calls Tryz.prog 41 #[.agg cs.toArray,.slice a2 n2 cap2] w (ValEnd w.heap.size (vOf zs n f) w))
 (h:FLies w.heap.size w (n+1) f cs) (hs:sndF (n+1) f=true) (hn2:zs.length=n2) (hz:Nums w.heap.size w a2 zs) (hk:f.kind=6):
 Calls Tryz.prog 41 #[.agg cs.toArray,.slice a2 n2 cap2] w (ValEnd w.heap.size (vOf zs (n+1) f) w):=by
 obtain⟨hown,hkids⟩:=sndF_split hs
 obtain⟨ta,tcap,ka,kcap,rfl,hlt,ht4,hk4,hks⟩:=h
 have B0:=Lib.hid (box_start w f.kind f.c ta ka f.t.length tcap f.ks.length kcap)
 have hv:vOf zs (n+1) f=vTo zs n false f.ks f.ks.length:=by
  show(if f.kind=0 then _ else if f.kind=1 then _ else if f.kind=2∨f.kind=3 then _ else if f.kind=4 then _ else _)=_
  rw[if_neg (by omega),if_neg (by omega),if_neg (by omega),if_neg (by omega)]
  unfold vTo
  rw[List.take_length,show(f.kind == 5)=false from by rw[hk];rfl]
 have HST:=Lib.hid (vTo_succ zs n false f.ks)
 have HI:=Lib.hid IH
 have HK:=Lib.hid hks
 have HS:=Lib.hid hkids
 have HZ:=Lib.hid hz
 have HN2:=Lib.hid hn2
 rw[hv]
 have S0:Hid ((false,true)=vTo zs n false f.ks 0):=rfl
 generalize hr:vTo zs n false f.ks f.ks.length=r
 have HR:=Lib.hid hr
 rw[hk]at B0⊢
 clear IH hks hkids hlt hown hs hz hv hn2 hk hr
 generalize f.c=fc at B0
 generalize f.t.length=ft at B0
 generalize hl:f.ks.length=len at B0 HK hk4 HST HR HS
 clear hl
 go_enter Tryz.func41,Tryz.ntmps41
 go_wp2_with fail
 go_loopw [4,5,67] (fun s4 s5 i wr=>∃(k:Nat) (o u:Bool),k≤len∧i= .int .i64 k∧s4= .bool o∧s5= .bool u∧Hid ((o,u)=vTo zs n false f.ks k)∧Below w.heap.size w wr) (fun _ _ i _=>len - (intOf i).toNat)
 case atStart=>exact⟨0,false,true,Nat.zero_le _,rfl,rfl,rfl,S0,B0.out.bel⟩
 case round=>
  obtain⟨k,o,u,hk,rfl,rfl,rfl,hou,hb⟩:=hrel
  by_cases hlt:k<len
  ·obtain⟨b,off,c0,c1,c2,c3,rfl,hblt,g0,g1,g2,g3,hf⟩:=HK.out k hlt
   rw[←hb.cell (p:=⟨b,_,none⟩) hblt]at g0 g1 g2 g3
   obtain⟨ck,cc,cta,ctn,ctcap,cka,ckn,ckcap,rfl,rfl,rfl,rfl⟩:=hf.form
   have hb2:=hb.alloc hb.size (.cells #[.int .i64 ck,.int .i64 cc,.slice cta ctn ctcap,.slice cka ckn ckcap] 39)
   have hih:=HI.out (f.ks.getD k default) _ a2 n2 cap2 zs _ ((hf.below hb2).mono hb2.size) (HS.out k hlt) HN2.out ((HZ.out.below hb2).mono hb2.size)
   have hst:=HST.out k hlt
   rw[←hou.out]at hst
   generalize vOf zs n (f.ks.getD k default)=p at hih hst
   obtain⟨v,y⟩:=p
   have HO:=Lib.hid hst
   clear hf hst hou
   go_wp2_with fail
   refine hih.mono ?_
   rintro e w1 ⟨rfl,hb1⟩
   have HB1:=Lib.hid (hb2.trans (hb1.mono hb2.size))
   clear g0 g1 g2 g3 hih hb1 hb2
   cases u<;>cases v<;>cases y
   all_goals
    go_wp2_with fail
    go_roundw
    case rel=>exact⟨k+1,_,_,by omega,by go_num,rfl,rfl,(HO.out.trans (by cases o<;>rfl)).symm,HB1.out⟩
    case measure=>simp[intOf];omega
  ·have hr:r=(o,u):=by
    obtain rfl:k=len:=by omega
    rw[←HR.out,hou.out]
   subst hr
   clear hou
   go_wp2_with fail
   refine bodyPost_ret (v:= .tuple #[.bool o,.bool u]) ?_ rfl ⟨rfl,hb⟩
   simp[results,Tryz.results41,go_sem]
end
end Go.Proofs.YtipahfcaplbifaaGreatDoor
