/- Parts of a proof. -/
import Derived.Test.YtipahfcaplbifaaGreatDoorZ05
import Derived.Test.YtipahfcaplbifaaGreatDoorZ12
import Derived.Test.YtipahfcaplbifaaGreatDoorZ14
import Derived.Test.YtipahfcaplbifaaGreatDoorZ15
import Derived.Test.YtipahfcaplbifaaGreatDoorZ24
import Derived.Test.YtipahfcaplbifaaGreatDoorZ27
import Derived.Test.YtipahfcaplbifaaGreatDoorZ31
import Derived.Test.YtipahfcaplbifaaGreatDoorZ34
set_option linter.unusedVariables false
set_option linter.unusedSimpArgs false
set_option maxHeartbeats 60000000
set_option maxRecDepth 100000
namespace Go.Proofs.YtipahfcaplbifaaGreatDoor
section
open Go.RowKit
theorem codeV_ways (x:Int):(x=0∧codeV x= .nilIface)∨(x≠0∧∃k:Int,codeV x= .iface 60 (.int .i64 k)):=by
 unfold codeV
 by_cases h:x=0
 ·exact .inl ⟨h,by rw[if_pos h]⟩
 ·exact .inr ⟨h,x,by rw[if_neg h]⟩
def CheckEndG (nk mk:Int)(ks:Nat→Int)(nl:Nat)(N:Int)(cl ss:List (List Int))(w:World)(e:Ending)(w':World):Prop:=
 ∃er x at',e= .returned er∧CertIs nk mk ks nl N cl ss x at'∧Prp.ErrIs w.heap.size x at' er w'∧Below w.heap.size w w'
theorem take_fst {lms:List (List Int×List (List (Int×Int)×Int))}{j:Nat}(h:j<lms.length):(lms.take (j+1)).map Prod.fst=(lms.take j).map Prod.fst ++ [(lms.getD j ([],[])).1]:=by
 rw[List.take_succ_eq_append_getElem h,List.map_append,List.getD_eq_getElem?_getD,List.getElem?_eq_getElem h]
 rfl
theorem errIs_low {B B':Nat}{k at':Int}{er:Value}{w:World}(h:Prp.ErrIs B k at' er w)(hB:B'≤B):Prp.ErrIs B' k at' er w:=
 ⟨h.1,fun h0=>by
   obtain⟨g,e1,e2,r⟩:=h.2 h0
   exact⟨g,e1,Nat.le_trans hB e2,r⟩⟩
theorem spot_new {B:Nat}(j:Nat)(k:Int)(W:World)(h:B≤W.heap.size):Prp.ErrIs B k j (.iface 76 (.pointer (some ⟨W.heap.size,0,none⟩))) (W.alloc (.cells #[.int .i64 j,codeV k] 79)):=by
 have hn:=heap_alloc_new W (.cells #[.int .i64 j,codeV k] 79)
 refine⟨fun h=>by omega,fun _=>⟨W.heap.size,rfl,h,by simp,(cell_of_row _ _ _ _ _ _ hn).trans rfl,(cell_of_row _ _ _ _ _ _ hn).trans rfl⟩⟩
structure CB (w W:World)(M:Nat)(x0 x1 x2:Value)(la ra:Option Addr)(ln lcap rn rcap:Nat):Prop where
 lt:w.heap.size+1<W.heap.size∧M<W.heap.size
 d0:W.cell? ⟨w.heap.size+1,0,none⟩=some (.slice la ln lcap)
 d1:W.cell? ⟨w.heap.size+1,1,none⟩=some (.slice ra rn rcap)
 m0:W.cell? ⟨M,0,none⟩=some x0
 m1:W.cell? ⟨M,1,none⟩=some x1
 m2:W.cell? ⟨M,2,none⟩=some x2
 bel:Below w.heap.size w W
theorem CB.below {w W W':World}{M B:Nat}{x0 x1 x2:Value}{la ra:Option Addr}{ln lcap rn rcap:Nat}(h:CB w W M x0 x1 x2 la ra ln lcap rn rcap)(hb:Below B W W')(hB:w.heap.size+1<B∧M<B):CB w W' M x0 x1 x2 la ra ln lcap rn rcap:=
 ⟨⟨Nat.lt_of_lt_of_le h.lt.1 hb.size,Nat.lt_of_lt_of_le h.lt.2 hb.size⟩,(hb.cell (p:=⟨w.heap.size+1,0,none⟩) hB.1).trans h.d0,(hb.cell (p:=⟨w.heap.size+1,1,none⟩) hB.1).trans h.d1,(hb.cell (p:=⟨M,0,none⟩) hB.2).trans h.m0,(hb.cell (p:=⟨M,1,none⟩) hB.2).trans h.m1,(hb.cell (p:=⟨M,2,none⟩) hB.2).trans h.m2,h.bel.trans (hb.mono (by omega))⟩
theorem check_cert (hbeg:Prp.BeginSaid)(n:Nat)(f:FT)(cs:List Value)(la:Option Addr)(ln lcap:Nat)(lms:List (List Int×List (List (Int×Int)×Int)))(ra:Option Addr)(rn rcap:Nat)(ss:List (List Int))(ks:Nat→Int)(w:World)(h:FLies w.heap.size w (n+1) f cs)
 (ht:Tens w.heap.size w) (hg:Prp.Laid0 w) (hln:lms.length=ln) (hL:LmLies w.heap.size w la lms) (hrn:ss.length=rn) (hR:Prp.CLies w.heap.size w ra ss) (hE:EasyC lms ss) (hks:∀j,j<lms.length→LemIs (atomsF (n+3) (nrmT (n+1) f)) (lms.getD j ([],[])) (ks j)):
 Calls Tryz.prog 14 #[.agg cs.toArray,.agg #[.slice la ln lcap,.slice ra rn rcap]] w (CheckEndG (nrmK (n+1) f) (cnfK (n+3) (nrmT (n+1) f)) ks lms.length (makF (n+3) (nrmT (n+1) f)).n (clsF (n+3) (nrmT (n+1) f) ++ lms.map Prod.fst) ss w):=by
 have hh:=h
 obtain⟨ta,tcap,ka,kcap,rfl, -⟩:=h
 have FL:=Lib.hid (fun W (hb:Below w.heap.size w W)=>(hh.below hb).mono hb.size)
 have HNO:=Lib.hid (fun W (hb:Below w.heap.size w W)=>norm_all (n+1) f _ W (FL.out W hb))
 have HMK:=Lib.hid (fun cs W (hb:Below w.heap.size w W) hf=>make_any (n+3) (nrmT (n+1) f) cs W hf (ht.up hb hb.size))
 have HLM:=Lib.hid (fun W (hb:Below w.heap.size w W)=>hL.below hb (Nat.le_refl _))
 have HRC:=Lib.hid (fun W (hb:Below w.heap.size w W)=>(hR.below hb).mono hb.size)
 have HG:=Lib.hid hg
 have HLN:=Lib.hid hln
 have HRN:=Lib.hid hrn
 have HE:=Lib.hid hE
 have HKS:=Lib.hid hks
 have n0:=fun W=>Tryz.neNil W
 have n1:=fun t v W=>Cut.Tryz.neIface t v W
 have hl40:ln≤40:=by rw[←hln];exact hE.l1
 have hr60:rn≤60:=by rw[←hrn];exact hE.l2
 have HBE:=Lib.hid hbeg
 clear ht FL hh hL hR hg hln hrn hE hks hbeg
 have hA1:Below w.heap.size w (w.alloc (.cells #[.int .i64 f.kind,.int .i64 f.c,.slice ta f.t.length tcap,.slice ka f.ks.length kcap] 39)):=(Below.refl _ _).alloc (Nat.le_refl _) _
 have hb0:=box_start w f.kind f.c ta ka f.t.length tcap f.ks.length kcap
 generalize f.kind=fk at*
 generalize f.c=fc at*
 generalize f.t.length=ft at*
 generalize f.ks.length=fl at*
 have hA2:Below (w.alloc (.cells #[.int .i64 fk,.int .i64 fc,.slice ta ft tcap,.slice ka fl kcap] 39)).heap.size (w.alloc (.cells #[.int .i64 fk,.int .i64 fc,.slice ta ft tcap,.slice ka fl kcap] 39)) ((w.alloc (.cells #[.int .i64 fk,.int .i64 fc,.slice ta ft tcap,.slice ka fl kcap] 39)).alloc (.cells #[.slice la ln lcap,.slice ra rn rcap] 43)):=(Below.refl _ _).alloc (Nat.le_refl _) _
 have hz1:(w.alloc (.cells #[.int .i64 fk,.int .i64 fc,.slice ta ft tcap,.slice ka fl kcap] 39)).heap.size=w.heap.size+1:=by simp
 have hn2:=heap_alloc_new (w.alloc (.cells #[.int .i64 fk,.int .i64 fc,.slice ta ft tcap,.slice ka fl kcap] 39)) (.cells #[.slice la ln lcap,.slice ra rn rcap] 43)
 rw[hz1]at hn2
 have hz2:((w.alloc (.cells #[.int .i64 fk,.int .i64 fc,.slice ta ft tcap,.slice ka fl kcap] 39)).alloc (.cells #[.slice la ln lcap,.slice ra rn rcap] 43)).heap.size=w.heap.size+2:=by simp
 have T1:=Lib.hid (hb0.below hA2 hb0.lt)
 have D0:((w.alloc (.cells #[.int .i64 fk,.int .i64 fc,.slice ta ft tcap,.slice ka fl kcap] 39)).alloc (.cells #[.slice la ln lcap,.slice ra rn rcap] 43)).cell? ⟨w.heap.size+1,0,none⟩=some (.slice la ln lcap):=(cell_of_row _ _ _ _ _ _ hn2).trans rfl
 have D1:((w.alloc (.cells #[.int .i64 fk,.int .i64 fc,.slice ta ft tcap,.slice ka fl kcap] 39)).alloc (.cells #[.slice la ln lcap,.slice ra rn rcap] 43)).cell? ⟨w.heap.size+1,1,none⟩=some (.slice ra rn rcap):=(cell_of_row _ _ _ _ _ _ hn2).trans rfl
 obtain⟨_,p0,p1,p2,p3,_⟩:=T1.out
 have HZ:=Lib.hid hz2
 clear hA1 hb0 hA2 hz1 hn2 hz2
 go_enter Tryz.func14,Tryz.ntmps14
 go_wp2_with fail
 generalize (w.alloc (.cells #[.int .i64 fk,.int .i64 fc,.slice ta ft tcap,.slice ka fl kcap] 39)).alloc (.cells #[.slice la ln lcap,.slice ra rn rcap] 43)=W2 at*
 refine(HNO.out _ T1.out.bel).mono ?_
 rintro e w3 ⟨cs3,rfl,hf3,hb3⟩
 obtain⟨k3,c3,ta3,tn3,tcap3,ka3,kn3,kcap3,rfl⟩:=hf3.form
 have hfl3:FLies w3.heap.size w3 (n+3) (nrmT (n+1) f) _:=hf3.lies (fun b hb=>hb.2)
 have hz23:w.heap.size+2≤w3.heap.size:=by have:=hb3.size;rw[HZ.out]at this;exact this
 have hb13:=T1.out.bel.trans (hb3.mono T1.out.bel.size)
 have e0:=(hb3.cell (p:=⟨w.heap.size+1,0,none⟩) (show w.heap.size+1<_ by rw[HZ.out];omega)).trans D0
 have e1:=(hb3.cell (p:=⟨w.heap.size+1,1,none⟩) (show w.heap.size+1<_ by rw[HZ.out];omega)).trans D1
 have hA3:Below w3.heap.size w3 (w3.alloc (.cells #[.int .i64 k3,.int .i64 c3,.slice ta3 tn3 tcap3,.slice ka3 kn3 kcap3] 39)):=(Below.refl _ _).alloc (Nat.le_refl _) _
 have HO:=Lib.hid (box_start w3 k3 c3 ta3 ka3 tn3 tcap3 kn3 kcap3)
 have HF4:=Lib.hid ((hfl3.below hA3).mono hA3.size)
 have HB4:=Lib.hid (hb13.trans (hA3.mono hb13.size))
 have E0:=Lib.hid ((hA3.cell (p:=⟨w.heap.size+1,0,none⟩) (show w.heap.size+1<_ by omega)).trans e0)
 have E1:=Lib.hid ((hA3.cell (p:=⟨w.heap.size+1,1,none⟩) (show w.heap.size+1<_ by omega)).trans e1)
 have HZ4:Hid (w.heap.size+2<(w3.alloc (.cells #[.int .i64 k3,.int .i64 c3,.slice ta3 tn3 tcap3,.slice ka3 kn3 kcap3] 39)).heap.size):=Lib.hid (by rw[World.size_alloc];omega)
 clear hf3 hfl3 hb3 hA3 hz23 hb13 e0 e1 D0 D1 p0 p1 p2 p3 HZ T1 HNO
 rcases codeV_ways (nrmK (n+1) f)with ⟨hk0,hkv⟩ | ⟨hk0,k,hkv⟩
 ·rw[hkv]
  have HK0:=Lib.hid hk0
  have HM4:=Lib.hid (HMK.out _ _ HB4.out HF4.out)
  obtain⟨_,p0,p1,p2,p3,_⟩:=HO.out
  clear hk0 hkv HMK HF4 HO
  go_wp2_with fail
  clear p0 p1 p2 p3
  generalize w3.alloc (.cells #[.int .i64 k3,.int .i64 c3,.slice ta3 tn3 tcap3,.slice ka3 kn3 kcap3] 39)=W4 at*
  generalize nrmT (n+1) f=g at*
  refine HM4.out.mono ?_
  intro e w6 hE6
  obtain⟨hbad,hok,hb6⟩:=hE6
  have HB6:=Lib.hid (HB4.out.trans (hb6.mono HB4.out.size))
  by_cases hc:cnfK (n+3) g=0
  ·obtain⟨av,cv,rfl,hok2⟩:=hok hc
   have hi:=cnfK_made hc
   have HFEW:=Lib.hid (HE.out.few hi hc)
   obtain⟨q1,q2,q3,q4⟩:=cls_len hi
   have hat:=gat_sound (n+3) g [] (ret_made hi) (fun x hx=>by cases hx)
   obtain⟨aa,ac,ca,cc,rfl,rfl,hla,_⟩:=CnfOk.lies hok2 hi
   obtain⟨K,Sa,Sc,k1,k2,k3,k4,k5,k6,k7,k8⟩:=hok2
   obtain⟨ca',cc',ecv,hsc⟩:=k6.slot (by omega)
   injection ecv with ec1 ec2 ec3
   subst ec1 ec3
   have hsc2:Pak.Sits Pak.clauseSh (Pak.Lo w6.heap.size) w6 ca (clsF (n+3) g):=hsc.keep (fun b hb=>by
    rcases hb with hb | hb
    ·exact(k6.ok b hb).1
    ·exact(k6.lt b hb).2) (fun _ _ _=>rfl)
   have HOK:Hid (Cut.lsOk (atomsF (n+3) g)):=fun i hi=>hat _ (by rw[List.getD_eq_getElem?_getD,List.getElem?_eq_getElem hi];exact List.getElem_mem hi)
   obtain⟨N,hN⟩:∃N,N=(makF (n+3) g).n:=⟨_,rfl⟩
   obtain⟨an,han⟩:∃an,an=(atomsF (n+3) g).length:=⟨_,rfl⟩
   obtain⟨m,hm⟩:∃m,m=(clsF (n+3) g).length:=⟨_,rfl⟩
   rw[←hN,←han,←hm]
   have hA6:Below w6.heap.size w6 (w6.alloc (.cells #[.int .i64 N,.slice aa an ac,.slice ca m cc] 71)):=(Below.refl _ _).alloc (Nat.le_refl _) _
   obtain⟨y0,y1,y2⟩:=tree_cells w6 (.int .i64 N) (.slice aa an ac) (.slice ca m cc)
   have hb7:=hb6.trans (hA6.mono hb6.size)
   have hzz:w6.heap.size<(w6.alloc (.cells #[.int .i64 N,.slice aa an ac,.slice ca m cc] 71)).heap.size:=by simp
   have T7:Hid (CB w (w6.alloc (.cells #[.int .i64 N,.slice aa an ac,.slice ca m cc] 71)) w6.heap.size (.int .i64 N) (.slice aa an ac) (.slice ca m cc) la ra ln lcap rn rcap):=
    ⟨⟨Nat.lt_of_lt_of_le (show w.heap.size+1<_ from Nat.lt_of_succ_lt HZ4.out) hb7.size,hzz⟩,(hb7.cell (p:=⟨w.heap.size+1,0,none⟩) (Nat.lt_of_succ_lt HZ4.out)).trans E0.out,(hb7.cell (p:=⟨w.heap.size+1,1,none⟩) (Nat.lt_of_succ_lt HZ4.out)).trans E1.out,y0,y1,y2,HB6.out.trans (hA6.mono HB6.out.size)⟩
   have HSC:=Lib.hid (hsc2.below hA6 hA6.size)
   have HLA:=Lib.hid ((hla.below hA6).mono hA6.size)
   have hm6:m≤60000:=by rw[hm];exact q3
   have han6:an≤1000000:=by rw[han];omega
   have HNN:=Lib.hid hN
   have HAN:=Lib.hid han
   have HMM:=Lib.hid hm
   have HCC:=Lib.hid hc
   have l41:¬(4096<(ln:Int)):=by omega
   clear hbad hok hb6 hc hi hat hla k1 k2 k3 k4 k5 k6 k7 k8 hsc hsc2 hA6 y0 y1 y2 hb7 hzz q1 q2 q3 q4 HB4 HB6 HM4 E0 E1 HZ4 hN han hm HE
   obtain⟨_,d0,d1,m0,m1,m2,_⟩:=T7.out
   go_wp2_with fail
   generalize w6.alloc (.cells #[.int .i64 N,.slice aa an ac,.slice ca m cc] 71)=W7 at*
   generalize w6.heap.size=M at*
   refine(clone_r ca m cc (clsF (n+3) g) W7 HMM.out.symm (by omega) HSC.out).mono ?_
   rintro e w8 ⟨v8,rfl,ho8,hb8⟩
   have T8:=Lib.hid (T7.out.below hb8 T7.out.lt)
   have HO8:=Lib.hid ho8
   have HB8:=Lib.hid hb8
   clear ho8 hb8 HSC d0 d1 m0 m1 m2
   obtain⟨_,d0,d1,m0,m1,m2,_⟩:=T8.out
   go_wp2_with fail
   clear d0 d1 m0 m1 m2
   go_loopw [8,39] (fun v i wr=>∃(j:Nat),j≤ln∧i= .int .i64 j∧Hid (∀q,q<j→ks q=0)∧Hid (OwnP Pak.clauseSh 23 W7.heap.size (Pak.Lo W7.heap.size) (clsF (n+3) g ++ (lms.take j).map Prod.fst) v wr)∧Hid (Below W7.heap.size W7 wr)) (fun _ i _=>ln - (intOf i).toNat)
   case atStart=>exact⟨0,Nat.zero_le _,rfl,fun j hj=>absurd hj (Nat.not_lt_zero _),Lib.hid (by simpa using HO8.out),HB8.out⟩
   case round=>
    clear HO8 HB8 T8
    obtain⟨j,hj,rfl,hz0,hrow,hbr⟩:=hrel
    obtain⟨wo,rfl⟩:∃wo:World,wo=wr:=⟨_,rfl⟩
    have TR:=Lib.hid (T7.out.below hbr.out T7.out.lt)
    have HZR:=hbr.out.size
    by_cases hlt:j<ln
    ·obtain⟨b,off,ta5,tcap5,sa5,scap5,rfl,hb5,c0,c1,⟨hm1,hm2⟩,hsi,hsl⟩:=HLM.out wo TR.out.bel j (by rw[HLN.out];exact hlt)
     have hz5:=TR.out.bel.size
     have HKJ:=Lib.hid (HKS.out j (by rw[HLN.out];exact hlt))
     have HTK:=Lib.hid (take_fst (lms:=lms) (j:=j) (by rw[HLN.out];exact hlt))
     obtain⟨lm,hlm⟩:∃lm,lm=lms.getD j ([],[]):=⟨_,rfl⟩
     have hlits:lm.1.length≤1000000:=by
      rw[hlm,List.getD_eq_getElem?_getD,List.getElem?_eq_getElem (by rw[HLN.out];exact hlt),Option.getD_some]
      have:=HFEW.out.k1 (lms[j]'(by rw[HLN.out];exact hlt)).1 (List.mem_append_right _ (List.mem_map_of_mem (List.getElem_mem _)))
      omega
     rw[←hlm]at c0 c1 hm1 hm2 hsi hsl HKJ HTK
     clear hlm
     obtain⟨ls,sp⟩:=lm
     simp only at c0 c1 hm1 hm2 hsi hsl hlits HTK
     have hA9:Below wo.heap.size wo (wo.alloc (.cells #[.slice ta5 ls.length tcap5,.slice sa5 sp.length scap5] 57)):=(Below.refl _ _).alloc (Nat.le_refl _) _
     have hn9:=heap_alloc_new wo (.cells #[.slice ta5 ls.length tcap5,.slice sa5 sp.length scap5] 57)
     have T9:=Lib.hid (TR.out.below hA9 TR.out.lt)
     have r0:(wo.alloc (.cells #[.slice ta5 ls.length tcap5,.slice sa5 sp.length scap5] 57)).cell? ⟨wo.heap.size,0,none⟩=some (.slice ta5 ls.length tcap5):=(cell_of_row _ _ _ _ _ _ hn9).trans rfl
     have r1:(wo.alloc (.cells #[.slice ta5 ls.length tcap5,.slice sa5 sp.length scap5] 57)).cell? ⟨wo.heap.size,1,none⟩=some (.slice sa5 sp.length scap5):=(cell_of_row _ _ _ _ _ _ hn9).trans rfl
     have HBR:=Lib.hid (hbr.out.trans (hA9.mono hbr.out.size))
     have hz9':=Nat.le_trans hz5 hA9.size
     have HLE:=Lib.hid (lemma_any aa an ac (atomsF (n+3) g) ta5 ls.length tcap5 ls sa5 sp.length scap5 sp (wo.alloc (.cells #[.slice ta5 ls.length tcap5,.slice sa5 sp.length scap5] 57)) (ks j) HKJ.out HAN.out.symm han6 ((HLA.out.below HBR.out).mono HBR.out.size) HOK.out rfl hlits (nums_of (hsi.below (hA9.mono hz5) hz9') (fun b hb=>hb)) rfl hm2 ((hsl.below (hA9.mono hz5)).up hz9'))
     have HSI:=Lib.hid hsi
     have HA9:=Lib.hid hA9
     have HROW:=Lib.hid (hrow.out.below hA9)
     have hz9:wo.heap.size<(wo.alloc (.cells #[.slice ta5 ls.length tcap5,.slice sa5 sp.length scap5] 57)).heap.size:=by simp
     have HZ9:=Lib.hid hz9
     obtain⟨_,d0,d1,m0,m1,m2,_⟩:=T9.out
     clear hsi hsl hA9 hn9 HKJ hz9 hrow
     go_wp2_with fail
     generalize hWW:wo.alloc (.cells #[.slice ta5 ls.length tcap5,.slice sa5 sp.length scap5] 57)=W9 at*
     clear d0 d1 m0 m1 m2 hWW
     refine HLE.out.mono ?_
     rintro e w10 ⟨er,at5,rfl,her,hp5,hb10⟩
     have T10:=Lib.hid (T9.out.below hb10 T9.out.lt)
     have HB10:=Lib.hid (HBR.out.trans (hb10.mono HBR.out.size))
     have s0:=(hb10.cell (p:=⟨wo.heap.size,0,none⟩) HZ9.out).trans r0
     clear r0 r1
     by_cases hkj:ks j=0
     ·have hneg:at5<0:=Classical.byContradiction fun h=>hp5 (by omega) hkj
      have her2:=her.1 hneg
      rw[hkj]at her2
      have her3:er= .nilIface:=her2
      clear her2
      subst her3
      have HZ2:Hid (∀q,q<j+1→ks q=0):=fun q hq=>by
       by_cases e:q=j
       ·subst e;exact hkj
       ·exact hz0.out q (by omega)
      have hR10:=HROW.out.below hb10
      have hbo:=HA9.out.trans (hb10.mono HA9.out.size)
      have hWz:W7.heap.size≤w10.heap.size:=HB10.out.size
      have hwz:w.heap.size≤W7.heap.size:=T7.out.bel.size
      have hlen0:(clsF (n+3) g ++ (lms.take j).map Prod.fst).length≤4194304:=by
       rw[List.length_append,List.length_map,List.length_take,HMM.out.symm];omega
      obtain⟨v11,w11,hrun,ho11,hg11,_⟩:=hR10.put (P:=Tryz.prog) (t:=41) (x:=ls) (cs:=[.slice ta5 ls.length tcap5]) (Sx:=Pak.Lo W7.heap.size) Tryz.underlying41 (by':=24) (by kernel_rfl) (by decide) (by decide) hlen0 hWz
       ⟨_,rfl,ta5,tcap5,rfl,HSI.out.keep (fun b (hb:b<w.heap.size)=>Nat.lt_of_lt_of_le hb hwz) (fun b o (hb:b<w.heap.size)=>hbo.cell (p:=⟨b,o,none⟩) (Nat.lt_of_lt_of_le hb hz5))⟩ (fun b hb=>hR10.ok b hb)
      have RN:Hid (OwnP Pak.clauseSh 23 W7.heap.size (Pak.Lo W7.heap.size) (clsF (n+3) g ++ (lms.take (j+1)).map Prod.fst) v11 w11):=Lib.hid (by
       rw[HTK.out,←List.append_assoc]
       exact ho11.more (fun b hb=>hb.elim id id) (fun b hb=>ho11.ok b (.inl hb)))
      have BN:Hid (Below W7.heap.size W7 w11):=Lib.hid (HB10.out.grown hg11 hWz (fun q hq=>(hR10.lt q hq).1))
      have HRUN:=Lib.hid hrun
      clear her hp5 hb10 hkj hneg HLE hR10 hbo hWz hwz hlen0 ho11 hg11 hrun HTK HSI HROW HA9 hm1 hm2 hlits
      generalize ls.length=lsn at*
      go_wp2_with (at_builtin;refine Lib.wpList_append_run _ rfl _ _ _ _ rfl _ _ rfl rfl _ _ (HRUN.out _) ?_)
      go_roundw
      case rel=>exact⟨j+1,by omega,by go_num,HZ2,RN,BN⟩
      case measure=>simp[intOf];omega
     ·obtain⟨ti,vi,rfl⟩:=her.iface hkj
      have HCD:=Lib.hid (code_err her hkj (HG.out.below T10.out.bel HG.out.pos))
      have HCE:Hid (CertIs (nrmK (n+1) f) (cnfK (n+3) g) ks lms.length (makF (n+3) g).n (clsF (n+3) g ++ lms.map Prod.fst) ss (ks j) j):= .lem j HK0.out HCC.out (by rw[HLN.out];exact hlt) hz0.out hkj
      have HSP:=Lib.hid (fun W (hb:w.heap.size≤W.heap.size)=>spot_new j (ks j) W hb)
      have hkv:codeV (ks j)= .iface 60 (.int .i64 (ks j)):=if_neg hkj
      rw[hkv]at HCD HSP
      clear her hp5 hb10 hkj HLE HROW HA9 HSI HTK hm1 hm2 hlits s0 hkv
      go_wp2_with fail
      refine HCD.out.mono ?_
      rintro e w11 ⟨rfl,hb11⟩
      have HB11:=Lib.hid (T10.out.bel.trans (hb11.mono T10.out.bel.size))
      clear hb11 HCD
      go_wp2_with fail
      go_ret
      exact⟨_,_,_,rfl,HCE.out,HSP.out w11 HB11.out.size,HB11.out.alloc HB11.out.size _⟩
    ·obtain rfl:j=ln:=by omega
     have hrow':=hrow.out
     rw[List.take_of_length_le (by rw[HLN.out];exact Nat.le_refl _)]at hrow'
     have hlen0:(clsF (n+3) g ++ lms.map Prod.fst).length≤20000:=HFEW.out.l1
     obtain⟨a8,c8,ev,hs8⟩:=hrow'.slot (by omega)
     subst ev
     have hcl:=clies_of hs8 (B:=wo.heap.size) (fun b hb=>by
      rcases hb with hb | hb
      ·exact(hrow'.ok b hb).1
      ·exact(hrow'.lt b hb).2)
     have HZ0:Hid (∀q,q<lms.length→ks q=0):=fun q hq=>hz0.out q (by rw[HLN.out]at hq;exact hq)
     have g1:Prp.GivenC wo a8 (clsF (n+3) g ++ lms.map Prod.fst).length (clsF (n+3) g ++ lms.map Prod.fst):=⟨rfl,by omega,hcl,fun q hq=>by
      have:=HFEW.out.k1 _ (Prp.getD_memC hq);omega⟩
     have g2:Prp.GivenC wo ra rn ss:=⟨HRN.out,by omega,HRC.out wo TR.out.bel,fun q hq=>by
      have:=HFEW.out.k2 _ (Prp.getD_memC (by rw[HRN.out];exact hq));omega⟩
     have HRU:=Lib.hid (Prp.rup_any HBE.out N a8 (clsF (n+3) g ++ lms.map Prod.fst).length c8 (clsF (n+3) g ++ lms.map Prod.fst) ra rn rcap ss wo g1 g2 HFEW.out)
     obtain⟨_,d0,d1,m0,m1,m2,_⟩:=TR.out
     clear hrow' hrow hcl g1 g2 hs8 hlen0 HLM HRC HKS
     generalize (clsF (n+3) g ++ lms.map Prod.fst).length=cl at*
     go_wp2_with fail
     refine HRU.out.mono ?_
     rintro e w11 ⟨er,x,at',rfl,hri,her,hb11⟩
     have HEN:Hid (CheckEndG (nrmK (n+1) f) (cnfK (n+3) g) ks lms.length (makF (n+3) g).n (clsF (n+3) g ++ lms.map Prod.fst) ss w (.returned er) w11):=Lib.hid ⟨er,x,at',rfl,.rup x at' HK0.out HCC.out HZ0.out (by rw[←HNN.out];exact hri),errIs_low her TR.out.bel.size,TR.out.bel.trans (hb11.mono TR.out.bel.size)⟩
     clear hri her hb11 HRU
     go_wp2_with fail
     go_ret
     exact HEN.out
  ·have e6:=hbad hc
   subst e6
   have hA7:Below w6.heap.size w6 (w6.alloc (.cells #[.int .i64 0,.slice none 0 0,.slice none 0 0] 71)):=(Below.refl _ _).alloc (Nat.le_refl _) _
   have HEN:Hid (CheckEndG (nrmK (n+1) f) (cnfK (n+3) g) ks lms.length (makF (n+3) g).n (clsF (n+3) g ++ lms.map Prod.fst) ss w (.returned (.iface 60 (.int .i64 (cnfK (n+3) g)))) (w6.alloc (.cells #[.int .i64 0,.slice none 0 0,.slice none 0 0] 71))):=
    Lib.hid ⟨_,_, -1,rfl,.cnf HK0.out hc,⟨fun _=>by show _=Prp.codeV _;unfold Prp.codeV;rw[if_neg hc],fun h=>absurd h (by decide)⟩,HB6.out.trans (hA7.mono HB6.out.size)⟩
   clear hbad hok hb6 hc hA7 HM4 E0 E1
   generalize cnfK (n+3) g=kk at*
   go_wp2_with fail
   go_ret
   exact HEN.out
 ·have HEN:Hid (CheckEndG (nrmK (n+1) f) (cnfK (n+3) (nrmT (n+1) f)) ks lms.length (makF (n+3) (nrmT (n+1) f)).n (clsF (n+3) (nrmT (n+1) f) ++ lms.map Prod.fst) ss w (.returned (codeV (nrmK (n+1) f))) (w3.alloc (.cells #[.int .i64 k3,.int .i64 c3,.slice ta3 tn3 tcap3,.slice ka3 kn3 kcap3] 39))):=
   Lib.hid ⟨_,_, -1,rfl,.norm hk0,⟨fun _=>rfl,fun h=>absurd h (by decide)⟩,HB4.out⟩
  rw[hkv]at HEN⊢
  clear hk0 hkv HMK HF4 HO E0 E1 HB4 HZ4
  go_wp2_with fail
  go_ret
  exact HEN.out
end
section
open Go.RowKit
def UpSaid10:Prop:=∀w:World,Tens w.heap.size w→Prp.Laid0 w→Calls Tryz.prog 8 #[] w fun e w'=>e= .returned (.bool true)∧Below w.heap.size w w'
def fF:FT:= .mk 1 0 [] []
def fT:FT:= .mk 0 0 [] []
theorem exA:Prp.RupIs 1 [[-1],[1]] [[]] 0 (-1):=by
 refine .yes (by decide) (by decide) (fun j hj=> ?_) (by simp)
 have:j=0:=by simpa using hj
 subst this
 refine .inr ⟨1,.rule (c:=[1]) (by simp) (by simp) (fun y hy hne=>absurd (by simpa using hy) hne),.rule (c:=[-1]) (by simp) (by simp) (fun y hy hne=>absurd (by simpa using hy) hne)⟩
theorem exB:Prp.RupIs 1 [[1],[1]] [[]] 9 0:=by
 refine .step 0 (by decide) (by decide) (by decide) (fun j hj=>absurd hj (Nat.not_lt_zero j)) ?_
 refine Prp.Conf.not (v:=fun l=>0<l) (fun l h=>by omega) (fun c hc=> ?_) (fun l hl=> ?_)
 ·have:c=[1]:=by simpa using hc
  subst this;exact⟨1,by simp,by decide⟩
 ·simp[Prp.negs]at hl
theorem upA {ks:Nat→Int}{x at':Int}(h:CertIs (nrmK (0+1) fF) (cnfK (0+3) (nrmT (0+1) fF)) ks ([]:List (List Int×List (List (Int×Int)×Int))).length (makF (0+3) (nrmT (0+1) fF)).n (clsF (0+3) (nrmT (0+1) fF) ++ ([]:List (List Int×List (List (Int×Int)×Int))).map Prod.fst) [[]] x at'):x=0∧at'= -1:=by
 have e1:nrmK (0+1) fF=0:=by decide
 have e2:cnfK (0+3) (nrmT (0+1) fF)=0:=by decide
 have e3:(makF (0+3) (nrmT (0+1) fF)).n=1:=by decide
 have e4:clsF (0+3) (nrmT (0+1) fF) ++ ([]:List (List Int×List (List (Int×Int)×Int))).map Prod.fst=[[-1],[1]]:=by decide
 rw[e1,e2,e3,e4]at h
 exact h.unique (.rup 0 (-1) rfl rfl (fun i hi=>absurd hi (Nat.not_lt_zero _)) exA)
theorem upB {ks:Nat→Int}{x at':Int}(h:CertIs (nrmK (0+1) fT) (cnfK (0+3) (nrmT (0+1) fT)) ks ([]:List (List Int×List (List (Int×Int)×Int))).length (makF (0+3) (nrmT (0+1) fT)).n (clsF (0+3) (nrmT (0+1) fT) ++ ([]:List (List Int×List (List (Int×Int)×Int))).map Prod.fst) [[]] x at'):x=9∧at'=0:=by
 have e1:nrmK (0+1) fT=0:=by decide
 have e2:cnfK (0+3) (nrmT (0+1) fT)=0:=by decide
 have e3:(makF (0+3) (nrmT (0+1) fT)).n=1:=by decide
 have e4:clsF (0+3) (nrmT (0+1) fT) ++ ([]:List (List Int×List (List (Int×Int)×Int))).map Prod.fst=[[1],[1]]:=by decide
 rw[e1,e2,e3,e4]at h
 exact h.unique (.rup 9 0 rfl rfl (fun i hi=>absurd hi (Nat.not_lt_zero _)) exB)
def uW (w:World):World:=((w.alloc (.cells #[] 3)).alloc (.cells #[.slice (some ⟨w.heap.size,0,none⟩) 0 0] 23)).alloc (.cells #[.slice none 0 0,.slice (some ⟨w.heap.size+1,0,none⟩) 1 1] 43)
theorem u_given (w:World):Prp.CLies (uW w).heap.size (uW w) (some ⟨w.heap.size+1,0,none⟩) [[]]∧Below w.heap.size w (uW w)∧w.heap.size+2<(uW w).heap.size∧(uW w).cell? ⟨w.heap.size+1+1,0,none⟩=some (.slice none 0 0)∧(uW w).cell? ⟨w.heap.size+1+1,1,none⟩=some (.slice (some ⟨w.heap.size+1,0,none⟩) 1 1):=by
 have hz:(uW w).heap.size=w.heap.size+3:=by simp[uW]
 have h1:(uW w).heap[w.heap.size+1]? =some (.cells #[.slice (some ⟨w.heap.size,0,none⟩) 0 0] 23 (0,0)):=(by simp only[uW,Prp.heap_at,World.size_alloc];repeat (first | rw[if_pos trivial] | rw[if_pos (by omega)] | rw[if_neg (by omega)]))
 have h2:(uW w).heap[w.heap.size+1+1]? =some (.cells #[.slice none 0 0,.slice (some ⟨w.heap.size+1,0,none⟩) 1 1] 43 (0,0)):=(by simp only[uW,Prp.heap_at,World.size_alloc];repeat (first | rw[if_pos trivial] | rw[if_pos (by omega)] | rw[if_neg (by omega)]))
 have hb:Below w.heap.size w (uW w):=by
  unfold uW
  refine Below.alloc (Below.alloc (Below.alloc (Below.refl _ _) ?_ _) ?_ _) ?_ _<;>simp<;>omega
 generalize uW w=W at hz h1 h2 hb⊢
 refine⟨fun i hi=> ?_,hb,by omega,(cell_of_row _ _ _ _ _ _ h2).trans rfl,(cell_of_row _ _ _ _ _ _ h2).trans rfl⟩
 match i,hi with
 | 0,_=>exact⟨_,0,_,_,rfl,by omega,(cell_of_row _ _ _ _ _ _ h1).trans rfl,fun i hi=>absurd hi (Nat.not_lt_zero i)⟩
theorem easy0:EasyC [] [[]]:=⟨by decide,fun i hi=>absurd hi (Nat.not_lt_zero i),by decide,fun i hi=>by
 match i,hi with
 | 0,_=>decide⟩
theorem up_said10 (hbeg:Prp.BeginSaid):UpSaid10:=fun w ht hg=>by
 obtain⟨u1,u2,u3,u4,u5⟩:=u_given w
 have H1:=Lib.hid (check_cert hbeg 0 fF _ none 0 0 [] (some ⟨w.heap.size+1,0,none⟩) 1 1 [[]] (fun _=>0) (uW w) (flies_leafU (uW w).heap.size (uW w) 1 0 [] none 0 (Nat.zero_le _) (fun i hi=>absurd hi (Nat.not_lt_zero i))) (ht.up u2 u2.size) (hg.below u2 hg.pos) rfl (fun i hi=>absurd hi (Nat.not_lt_zero i)) rfl u1 easy0 (fun i hi=>absurd hi (Nat.not_lt_zero i)))
 have H2:=Lib.hid (fun W (hb:Below (uW w).heap.size (uW w) W)=>check_cert hbeg 0 fT _ none 0 0 [] (some ⟨w.heap.size+1,0,none⟩) 1 1 [[]] (fun _=>0) W (flies_leafU W.heap.size W 0 0 [] none 0 (Nat.zero_le _) (fun i hi=>absurd hi (Nat.not_lt_zero i))) (ht.up (u2.trans (hb.mono u2.size)) (u2.trans (hb.mono u2.size)).size) (hg.below (u2.trans (hb.mono u2.size)) hg.pos) rfl (fun i hi=>absurd hi (Nat.not_lt_zero i)) rfl ((u1.below hb).mono hb.size) easy0 (fun i hi=>absurd hi (Nat.not_lt_zero i)))
 have HG:=Lib.hid hg
 have HB:=Lib.hid u2
 have HC:Hid (∀W,Below (uW w).heap.size (uW w) W→W.cell? ⟨w.heap.size+1+1,0,none⟩=some (.slice none 0 0)∧W.cell? ⟨w.heap.size+1+1,1,none⟩=some (.slice (some ⟨w.heap.size+1,0,none⟩) 1 1)):=fun W hb=>⟨(hb.cell (p:=⟨w.heap.size+1+1,0,none⟩) u3).trans u4,(hb.cell (p:=⟨w.heap.size+1+1,1,none⟩) u3).trans u5⟩
 have q1:=fun W=>Tryz.eqNilNil W
 have HU:Hid (((w.alloc (.cells #[] 3)).alloc (.cells #[.slice (some ⟨w.heap.size,0,none⟩) 0 0] 23)).alloc (.cells #[.slice none 0 0,.slice (some ⟨w.heap.size+1,0,none⟩) 1 1] 43)=uW w):=Lib.hid rfl
 clear u1 u2 u3 u4 u5 hbeg hg ht
 go_enter Tryz.func8,Tryz.ntmps8
 go_wp2_with fail
 rw[HU.out]
 refine H1.out.mono ?_
 rintro e w1 ⟨er,x,at',rfl,hr,he,hb1⟩
 obtain⟨rfl,rfl⟩:=upA hr
 have he2:er= .nilIface:=he.1 (by decide)
 subst he2
 obtain⟨d0,d1⟩:=HC.out _ hb1
 have H3:=Lib.hid (H2.out _ hb1)
 have B1:=Lib.hid (HB.out.trans (hb1.mono HB.out.size))
 clear hr he hb1 H1 H2 HC HU HB
 go_wp2_with fail
 refine H3.out.mono ?_
 rintro e w2 ⟨er,x,at',rfl,hr,he,hb2⟩
 obtain⟨rfl,rfl⟩:=upB hr
 obtain⟨g,rfl,hg1,hg2,c1,c2⟩:=he.2 (by decide)
 have B2:=Lib.hid (B1.out.trans (hb2.mono B1.out.size))
 have HIS:=Lib.hid (Prp.sis_any g 0 9 w2 (HG.out.below B2.out HG.out.pos) hg2 c1 c2)
 clear hr he hb2 H3 c1 c2 d0 d1
 go_wp2_with fail
 refine HIS.out.mono ?_
 rintro e w3 ⟨rfl,hb3⟩
 have B3:=Lib.hid (B2.out.trans (hb3.mono B2.out.size))
 clear hb3 HIS
 go_wp2_with fail
 go_ret
 exact⟨rfl,B3.out⟩
def LightEnd (lms:List (List Int×List (List (Int×Int)×Int)))(ss:List (List Int))(w:World)(e:Ending)(w':World):Prop:=∃b,e= .returned (.bool b)∧Below w.heap.size w w'∧(b=true→EasyC lms ss)
theorem light_no {lms:List (List Int×List (List (Int×Int)×Int))}{ss:List (List Int)}{w W:World}(hb:Below w.heap.size w W):LightEnd lms ss w (.returned (.bool false)) W:=⟨false,rfl,hb,fun h=>by cases h⟩
theorem rlight_any (la:Option Addr)(ln lcap:Nat)(lms:List (List Int×List (List (Int×Int)×Int)))(ra:Option Addr)(rn rcap:Nat)(ss:List (List Int))(w:World)(hln:lms.length=ln)(hL:LmLies w.heap.size w la lms)(hrn:ss.length=rn)(hR:Prp.CLies w.heap.size w ra ss)(hl63:ln≤9223372036854775807)(hr63:rn≤9223372036854775807)(hcl:∀i,i<rn→(ss.getD i []).length≤9223372036854775807):
 Calls Tryz.prog 28 #[.agg #[.slice la ln lcap,.slice ra rn rcap]] w (LightEnd lms ss w):=by
 have hA:Below w.heap.size w (w.alloc (.cells #[.slice la ln lcap,.slice ra rn rcap] 43)):=(Below.refl _ w).alloc (Nat.le_refl _) _
 have hn:=heap_alloc_new w (.cells #[.slice la ln lcap,.slice ra rn rcap] 43)
 have d0:(w.alloc (.cells #[.slice la ln lcap,.slice ra rn rcap] 43)).cell? ⟨w.heap.size,0,none⟩=some (.slice la ln lcap):=(cell_of_row _ _ _ _ _ _ hn).trans rfl
 have d1:(w.alloc (.cells #[.slice la ln lcap,.slice ra rn rcap] 43)).cell? ⟨w.heap.size,1,none⟩=some (.slice ra rn rcap):=(cell_of_row _ _ _ _ _ _ hn).trans rfl
 have HL:=Lib.hid (hL.below hA (Nat.le_refl _))
 have HR:=Lib.hid (hR.below hA)
 have HA:=Lib.hid hA
 have HLN:=Lib.hid hln
 have HRN:=Lib.hid hrn
 have HCL:=Lib.hid hcl
 clear hL hR hA hn hln hrn hcl
 by_cases h1:40<ln
 ·have h1':(40:Int)<(ln:Int):=by omega
  go_enter Tryz.func28,Tryz.ntmps28
  go_wp2_with fail
  go_ret
  exact light_no HA.out
 ·have h1':decide ((40:Int)<(ln:Int))=false:=decide_eq_false (by omega)
  by_cases h2:60<rn
  ·have h2':(60:Int)<(rn:Int):=by omega
   go_enter Tryz.func28,Tryz.ntmps28
   go_wp2_with fail
   go_ret
   exact light_no HA.out
  ·have h2':decide ((60:Int)<(rn:Int))=false:=decide_eq_false (by omega)
   go_enter Tryz.func28,Tryz.ntmps28
   go_wp2_with fail
   generalize w.alloc (.cells #[.slice la ln lcap,.slice ra rn rcap] 43)=W at*
   go_loop [3] (fun i=>∃j:Nat,j≤ln∧i= .int .i64 j∧Hid (∀q,q<j→(lms.getD q ([],[])).1.length≤40∧(lms.getD q ([],[])).2.length≤60)) (fun i=>ln - (intOf i).toNat)
   case atStart=>exact⟨0,Nat.zero_le _,rfl,fun q hq=>absurd hq (Nat.not_lt_zero _)⟩
   case round=>
    obtain⟨j,hj,rfl,hok⟩:=hrel
    by_cases hlt:j<ln
    ·obtain⟨b,off,ta,tcap,sa,scap,rfl,hbl,c0,c1,⟨hm1,hm2⟩,hsi,hsl⟩:=HL.out j (by rw[HLN.out];exact hlt)
     have HOK:Hid ((lms.getD j ([],[])).1.length≤40→(lms.getD j ([],[])).2.length≤60→∀q,q<j+1→(lms.getD q ([],[])).1.length≤40∧(lms.getD q ([],[])).2.length≤60):=fun g1 g2 q hq=>by
      by_cases e:q=j
      ·subst e;exact⟨g1,g2⟩
      ·exact hok.out q (by omega)
     generalize (lms.getD j ([],[])).1.length=l1 at*
     generalize (lms.getD j ([],[])).2=sp at*
     have HSL:=Lib.hid hsl
     clear hsi hsl
     by_cases g1:40<l1
     ·have g1':(40:Int)<(l1:Int):=by omega
      go_wp2_with fail
      go_ret
      exact light_no HA.out
     ·have g1':decide ((40:Int)<(l1:Int))=false:=decide_eq_false (by omega)
      by_cases g2:60<sp.length
      ·have g2':(60:Int)<(sp.length:Int):=by omega
       go_wp2_with fail
       go_ret
       exact light_no HA.out
      ·have g2':decide ((60:Int)<(sp.length:Int))=false:=decide_eq_false (by omega)
       have HOK2:=Lib.hid (HOK.out (by omega) (by omega))
       clear HOK
       obtain⟨sl,hsl⟩:∃sl,sl=sp.length:=⟨_,rfl⟩
       have HSN:=Lib.hid hsl
       rw[←hsl]at g2 g2' c1 hm2
       clear hsl
       go_wp2_with fail
       go_loop [4] (fun i=>∃q:Nat,q≤sl∧i= .int .i64 q) (fun i=>sl - (intOf i).toNat)
       case atStart=>exact⟨0,Nat.zero_le _,rfl⟩
       case round=>
        obtain⟨q,hq,rfl⟩:=hrel
        by_cases hql:q<sl
        ·obtain⟨b2,off2,ta2,tcap2,rfl,hb2,hpm,e0,e1,_⟩:=HSL.out q (by rw[←HSN.out];exact hql)
         generalize (sp.getD q ([],0)).1.length=pl at*
         by_cases g3:70<pl
         ·have g3':(70:Int)<(pl:Int):=by omega
          go_wp2_with fail
          go_ret
          exact light_no HA.out
         ·have g3':decide ((70:Int)<(pl:Int))=false:=decide_eq_false (by omega)
          go_wp2_with fail
          go_round
          case rel=>exact⟨q+1,by omega,by go_num⟩
          case measure=>simp[intOf];omega
        ·obtain rfl:q=sl:=by omega
         go_wp2_with fail
         go_round
         case rel=>exact⟨j+1,by omega,by go_num,HOK2⟩
         case measure=>simp[intOf];omega
    ·obtain rfl:j=ln:=by omega
     have HK1:=hok
     clear HL hok
     go_wp2_with fail
     go_loop [5] (fun i=>∃q:Nat,q≤rn∧i= .int .i64 q∧Hid (∀p,p<q→(ss.getD p []).length≤60)) (fun i=>rn - (intOf i).toNat)
     case atStart=>exact⟨0,Nat.zero_le _,rfl,fun q hq=>absurd hq (Nat.not_lt_zero _)⟩
     case round=>
      obtain⟨q,hq,rfl,hok⟩:=hrel
      by_cases hql:q<rn
      ·obtain⟨b,off,ta,tcap,rfl,hbl,c0,_⟩:=HR.out q (by rw[HRN.out];exact hql)
       have hcq:=HCL.out q hql
       have HOK:Hid ((ss.getD q []).length≤60→∀p,p<q+1→(ss.getD p []).length≤60):=fun g1 p hp=>by
        by_cases e:p=q
        ·subst e;exact g1
        ·exact hok.out p (by omega)
       generalize (ss.getD q []).length=l1 at*
       by_cases g1:60<l1
       ·have g1':(60:Int)<(l1:Int):=by omega
        go_wp2_with fail
        go_ret
        exact light_no HA.out
       ·have g1':decide ((60:Int)<(l1:Int))=false:=decide_eq_false (by omega)
        have HOK2:=Lib.hid (HOK.out (by omega))
        clear HOK
        go_wp2_with fail
        go_round
        case rel=>exact⟨q+1,by omega,by go_num,HOK2⟩
        case measure=>simp[intOf];omega
      ·obtain rfl:q=rn:=by omega
       have HE:Hid (EasyC lms ss):=⟨by rw[HLN.out];omega,fun i hi=>HK1.out i (by rw[HLN.out]at hi;exact hi),by rw[HRN.out];omega,fun i hi=>hok.out i (by rw[HRN.out]at hi;exact hi)⟩
       go_wp2_with fail
       go_ret
       exact⟨true,rfl,HA.out,fun _=>HE.out⟩
end
section
open Go.RowKit
def RowAtS (S:Nat→Prop)(w:World)(a:Option Addr)(vs:List Value):Prop:=
 ∀j u,vs[j]? =some u→∃b off,a=some ⟨b,off,none⟩∧S b∧w.cell? ⟨b,off+j,none⟩=some u
theorem run_copy_two {P:Program}(w:World)(t ty e:TypeId)(i:TypeInfo)(z:Value)(ht:P.underlying t=some (.slice e))(hi:P.info? e=some i)(hz:i.zero=some z)(hs:i.size=2)(hby:i.bytes=32)(hzs:z.cells.size=2)
 (g:Nat) (a:Option Addr) (n cap:Nat) (vs:List Value) (hn:vs.length=n*2) (hone:∀u∈vs,u.oneCell'=true) (hl:RowAtS (fun b=>b<w.heap.size) w a vs) (hsz:n*32≤140737488351232):
 ∃a' cap' w',(Builtin.append_ #[t,t] ty #[.slice (some ⟨g,0,none⟩) 0 0,.slice a n cap]).run P w= .ok (.slice a' n cap') w'∧Below w.heap.size w w'∧RowAtS (fun b=>w.heap.size≤b∧b<w'.heap.size) w' a' vs:=by
 have h2:maxLen=9223372036854775807:=rfl
 have key:∀(x:Value),Src P i.size t x n vs w→∃a' cap' w',(Builtin.append_ #[t,t] ty #[.slice (some ⟨g,0,none⟩) 0 0,x]).run P w= .ok (.slice a' n cap') w'∧Below w.heap.size w w'∧RowAtS (fun b=>w.heap.size≤b∧b<w'.heap.size) w' a' vs:=fun x hsrc=>by
  by_cases h0:n=0
  ·have hz0:vs=[]:=List.eq_nil_of_length_eq_zero (by omega)
   subst hz0
   subst h0
   have hr:=run_append_room_src (P:=P) w t t ty e i ht hi g 0 0 0 x 0 [] hsrc (Nat.le_refl _) (fun j hj=>absurd hj (by simp)) (fun j hj=>absurd hj (by simp))
   exact⟨_,_,_,hr,Below.refl _ _,fun j u hu=>by cases hu⟩
  ·have holds:(Builtin.firstCells i.size 0 (.slice (some ⟨g,0,none⟩) 0 0)).run P w.drew= .ok ([]:List Value).toArray w.drew:=run_firstCells_some w.drew i.size 0 ⟨g,0,none⟩ 0 0 [] (by simp) (fun j v h=>by cases h)
   have hr:=run_append_grow_src (P:=P) w t t ty e i z ht hi hz (some ⟨g,0,none⟩) 0 0 [] holds x n vs hsrc (by omega) (by omega) (by
    have:=nextslicecap_le (need:=0+n) (old:=0) (by omega)
    rw[hby];omega)
   have hnew:=heap_alloc_new w.drew (.cells ((([]:List Value) ++ vs).toArray ++ Builtin.zeroCells z.cells (grownCap w (0+n) 0 e - (0+n))) e)
   rw[Nat.zero_add]at hr hnew
   have hcl2:=fun j=>cell_of_row (w.drew.alloc (.cells ((([]:List Value) ++ vs).toArray ++ Builtin.zeroCells z.cells (grownCap w n 0 e - n)) e)) w.heap.size j _ e _ hnew
   refine⟨some ⟨w.heap.size,0,none⟩,_,_,hr, ?_, ?_⟩
   ·exact⟨rfl,rfl,rfl,by simp,fun k hk=>heap_alloc_old w.drew _ hk⟩
   ·intro j u hj
    have hjl:=(List.getElem?_eq_some_iff.1 hj).1
    refine⟨w.heap.size,0,rfl,⟨Nat.le_refl _,by simp⟩, ?_⟩
    rw[Nat.zero_add,hcl2 j,List.nil_append,Array.getElem?_append_left (by simp;omega),List.getElem?_toArray]
    exact hj
 cases a with
 | none=>
   have hz0:vs=[]:=by
    cases vs with
    | nil=>rfl
    | cons y r=>obtain⟨_,_,e,_⟩:=hl 0 y rfl;cases e
   subst hz0
   simp only[List.length_nil]at hn
   obtain rfl:n=0:=by omega
   exact key _ (Src.ofNil w ht cap)
 | some a=>
   refine key _ (Src.ofSlice w ht a n cap _ (by rw[hs,hn]) (fun j u hj=> ?_) hone)
   obtain⟨b,off,e1,hlt,hc⟩:=hl j u hj
   injection e1 with e1
   subst e1
   have e2:(⟨b,off,none⟩:Addr).add j=⟨b,off+j,none⟩:=by unfold Addr.add;split<;>simp_all
   rw[e2,hc]
def stepCSh:Pak.Sh (Value×Int) where
 k:=2
 rel:=fun _ _ cs x=>cs=[x.1,.int .i64 x.2]∧x.1.oneCell'=true
 len:=fun h=>by rw[h.1];rfl
 one:=fun h u hu=>by rw[h.1]at hu;simp at hu;rcases hu with rfl | rfl;exact h.2;rfl
 keep:=fun _ _ h=>h
def lemCSh:Pak.Sh (List Int×List (Value×Int)) where
 k:=2
 rel:=fun S w cs x=>∃v u,cs=[v,u]∧Pak.Slot Pak.intSh S w v x.1∧Pak.Slot stepCSh S w u x.2
 len:=fun⟨v,u,h,_⟩=>by rw[h];rfl
 one:=fun⟨v,z,h,h2,h3⟩ u hu=>by rw[h]at hu;simp at hu;rcases hu with rfl | rfl;exact h2.one;exact h3.one
 keep:=fun hS hk ⟨v,u,h,h2,h3⟩=>⟨v,u,h,h2.keep hS hk,h3.keep hS hk⟩
def PartsAt (B:Nat)(w:World)(s:List (Int×Int)×Int)(c:Value×Int):Prop:=c.2=s.2∧∃ta tcap,c.1= .slice ta s.1.length tcap∧Pak.Sits Pak.partSh (Pak.Lo B) w ta s.1
def SameLem (B:Nat)(w:World)(lm:List Int×List (List (Int×Int)×Int))(lc:List Int×List (Value×Int)):Prop:=
 lc.1=lm.1∧lc.2.length=lm.2.length∧∀(j:Nat) (h:j<lm.2.length) (h2:j<lc.2.length),PartsAt B w lm.2[j] lc.2[j]
theorem steps_c {B:Nat}{w:World}{a:Option Addr}{ss:List (List (Int×Int)×Int)}(h:Pak.Sits Pak.stepSh (Pak.Lo B) w a ss):∃sc:List (Value×Int),Pak.Sits stepCSh (Pak.Lo B) w a sc∧sc.length=ss.length∧∀(j:Nat) (h:j<ss.length) (h2:j<sc.length),PartsAt B w ss[j] sc[j]:=by
 obtain⟨sc,hlen,hp⟩:=Pak.list_ofC ss.length (fun i (y:Value×Int)=>∃b off,a=some ⟨b,off,none⟩∧b<B∧w.cell? ⟨b,off+i*2,none⟩=some y.1∧w.cell? ⟨b,off+i*2+1,none⟩=some (.int .i64 y.2)∧y.1.oneCell'=true∧∀(hi:i<ss.length),PartsAt B w ss[i] y) (fun i hi=>by
  obtain⟨b,off,us,e,hb,hc,v,rfl,_,hsl⟩:=h.2 i hi
  have e1:Pak.stepSh.k=2:=rfl
  have c0:=hc 0 _ rfl
  have c1:=hc 1 _ rfl
  rw[e1,Nat.add_zero]at c0
  rw[e1]at c1
  refine⟨(v,(ss[i]).2),b,off,e,hb,c0,c1,hsl.one,fun _=> ?_⟩
  obtain⟨ta,tcap,rfl,hn⟩:=hsl
  exact⟨rfl,ta,tcap,rfl,hn⟩)
 refine⟨sc,⟨by rw[hlen];exact h.1,fun i hi=> ?_⟩,hlen,fun j hj hj2=> ?_⟩
 ·obtain⟨b,off,e,hb,c0,c1,ho,_⟩:=hp i hi
  refine⟨b,off,[sc[i].1,.int .i64 sc[i].2],e,hb,fun j u hu=> ?_,rfl,ho⟩
  rw[show stepCSh.k=2 from rfl]
  match j,hu with
  | 0,hu=>obtain rfl:=Option.some.inj hu;exact c0
  | 1,hu=>obtain rfl:=Option.some.inj hu;exact c1
 ·obtain⟨_,_,_,_,_,_,_,hq⟩:=hp j hj2
  exact hq hj
theorem lems_c {B:Nat}{w:World}{a:Option Addr}{lms:List (List Int×List (List (Int×Int)×Int))}(h:Pak.Sits Pak.lemSh (Pak.Lo B) w a lms):∃lc:List (List Int×List (Value×Int)),Pak.Sits lemCSh (Pak.Lo B) w a lc∧lc.length=lms.length∧∀(j:Nat) (h:j<lms.length) (h2:j<lc.length),SameLem B w lms[j] lc[j]:=by
 obtain⟨lc,hlen,hp⟩:=Pak.list_ofC lms.length (fun i (y:List Int×List (Value×Int))=>∃b off v u,a=some ⟨b,off,none⟩∧b<B∧w.cell? ⟨b,off+i*2,none⟩=some v∧w.cell? ⟨b,off+i*2+1,none⟩=some u∧Pak.Slot Pak.intSh (Pak.Lo B) w v y.1∧Pak.Slot stepCSh (Pak.Lo B) w u y.2∧∀(hi:i<lms.length),SameLem B w lms[i] y) (fun i hi=>by
  obtain⟨b,off,us,e,hb,hc,v,u,rfl,h1,sa,scap,rfl,hs⟩:=h.2 i hi
  have e1:Pak.lemSh.k=2:=rfl
  have c0:=hc 0 _ rfl
  have c1:=hc 1 _ rfl
  rw[e1,Nat.add_zero]at c0
  rw[e1]at c1
  obtain⟨sc,q1,q2,q3⟩:=steps_c hs
  exact⟨((lms[i]).1,sc),b,off,v,_,e,hb,c0,c1,h1,⟨sa,scap,by rw[q2],q1⟩,fun _=>⟨rfl,q2,q3⟩⟩)
 refine⟨lc,⟨by rw[hlen];exact h.1,fun i hi=> ?_⟩,hlen,fun j hj hj2=> ?_⟩
 ·obtain⟨b,off,v,u,e,hb,c0,c1,h1,h2,_⟩:=hp i hi
  refine⟨b,off,[v,u],e,hb,fun j x hu=> ?_,v,u,rfl,h1,h2⟩
  rw[show lemCSh.k=2 from rfl]
  match j,hu with
  | 0,hu=>obtain rfl:=Option.some.inj hu;exact c0
  | 1,hu=>obtain rfl:=Option.some.inj hu;exact c1
 ·obtain⟨_,_,_,_,_,_,_,_,_,_,hq⟩:=hp j hj2
  exact hq hj
theorem lmlies_c {B B':Nat}{w w':World}{a:Option Addr}{lms:List (List Int×List (List (Int×Int)×Int))}{lc:List (List Int×List (Value×Int))}(h:Pak.Sits lemCSh (Pak.Lo B') w' a lc)(hlen:lc.length=lms.length)(hs:∀(j:Nat) (h:j<lms.length) (h2:j<lc.length),SameLem B w lms[j] lc[j])(hb:Below B w w')(hB:B≤B'):LmLies B' w' a lms:=fun i hi=>by
 have hi2:i<lc.length:=by omega
 obtain⟨b,off,us,e,hlt,hc,v,u,rfl,⟨ta,tcap,rfl,hn⟩,⟨sa,scap,rfl,hst⟩⟩:=h.2 i hi2
 obtain⟨q1,q2,q3⟩:=hs i hi hi2
 have e1:lemCSh.k=2:=rfl
 have c0:=hc 0 _ rfl
 have c1:=hc 1 _ rfl
 rw[e1,Nat.add_zero]at c0
 rw[e1]at c1
 rw[q1]at c0 hn
 rw[q2]at c1
 rw[List.getD_eq_getElem?_getD,List.getElem?_eq_getElem hi,Option.getD_some]
 refine⟨b,off,ta,tcap,sa,scap,e,hlt,c0,c1,⟨hn.1,by rw[←q2];exact hst.1⟩,hn,fun j hj=> ?_⟩
 have hj2:j<(lc[i]).2.length:=by omega
 obtain⟨b2,off2,us2,e2,hlt2,hc2,rfl,_⟩:=hst.2 j hj2
 obtain⟨r1,pa,pcap,r2,r3⟩:=q3 j hj hj2
 have f1:stepCSh.k=2:=rfl
 have d0:=hc2 0 _ rfl
 have d1:=hc2 1 _ rfl
 rw[f1,Nat.add_zero,r2]at d0
 rw[f1,r1]at d1
 rw[List.getD_eq_getElem?_getD,List.getElem?_eq_getElem hj,Option.getD_some]
 exact⟨b2,off2,pa,pcap,e2,hlt2,r3.1,d0,d1,lies_of_parts (r3.below hb hB) (fun b hb=>hb)⟩
end
section
open Go.RowKit
theorem errIs_iface {B:Nat}{x at':Int}{er:Value}{w:World}(h:Prp.ErrIs B x at' er w)(hx:x≠0):∃t v,er= .iface t v:=by
 by_cases ha:at'<0
 ·have e:er=Prp.codeV x:=h.1 ha
  unfold Prp.codeV at e
  rw[if_neg hx]at e
  exact⟨_,_,e⟩
 ·obtain⟨g,e,_⟩:=h.2 (by omega)
  exact⟨_,_,e⟩
structure GivenK (n:Nat)(f:FT)(cs:List Value)(la:Option Addr)(ln:Nat)(lms:List (List Int×List (List (Int×Int)×Int)))(ra:Option Addr)(rn:Nat)(ss:List (List Int))(w:World):Prop where
 f:FLies w.heap.size w (n+1) f cs
 eln:lms.length=ln
 l:LmLies w.heap.size w la lms
 ern:ss.length=rn
 r:Prp.CLies w.heap.size w ra ss
 l63:ln≤9223372036854775807
 r63:rn≤9223372036854775807
 cl:∀i,i<rn→(ss.getD i []).length≤9223372036854775807
theorem GivenK.below {n:Nat}{f:FT}{cs:List Value}{la:Option Addr}{ln:Nat}{lms:List (List Int×List (List (Int×Int)×Int))}{ra:Option Addr}{rn:Nat}{ss:List (List Int)}{w W:World}(h:GivenK n f cs la ln lms ra rn ss w)(hb:Below w.heap.size w W):GivenK n f cs la ln lms ra rn ss W:=
 ⟨(h.f.below hb).mono hb.size,h.eln,h.l.below hb hb.size,h.ern,(h.r.below hb).mono hb.size,h.l63,h.r63,h.cl⟩
end
end Go.Proofs.YtipahfcaplbifaaGreatDoor
