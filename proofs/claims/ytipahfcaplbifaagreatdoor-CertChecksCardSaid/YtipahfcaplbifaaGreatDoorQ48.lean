/- Parts of a proof. -/
import Derived.Test.YtipahfcaplbifaaGreatDoorQ23
import Derived.Test.YtipahfcaplbifaaGreatDoorQ44
import Derived.Test.YtipahfcaplbifaaGreatDoorQ45
import Derived.Test.YtipahfcaplbifaaGreatDoorQ46
import Derived.Test.YtipahfcaplbifaaGreatDoorRows
import Derived.BigQuiet
set_option linter.unusedVariables false
set_option linter.unusedSimpArgs false
set_option maxHeartbeats 60000000
set_option maxRecDepth 100000
namespace Go.Proofs.YtipahfcaplbifaaGreatDoor
section
open Go.RowKit
def RCheckEnd (nk mk:Int)(ks:Nat→Int)(nl:Nat)(N:Int)(cl ss:List (List Int))(w:World)(e:Ending)(w':World):Prop:=
 ∃x at',e= .returned (.tuple #[.int .i64 x,.int .i64 at'])∧CertIs nk mk ks nl N cl ss x at'∧Below w.heap.size w w'
theorem atoms_short {n:Nat}{f:FT}(hi:isF n f=true){an:Nat}(han:an=(atomsF n f).length):∀i,i<an→((atomsF n f).getD i (0,[])).2.length≤9223372036854775807:=fun i h=>short_atoms hi i (by omega)
theorem rcheck_cert (n:Nat)(f:FT)(cs:List Value)(la:Option Addr)(ln lcap:Nat)(lms:List (List Int×List (List (Int×Int)×Int)))(ra:Option Addr)(rn rcap:Nat)(ss:List (List Int))(ks:Nat→Int)(w:World)(h:FLies w.heap.size w (n+1) f cs)
 (hln:lms.length=ln) (hL:LmLies w.heap.size w la lms) (hrn:ss.length=rn) (hR:Prp.CLies w.heap.size w ra ss) (hE:EasyC lms ss) (hks:∀j,j<lms.length→LemIs (atomsF (n+3) (nrmT (n+1) f)) (lms.getD j ([],[])) (ks j)):
 Calls Tryz.prog 15 #[.agg cs.toArray,.agg #[.slice la ln lcap,.slice ra rn rcap]] w (RCheckEnd (nrmK (n+1) f) (cnfK (n+3) (nrmT (n+1) f)) ks lms.length (makF (n+3) (nrmT (n+1) f)).n (clsF (n+3) (nrmT (n+1) f) ++ lms.map Prod.fst) ss w):=by
 have hh:=h
 obtain⟨ta,tcap,ka,kcap,rfl, -⟩:=h
 have FL:=Lib.hid (fun W (hb:Below w.heap.size w W)=>(hh.below hb).mono hb.size)
 have HNO:=Lib.hid (fun W (hb:Below w.heap.size w W)=>rnorm_all (n+1) f _ W (FL.out W hb))
 have HMK:=Lib.hid (fun cs W hf=>rmake_any (n+3) (nrmT (n+1) f) cs W hf)
 have HLM:=Lib.hid (fun W (hb:Below w.heap.size w W)=>hL.below hb (Nat.le_refl _))
 have HRC:=Lib.hid (fun W (hb:Below w.heap.size w W)=>(hR.below hb).mono hb.size)
 have HLN:=Lib.hid hln
 have HRN:=Lib.hid hrn
 have HE:=Lib.hid hE
 have HKS:=Lib.hid hks
 have hl40:ln≤40:=by rw[←hln];exact hE.l1
 have hr60:rn≤60:=by rw[←hrn];exact hE.l2
 clear FL hh hL hR hln hrn hE hks
 have hb0:=box_start w f.kind f.c ta ka f.t.length tcap f.ks.length kcap
 generalize f.kind=fk at*
 generalize f.c=fc at*
 generalize f.t.length=ft at*
 generalize f.ks.length=fl at*
 have hA2:Below (w.alloc (.cells #[.int .i64 fk,.int .i64 fc,.slice ta ft tcap,.slice ka fl kcap] 39)).heap.size (w.alloc (.cells #[.int .i64 fk,.int .i64 fc,.slice ta ft tcap,.slice ka fl kcap] 39)) ((w.alloc (.cells #[.int .i64 fk,.int .i64 fc,.slice ta ft tcap,.slice ka fl kcap] 39)).alloc (.cells #[.slice la ln lcap,.slice ra rn rcap] 43)):=(Below.refl _ _).alloc (Nat.le_refl _) _
 have hz1:(w.alloc (.cells #[.int .i64 fk,.int .i64 fc,.slice ta ft tcap,.slice ka fl kcap] 39)).heap.size=w.heap.size+1:=by simp
 have hn2:=heap_alloc_new (w.alloc (.cells #[.int .i64 fk,.int .i64 fc,.slice ta ft tcap,.slice ka fl kcap] 39)) (.cells #[.slice la ln lcap,.slice ra rn rcap] 43)
 rw[hz1]at hn2
 have hz2:((w.alloc (.cells #[.int .i64 fk,.int .i64 fc,.slice ta ft tcap,.slice ka fl kcap] 39)).alloc (.cells #[.slice la ln lcap,.slice ra rn rcap] 43)).heap.size=w.heap.size+2:=by simp
 have T1:=Lib.hid (hb0.below hA2 hb0.lt)
 have D0:((w.alloc (.cells #[.int .i64 fk,.int .i64 fc,.slice ta ft tcap,.slice ka fl kcap] 39)).alloc (.cells #[.slice la ln lcap,.slice ra rn rcap] 43)).cell? ⟨w.heap.size+1,0,none⟩=some (.slice la ln lcap):=(cell_of_row _ _ _ _ _ _ hn2).trans rfl
 have D1:((w.alloc (.cells #[.int .i64 fk,.int .i64 fc,.slice ta ft tcap,.slice ka fl kcap] 39)).alloc (.cells #[.slice la ln lcap,.slice ra rn rcap] 43)).cell? ⟨w.heap.size+1,1,none⟩=some (.slice ra rn rcap):=(cell_of_row _ _ _ _ _ _ hn2).trans rfl
 obtain⟨_,p0,p1,p2,p3,_⟩:=T1.out
 have HZ:=Lib.hid hz2
 clear hb0 hA2 hz1 hn2 hz2
 go_enter Tryz.func15,Tryz.ntmps15
 go_wp2_with fail
 generalize (w.alloc (.cells #[.int .i64 fk,.int .i64 fc,.slice ta ft tcap,.slice ka fl kcap] 39)).alloc (.cells #[.slice la ln lcap,.slice ra rn rcap] 43)=W2 at*
 refine(HNO.out _ T1.out.bel).mono ?_
 rintro e w3 ⟨cs3,rfl,hf3,hb3⟩
 obtain⟨k3,c3,ta3,tn3,tcap3,ka3,kn3,kcap3,rfl⟩:=hf3.form
 have hfl3:FLies w3.heap.size w3 (n+3) (nrmT (n+1) f) _:=hf3.lies (fun b hb=>hb.2)
 have hz23:w.heap.size+2≤w3.heap.size:=by have:=hb3.size;rw[HZ.out]at this;exact this
 have hb13:=T1.out.bel.trans (hb3.mono T1.out.bel.size)
 have e0:=(hb3.cell (p:=⟨w.heap.size+1,0,none⟩) (show w.heap.size+1<_ by rw[HZ.out];omega)).trans D0
 have e1:=(hb3.cell (p:=⟨w.heap.size+1,1,none⟩) (show w.heap.size+1<_ by rw[HZ.out];omega)).trans D1
 have hA3:Below w3.heap.size w3 (w3.alloc (.cells #[.int .i64 k3,.int .i64 c3,.slice ta3 tn3 tcap3,.slice ka3 kn3 kcap3] 39)):=(Below.refl _ _).alloc (Nat.le_refl _) _
 have HO:=Lib.hid (box_start w3 k3 c3 ta3 ka3 tn3 tcap3 kn3 kcap3)
 have HF4:=Lib.hid ((hfl3.below hA3).mono hA3.size)
 have HB4:=Lib.hid (hb13.trans (hA3.mono hb13.size))
 have E0:=Lib.hid ((hA3.cell (p:=⟨w.heap.size+1,0,none⟩) (show w.heap.size+1<_ by omega)).trans e0)
 have E1:=Lib.hid ((hA3.cell (p:=⟨w.heap.size+1,1,none⟩) (show w.heap.size+1<_ by omega)).trans e1)
 have HZ4:Hid (w.heap.size+2<(w3.alloc (.cells #[.int .i64 k3,.int .i64 c3,.slice ta3 tn3 tcap3,.slice ka3 kn3 kcap3] 39)).heap.size):=Lib.hid (by rw[World.size_alloc];omega)
 clear hf3 hfl3 hb3 hA3 hz23 hb13 e0 e1 D0 D1 p0 p1 p2 p3 HZ T1 HNO
 by_cases hk0:nrmK (n+1) f=0
 ·rw[hk0]
  have HK0:=Lib.hid hk0
  have HM4:=Lib.hid (HMK.out _ _ HF4.out)
  obtain⟨_,p0,p1,p2,p3,_⟩:=HO.out
  clear hk0 HMK HF4 HO
  go_wp2_with fail
  clear p0 p1 p2 p3
  generalize w3.alloc (.cells #[.int .i64 k3,.int .i64 c3,.slice ta3 tn3 tcap3,.slice ka3 kn3 kcap3] 39)=W4 at*
  generalize nrmT (n+1) f=g at*
  refine HM4.out.mono ?_
  intro e w6 hE6
  obtain⟨hbad,hok,hb6⟩:=hE6
  have HB6:=Lib.hid (HB4.out.trans (hb6.mono HB4.out.size))
  by_cases hc:cnfK (n+3) g=0
  ·obtain⟨aa,ac,ca,cc,rfl,hsa,hsc⟩:=hok hc
   have hi:=cnfK_made hc
   have HFEW:=Lib.hid (HE.out.few hi hc)
   obtain⟨q1,q2,q3,q4⟩:=cls_len hi
   have hat:=gat_sound (n+3) g [] (ret_made hi) (fun x hx=>by cases hx)
   have hla:=llies_of hsa (fun b hb=>hb)
   have HOK:Hid (Cut.lsOk (atomsF (n+3) g)):=fun i hi=>hat _ (by rw[List.getD_eq_getElem?_getD,List.getElem?_eq_getElem hi];exact List.getElem_mem hi)
   obtain⟨N,hN⟩:∃N,N=(makF (n+3) g).n:=⟨_,rfl⟩
   obtain⟨an,han⟩:∃an,an=(atomsF (n+3) g).length:=⟨_,rfl⟩
   obtain⟨m,hm⟩:∃m,m=(clsF (n+3) g).length:=⟨_,rfl⟩
   have HAS:=Lib.hid (atoms_short hi han)
   rw[←hN,←han,←hm]
   have hA6:Below w6.heap.size w6 (w6.alloc (.cells #[.int .i64 N,.slice aa an ac,.slice ca m cc] 71)):=(Below.refl _ _).alloc (Nat.le_refl _) _
   obtain⟨y0,y1,y2⟩:=tree_cells w6 (.int .i64 N) (.slice aa an ac) (.slice ca m cc)
   have hb7:=hb6.trans (hA6.mono hb6.size)
   have hzz:w6.heap.size<(w6.alloc (.cells #[.int .i64 N,.slice aa an ac,.slice ca m cc] 71)).heap.size:=by simp
   have T7:Hid (CB w (w6.alloc (.cells #[.int .i64 N,.slice aa an ac,.slice ca m cc] 71)) w6.heap.size (.int .i64 N) (.slice aa an ac) (.slice ca m cc) la ra ln lcap rn rcap):=
    ⟨⟨Nat.lt_of_lt_of_le (show w.heap.size+1<_ from Nat.lt_of_succ_lt HZ4.out) hb7.size,hzz⟩,(hb7.cell (p:=⟨w.heap.size+1,0,none⟩) (Nat.lt_of_succ_lt HZ4.out)).trans E0.out,(hb7.cell (p:=⟨w.heap.size+1,1,none⟩) (Nat.lt_of_succ_lt HZ4.out)).trans E1.out,y0,y1,y2,HB6.out.trans (hA6.mono HB6.out.size)⟩
   have HSC:=Lib.hid (hsc.below hA6 hA6.size)
   have HLA:=Lib.hid ((hla.below hA6).mono hA6.size)
   have hm6:m≤60000:=by rw[hm];exact q3
   have han6:an≤1000000:=by rw[han];omega
   have HNN:=Lib.hid hN
   have HAN:=Lib.hid han
   have HMM:=Lib.hid hm
   have HCC:=Lib.hid hc
   have l41:¬(4096<(ln:Int)):=by omega
   clear hbad hok hb6 hc hi hat hla hsa hsc hA6 y0 y1 y2 hb7 hzz q1 q2 q3 q4 HB4 HB6 HM4 E0 E1 HZ4 hN han hm HE
   have hb8:Below (w6.alloc (.cells #[.int .i64 N,.slice aa an ac,.slice ca m cc] 71)).heap.size (w6.alloc (.cells #[.int .i64 N,.slice aa an ac,.slice ca m cc] 71)) ((w6.alloc (.cells #[.int .i64 N,.slice aa an ac,.slice ca m cc] 71)).alloc (.cells #[] 23)):=(Below.refl _ _).alloc (Nat.le_refl _) _
   have hown:((w6.alloc (.cells #[.int .i64 N,.slice aa an ac,.slice ca m cc] 71)).alloc (.cells #[] 23)).ownsRow (w6.alloc (.cells #[.int .i64 N,.slice aa an ac,.slice ca m cc] 71)).heap.size 23 1 (.slice (some ⟨(w6.alloc (.cells #[.int .i64 N,.slice aa an ac,.slice ca m cc] 71)).heap.size,0,none⟩) 0 0) 0 []:=World.ownsRow_made (w6.alloc (.cells #[.int .i64 N,.slice aa an ac,.slice ca m cc] 71)) #[] 0 (Nat.le_refl _) (by decide) rfl
   obtain⟨v8,w8,hr8,ho8,hg8⟩:=run_all ((w6.alloc (.cells #[.int .i64 N,.slice aa an ac,.slice ca m cc] 71)).alloc (.cells #[] 23)) (w6.alloc (.cells #[.int .i64 N,.slice aa an ac,.slice ca m cc] 71)).heap.size hb8.size _ hown ca m cc (clsF (n+3) g) HMM.out.symm (HSC.out.up hb8) (by omega)
   have HO8:=Lib.hid ho8
   have HB8:=Lib.hid (hb8.grown hg8 hb8.size (fun k hk=>(hown.lt k hk).1))
   have hz7:(w6.alloc (.cells #[.int .i64 N,.slice aa an ac,.slice ca m cc] 71)).heap.size=w6.heap.size+1:=by simp
   rw[hz7]at hr8
   have HR8:=Lib.hid hr8
   clear hb8 hown ho8 hg8 hr8 HSC hz7
   obtain⟨_,d0,d1,m0,m1,m2,_⟩:=T7.out
   go_wp2_with (at_builtin;refine Lib.wpList_append_run _ rfl _ _ _ _ rfl _ _ rfl rfl _ _ (HR8.out _) ?_)
   generalize w6.alloc (.cells #[.int .i64 N,.slice aa an ac,.slice ca m cc] 71)=W7 at*
   generalize w6.heap.size=M at*
   clear d0 d1 m0 m1 m2 HR8
   go_loopw [9,10] (fun v i wr=>∃(j:Nat),j≤ln∧i= .int .i64 j∧Hid (∀q,q<j→ks q=0)∧Hid (OwnP Pak.clauseSh 23 W7.heap.size (Pak.Lo W7.heap.size) (clsF (n+3) g ++ (lms.take j).map Prod.fst) v wr)∧Hid (Below W7.heap.size W7 wr)) (fun _ i _=>ln - (intOf i).toNat)
   case atStart=>exact⟨0,Nat.zero_le _,rfl,fun j hj=>absurd hj (Nat.not_lt_zero _),Lib.hid (by simpa using HO8.out),HB8.out⟩
   case round=>
    clear HO8 HB8
    obtain⟨j,hj,rfl,hz0,hrow,hbr⟩:=hrel
    obtain⟨wo,rfl⟩:∃wo:World,wo=wr:=⟨_,rfl⟩
    have TR:=Lib.hid (T7.out.below hbr.out T7.out.lt)
    have HZR:=hbr.out.size
    by_cases hlt:j<ln
    ·obtain⟨b,off,ta5,tcap5,sa5,scap5,rfl,hb5,c0,c1,⟨hm1,hm2⟩,hsi,hsl⟩:=HLM.out wo TR.out.bel j (by rw[HLN.out];exact hlt)
     have hz5:=TR.out.bel.size
     have HKJ:=Lib.hid (HKS.out j (by rw[HLN.out];exact hlt))
     have HTK:=Lib.hid (take_fst (lms:=lms) (j:=j) (by rw[HLN.out];exact hlt))
     obtain⟨lm,hlm⟩:∃lm,lm=lms.getD j ([],[]):=⟨_,rfl⟩
     have hlits:lm.1.length≤1000000:=by
      rw[hlm,List.getD_eq_getElem?_getD,List.getElem?_eq_getElem (by rw[HLN.out];exact hlt),Option.getD_some]
      have:=HFEW.out.k1 (lms[j]'(by rw[HLN.out];exact hlt)).1 (List.mem_append_right _ (List.mem_map_of_mem (List.getElem_mem _)))
      omega
     rw[←hlm]at c0 c1 hm1 hm2 hsi hsl HKJ HTK
     clear hlm
     obtain⟨ls,sp⟩:=lm
     simp only at c0 c1 hm1 hm2 hsi hsl hlits HTK
     have HSI:=Lib.hid hsi
     have HSL:=Lib.hid hsl
     have HB5:=Lib.hid (Nat.lt_of_lt_of_le hb5 hz5)
     have QA:Hid (∀W,Below wo.heap.size wo W→W.cell? ⟨M,1,none⟩=some (.slice aa an ac)∧W.cell? ⟨w.heap.size+1,0,none⟩=some (.slice (some ⟨b,off,none⟩) ln lcap)∧W.cell? ⟨b,off+j*2,none⟩=some (.slice ta5 ls.length tcap5)):=fun W hb=>
      ⟨(hb.cell (p:=⟨M,1,none⟩) TR.out.lt.2).trans TR.out.m1,(hb.cell (p:=⟨w.heap.size+1,0,none⟩) TR.out.lt.1).trans TR.out.d0,(hb.cell (p:=⟨b,_,none⟩) HB5.out).trans c0⟩
     have QC:Hid (∀W,Below wo.heap.size wo W→W.cell? ⟨b,off+j*2+1,none⟩=some (.slice sa5 sp.length scap5)):=fun W hb=>(hb.cell (p:=⟨b,_,none⟩) HB5.out).trans c1
     have QP:Hid (∀W,Below wo.heap.size wo W→Calls Tryz.prog 10 #[.slice aa an ac,.slice ta5 ls.length tcap5] W fun e w'=>∃v xs,e= .returned (.tuple #[v,.int .i64 (premK (atomsF (n+3) g) ls)])∧Cut.MRow W.heap.size xs v w'∧Cut.lforms xs=premL (atomsF (n+3) g) ls∧Below wo.heap.size wo w'):=fun W hb=>by
      have hb2:=hbr.out.trans (hb.mono hbr.out.size)
      refine(rprem_any aa an ac (atomsF (n+3) g) ta5 ls.length tcap5 ls W HAN.out.symm han6 ((HLA.out.below hb2).mono hb2.size) HAS.out rfl hlits (nums_of (HSI.out.below (hb.mono hz5) (Nat.le_trans hz5 hb.size)) (fun b hb=>hb))).mono ?_
      rintro e w' ⟨v,xs,rfl,h1,h2,h3⟩
      exact⟨v,xs,by rw[pubK_ok HOK.out],h1,by rw[h2,pubL_ok HOK.out],hb.trans (h3.mono hb.size)⟩
     have PA:Hid (Below wo.heap.size wo wo.drew):=(Below.refl _ _).drew
     obtain⟨a1,a2,a3⟩:=QA.out wo (Below.refl _ _)
     clear hsi hsl c0 c1
     go_wp2_with fail
     go_region_held3 (fun W=>W.cell? ⟨M,1,none⟩=some (.slice aa an ac)∧W.cell? ⟨w.heap.size+1,0,none⟩=some (.slice (some ⟨b,off,none⟩) ln lcap)∧W.cell? ⟨b,off+j*2,none⟩=some (.slice ta5 ls.length tcap5))
      (first
        | exact QA.out _ hb10
        | exact QA.out _ PA.out
        | go_keep)
      (first
        | (go_at_call 10
           refine(QP.out _ PA.out).mono ?_
           rintro e w10 ⟨v,xs,rfl,hr10,hf10,hb10⟩))
     all_goals
      have HB10:=Lib.hid (hbr.out.trans (hb10.mono hbr.out.size))
      have T10:=Lib.hid (TR.out.below hb10 TR.out.lt)
      have HROW:=Lib.hid (hrow.out.below hb10)
      clear a1 a2 a3 PA QP
      by_cases hp:premK (atomsF (n+3) g) ls=0
      ·obtain⟨_,x5,at5,L5,hL5,hkx⟩:premK (atomsF (n+3) g) ls=0∧∃x at' L,Cut.LinesIs (premL (atomsF (n+3) g) ls) sp x at' L∧ks j=Cut.refX x L:=HKJ.out.elim (fun h=>absurd hp h.1) id
       obtain⟨pa,pcap,rfl,hpl⟩:=hr10.llies
       rw[hf10]at hpl
       have hxl:(premL (atomsF (n+3) g) ls).length=xs.length:=by rw[←hf10,Cut.lforms_len]
       have hxm:xs.length≤9223372036854775807:=by rw[←hxl,prem_len hp];omega
       have HSH:=Lib.hid (prem_short HOK.out hp)
       have HRF:=Lib.hid (Cut.rrefutes_any pa xs.length pcap (premL (atomsF (n+3) g) ls) sa5 sp.length scap5 sp w10 ⟨hxl,hpl,fun i hi=>Nat.le_trans (HSH.out i (by rw[hxl];exact hi)) (by decide),rfl,((HSL.out.below (hb10.mono hz5)).up (Nat.le_trans hz5 hb10.size)),hxm,hm2⟩ x5 at5 L5 hL5)
       rw[←hkx]at HRF
       have QA10:=QA.out _ hb10
       have QC10:=QC.out _ hb10
       obtain⟨b1,b2,b3⟩:=QA10
       have HBO:=Lib.hid hb10
       rw[hp]
       clear hr10 hf10 hb10 hpl hxl HSH hL5 hkx HKJ hp
       generalize xs.length=xl at*
       go_wp2_with fail
       refine HRF.out.mono ?_
       rintro e w11 ⟨rfl,hb11⟩
       have T11:=Lib.hid (T10.out.below hb11 T10.out.lt)
       have HB11:=Lib.hid (HB10.out.trans (hb11.mono HB10.out.size))
       have HROW11:=Lib.hid (HROW.out.below hb11)
       have HBO11:=Lib.hid (HBO.out.trans (hb11.mono HBO.out.size))
       clear hb11 HRF b1 b2 b3 QC10 HROW
       by_cases hkj:ks j=0
       ·have HZ2:Hid (∀q,q<j+1→ks q=0):=fun q hq=>by
         by_cases e:q=j
         ·subst e;exact hkj
         ·exact hz0.out q (by omega)
        have hR10:=HROW11.out
        have hWz:W7.heap.size≤w11.heap.size:=HB11.out.size
        have hwz:w.heap.size≤W7.heap.size:=T7.out.bel.size
        have hlen0:(clsF (n+3) g ++ (lms.take j).map Prod.fst).length≤4194304:=by
         rw[List.length_append,List.length_map,List.length_take,HMM.out.symm];omega
        obtain⟨v12,w12,hrun,ho12,hg12,_⟩:=hR10.put (P:=Tryz.prog) (t:=41) (x:=ls) (cs:=[.slice ta5 ls.length tcap5]) (Sx:=Pak.Lo W7.heap.size) Tryz.underlying41 (by':=24) (by kernel_rfl) (by decide) (by decide) hlen0 hWz
         ⟨_,rfl,ta5,tcap5,rfl,HSI.out.keep (fun b (hb:b<w.heap.size)=>Nat.lt_of_lt_of_le hb hwz) (fun b o (hb:b<w.heap.size)=>HBO11.out.cell (p:=⟨b,o,none⟩) (Nat.lt_of_lt_of_le hb hz5))⟩ (fun b hb=>hR10.ok b hb)
        have RN:Hid (OwnP Pak.clauseSh 23 W7.heap.size (Pak.Lo W7.heap.size) (clsF (n+3) g ++ (lms.take (j+1)).map Prod.fst) v12 w12):=Lib.hid (by
         rw[HTK.out,←List.append_assoc]
         exact ho12.more (fun b hb=>hb.elim id id) (fun b hb=>ho12.ok b (.inl hb)))
        have BN:Hid (Below W7.heap.size W7 w12):=Lib.hid (HB11.out.grown hg12 hWz (fun q hq=>(hR10.lt q hq).1))
        have HRUN:=Lib.hid hrun
        obtain⟨b1,b2,b3⟩:=QA.out _ HBO11.out
        rw[hkj]
        clear hkj hR10 hWz hwz hlen0 ho12 hg12 hrun HTK HSI hm1 hm2 hlits HB10 HB11 HBO HROW11
        generalize ls.length=lsn at*
        go_wp2_with (at_builtin;refine Lib.wpList_append_run _ rfl _ _ _ _ rfl _ _ rfl rfl _ _ (HRUN.out _) ?_)
        go_roundw
        case rel=>exact⟨j+1,by omega,by go_num,HZ2,RN,BN⟩
        case measure=>simp[intOf];omega
       ·have HCE:Hid (RCheckEnd (nrmK (n+1) f) (cnfK (n+3) g) ks lms.length (makF (n+3) g).n (clsF (n+3) g ++ lms.map Prod.fst) ss w (.returned (.tuple #[.int .i64 (ks j),.int .i64 j])) w11):=Lib.hid ⟨_,_,rfl,.lem j HK0.out HCC.out (by rw[HLN.out];exact hlt) hz0.out hkj,T11.out.bel⟩
        have hne:(ks j != 0)=true:=by simpa using hkj
        clear hkj HTK HSI hm1 hm2 hlits HKS hz0
        generalize ks j=kk at*
        go_wp2_with fail
        go_ret2
        exact HCE.out
      ·have hkx:ks j=premK (atomsF (n+3) g) ls:=HKJ.out.elim (fun h=>h.2) (fun h=>absurd h.1 hp)
       have HCE:Hid (RCheckEnd (nrmK (n+1) f) (cnfK (n+3) g) ks lms.length (makF (n+3) g).n (clsF (n+3) g ++ lms.map Prod.fst) ss w (.returned (.tuple #[.int .i64 (ks j),.int .i64 j])) w10):=Lib.hid ⟨_,_,rfl,.lem j HK0.out HCC.out (by rw[HLN.out];exact hlt) hz0.out (by rw[hkx];exact hp),T10.out.bel⟩
       have hne:(premK (atomsF (n+3) g) ls != 0)=true:=by simpa using hp
       rw[←hkx]at hne⊢
       clear hp hkx HKJ hr10 hf10 HTK HSI hm1 hm2 hlits HKS hz0 hb10
       generalize ks j=kk at*
       go_wp2_with fail
       go_ret2
       exact HCE.out
    ·obtain rfl:j=ln:=by omega
     have hrow':=hrow.out
     rw[List.take_of_length_le (by rw[HLN.out];exact Nat.le_refl _)]at hrow'
     have hlen0:(clsF (n+3) g ++ lms.map Prod.fst).length≤20000:=HFEW.out.l1
     obtain⟨a8,c8,ev,hs8⟩:=hrow'.slot (by omega)
     subst ev
     have hcl:=clies_of hs8 (B:=wo.heap.size) (fun b hb=>by
      rcases hb with hb | hb
      ·exact(hrow'.ok b hb).1
      ·exact(hrow'.lt b hb).2)
     have HZ0:Hid (∀q,q<lms.length→ks q=0):=fun q hq=>hz0.out q (by rw[HLN.out]at hq;exact hq)
     have g1:Prp.GivenC wo a8 (clsF (n+3) g ++ lms.map Prod.fst).length (clsF (n+3) g ++ lms.map Prod.fst):=⟨rfl,by omega,hcl,fun q hq=>by
      have:=HFEW.out.k1 _ (Prp.getD_memC hq);omega⟩
     have g2:Prp.GivenC wo ra rn ss:=⟨HRN.out,by omega,HRC.out wo TR.out.bel,fun q hq=>by
      have:=HFEW.out.k2 _ (Prp.getD_memC (by rw[HRN.out];exact hq));omega⟩
     have HRU:=Lib.hid (Prp.rrup_any N a8 (clsF (n+3) g ++ lms.map Prod.fst).length c8 (clsF (n+3) g ++ lms.map Prod.fst) ra rn rcap ss wo g1 g2 HFEW.out)
     obtain⟨_,d0,d1,m0,m1,m2,_⟩:=TR.out
     clear hrow' hrow hcl g1 g2 hs8 hlen0 HLM HRC HKS
     generalize (clsF (n+3) g ++ lms.map Prod.fst).length=cl at*
     go_wp2_with fail
     refine HRU.out.mono ?_
     rintro e w11 ⟨x,at',rfl,hri,hb11⟩
     have HEN:Hid (RCheckEnd (nrmK (n+1) f) (cnfK (n+3) g) ks lms.length (makF (n+3) g).n (clsF (n+3) g ++ lms.map Prod.fst) ss w (.returned (.tuple #[.int .i64 x,.int .i64 at'])) w11):=Lib.hid ⟨x,at',rfl,.rup x at' HK0.out HCC.out HZ0.out (by rw[←HNN.out];exact hri),TR.out.bel.trans (hb11.mono TR.out.bel.size)⟩
     clear hri hb11 HRU
     go_wp2_with fail
     go_ret2
     exact HEN.out
  ·have e6:=hbad hc
   subst e6
   have hA7:Below w6.heap.size w6 (w6.alloc (.cells #[.int .i64 0,.slice none 0 0,.slice none 0 0] 71)):=(Below.refl _ _).alloc (Nat.le_refl _) _
   have HEN:Hid (RCheckEnd (nrmK (n+1) f) (cnfK (n+3) g) ks lms.length (makF (n+3) g).n (clsF (n+3) g ++ lms.map Prod.fst) ss w (.returned (.tuple #[.int .i64 (cnfK (n+3) g),.int .i64 (-1)])) (w6.alloc (.cells #[.int .i64 0,.slice none 0 0,.slice none 0 0] 71))):=
    Lib.hid ⟨_,_,rfl,.cnf HK0.out hc,HB6.out.trans (hA7.mono HB6.out.size)⟩
   have hne:(cnfK (n+3) g != 0)=true:=by simpa using hc
   clear hbad hok hb6 hc hA7 HM4 E0 E1
   generalize cnfK (n+3) g=kk at*
   go_wp2_with fail
   go_ret2
   exact HEN.out
 ·have HEN:Hid (RCheckEnd (nrmK (n+1) f) (cnfK (n+3) (nrmT (n+1) f)) ks lms.length (makF (n+3) (nrmT (n+1) f)).n (clsF (n+3) (nrmT (n+1) f) ++ lms.map Prod.fst) ss w (.returned (.tuple #[.int .i64 (nrmK (n+1) f),.int .i64 (-1)])) (w3.alloc (.cells #[.int .i64 k3,.int .i64 c3,.slice ta3 tn3 tcap3,.slice ka3 kn3 kcap3] 39))):=
   Lib.hid ⟨_,_,rfl,.norm hk0,HB4.out⟩
  have hne:(nrmK (n+1) f != 0)=true:=by simpa using hk0
  clear hk0 HMK HF4 HO E0 E1 HB4 HZ4
  generalize nrmK (n+1) f=kk at*
  go_wp2_with fail
  go_ret2
  exact HEN.out
end
section
open Go.RowKit
theorem CertIs.in {nk mk:Int}{ks:Nat→Int}{nl:Nat}{N:Int}{cs ss:List (List Int)}{x at':Int}(h:CertIs nk mk ks nl N cs ss x at')(h1:0≤nk∧nk≤16)(h2:0≤mk∧mk≤16)(h3:∀j,j<nl→0≤ks j∧ks j≤16):(0≤x∧x≤16)∧(0≤at'→x≠0):=by
 cases h with
 | norm h=>exact⟨h1,fun h=>by omega⟩
 | cnf _ h=>exact⟨h2,fun h=>by omega⟩
 | lem j _ _ hj _ hn=>exact⟨h3 j hj,fun _=>hn⟩
 | rup x at' _ _ _ hr=>exact⟨hr.in.1,hr.in.2.1⟩
structure GivenK (n:Nat)(f:FT)(cs:List Value)(la:Option Addr)(ln:Nat)(lms:List (List Int×List (List (Int×Int)×Int)))(ra:Option Addr)(rn:Nat)(ss:List (List Int))(w:World):Prop where
 f:FLies w.heap.size w (n+1) f cs
 eln:lms.length=ln
 l:LmLies w.heap.size w la lms
 ern:ss.length=rn
 r:Prp.CLies w.heap.size w ra ss
 l63:ln≤9223372036854775807
 r63:rn≤9223372036854775807
 cl:∀i,i<rn→(ss.getD i []).length≤9223372036854775807
theorem GivenK.below {n:Nat}{f:FT}{cs:List Value}{la:Option Addr}{ln:Nat}{lms:List (List Int×List (List (Int×Int)×Int))}{ra:Option Addr}{rn:Nat}{ss:List (List Int)}{w W:World}(h:GivenK n f cs la ln lms ra rn ss w)(hb:Below w.heap.size w W):GivenK n f cs la ln lms ra rn ss W:=
 ⟨(h.f.below hb).mono hb.size,h.eln,h.l.below hb hb.size,h.ern,(h.r.below hb).mono hb.size,h.l63,h.r63,h.cl⟩
theorem certChecks_any (hup:UpSaid10)(hbeg:Prp.BeginSaid)(n:Nat)(f:FT)(cs:List Value)(la:Option Addr)(ln lcap:Nat)(lms:List (List Int×List (List (Int×Int)×Int)))(ra:Option Addr)(rn rcap:Nat)(ss:List (List Int))(w:World)(h:GivenK n f cs la ln lms ra rn ss w)(ht:Tens w.heap.size w)(hg:Prp.Laid0 w):
 Calls Tryz.prog 4 #[.agg cs.toArray,.agg #[.slice la ln lcap,.slice ra rn rcap]] w fun e w'=>e= .returned (.bool true)∧Below w.heap.size w w':=by
 obtain⟨ks,hks⟩:=lems_is (atomsF (n+3) (nrmT (n+1) f)) lms
 have hK:=fun W (hb:Below w.heap.size w W)=>h.below hb
 have HUP:=Lib.hid (fun W (hb:Below w.heap.size w W)=>hup W (ht.up hb hb.size) (hg.below hb hg.pos))
 have HSM:=Lib.hid (fun W (hb:Below w.heap.size w W)=>small10_any n f cs la ln lcap lms ra rn rcap ss W (hK W hb).f h.eln (hK W hb).l h.ern (hK W hb).r h.l63 h.r63 h.cl)
 have HCK:=Lib.hid (fun(hE:EasyC lms ss) W (hb:Below w.heap.size w W)=>check_cert hbeg n f cs la ln lcap lms ra rn rcap ss ks W (hK W hb).f (ht.up hb hb.size) (hg.below hb hg.pos) h.eln (hK W hb).l h.ern (hK W hb).r hE hks)
 have HRK:=Lib.hid (fun(hE:EasyC lms ss) W (hb:Below w.heap.size w W)=>rcheck_cert n f cs la ln lcap lms ra rn rcap ss ks W (hK W hb).f h.eln (hK W hb).l h.ern (hK W hb).r hE hks)
 have HIN:=Lib.hid (fun x at' (hc:CertIs (nrmK (n+1) f) (cnfK (n+3) (nrmT (n+1) f)) ks lms.length (makF (n+3) (nrmT (n+1) f)).n (clsF (n+3) (nrmT (n+1) f) ++ lms.map Prod.fst) ss x at')=>hc.in (nrmK_in _ _) (cnfK_in _ _) (fun j hj=>(hks j hj).in))
 have HG:=Lib.hid hg
 have hh:=h.f
 clear hup hbeg ht hg hK h hks
 obtain⟨ta,tcap,ka,kcap,rfl, -⟩:=hh
 have hb0:=box_start w f.kind f.c ta ka f.t.length tcap f.ks.length kcap
 generalize nrmK (n+1) f=nk at*
 generalize nrmT (n+1) f=g at*
 generalize cnfK (n+3) g=mk at*
 generalize f.kind=fk at*
 generalize f.c=fc at*
 generalize f.t.length=ft at*
 generalize f.ks.length=fl at*
 have hA2:Below (w.alloc (.cells #[.int .i64 fk,.int .i64 fc,.slice ta ft tcap,.slice ka fl kcap] 39)).heap.size (w.alloc (.cells #[.int .i64 fk,.int .i64 fc,.slice ta ft tcap,.slice ka fl kcap] 39)) ((w.alloc (.cells #[.int .i64 fk,.int .i64 fc,.slice ta ft tcap,.slice ka fl kcap] 39)).alloc (.cells #[.slice la ln lcap,.slice ra rn rcap] 43)):=(Below.refl _ _).alloc (Nat.le_refl _) _
 have hz1:(w.alloc (.cells #[.int .i64 fk,.int .i64 fc,.slice ta ft tcap,.slice ka fl kcap] 39)).heap.size=w.heap.size+1:=by simp
 have hn2:=heap_alloc_new (w.alloc (.cells #[.int .i64 fk,.int .i64 fc,.slice ta ft tcap,.slice ka fl kcap] 39)) (.cells #[.slice la ln lcap,.slice ra rn rcap] 43)
 rw[hz1]at hn2
 have hz2:((w.alloc (.cells #[.int .i64 fk,.int .i64 fc,.slice ta ft tcap,.slice ka fl kcap] 39)).alloc (.cells #[.slice la ln lcap,.slice ra rn rcap] 43)).heap.size=w.heap.size+2:=by simp
 have T1:=Lib.hid (hb0.below hA2 hb0.lt)
 have D0:((w.alloc (.cells #[.int .i64 fk,.int .i64 fc,.slice ta ft tcap,.slice ka fl kcap] 39)).alloc (.cells #[.slice la ln lcap,.slice ra rn rcap] 43)).cell? ⟨w.heap.size+1,0,none⟩=some (.slice la ln lcap):=(cell_of_row _ _ _ _ _ _ hn2).trans rfl
 have D1:((w.alloc (.cells #[.int .i64 fk,.int .i64 fc,.slice ta ft tcap,.slice ka fl kcap] 39)).alloc (.cells #[.slice la ln lcap,.slice ra rn rcap] 43)).cell? ⟨w.heap.size+1,1,none⟩=some (.slice ra rn rcap):=(cell_of_row _ _ _ _ _ _ hn2).trans rfl
 clear hb0 hA2 hz1 hn2
 generalize hWW:(w.alloc (.cells #[.int .i64 fk,.int .i64 fc,.slice ta ft tcap,.slice ka fl kcap] 39)).alloc (.cells #[.slice la ln lcap,.slice ra rn rcap] 43)=W2 at*
 have HCE:Hid (∀W,Below W2.heap.size W2 W→Below w.heap.size w W∧(W.cell? ⟨w.heap.size,0,none⟩=some (.int .i64 fk)∧W.cell? ⟨w.heap.size,1,none⟩=some (.int .i64 fc)∧W.cell? ⟨w.heap.size,2,none⟩=some (.slice ta ft tcap)∧W.cell? ⟨w.heap.size,3,none⟩=some (.slice ka fl kcap))∧W.cell? ⟨w.heap.size+1,0,none⟩=some (.slice la ln lcap)∧W.cell? ⟨w.heap.size+1,1,none⟩=some (.slice ra rn rcap)):=fun W hb=>by
  obtain⟨t1,t2,t3,t4,t5,t6⟩:=T1.out.below hb T1.out.lt
  exact⟨t6,⟨t2,t3,t4,t5⟩,(hb.cell (p:=⟨w.heap.size+1,0,none⟩) (show w.heap.size+1<_ by omega)).trans D0,(hb.cell (p:=⟨w.heap.size+1,1,none⟩) (show w.heap.size+1<_ by omega)).trans D1⟩
 subst hWW
 clear D0 D1 hz2 T1
 go_enter Tryz.func4,Tryz.ntmps4
 go_wp2_with fail
 generalize (w.alloc (.cells #[.int .i64 fk,.int .i64 fc,.slice ta ft tcap,.slice ka fl kcap] 39)).alloc (.cells #[.slice la ln lcap,.slice ra rn rcap] 43)=W2 at*
 refine(HUP.out _ (HCE.out _ (Below.refl _ _)).1).mono ?_
 rintro e w1 ⟨rfl,hb1⟩
 have B1:=Lib.hid hb1
 obtain⟨_,⟨p0,p1,p2,p3⟩,d0,d1⟩:=HCE.out _ B1.out
 clear hb1 HUP
 go_wp2_with fail
 refine(HSM.out _ (HCE.out _ B1.out).1).mono ?_
 rintro e w2 ⟨b,rfl,hb2,hE⟩
 have B2:=Lib.hid (B1.out.trans (hb2.mono B1.out.size))
 clear hb2 HSM p0 p1 p2 p3 d0 d1
 cases b with
 | false=>
   clear hE
   have HE:=Lib.hid (HCE.out _ B2.out).1
   go_wp2_with fail
   go_ret
   exact⟨rfl,HE.out⟩
 | true=>
   have HEE:Hid (EasyC lms ss):=Lib.hid (by first | exact hE rfl | exact hE trivial)
   obtain⟨_,⟨p0,p1,p2,p3⟩,d0,d1⟩:=HCE.out _ B2.out
   clear hE
   go_wp2_with fail
   refine(HCK.out HEE.out _ (HCE.out _ B2.out).1).mono ?_
   rintro e w3 ⟨er,x,at',rfl,hc,her,hb3⟩
   have B3:=Lib.hid (B2.out.trans (hb3.mono B2.out.size))
   have HC:=Lib.hid hc
   have HER:=Lib.hid her
   clear hc her hb3 HCK p0 p1 p2 p3 d0 d1
   obtain⟨_,⟨p0,p1,p2,p3⟩,d0,d1⟩:=HCE.out _ B3.out
   go_wp2_with fail
   refine(HRK.out HEE.out _ (HCE.out _ B3.out).1).mono ?_
   rintro e w4 ⟨x2,at2,rfl,hc2,hb4⟩
   obtain⟨rfl,rfl⟩:=HC.out.unique hc2
   have B4:=Lib.hid (B3.out.trans (hb4.mono B3.out.size))
   have HTO:=Lib.hid (Prp.etold_any (HER.out.below hb4) (HIN.out _ _ HC.out).1 (HIN.out _ _ HC.out).2 (HG.out.below (HCE.out _ B4.out).1 HG.out.pos))
   have HBE:=Lib.hid (HCE.out _ B4.out).1
   clear hc2 hb4 HRK HER HIN HC HCE p0 p1 p2 p3 d0 d1
   go_wp2_with fail
   refine HTO.out.mono ?_
   rintro e w5 ⟨rfl,hb5⟩
   have HB5:=Lib.hid (HBE.out.trans (hb5.mono HBE.out.size))
   clear hb5 HTO
   go_wp2_with fail
   go_ret
   exact⟨rfl,HB5.out⟩
end
section
open Go.ChangeShapes Go.WideShapes Go.ChangeAt Go.RowKit
theorem certChecks_lifted (hup:UpSaid10)(hbeg:Prp.BeginSaid)(os:Os)(started:os.Started)(H:Type)(enc:TypeId×Value→H):
 ReturnsInHanded {} Tryz.checked os 4 .any (fun w args=>(Rows.certChecksSpec.pre enc Tryz.prog Tryz.f4 [] false w args∧laidMetH Tryz.prog laidL w)∧sizedMet enc Tryz.prog Tryz.f4 (OpenSpec.ofChange Rows.certChecksSpec) false w args)
  (Rows.certChecksSpec.post enc Tryz.prog Tryz.f4 false true false false):=by
 refine returnsInHanded_of_change_and (C:=Tryz.checked) (X:=fun w _=>laidMetH Tryz.prog laidL w) (fun _ _ _ hh h=>h.of_heap hh) Tryz.own started (by kernel_rfl) Tryz.func4
  (ChangeSpec.witness_at (enc:=enc) (C:=Tryz.checked) (os:=os) (X:=fun w _=>laidMetH Tryz.prog laidL w) false (laidWorld os) #[.agg #[.int .i64 0,.int .i64 0,.slice none 0 0,.slice none 0 0],.agg #[.slice none 0 0,.slice none 0 0]] 8 rfl (by kernel_rfl) (by kernel_rfl) (by kernel_rfl) (by kernel_rfl) (by kernel_rfl) (laidWorld_met os _)) ?_
 intro W base args ds gs before hval0 hW _ _ hL _
 have hval:∀(j:Nat) t v,Tryz.f4.params[j]? =some t→args[j]? =some v→Value.okWide Tryz.prog W .any base t v:=hval0
 have hW':=hW
 obtain⟨p,q,hA0,hV,rfl,hfz,hnd⟩:=hW
 have hA:DataW.TrodAll enc Tryz.prog W 0 (fun _=>true) true Tryz.f4.params.toList args.toList ds p:=hA0
 rw[Tryz.params4]at hA hval
 obtain⟨v0,vs0,d0,ds0,p0,q0,hargs,rfl,rfl,h0,r0⟩:=trodAll_cons hA
 obtain⟨v1,vs1,d1,ds1,p1,q1,rfl,rfl,rfl,h1,r1⟩:=trodAll_cons r0
 obtain⟨rfl,rfl,rfl⟩:=trodAll_nil r1
 obtain rfl:args= #[v0,v1]:=by cases args;simp_all
 obtain⟨rfl,rfl⟩:=trodVars_none hV
 have k0:=h0
 have lt0:∀x∈p0,x.block<W.heap.size:=by obtain⟨m,hm⟩:=k0;exact DataW.trod_lt m _ _ _ hm
 have k1:=h1
 have lt1:∀x∈p1,x.block<W.heap.size:=by obtain⟨m,hm⟩:=k1;exact DataW.trod_lt m _ _ _ hm
 obtain⟨n,f,cs,rfl,hf0⟩:=open_form (hval 0 39 v0 rfl rfl) h0
 obtain⟨la,ln,lcap,lms,ra,rn,rcap,ss,rfl,eln,l63,ern,r63,hlm,hcl,hlen⟩:=open_cert (hval 1 43 v1 rfl rfl) h1
 have hg:=handle_of_laid hL
 clear hA0 hval0
 have ht:=tens_of_laid hL
 have hG:GivenK n f cs la ln lms ra rn ss W:=⟨hf0.succ,eln,hlm,ern,hcl,l63,r63,hlen⟩
 refine(certChecks_any hup hbeg n f cs la ln lcap lms ra rn rcap ss W hG ht hg).mono fun e W' ⟨he,bel⟩=> ?_
 subst he
 exact⟨_,rfl,_,_,_,[],_,[],hW',trodAll_mk1 (shut_bool Tryz.underlying4 _),(trodAll_cons_mk (Below.trod Tryz.laidOut (by kernel_rfl) (of_decide_eq_true (by kernel_rfl)) k0 bel lt0) (trodAll_cons_mk (Below.trod Tryz.laidOut (by kernel_rfl) (of_decide_eq_true (by kernel_rfl)) k1 bel lt1) trodAll_mk0)),rfl,bel.frame _,fun h=>by cases h⟩
theorem certChecks_over (hup:UpSaid10)(hbeg:Prp.BeginSaid):Rows.CertChecksSaid:=
 OpenClaim.holds_of_wide 4 Tryz.f4 rfl rfl rfl rfl rfl rfl rfl ⟨rfl,rfl,rfl,rfl,rfl⟩ rfl rfl rfl rfl rfl (by kernel_rfl) Tryz.func4 (by kernel_rfl)
  (of_decide_eq_true (by kernel_rfl)) (by unfold Func.isWrapper;first | (rw[if_pos (by decide+kernel)];kernel_rfl) | (rw[if_neg (by decide+kernel)];exact⟨rfl,rfl⟩))
  (fun os started H enc _=>certChecks_lifted hup hbeg os started H enc)
end
end Go.Proofs.YtipahfcaplbifaaGreatDoor
