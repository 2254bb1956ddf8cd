/- Parts of a proof. -/
import Derived.Test.YtipahfcaplbifaaGreatDoorQ29
import Derived.Deep.DeepCutAuto
set_option linter.unusedVariables false
set_option linter.unusedSimpArgs false
set_option maxHeartbeats 60000000
set_option maxRecDepth 100000
namespace Go.Proofs.YtipahfcaplbifaaGreatDoor
namespace Cut
open Go.RowKit Go.Maps
attribute [local go_sem ↓] Go.wp_at_zero Go.wp_at_succ
theorem rstep_any (a:Option Addr)(n cap:Nat)(ls:List (Int×List (Int×Int)))(pa:Option Addr)(pn pcap:Nat)(ps:List (Int×Int))(div:Int)(w:World)(hn:ls.length=n)(hm:n≤9223372036854775807)(hl:LLies w.heap.size w a ls)(hok:lsOk ls)(hpn:ps.length=pn)(hpm:pn≤9223372036854775807)(hp:Lies w.heap.size w pa ps)
 (R:List (Int×Int)) (hR:R=sumOf (tTo ls ps pn)) (x C:Int) (E:List (Int×Int)) (hx:TellIs n (cTo ls ps pn) div ps R x C E):
 Calls Tryz.prog 100 #[.slice a n cap,.agg #[.slice pa pn pcap,.int .i64 div]] w (REnd w.heap.size x C E w):=by
 have T0:=Lib.hid (TellSt.start w pa pn pcap div)
 have HX:=Lib.hid hx
 have HSB:Hid (stepK n ps div≠0→x=stepK n ps div∧C=0∧E=[]):=fun h=>by
  have e:=tellK_step (c:=cTo ls ps pn) (R:=R) h
  have:=HX.out.bad (by rw[e];exact h)
  rwa [e]at this
 by_cases h64:64<pn
 ·as_aux_lemma=>
   have e:stepK n ps div=2:=by unfold stepK;rw[if_pos (by omega)]
   rw[e]at HSB
   obtain⟨rfl,rfl,rfl⟩:=HSB.out (by decide)
   clear HX hx hl hok hp hpn hn
   go_enter Tryz.func100,Tryz.ntmps100
   obtain⟨s0,s1,r0,r1,rf,mz,hbel⟩:=T0.out
   have HE:=Lib.hid (And.intro r0 r1)
   have HBE:=Lib.hid hbel
   clear hbel
   go_wp2_with fail
   refine bodyPost_ret (v:= .tuple #[.agg #[.int .i64 0,.slice none 0 0],.int .i64 2]) ?_ rfl (REnd.none rfl HBE.out)
   obtain⟨e0,e1⟩:=HE.out
   simp[results,Tryz.results100,go_sem,e0,e1]
 ·have HPK:Hid (stepK n ps div=if partsK n ps pn=0 then(if div<1∨1073741824<div then 1 else 0) else partsK n ps pn):=by
   show _=_
   unfold stepK
   rw[if_neg (by omega),hpn]
  have HLL:=Lib.hid hl
  have HOK:=Lib.hid hok
  have HP:=Lib.hid hp
  have HPN:=Lib.hid hpn
  have HN:=Lib.hid hn
  have HR:=Lib.hid hR
  clear hl hok hp hpn hn hR hx
  go_enter Tryz.func100,Tryz.ntmps100
  have S0:Hid (StpSt w ((w.alloc (.cells #[.slice pa pn pcap,.int .i64 div] 104)).alloc (.cells #[.int .i64 0,.slice none 0 0] 36)) pa pn pcap div [] (.slice none 0 0)):=⟨T0.out,World.ownsRow_nil _ _ _ _⟩
  obtain⟨s0,s1,r0,r1,rf,mz,hbel⟩:=T0.out
  clear hbel
  go_wp2_with fail
  generalize (w.alloc (.cells #[.slice pa pn pcap,.int .i64 div] 104)).alloc (.cells #[.int .i64 0,.slice none 0 0] 36)=w2 at S0⊢
  clear s0 s1 r0 r1 rf mz T0
  go_loopw [6,7,8] (fun c v i wr=>∃(k:Nat),k≤pn∧i= .int .i64 k∧c= .int .i64 (cTo ls ps k)∧Hid (partsK n ps k=0)∧Hid (StpSt w wr pa pn pcap div (tTo ls ps k) v)) (fun _ _ i _=>pn - (intOf i).toNat)
  case atStart=>exact⟨0,Nat.zero_le _,rfl,rfl,rfl,S0⟩
  case round=>
   clear S0
   obtain⟨k,hk,rfl,rfl,hpk,hst⟩:=hrel
   obtain⟨wo,rfl⟩:∃wo:World,wo=wr:=⟨_,rfl⟩
   obtain⟨s0,s1,r0,r1,rf,mz,hbel⟩:=hst.out.t
   by_cases hlt:k<pn
   ·as_aux_lemma=>
     obtain⟨b,off,rfl,hblt,c1,c2⟩:=(HP.out.below hbel) k (by rw[HPN.out];exact hlt)
     have HPS:Hid (partsK n ps (k+1)=partK n (ps.getD k (0,0))):=by show(if partsK n ps k=0 then _ else _)=_;rw[if_pos hpk.out]
     have HST:Hid (partK n (ps.getD k (0,0))≠0→x=partK n (ps.getD k (0,0))∧C=0∧E=[]):=fun h=>by
      have h2:=partsK_stay (m:=pn) (by rw[HPS.out];exact h) (show k+1≤pn by omega)
      have h3:stepK n ps div=partK n (ps.getD k (0,0)):=by rw[HPK.out,if_neg (by rw[h2,HPS.out];exact h),h2,HPS.out]
      rw[←h3];exact HSB.out (by rw[h3];exact h)
     have HPD:Hid (partK n (ps.getD k (0,0))=if(ps.getD k (0,0)).1<0∨n≤(ps.getD k (0,0)).1 then 6 else if(ps.getD k (0,0)).2<1∨4096<(ps.getD k (0,0)).2 then 1 else 0):=rfl
     have HC1:Hid (cTo ls ps (k+1)=cTo ls ps k+(lineAt ls ps k).1*(ps.getD k (0,0)).2):=rfl
     have HT1:Hid (tTo ls ps (k+1)=tTo ls ps k ++ timesL (ps.getD k (0,0)).2 (lineAt ls ps k).2):=rfl
     have HLA:Hid (lineAt ls ps k=ls.getD (ps.getD k (0,0)).1.toNat (0,[])):=rfl
     have HB2:Hid (Below w.heap.size w wo):=hbel
     have HBA:Hid (Below wo.heap.size wo (wo.alloc (.cells #[.int .i64 (ps.getD k (0,0)).1,.int .i64 (ps.getD k (0,0)).2] 193))):=(Below.refl _ wo).alloc (Nat.le_refl _) _
     have HSA:=Lib.hid (hst.out.below HBA.out)
     have HNP:=Lib.hid (heap_alloc_new wo (.cells #[.int .i64 (ps.getD k (0,0)).1,.int .i64 (ps.getD k (0,0)).2] 193))
     have HPREF:Hid (∀j,j<k→partK n (ps.getD j (0,0))=0):=fun j hj=>partsK_zero hpk.out j hj
     have HR0:=Lib.hid (And.intro r0 r1)
     clear hbel s1
     generalize partK n (ps.getD k (0,0))=pk at HPS HST HPD
     generalize (ps.getD k (0,0)).1=X at c1 HPD HLA HBA HSA HNP
     generalize (ps.getD k (0,0)).2=y at c2 HPD HC1 HT1 HBA HSA HNP
     have HRET:Hid (∀z:Int,∀W,(W=((wo.setCell ⟨w.heap.size+1,0,none⟩ (.int .i64 0)).setCell ⟨w.heap.size+1,1,none⟩ (.slice none 0 0)).alloc (.cells #[.int .i64 X,.int .i64 y] 193))→W.cell? ⟨w.heap.size+1,0,none⟩=some (.int .i64 0)∧W.cell? ⟨w.heap.size+1,1,none⟩=some (.slice none 0 0)∧Below w.heap.size w W):=fun z W e=>by
      subst e
      have hz:((wo.setCell ⟨w.heap.size+1,0,none⟩ (.int .i64 0)).setCell ⟨w.heap.size+1,1,none⟩ (.slice none 0 0)).heap.size=wo.heap.size:=by rw[World.size_setCell,World.size_setCell]
      have hb:=(Below.refl ((wo.setCell ⟨w.heap.size+1,0,none⟩ (.int .i64 0)).setCell ⟨w.heap.size+1,1,none⟩ (.slice none 0 0)).heap.size _).alloc (Nat.le_refl _) (.cells #[.int .i64 X,.int .i64 y] 193)
      obtain⟨e0,e1⟩:=res2 HR0.out.1 HR0.out.2 (.int .i64 0) (.slice none 0 0)
      rw[hz]at hb
      exact⟨(hb.cell (p:=⟨w.heap.size+1,0,none⟩) mz).trans e0,(hb.cell (p:=⟨w.heap.size+1,1,none⟩) mz).trans e1,(below2 HB2.out (by omega) _ _).trans (hb.mono HB2.out.size)⟩
     by_cases hX:X<0∨n≤X
     ·have hp6:pk=6:=by rw[HPD.out,if_pos hX]
      obtain⟨hx6,rfl,rfl⟩:=HST.out (by rw[hp6];decide)
      rw[hp6]at hx6
      subst hx6
      clear hp6 HX HPK HSB HST HPD HPS HSA
      by_cases hX1:X<0
      ·go_wp2_with fail
       obtain⟨e0,e1,e2⟩:=HRET.out 0 _ rfl
       refine bodyPost_ret (v:= .tuple #[.agg #[.int .i64 0,.slice none 0 0],.int .i64 6]) ?_ rfl (REnd.none rfl e2)
       simp[results,Tryz.results100,go_sem,e0,e1]
      ·have hX2:n≤X:=by omega
       go_wp2_with fail
       obtain⟨e0,e1,e2⟩:=HRET.out 0 _ rfl
       refine bodyPost_ret (v:= .tuple #[.agg #[.int .i64 0,.slice none 0 0],.int .i64 6]) ?_ rfl (REnd.none rfl e2)
       simp[results,Tryz.results100,go_sem,e0,e1]
     ·have hX1:¬X<0:=by omega
      have hX2:¬n≤X:=by omega
      by_cases hy:y<1∨4096<y
      ·have hp1:pk=1:=by rw[HPD.out,if_neg hX,if_pos hy]
       obtain⟨hx6,rfl,rfl⟩:=HST.out (by rw[hp1];decide)
       rw[hp1]at hx6
       subst hx6
       clear hp1 HX HPK HSB HST HPD HPS HSA
       by_cases hy1:y<1
       ·go_wp2_with fail
        obtain⟨e0,e1,e2⟩:=HRET.out 0 _ rfl
        refine bodyPost_ret (v:= .tuple #[.agg #[.int .i64 0,.slice none 0 0],.int .i64 1]) ?_ rfl (REnd.none rfl e2)
        simp[results,Tryz.results100,go_sem,e0,e1]
       ·have hy2:4096<y:=by omega
        go_wp2_with fail
        obtain⟨e0,e1,e2⟩:=HRET.out 0 _ rfl
        refine bodyPost_ret (v:= .tuple #[.agg #[.int .i64 0,.slice none 0 0],.int .i64 1]) ?_ rfl (REnd.none rfl e2)
        simp[results,Tryz.results100,go_sem,e0,e1]
      ·have hy1:¬y<1:=by omega
       have hy2:¬ 4096<y:=by omega
       have HN1:Hid (partsK n ps (k+1)=0):=by show _=_;rw[HPS.out,HPD.out,if_neg hX,if_neg hy]
       obtain⟨q,rfl⟩:=Int.eq_ofNat_of_zero_le (show 0≤X by omega)
       have hqn:q<n:=by omega
       obtain⟨b2,off2,ta,tcap,rfl,hb2,l0,l1,hll⟩:=HLL.out q (by rw[HN.out];exact hqn)
       rw[←HB2.out.cell (p:=⟨b2,_,none⟩) hb2]at l0 l1
       have hsn:=HOK.out q (by rw[HN.out];exact hqn)
       have hla:=HLA.out
       rw[Int.toNat_natCast]at hla
       rw[←hla]at l0 l1 hll hsn
       have hcb:=cTo_inP k (fun j hj=>partK_ok HN.out HOK.out (HPREF.out j hj))
       have htb:=(tTo_inP k (fun j hj=>partK_ok HN.out HOK.out (HPREF.out j hj))).1
       clear HX HPK HSB HST HPD HPS hla HLA HRET HPREF r0 r1 rf pk
       generalize (lineAt ls ps k).1=Cc at l0 HC1 hsn
       generalize (lineAt ls ps k).2=LT at l1 HT1 hll hsn
       have h64T:=(snd_iff.1 hsn).2.1
       have hcc: -1073741824≤Cc∧Cc≤1073741824:=by have h:=(snd_iff.1 hsn).1;unfold wi at h;simpa using h
       have hmul: -4398046511104≤Cc*y∧Cc*y≤4398046511104:=by
        have h3: -1073741824*y≤Cc*y:=Int.mul_le_mul_of_nonneg_right hcc.1 (by omega)
        have h4:Cc*y≤1073741824*y:=Int.mul_le_mul_of_nonneg_right hcc.2 (by omega)
        omega
       have hyc:y*Cc=Cc*y:=Int.mul_comm _ _
       have hw1:IntKind.i64.wrap (y*Cc)=y*Cc:=IntWalk.i64_in _ (by omega)
       have hw2:IntKind.i64.wrap (cTo ls ps k+y*Cc)=cTo ls ps k+y*Cc:=IntWalk.i64_in _ (by omega)
       have HT:=Lib.hid (fun W (hb:Below w.heap.size w W)=>rtimes_any Cc y ta LT.length tcap LT W rfl h64T ((hll.below hb).mono hb.size) (fun m hm=>by
        have h9:=timesL_in hsn ⟨by omega,by omega⟩ (m.1,m.2*y) (List.mem_map.2 ⟨m,hm,rfl⟩)
        rw[Int.mul_comm];exact h9))
       have HHC:=Lib.hid hyc
       clear hll hsn hcc hmul hyc
       go_wp2_with fail
       clear c1 c2 s0
       have hzp:wo.heap.size<(wo.alloc (.cells #[.int .i64 q,.int .i64 y] 193)).heap.size:=lt_of_some HNP.out
       have p0:(wo.alloc (.cells #[.int .i64 q,.int .i64 y] 193)).cell? ⟨wo.heap.size,0,none⟩=some (.int .i64 q):=by rw[cell_of_row _ _ _ _ _ _ HNP.out];rfl
       have p1:(wo.alloc (.cells #[.int .i64 q,.int .i64 y] 193)).cell? ⟨wo.heap.size,1,none⟩=some (.int .i64 y):=by rw[cell_of_row _ _ _ _ _ _ HNP.out];rfl
       have hb2o:b2<wo.heap.size:=Nat.lt_of_lt_of_le hb2 HB2.out.size
       rw[←HBA.out.cell (p:=⟨b2,_,none⟩) hb2o]at l0 l1
       have HBW:=Lib.hid (HB2.out.trans (HBA.out.mono HB2.out.size))
       clear hb2o HBA HB2 HNP
       generalize wo.alloc (.cells #[.int .i64 q,.int .i64 y] 193)=w3 at HSA p0 p1 l0 l1 hzp HBW⊢
       generalize wo.heap.size=P at p0 p1 hzp⊢
       have p0':∀z,(w3.drewN z).cell? ⟨P,0,none⟩=some (.int .i64 q):=fun _=>p0
       have p1':∀z,(w3.drewN z).cell? ⟨P,1,none⟩=some (.int .i64 y):=fun _=>p1
       have l0':∀z,(w3.drewN z).cell? ⟨b2,off2+q*2,none⟩=some (.int .i64 Cc):=fun _=>l0
       have hq0:(0:Int)≤(q:Int):=Int.natCast_nonneg _
       have hq1:(q:Int)<(n:Int):=by omega
       go_quiet (fail)
       have HSQ:Hid (StpSt w (w3.drewN nq) _ pn pcap div (tTo ls ps k) u7):=HSA.out.below (below_drewN (Below.refl _ _) nq)
       have HBQ:Hid (Below w.heap.size w (w3.drewN nq)):=below_drewN HBW.out nq
       have g0:(w3.drewN nq).cell? ⟨P,0,none⟩=some (.int .i64 q):=p0
       have g1:(w3.drewN nq).cell? ⟨P,1,none⟩=some (.int .i64 y):=p1
       have m0:(w3.drewN nq).cell? ⟨b2,off2+q*2,none⟩=some (.int .i64 Cc):=l0
       have m1:(w3.drewN nq).cell? ⟨b2,off2+q*2+1,none⟩=some (.slice ta LT.length tcap):=l1
       clear p0 p1 p0' p1' l0 l1 l0' HSA HBW hzp
       generalize w3.drewN nq=w4 at HSQ HBQ g0 g1 m0 m1⊢
       have hlen2:(tTo ls ps k).length+(scale y LT).length≤8192:=by rw[scale_len];omega
       clear hst HP HLL
       go_wp2_with fail
       go_region_law (first
        | (refine step_append_two (by rfl) _ _ (by rfl) (w.heap.size+2) _ u7 v5 (tTo ls ps k) (scale y LT) (by rfl) (by rfl) HR5.out HRT.out HZ5.out hlen2 ?_
           intro a6 cap6 w6 hrow6 hgrow6)
        | (go_simp
           go_at_call 25
           refine(HT.out _ HBQ.out.drew).mono ?_
           rintro e w5 ⟨v5,rfl,hrow5,hb5⟩
           have HB5:Hid (Below w4.heap.size w4 w5):=(Below.refl _ w4).drew.trans hb5
           have HS5:=Lib.hid (HSQ.out.below HB5.out)
           have HR5:=Lib.hid HS5.out.row
           have HRT:=Lib.hid hrow5
           have HZ5:Hid (w.heap.size+2≤w5.heap.size):=HS5.out.t.mz
           clear hrow5 hb5))
       all_goals
        have HS6:Hid (StpSt w w6 _ pn pcap div (tTo ls ps (k+1)) (.slice a6 ((tTo ls ps k).length+(scale y LT).length) cap6)):=
         ⟨HS5.out.t.below ((Below.refl (w.heap.size+2) w5).grown hgrow6 HZ5.out (fun g hg=>(World.ownsRow.lt HR5.out g hg).1)) (Nat.le_refl _),by rw[HT1.out,←scale_timesL];exact hrow6⟩
        clear hrow6 hgrow6 HR5 HRT HS5 g0 g1 m0 m1
        go_wp2_with fail
        go_roundw
        case rel=>exact⟨k+1,by omega,by go_num,by rw[HC1.out,←HHC.out],HN1,HS6⟩
        case measure=>simp[intOf];omega
   ·obtain rfl:pn=k:=by omega
    have hSK:stepK n ps div=if div<1∨1073741824<div then 1 else 0:=by rw[HPK.out,if_pos hpk.out]
    by_cases hd:div<1∨1073741824<div
    ·as_aux_lemma=>
      rw[if_pos hd]at hSK
      rw[hSK]at HSB
      obtain⟨rfl,rfl,rfl⟩:=HSB.out (by decide)
      obtain⟨e0,e1⟩:=res2 r0 r1 (.int .i64 0) (.slice none 0 0)
      have HE:=Lib.hid (And.intro e0 e1)
      have HBE:=Lib.hid hbel
      clear e0 e1 hbel HX HPK HSB hSK hst
      by_cases hd1:div<1
      ·go_wp2_with fail
       refine bodyPost_ret (v:= .tuple #[.agg #[.int .i64 0,.slice none 0 0],.int .i64 1]) ?_ rfl (REnd.none rfl (below2 HBE.out (by omega) _ _))
       obtain⟨e0,e1⟩:=HE.out
       simp[results,Tryz.results100,go_sem,e0,e1]
      ·have hd2:1073741824<div:=by omega
       go_wp2_with fail
       refine bodyPost_ret (v:= .tuple #[.agg #[.int .i64 0,.slice none 0 0],.int .i64 1]) ?_ rfl (REnd.none rfl (below2 HBE.out (by omega) _ _))
       obtain⟨e0,e1⟩:=HE.out
       simp[results,Tryz.results100,go_sem,e0,e1]
    ·rw[if_neg hd]at hSK
     obtain⟨hpok,hd1,hd2⟩:=stepK_ok (ls:=ls) (by rw[HN.out];exact hSK) HOK.out
     have hd1':¬div<1:=by omega
     have hd2':¬ 1073741824<div:=by omega
     have hc:=cTo_in hpok pn (by rw[HPN.out];exact Nat.le_refl _)
     have HTI:=Lib.hid (tTo_in hpok pn (by rw[HPN.out];exact Nat.le_refl _))
     have HTV:=Lib.hid (tTo_vars hpok pn (by rw[HPN.out];exact Nat.le_refl _))
     have HRS:Hid (IsSum (tTo ls ps pn) R):=by show IsSum _ _;rw[HR.out];exact sumOf_is _
     have HFE:=Lib.hid (fun L h=>flags_end (n:=n) (c:=cTo ls ps pn) (R:=R) (L:=L) hSK h)
     obtain⟨ta,tcap,rfl,hos⟩:=OutSt.start (u:=upI (cTo ls ps pn) div) hst.out
     have HOS:=Lib.hid hos
     have k64:pn≤64:=by omega
     clear hos hst HSB HPK HOK HLL HP HR HPN hpok hSK hpk
     generalize cTo ls ps pn=c at hc HX HFE HOS⊢
     generalize tTo ls ps pn=T at HTI HTV HRS HOS⊢
     have hcB: -281474976710656≤c∧c≤281474976710656:=by omega
     have HUP:=Lib.hid (fun W=>rup_any c div W ⟨hd1,hd2⟩ hcB)
     have HCO:=Lib.hid (fun W=>coef_any (upI c div) W)
     have HFS:=Lib.hid (flags_start (c:=c) (u:=upI c div) (g:=div) HRS.out HTV.out)
     have HW:Hid (farS c R (-1)=decide (c< -4398046511104∨4398046511104<c)):=by
      show _=_
      rw[HFS.out.1]
      unfold wi
      by_cases h: -4398046511104≤c∧c≤4398046511104
      ·rw[decide_eq_true h,decide_eq_false (by omega)];rfl
      ·rw[decide_eq_false h,decide_eq_true (by omega)];rfl
     have hub:=upI_in (c:=c) (g:=div) (B:=281474976710656) (by omega)
     have HTLEN:Hid (T.length≤8192):=by have:=HTI.out.1;show _≤_;omega
     have hTL:=HTLEN.out
     have HBD:Hid (Bd 4398046511104 T):=HTI.out.2
     generalize hU:upI c div=u at HOS HUP HCO HFS hub HFE
     have HU:=Lib.hid hU
     clear hU HTI
     have HFO:=Lib.hid HFS.out.2.2
     have HFR:=Lib.hid HFS.out.2.1
     clear HFS
     generalize hwu:wi u 1073741824=wu at HCO HFO
     clear hwu
     have hbound:=Lib.hid hbel
     have hcase:c< -4398046511104∨(¬c< -4398046511104∧4398046511104<c)∨(¬c< -4398046511104∧¬ 4398046511104<c):=by omega
     clear hbel
     go_upto_region 17 with (fail)
     go_cut [10] (fun far wr=>far= .bool (farS c R (-1))∧wo=wr)
     case first=>
      rcases hcase with hc1 | ⟨hc1,hc2⟩ | ⟨hc1,hc2⟩
      all_goals
       go_wp2_with fail
       go_meet
       case rel=>
        refine⟨?_,rfl⟩
        rw[HW.out]
        first | rw[decide_eq_true (by omega)] | rw[decide_eq_false (by omega)]
     case rest=>
      obtain⟨rfl,rfl⟩:=hcut
      clear hcase
      go_wp2_with fail
      refine(HUP.out _).mono ?_
      rintro e w5 ⟨rfl,rfl⟩
      go_wp2_with fail
      refine(HCO.out _).mono ?_
      rintro e w5 ⟨rfl,rfl⟩
      go_wp2_with fail
      generalize wo.alloc (.cells #[.int .i64 u,.slice none 0 0] 36)=w5 at HOS⊢
      generalize wo.heap.size=No at HOS⊢
      go_loopw [10,11,13,14] (fun far rest over last wr=>∃L:Int, -1≤L∧L<1048576∧last= .int .i64 L∧far= .bool (farS c R L)∧rest= .bool (restS div R L)∧over= .bool (overS u div R L)∧Hid (OutSt w wr No pa pn pcap div u T ta (divT div (upTo R L)))) (fun _ _ _ last _=>(1048576 - intOf last).toNat)
      case atStart=>
       refine⟨-1,by omega,by omega,rfl,rfl,by rw[HFR.out],by rw[HFO.out], ?_⟩
       ·show OutSt _ _ _ _ _ _ _ _ _ _ _
        rw[upTo_start HRS.out HTV.out];exact HOS.out
      case round=>
       obtain⟨L,hL1,hL2,rfl,rfl,rfl,rfl,hS⟩:=hrel
       generalize hfb:farS c R L=fb
       generalize hrb:restS div R L=rb
       generalize hob:overS u div R L=ob
       have HFB:=Lib.hid hfb
       have HRB:=Lib.hid hrb
       have HOB:=Lib.hid hob
       clear hfb hrb hob
       obtain⟨wo,rfl⟩:∃wo:World,wo=wr:=⟨_,rfl⟩
       have HL:=Lib.hid hS.out.lies
       go_wp2_with fail
       go_loop [15,16] (fun v i=>∃k:Nat,k≤T.length∧i= .int .i64 k∧v= .int .i64 (nv L (T.take k))) (fun _ i=>T.length - (intOf i).toNat)
       case atStart=>exact⟨0,Nat.zero_le _,rfl,rfl⟩
       case round=>
        obtain⟨k,hk,rfl,rfl⟩:=hrel
        by_cases hlt:k<T.length
        ·as_aux_lemma=>
          obtain⟨b,off,rfl,hblt,c1,c2⟩:=HL.out k hlt
          have hst:=nv_snoc L (T.take k) (T.getD k (0,0))
          rw[←take_snoc T k hlt]at hst
          unfold nvStep at hst
          generalize nv L (T.take k)=v at hst
          generalize (T.getD k (0,0)).1=x at c1 hst
          by_cases tA:L<x
          ·by_cases tB:v<0
           ·have HT:Hid (nv L (T.take (k+1))=x):=hst.trans (if_pos ⟨tA,.inl tB⟩)
            clear hst c2
            go_wp2_with fail
            go_round
            case rel=>exact⟨k+1,by omega,by go_num,by rw[HT.out]⟩
            case measure=>simp[intOf];omega
           ·by_cases tC:x<v
            ·have HT:Hid (nv L (T.take (k+1))=x):=hst.trans (if_pos ⟨tA,.inr tC⟩)
             clear hst c2
             go_wp2_with fail
             go_round
             case rel=>exact⟨k+1,by omega,by go_num,by rw[HT.out]⟩
             case measure=>simp[intOf];omega
            ·have HT:Hid (nv L (T.take (k+1))=v):=hst.trans (if_neg (by omega))
             clear hst c2
             go_wp2_with fail
             go_round
             case rel=>exact⟨k+1,by omega,by go_num,by rw[HT.out]⟩
             case measure=>simp[intOf];omega
          ·have HT:Hid (nv L (T.take (k+1))=v):=hst.trans (if_neg (by omega))
           clear hst c2
           go_wp2_with fail
           go_round
           case rel=>exact⟨k+1,by omega,by go_num,by rw[HT.out]⟩
           case measure=>simp[intOf];omega
        ·have hkn:k=T.length:=by omega
         have hsp:=nv_spec L T HTV.out T.length (Nat.le_refl _)
         rw[List.take_length]at hsp
         rw[show T.take k=T by rw[hkn];exact List.take_length]
         generalize hv:nv L T=v at hsp
         clear hkn hv
         rcases hsp with ⟨rfl,hend⟩ | ⟨hv0,hv1,hvL,hmin⟩
         ·as_aux_lemma=>
           have hup:upTo R L=R:=upTo_end HRS.out hend
           obtain⟨f1,f2,f3,f4⟩:=HFE.out L hup
           rw[HFB.out]at f1 f2 f3 f4
           rw[HRB.out]at f2 f3 f4
           rw[HOB.out]at f3 f4
           obtain⟨ht,_,o0,⟨v1,o1,hrow⟩,ofr,olt,oge⟩:=hS.out
           rw[hup]at hrow
           obtain⟨a1,cap1,rfl,_,_⟩:=hrow.lies
           obtain⟨s0,s1,r0,r1,rf,mz,hbel⟩:=ht
           have HROW:=Lib.hid hrow
           have HBEL:=Lib.hid hbel
           have HR01:=Lib.hid (And.intro r0 r1)
           clear hend hup hrow hbel HFB HRB HOB hS HL
           have RET:Hid (∀(X:Int),x=X→C=0→E=[]→REnd w.heap.size x C E w (.returned (.tuple #[.agg #[.int .i64 0,.slice none 0 0],.int .i64 X])) ((wo.setCell ⟨w.heap.size+1,0,none⟩ (.int .i64 0)).setCell ⟨w.heap.size+1,1,none⟩ (.slice none 0 0))):=fun X h1 h2 h3=>by
            subst h1 h2 h3
            exact REnd.none rfl (below2 HBEL.out (by omega) _ _)
           cases fb with
           | true=>
             have e:=f1 rfl
             have hb:=HX.out.bad (by rw[e];decide)
             rw[e]at hb
             have RE:=Lib.hid (RET.out 3 hb.1 hb.2.1 hb.2.2)
             clear f1 f2 f3 f4 e hb HX RET
             go_wp2_with fail
             refine bodyPost_ret (v:= .tuple #[.agg #[.int .i64 0,.slice none 0 0],.int .i64 3]) ?_ rfl RE.out
             obtain⟨e0,e1⟩:=res2 HR01.out.1 HR01.out.2 (.int .i64 0) (.slice none 0 0)
             simp[results,Tryz.results100,go_sem,e0,e1]
           | false=>
             cases rb with
             | true=>
               have e:=f2 rfl rfl
               have hb:=HX.out.bad (by rw[e];decide)
               rw[e]at hb
               have RE:=Lib.hid (RET.out 7 hb.1 hb.2.1 hb.2.2)
               clear f1 f2 f3 f4 e hb HX RET
               go_wp2_with fail
               refine bodyPost_ret (v:= .tuple #[.agg #[.int .i64 0,.slice none 0 0],.int .i64 7]) ?_ rfl RE.out
               obtain⟨e0,e1⟩:=res2 HR01.out.1 HR01.out.2 (.int .i64 0) (.slice none 0 0)
               simp[results,Tryz.results100,go_sem,e0,e1]
             | false=>
               cases ob with
               | true=>
                 have e:=f3 rfl rfl rfl
                 have hb:=HX.out.bad (by rw[e];decide)
                 rw[e]at hb
                 have RE:=Lib.hid (RET.out 3 hb.1 hb.2.1 hb.2.2)
                 clear f1 f2 f3 f4 e hb HX RET
                 go_wp2_with fail
                 refine bodyPost_ret (v:= .tuple #[.agg #[.int .i64 0,.slice none 0 0],.int .i64 3]) ?_ rfl RE.out
                 obtain⟨e0,e1⟩:=res2 HR01.out.1 HR01.out.2 (.int .i64 0) (.slice none 0 0)
                 simp[results,Tryz.results100,go_sem,e0,e1]
               | false=>
                 have e:=f4 rfl rfl rfl
                 have hdl:(divT div R).length=R.length:=divT_len _ _
                 by_cases h64R:64<R.length
                 ·rw[if_pos h64R]at e
                  have hb:=HX.out.bad (by rw[e];decide)
                  rw[e]at hb
                  have RE:=Lib.hid (RET.out 2 hb.1 hb.2.1 hb.2.2)
                  have h64D:64<(divT div R).length:=by omega
                  clear f1 f2 f3 f4 e hb HX RET hdl h64R
                  go_wp2_with fail
                  refine bodyPost_ret (v:= .tuple #[.agg #[.int .i64 0,.slice none 0 0],.int .i64 2]) ?_ rfl RE.out
                  obtain⟨e0,e1⟩:=res2 HR01.out.1 HR01.out.2 (.int .i64 0) (.slice none 0 0)
                  simp[results,Tryz.results100,go_sem,e0,e1]
                 ·rw[if_neg h64R]at e
                  obtain⟨rfl,hC,rfl⟩:=HX.out.ok e
                  rw[HU.out]at hC
                  subst hC
                  have h64D:¬ 64<(divT div R).length:=by omega
                  clear f1 f2 f3 f4 e HX RET hdl h64R
                  go_wp2_with fail
                  refine bodyPost_ret (v:= .tuple #[.agg #[.int .i64 C,.slice a1 (divT div R).length cap1],.int .i64 0]) ?_ rfl ⟨_,rfl,Joins.ownsRow_le (HROW.out.set2 (by omega) _ _) (by omega),below2 HBEL.out (by omega) _ _⟩
                  obtain⟨e0,e1⟩:=res2 HR01.out.1 HR01.out.2 (.int .i64 C) (.slice a1 (divT div R).length cap1)
                  simp[results,Tryz.results100,go_sem,e0,e1]
         ·as_aux_lemma=>
           obtain⟨ht,_,o0,⟨v1,o1,hrow⟩,ofr,olt,oge⟩:=hS.out
           obtain⟨s0,s1,r0,r1,rf,mz,hbel⟩:=ht
           have HCB:=Lib.hid (coef_bd T HBD.out v)
           have HST:=Lib.hid (upTo_step HRS.out hvL hmin)
           have HROW:=Lib.hid hrow
           clear hmin hrow hbel r0 r1 rf o0 s0
           go_wp2_with fail
           go_loop [17,18] (fun s i=>∃k:Nat,k≤T.length∧i= .int .i64 k∧s= .int .i64 (coef (T.take k) v)) (fun _ i=>T.length - (intOf i).toNat)
           case atStart=>exact⟨0,Nat.zero_le _,rfl,rfl⟩
           case round=>
            obtain⟨k,hk,rfl,rfl⟩:=hrel
            by_cases hlt:k<T.length
            ·as_aux_lemma=>
              obtain⟨b,off,rfl,hblt,c1,c2⟩:=HL.out k hlt
              have hs:=HCB.out k (by omega)
              have hts:=take_snoc T k hlt
              have hkb:=HBD.out (T.getD k (0,0)) (by rw[List.getD_eq_getElem?_getD,List.getElem?_eq_getElem hlt];simp)
              have HT:Hid (coef (T.take (k+1)) v=coef (T.take k) v+if(T.getD k (0,0)).1=v then(T.getD k (0,0)).2 else 0):=by
               show _=_
               rw[hts,coef_append,coef_cons,coef_nil];omega
              have hs2: -36028797018963968≤coef (T.take k) v∧coef (T.take k) v≤36028797018963968:=by omega
              clear hs hts
              generalize (T.getD k (0,0)).1=x9 at c1 HT
              generalize (T.getD k (0,0)).2=u9 at c2 HT hkb
              generalize coef (T.take k) v=s9 at HT hs2
              by_cases hx9:x9=v
              ·have HT2:Hid (coef (T.take (k+1)) v=s9+u9):=HT.out.trans (by rw[if_pos hx9])
               clear HT
               go_wp2_with fail
               go_round
               case rel=>exact⟨k+1,by omega,by go_num,by rw[HT2.out]⟩
               case measure=>simp[intOf];omega
              ·have HT2:Hid (coef (T.take (k+1)) v=s9):=HT.out.trans (by rw[if_neg hx9];omega)
               clear HT c2
               go_wp2_with fail
               go_round
               case rel=>exact⟨k+1,by omega,by go_num,by rw[HT2.out]⟩
               case measure=>simp[intOf];omega
            ·have hkn:k=T.length:=by omega
             have hKb:=HCB.out T.length (Nat.le_refl _)
             rw[List.take_length]at hKb
             rw[show T.take k=T by rw[hkn];exact List.take_length]
             have hKb2: -36028797018963968≤coef T v∧coef T v≤36028797018963968:=by omega
             clear hKb hkn
             generalize coef T v=K at hKb2 HST
             by_cases hK:K=0
             ·subst hK
              have hstep:upTo R v=upTo R L:=by rw[HST.out];simp
              obtain⟨g1,g2,g3⟩:=flags_same (c:=c) (u:=u) (g:=div) hstep
              have HF1:Hid (farS c R v=fb):=g1.trans HFB.out
              have HF2:Hid (restS div R v=rb):=g2.trans HRB.out
              have HF3:Hid (overS u div R v=ob):=g3.trans HOB.out
              have HS2:Hid (OutSt w wo No pa pn pcap div u T ta (divT div (upTo R v))):=by show OutSt _ _ _ _ _ _ _ _ _ _ _;rw[hstep];exact hS.out
              clear hstep g1 g2 g3
              go_wp2_with fail
              go_roundw
              case rel=>exact⟨v,by omega,hv1,rfl,by rw[HF1.out],by rw[HF2.out],by rw[HF3.out],HS2⟩
              case measure=>simp[intOf];omega
             ·have hstep:upTo R v=upTo R L ++ [(v,K)]:=by rw[HST.out,if_neg hK]
              obtain⟨g1,g2,g3⟩:=flags_step (c:=c) (u:=u) (g:=div) hstep
              rw[HFB.out]at g1
              rw[HRB.out]at g2
              rw[HOB.out]at g3
              have hq:=tdiv_in (c:=K) (g:=div) (B:=36028797018963968) (by omega)
              have hwq:IntKind.i64.wrap (K.tdiv div)=K.tdiv div:=IntWalk.i64_in _ (by omega)
              have hd0:div≠0:=by omega
              have HCQ:=Lib.hid (fun W=>coef_any (K.tdiv div) W)
              have hlenU:(divT div (upTo R L)).length≤8192:=by
               rw[divT_len]
               have h1:=List.length_filter_le (fun m:Int×Int=>decide (m.1≤L)) R
               have h2:=sum_len HRS.out
               have h3:=HTLEN.out
               unfold upTo;omega
              have HDS:Hid (divT div (upTo R v)=divT div (upTo R L) ++ [(v,K.tdiv div)]):=by show _=_;rw[hstep,divT_append]
              have hKne:¬K=0:=hK
              obtain⟨bf,HF1,hF⟩:∃bf,Hid (farS c R v=bf)∧((fb=true∧bf=true)∨(fb=false∧K< -4398046511104∧bf=true)∨(fb=false∧¬K< -4398046511104∧4398046511104<K∧bf=true)∨(fb=false∧¬K< -4398046511104∧¬ 4398046511104<K∧bf=false)):=by
               refine⟨_,g1, ?_⟩
               cases fb
               ·by_cases a1:K< -4398046511104
                ·refine .inr (.inl ⟨rfl,a1, ?_⟩);rw[wi_f (by omega)];rfl
                ·by_cases a2:4398046511104<K
                 ·refine .inr (.inr (.inl ⟨rfl,a1,a2, ?_⟩));rw[wi_f (by omega)];rfl
                 ·refine .inr (.inr (.inr ⟨rfl,a1,a2, ?_⟩));rw[wi_t (by omega)];rfl
               ·exact .inl ⟨rfl,rfl⟩
              obtain⟨br,HF2,hRr⟩:∃br,Hid (restS div R v=br)∧((rb=true∧br=true)∨(rb=false∧K.tmod div≠0∧br=true)∨(rb=false∧K.tmod div=0∧br=false)):=by
               refine⟨_,g2, ?_⟩
               cases rb
               ·by_cases a1:K.tmod div=0
                ·refine .inr (.inr ⟨rfl,a1, ?_⟩);rw[a1];rfl
                ·refine .inr (.inl ⟨rfl,a1, ?_⟩);simp[a1]
               ·exact .inl ⟨rfl,rfl⟩
              generalize hwk:wi (K.tdiv div) 1073741824=wk at HCQ g3
              clear hwk
              obtain⟨bo,HF3,hO⟩:∃bo,Hid (overS u div R v=bo)∧((ob=true∧bo=true)∨(ob=false∧wk=false∧bo=true)∨(ob=false∧wk=true∧bo=false)):=by
               refine⟨_,g3, ?_⟩
               cases ob<;>cases wk<;>simp
              clear g1 g2 g3 hstep HST HCB HFB HRB HOB hq
              have HM:=Lib.hid olt
              have s1a:(wo.alloc (.cells #[.int .i64 v,.int .i64 (K.tdiv div)] 92)).cell? ⟨w.heap.size,1,none⟩=some (.int .i64 div):=(((Below.refl _ wo).alloc (Nat.le_refl _) _).cell (p:=⟨w.heap.size,1,none⟩) (by show w.heap.size<_;omega)).trans s1
              have o1a:(wo.alloc (.cells #[.int .i64 v,.int .i64 (K.tdiv div)] 92)).cell? ⟨No,1,none⟩=some v1:=(((Below.refl _ wo).alloc (Nat.le_refl _) _).cell (p:=⟨No,1,none⟩) olt).trans o1
              have HR5:Hid (((wo.alloc (.cells #[.int .i64 v,.int .i64 (K.tdiv div)] 92)).drew).ownsRow (No+1) 92 2 v1 (divT div (upTo R L)).length (flat (divT div (upTo R L)))):=(World.ownsRow.alloc HROW.out _).drew
              have HB5:Hid (Below (No+1) wo ((wo.alloc (.cells #[.int .i64 v,.int .i64 (K.tdiv div)] 92)).drew)):=((Below.refl _ wo).alloc olt _).drew
              have NEWS:=Lib.hid (World.news_of_block (w:=(wo.alloc (.cells #[.int .i64 v,.int .i64 (K.tdiv div)] 92)).drew) (cs:= #[.int .i64 v,.int .i64 (K.tdiv div)]) (t:=92) (fr:=(0,0)) (heap_alloc_new wo _))
              have HSL:=Lib.hid hS.out
              have HOFR:=Lib.hid ofr
              have HO1:=Lib.hid o1
              clear hS HROW ofr HL
              obtain⟨i0,hi,hz0,hz1,hz2⟩:=info_parts Tryz.infoMono
              go_upto_region 37 with (fail)
              go_cut [10] (fun far wr=>far= .bool bf∧wo=wr)
              case first=>
               rcases hF with ⟨rfl,rfl⟩ | ⟨rfl,hFa,rfl⟩ | ⟨rfl,hFa,hFb,rfl⟩ | ⟨rfl,hFa,hFb,rfl⟩
               all_goals
                go_wp2_with fail
                go_meet
                case rel=>exact⟨rfl,rfl⟩
              case rest=>
               obtain⟨rfl,rfl⟩:=hcut
               go_upto_region 38 with (fail)
               go_cut [11] (fun rest wr=>rest= .bool br∧wo=wr)
               case first=>
                rcases hRr with ⟨rfl,rfl⟩ | ⟨rfl,hRa,rfl⟩ | ⟨rfl,hRa,rfl⟩
                all_goals
                 go_wp2_with fail
                 go_meet
                 case rel=>first | exact⟨rfl,rfl⟩ | exact⟨by simpa using hRa,rfl⟩
               case rest=>
                obtain⟨rfl,rfl⟩:=hcut
                go_upto_region 39 with (fail)
                go_cut [13] (fun over wr=>over= .bool bo∧wo=wr)
                case first=>
                 rcases hO with ⟨rfl,rfl⟩ | ⟨rfl,rfl,rfl⟩ | ⟨rfl,rfl,rfl⟩
                 all_goals
                  go_wp2_with (first | (go_at_call 26;refine(HCQ.out _).mono ?_;rintro e w' ⟨rfl,rfl⟩))
                  go_meet
                  case rel=>exact⟨rfl,rfl⟩
                case rest=>
                 obtain⟨rfl,rfl⟩:=hcut
                 go_wp2_with fail
                 go_region_law (first
                  | (refine step_append_lies _ (by rfl) _ _ _ (by rfl) (No+1) 92 i0 _ 2 16 Tryz.underlying34 hi hz0 hz1 hz2 rfl (by omega) v1 (divT div (upTo R L)).length (flat (divT div (upTo R L))) (by rfl) HR5.out
                      ⟨wo.heap.size,0,none⟩ 1 1 [.int .i64 v,.int .i64 (K.tdiv div)] (by rfl) (by rfl) NEWS.out (by simp[Value.oneCell']) (by omega) (by unfold maxLen;omega) (by omega) (by have:=HM.out;simp;omega) (wo.heap.size+1) (by simp) ?_
                     intro gg cap2 w6 hown6 hgrow6 hat6 hlt6
                     have W6:Hid (Below (No+1) wo w6):=HB5.out.grown hgrow6 (by have:=HM.out;simp;omega) (fun j hj=>(World.ownsRow.lt HR5.out j hj).1)
                     have o61:w6.cell? ⟨No,1,none⟩=some v1:=(W6.out.cell (p:=⟨No,1,none⟩) (Nat.lt_succ_self _)).trans HO1.out
                     have o6f:∀o,w6.frozen? ⟨No,o,none⟩=false:=fun o=>(W6.out.frozen (p:=⟨No,o,none⟩) (Nat.lt_succ_self _)).trans (HOFR.out o)))
                 all_goals
                 have ST:Hid (OutSt w (w6.setCell ⟨No,1,none⟩ (.slice (some ⟨gg,0,none⟩) ((divT div (upTo R L)).length+1) cap2)) No pa pn pcap div u T ta (divT div (upTo R v))):=by
                  refine HSL.out.push W6.out ?_
                  rw[HDS.out]
                  unfold Row
                  rw[List.length_append,flat_append]
                  exact hown6
                 clear o61 o6f hown6 hgrow6 hat6 hlt6 W6
                 generalize w6.setCell ⟨No,1,none⟩ (.slice (some ⟨gg,0,none⟩) ((divT div (upTo R L)).length+1) cap2)=w7 at ST⊢
                 go_wp2_with fail
                 go_roundw
                 case rel=>exact⟨v,by omega,hv1,rfl,by rw[HF1.out],by rw[HF2.out],by rw[HF3.out],ST⟩
                 case measure=>simp[intOf];omega
end Cut
end Go.Proofs.YtipahfcaplbifaaGreatDoor
