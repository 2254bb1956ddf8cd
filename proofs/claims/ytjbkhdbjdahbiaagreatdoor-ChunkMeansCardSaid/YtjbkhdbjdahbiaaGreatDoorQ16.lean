/- Parts of a proof. -/
import Derived.Test.YtjbkhdbjdahbiaaGreatDoorQ13
set_option linter.unusedVariables false
set_option linter.unusedSimpArgs false
set_option maxHeartbeats 60000000
set_option maxRecDepth 100000
namespace Go.Proofs.YtjbkhdbjdahbiaaGreatDoor
section
open Go.RowKit
theorem cexpr_4 (n:Nat)(σ:ByteArray→Option LT)(ks:List ET)(en:Int)(nm:ByteArray)(a:Option Addr)(cap:Nat)(lv:Value)(w:World)(hm:ks.length=1)(hs:Pak.Sits (exprSh n) (Pak.Lo w.heap.size) w a ks)(hn: -1073741824≤en∧en≤1073741824)
 (hsd:∀x y,x∈ks→linE σ n x=some y→Sd y)
 (hf:∀cs x W,x∈ks→Below w.heap.size w W→(exprSh n).rel (Pak.Lo W.heap.size) W cs x→Calls Tryz.prog 40 #[.agg cs.toArray,lv] W (LnEnd (linE σ n x) W)):
 Calls Tryz.prog 40 #[.agg #[.int .i64 4,.int .i64 en,.string nm,.slice a 1 cap],lv] w (LnEnd (linE σ (n+1) (.mk 4 en nm ks)) w):=by
 have n1:=fun W=>Tryz.eqNil W
 have n2:=fun t v W=>Tryz.eqIface t v W
 have HS:=Lib.hid hs
 have HF:=Lib.hid hf
 have HM:=Lib.hid hm
 have HSD:=Lib.hid hsd
 have HN:=Lib.hid hn
 have HA:Hid (Below w.heap.size w (w.alloc (.cells #[.int .i64 4,.int .i64 en,.string nm,.slice a 1 cap] 49))):=box_low
 have HW:Hid (Below w.heap.size w ((w.alloc (.cells #[.int .i64 4,.int .i64 en,.string nm,.slice a 1 cap] 49)).alloc (.cells #[.int .i64 0,.slice none 0 0] 25))):=below_two
 have HQ:=Lib.hid (fun W (hb:Below ((w.alloc (.cells #[.int .i64 4,.int .i64 en,.string nm,.slice a 1 cap] 49)).alloc (.cells #[.int .i64 0,.slice none 0 0] 25)).heap.size ((w.alloc (.cells #[.int .i64 4,.int .i64 en,.string nm,.slice a 1 cap] 49)).alloc (.cells #[.int .i64 0,.slice none 0 0] 25)) W)=>kind_at hb)
 clear hs hf hm hsd hn
 go_enter Tryz.func40,Tryz.ntmps40
 go_wp2_with fail
 go_loopw [6,18] (fun t i wr=>∃(j:Nat) (v:Value) (ys:List LT),i= .int .i64 j∧j≤1∧v=t∧Hid (ys.length=j∧∀q,q<j→linE σ n (ks.getD q default)=some (ys.getD q (0,[])))∧Hid (OwnL linSh 25 (w.heap.size+2) ys v wr)∧Hid (Below ((w.alloc (.cells #[.int .i64 4,.int .i64 en,.string nm,.slice a 1 cap] 49)).alloc (.cells #[.int .i64 0,.slice none 0 0] 25)).heap.size ((w.alloc (.cells #[.int .i64 4,.int .i64 en,.string nm,.slice a 1 cap] 49)).alloc (.cells #[.int .i64 0,.slice none 0 0] 25)) wr)) (fun _ i _=>1 - (intOf i).toNat)
 case atStart=>exact⟨0,_,[],rfl,Nat.zero_le _,rfl,⟨rfl,fun q h=>absurd h (Nat.not_lt_zero _)⟩,OwnL.nil _ _ _ _,Below.refl _ _⟩
 case round=>
  obtain⟨j,v,ys,rfl,hj,rfl,hys,hown,hb⟩:=hrel
  obtain⟨wo,rfl⟩:∃wo:World,wo=wr:=⟨_,rfl⟩
  have HWO:=Lib.hid (HW.out.trans (hb.out.mono HW.out.size))
  have hz:w.heap.size+2≤wo.heap.size:=by have:=hb.out.size;simp at this;omega
  by_cases hlt:j<1
  ·as_aux_lemma=>
   have hlx:j<ks.length:=by rw[HM.out];exact hlt
   have hji:(j:Int)<1:=by omega
   obtain⟨b,off,cs,rfl,hbl,hc,hr⟩:=(HS.out.below HWO.out HWO.out.size).2 j hlx
   have hlen:=(exprSh n).len hr
   have hone:=(exprSh n).one hr
   rw[exprSh_k]at hlen hc
   have HC0:Hid (∀i v,cs[i]? =some v→wo.cell? ((⟨b,off+j*4,none⟩:Addr).add i)=some v):=fun i v hv=>by
    rw[show(⟨b,off+j*4,none⟩:Addr).add i=⟨b,off+j*4+i,none⟩ by unfold Addr.add;split<;>simp_all]
    exact hc i v hv
   have hA:Below wo.heap.size wo (wo.alloc (.cells cs.toArray 49)):=box_low
   have HBK:=Lib.hid (hb.out.trans (hA.mono hb.out.size))
   have HWK:=Lib.hid (HWO.out.trans (hA.mono HWO.out.size))
   have HOWN:=Lib.hid (hown.out.below hA)
   have HOLT:=Lib.hid (fun b e=>(OwnL.lt hown.out b e).2)
   have HC:=Lib.hid (HF.out _ ks[j] _ (List.getElem_mem hlx) HWK.out (rel_low hr hA))
   have HX:Hid (∀i v,cs[i]? =some v→(wo.alloc (.cells cs.toArray 49)).cell? ((⟨wo.heap.size,0,none⟩:Addr).add i)=some v):=box_part (o:=0) (fun i v h=>by rw[Nat.zero_add];exact h) (Below.refl _ _)
   have HL:=Lib.hid hlen
   have HO:=Lib.hid hone
   have HP:Hid (ks.getD j default=ks[j]):=Lib.hid (by rw[List.getD_eq_getElem?_getD,List.getElem?_eq_getElem hlx];rfl)
   have HNX:Hid (∀y,linE σ n ks[j]=some y→(ys ++ [y]).length=j+1∧∀q,q<j+1→linE σ n (ks.getD q default)=some ((ys ++ [y]).getD q (0,[]))):=Lib.hid fun y hy=>⟨by rw[List.length_append,hys.out.1];rfl,fun q hq=>by
    by_cases e:q=j
    ·subst e
     rw[HP.out,hy,List.getD_eq_getElem?_getD,List.getElem?_append_right (by rw[hys.out.1];exact Nat.le_refl _),hys.out.1]
     simp
    ·rw[hys.out.2 q (by omega),List.getD_eq_getElem?_getD,List.getD_eq_getElem?_getD,List.getElem?_append_left (by rw[hys.out.1];omega)]⟩
   have HSJ:=Lib.hid (fun y (hy:linE σ n ks[j]=some y)=>HSD.out _ y (List.getElem_mem hlx) hy)
   have HNO:Hid (linE σ n ks[j]=none→linE σ (n+1) (.mk 4 en nm ks)=none):=Lib.hid (by
    intro h
    rw[←HP.out]at h
    unfold linE
    show(if(4:Int)=1 then _ else if(4:Int)=2 then _ else if(4:Int)=3 then _ else if(4:Int)=4 then _ else _)=_
    rw[if_neg (by decide),if_neg (by decide),if_neg (by decide),if_pos (by decide)]
    obtain rfl:j=0:=by omega
    show(linE σ n (ks.getD 0 default)).bind _=none
    rw[h];rfl)
   have HYL:Hid (ys.length≤2):=Lib.hid (by rw[hys.out.1];omega)
   have hz1:w.heap.size+2≤(wo.alloc (.cells cs.toArray 49)).heap.size:=by simp;omega
   have HZL:Hid (∀b,v.ownBlock=some b→b<(wo.alloc (.cells cs.toArray 49)).heap.size):=Lib.hid (fun b e=>by have:=HOLT.out b e;simp;omega)
   clear hc hr hlen hone hA hown hb hys
   generalize linE σ n ks[j]=y at HC HNX HNO HSJ
   go_wp2_with (first | go_skip | (refine wpList_store_new (by kernel_rfl) 49 _ _ rfl _ rfl cs rfl (by rw[HL.out];kernel_rfl) (by rw[HL.out];rfl) HO.out ?_) | (refine wpList_load_w (by kernel_rfl) 49 _ rfl ⟨b,off+j*4,none⟩ rfl cs _ HC0.out Tryz.underlying49 rfl (by rw[HL.out];kernel_rfl) ?_) | (refine wpList_load_w (by kernel_rfl) 49 _ rfl ⟨wo.heap.size,0,none⟩ rfl cs _ HX.out Tryz.underlying49 rfl (by rw[HL.out];kernel_rfl) ?_))
   refine HC.out.mono ?_
   rintro r w2 (⟨⟨yc,yl⟩,v6,rfl,rfl,hrow,hb2⟩ | ⟨rfl,rfl,hb2⟩)
   ·obtain⟨a6,cap6,rfl,hl6,_⟩:=hrow.lies
    have HB2:=Lib.hid (HBK.out.trans (hb2.mono HBK.out.size))
    have HN2:=Lib.hid (HNX.out _ rfl)
    have hz2:w.heap.size+2≤w2.heap.size:=Nat.le_trans hz1 hb2.size
    have hA2:Below w2.heap.size w2 (w2.alloc (.cells #[.int .i64 yc,.slice a6 yl.length cap6] 25)):=box_low
    obtain⟨v5,w5,hr5,hown5,hb5⟩:=run_push_lin (w:=w2.alloc (.cells #[.int .i64 yc,.slice a6 yl.length cap6] 25)) (w.heap.size+2) ys (yc,yl) v (.slice a6 yl.length cap6) ((HOWN.out.below hb2).below hA2) (Nat.le_trans hz2 hA2.size) (linRel_rowS (hrow.alloc _) (by have h64:yl.length≤64:=(HSJ.out _ rfl).len;show yl.length≤_;omega) HZL.out) (by have:=HYL.out;omega)
    rw[show(w2.alloc (.cells #[.int .i64 yc,.slice a6 yl.length cap6] 25)).heap.size=w2.heap.size+1 by simp]at hr5
    have RN:=Lib.hid hown5
    have BN:=Lib.hid (HB2.out.trans (((hA2.mono hz2).trans hb5).mono (by simp)))
    clear hown5 hb5 hA2 hb2 hrow hl6 HC HC0 HX HNX HNO HOWN HZL HOLT HBK HWK HB2 HSJ
    go_wp2_with (at_builtin;refine Lib.wpList_append_run _ rfl _ _ _ _ rfl _ _ rfl rfl _ _ (hr5 _) ?_)
    go_roundw
    case rel=>exact⟨j+1,v5,ys ++ [(yc,yl)],by go_num,by omega,rfl,HN2,RN,BN⟩
    case measure=>simp[intOf];omega
   ·have HB2:=Lib.hid (HBK.out.trans (hb2.mono HBK.out.size))
    have HR:=Lib.hid (HNO.out rfl)
    obtain⟨r0,r1,rf0,rf1,rlt⟩:=box22_at HB2.out
    have HZ:=Lib.hid (HW.out.trans (HB2.out.mono HW.out.size))
    obtain⟨e0,e1,HBF⟩:=stored_a (x:= .int .i64 0) (y:= .slice none 0 0) (c:= #[.int .i64 0,.slice none 0 0]) (t:=25) HZ.out (by omega) (show w.heap.size≤w.heap.size+1 by omega) rlt r0 r1
    have E01:=Lib.hid (And.intro e0 e1)
    have HBG:=Lib.hid HBF
    clear hb2 HC HC0 HX HNX HNO HOWN HZL HOLT HBK HWK HB2 HSJ e0 e1 HBF
    go_wp2_with fail
    obtain⟨e0,e1⟩:=E01.out
    refine bodyPost_ret (v:= .tuple #[.agg #[.int .i64 0,.slice none 0 0],.bool false]) ?_ rfl (.inr ⟨HR.out,rfl,HBG.out⟩)
    simp[results,Tryz.results40,go_sem,e0,e1]
  ·as_aux_lemma=>
   obtain rfl:j=1:=by omega
   obtain⟨q0,q1⟩:=HQ.out _ hb.out
   obtain⟨ka,kcap,rfl,hks⟩:=hown.out.sits (by rw[hys.out.1];decide)
   obtain⟨y0,rfl⟩:∃y0,ys=[y0]:=by
    match ys,hys.out.1 with
    | [y0],_=>exact⟨y0,rfl⟩
   have s0:linE σ n (ks.getD 0 default)=some y0:=hys.out.2 0 (by omega)
   have sd0:Sd y0:=HSD.out _ _ (getD_mem (by rw[HM.out];decide)) s0
   obtain⟨kb,koff,cs0,rfl,hkb,hc0,c0,v0,rfl,hr0⟩:=hks.2 0 (by simp)
   obtain⟨p0,capa,rfl,rfl,_,hla,_⟩:=hr0.form
   have k00:wo.cell? ⟨kb,koff,none⟩=some (.int .i64 y0.1):=hc0 0 _ rfl
   have k01:wo.cell? ⟨kb,koff+1,none⟩=some (.slice p0 y0.2.length capa):=by have:=hc0 1 _ rfl;simpa using this
   have HRES:Hid (linE σ (n+1) (.mk 4 en nm ks)=timesS en y0):=Lib.hid (by
    unfold linE
    show(if(4:Int)=1 then _ else if(4:Int)=2 then _ else if(4:Int)=3 then _ else if(4:Int)=4 then _ else _)=_
    rw[if_neg (by decide),if_neg (by decide),if_neg (by decide),if_pos (by decide)]
    show((linE σ n (ks.getD 0 default)).bind fun a=>timesS en a)=_
    rw[s0]
    rfl)
   have hdr:Below wo.heap.size wo wo.drew:=(Below.refl _ _).drew
   have HADD:=Lib.hid (times_any en y0 p0 capa y0.2.length wo.drew sd0 HN.out rfl ((hla.below hdr).mono hdr.size))
   rw[←HRES.out]at HADD
   have HBD:=Lib.hid (hb.out.trans (hdr.mono hb.out.size))
   clear hks hc0 hr0 hla sd0 s0 hown hb hys hdr HRES
   generalize y0.2.length=l0 at*
   generalize linE σ (n+1) (.mk 4 en nm ks)=res at*
   cases res with
   | some rr=>
     as_aux_lemma=>
     obtain⟨rc,rl⟩:=rr
     go_wp2_with fail
     go_region_with (go_at_call 66;refine HADD.out.mono ?_;rintro e w4 h4;obtain⟨v4,rfl,hrow4,hb4⟩:=h4.some_form;obtain⟨a3,cap3,rfl,_,_⟩:=hrow4.lies;have H4:=Lib.hid (HBD.out.trans (hb4.mono HBD.out.size));obtain⟨r0,r1,rf0,rf1,rlt⟩:=box22_at H4.out)
     all_goals (
      have HB:=Lib.hid (HW.out.trans (H4.out.mono HW.out.size))
      obtain⟨e0,e1,HBF⟩:=store2 (x:= .int .i64 rc) (y:= .slice a3 rl.length cap3) HB.out (show w.heap.size≤w.heap.size+1 by omega) r0 r1
      have HRF:=Lib.hid (row_store2 (x:= .int .i64 rc) (y:= .slice a3 rl.length cap3) hrow4 (show w.heap.size+1<wo.drew.heap.size by show w.heap.size+1<wo.heap.size;omega))
      go_wp2_with fail
      refine bodyPost_ret (v:= .tuple #[.agg #[.int .i64 rc,.slice a3 rl.length cap3],.bool true]) ?_ rfl (.inl ⟨(rc,rl),_,rfl,rfl,HRF.out.mono (show w.heap.size≤wo.heap.size by omega),HBF⟩)
      simp[results,Tryz.results40,go_sem,e0,e1])
   | none=>
     as_aux_lemma=>
     go_wp2_with fail
     go_region_with (go_at_call 66;refine HADD.out.mono ?_;rintro e w4 h4;obtain⟨rfl,hb4⟩:=h4.none_form;have H4:=Lib.hid (HBD.out.trans (hb4.mono HBD.out.size));obtain⟨r0,r1,rf0,rf1,rlt⟩:=box22_at H4.out)
     all_goals (
      have HB:=Lib.hid (HW.out.trans (H4.out.mono HW.out.size))
      obtain⟨e0,e1,HBF⟩:=store2 (x:= .int .i64 0) (y:= .slice none 0 0) HB.out (show w.heap.size≤w.heap.size+1 by omega) r0 r1
      go_wp2_with fail
      refine bodyPost_ret (v:= .tuple #[.agg #[.int .i64 0,.slice none 0 0],.bool false]) ?_ rfl (.inr ⟨rfl,rfl,HBF⟩)
      simp[results,Tryz.results40,go_sem,e0,e1])
end
end Go.Proofs.YtjbkhdbjdahbiaaGreatDoor
