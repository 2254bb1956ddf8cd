/- Parts of a proof. -/
import Derived.Test.YtipahfcaplbifaaGreatDoorZ09
import Derived.Test.YtipahfcaplbifaaGreatDoorZ16
import Derived.Laws.MakeOwn
import Derived.OwnWalk
import Derived.Deep.RegionLaw
import Derived.BigQuiet
import Derived.RegionTactic
set_option linter.unusedVariables false
set_option linter.unusedSimpArgs false
set_option maxHeartbeats 60000000
set_option maxRecDepth 100000
namespace Go.Proofs.YtipahfcaplbifaaGreatDoor
namespace Cut
open Go.RowKit Go.Maps
structure DivIs (u:Int)(D:List (Int×Int))(x C:Int)(E:List (Int×Int)):Prop where
 ok:divK u D=0→x=0∧C=u∧E=D
 bad:divK u D≠0→x=divK u D∧C=0∧E=[]
theorem divK_far {u:Int}{D:List (Int×Int)}(h:wi u 1073741824=false∨allIn 1073741824 D=false):divK u D=3:=by
 unfold divK;rw[if_neg (by rintro⟨h1,h2⟩;rw[h1,h2]at h;simp at h)]
theorem divK_in {u:Int}{D:List (Int×Int)}(h:wi u 1073741824=true)(h2:allIn 1073741824 D=true):divK u D=if 64<D.length then 2 else 0:=by
 unfold divK;rw[if_pos ⟨h,h2⟩]
theorem divided_any (c g:Int)(B nm:Nat)(T R:List (Int×Int))(va:Option Addr)(vn vcap:Nat)(w:World)(hg:1≤g∧g≤1073741824)(hc: -4398046511104≤c∧c≤4398046511104)(hs:Sums T nm B w)(hR:IsSum T R)(hin:allIn 4398046511104 R=true)(hvn:R.length=vn)(hv:Nums w.heap.size w va (R.map (·.1)))(hvm:vn≤65536)(hvb:∀m∈R,0≤m.1∧m.1≤1073741824)(x C:Int)(E:List (Int×Int))(hx:DivIs (upI c g) (divT g R) x C E):
 Calls Tryz.prog 135 #[.int .i64 c,.map (some B),.slice va vn vcap,.int .i64 g] w (LEnd w.heap.size x C E w):=by
 have hg1:=hg.1
 have hg2:=hg.2
 have hg0:g≠0:=by omega
 have hup:=Lib.hid (fun W=>cup_any c g W hg1 ⟨by omega,by omega⟩)
 have HS:=Lib.hid hs
 have HV:=Lib.hid hv
 have HVN:=Lib.hid hvn
 have HRS:=Lib.hid hR
 have HIN:=Lib.hid hin
 have S0:=Lib.hid (DivSt.start w (upI c g))
 have HDL:=Lib.hid (divT_len g R)
 have HDG:=Lib.hid (fun k h=>divT_get g R k h)
 have HRL:=Lib.hid hvn
 have HX:=Lib.hid hx
 have HVB:=Lib.hid hvb
 clear hs hv hvn hR hin hg hx hvb
 generalize upI c g=u at hup S0 HX
 generalize divT g R=D at HDL HDG HX
 obtain⟨i0,hi,hz0,hz1,hz2⟩:=info_parts Tryz.infoMono
 go_enter Tryz.func135,Tryz.ntmps135
 go_wp2_with fail
 refine(hup.out _).mono ?_
 rintro e w4 ⟨rfl,rfl⟩
 go_wp2_with fail
 generalize (w.alloc (.cells #[.int .i64 0,.slice none 0 0] 36)).alloc (.cells #[.int .i64 u,.slice none 0 0] 36)=w5 at S0⊢
 clear hup
 go_loopw [21] (fun i wr=>∃(k:Nat) (v:Value),k≤vn∧i= .int .i64 k∧Hid (DivSt w wr u v (D.take k))) (fun i _=>vn - (intOf i).toNat)
 case atStart=>exact⟨0,_,Nat.zero_le _,rfl,S0⟩
 case round=>
  clear S0
  obtain⟨k,v,hk,rfl,hst⟩:=hrel
  obtain⟨wo,rfl⟩:∃wo:World,wo=wr:=⟨_,rfl⟩
  obtain⟨hrow,q0,q1,qf,m0,m1,mf,mz,hbel⟩:=hst.out
  by_cases hlt:k<vn
  ·have hkR:k<R.length:=by rw[HRL.out];exact hlt
   obtain⟨b,off,ea,hblt,c1⟩:=(HV.out.below hbel) k (by rw[List.length_map];exact hkR)
   subst ea
   rw[map_getD R k hkR]at c1
   have hts:=take_snoc D k (by rw[HDL.out];exact hkR)
   rw[HDG.out k hkR]at hts
   have hrt:(D.take k).length≤65536:=by rw[List.length_take];omega
   have HT3:=Lib.hid hts
   have hin:=allIn_get HIN.out k hkR
   have hmem:R.getD k (0,0)∈R:=by rw[List.getD_eq_getElem?_getD,List.getElem?_eq_getElem hkR];exact List.getElem_mem hkR
   have hvb:=HVB.out _ hmem
   have hco:coef T (R.getD k (0,0)).1=(R.getD k (0,0)).2:=by rw[←HRS.out.eq,coef_up HRS.out.up hmem]
   obtain⟨DD,hown,hat0⟩:=HS.out.ex
   have hv0:=hat0 (R.getD k (0,0)).1
   rw[hco]at hv0
   have hownk:wo.ownsMap Tryz.prog 3 (plainElem Tryz.prog 3) B nm DD:=hown.kept (row:=none) ⟨hbel.os,hbel.tape,hbel.output,hbel.size,fun q hq _=>hbel.block q hq⟩ (by simp)
   generalize (R.getD k (0,0)).1=V at c1 HT3 hv0 hvb
   generalize (R.getD k (0,0)).2=K at HT3 hin hv0
   have hKb: -4398046511104≤K∧K≤4398046511104:=by unfold wi at hin;simpa using hin
   have hq:=tdiv_in (c:=K) (g:=g) (B:=4398046511104) (by omega)
   have hwq:IntKind.i64.wrap (K.tdiv g)=K.tdiv g:=IntWalk.i64_in _ (by omega)
   have hlk:(Instr.lookup 199 (.map (some B)) (.int .i64 V) false).run Tryz.prog wo.drew= .ok (.int .i64 K) wo.drew:=by
    obtain⟨c',hrun,hat,hwc⟩:=(hownk.drew).lookup_int Tryz.lawInt Tryz.underlying199 Tryz.underlying3 (Tryz.zeroInt _) (key:= .int .i64 V) (kl:= .int .i64 V) (keyOf_int_mk Tryz.underlying3 (WalkArith.wf_i64 (by omega)))
    obtain rfl:c'=K:=by have h9:=hat.symm.trans hv0;injection h9 with h9;injection h9
    exact hrun
   generalize D.take k=r at hst HT3 hrt hrow
   have HROW:Hid (((wo.alloc (.cells #[.int .i64 V,.int .i64 (K.tdiv g)] 92)).drew).ownsRow (w.heap.size+2) 92 2 v r.length (flat r)):=(World.ownsRow.alloc hrow _).drew
   have HB5:Hid (Below (w.heap.size+2) wo ((wo.alloc (.cells #[.int .i64 V,.int .i64 (K.tdiv g)] 92)).drew)):=((Below.refl _ wo).alloc mz _).drew
   have NEWS:=Lib.hid (World.news_of_block (w:=(wo.alloc (.cells #[.int .i64 V,.int .i64 (K.tdiv g)] 92)).drew) (cs:= #[.int .i64 V,.int .i64 (K.tdiv g)]) (t:=92) (fr:=(0,0)) (heap_alloc_new wo _))
   have HM:=Lib.hid mz
   have m1a:(wo.alloc (.cells #[.int .i64 V,.int .i64 (K.tdiv g)] 92)).cell? ⟨w.heap.size+1,1,none⟩=some v:=(((Below.refl _ wo).alloc (Nat.le_refl _) _).cell (p:=⟨w.heap.size+1,1,none⟩) mz).trans m1
   clear hrow qf mf hbel hts m0 mz hq q0 q1 hin hKb hmem hco hown hat0 hv0 hownk
   go_wp2_with fail
   go_region_law (first
    | (refine step_append_lies _ (by rfl) _ _ _ (by rfl) (w.heap.size+2) 92 i0 _ 2 16 Tryz.underlying34 hi hz0 hz1 hz2 rfl (by omega) v r.length (flat r) (by rfl) HROW.out
        ⟨wo.heap.size,0,none⟩ 1 1 [.int .i64 V,.int .i64 (K.tdiv g)] (by rfl) (by rfl) NEWS.out (by simp[Value.oneCell']) (by omega) (by unfold maxLen;omega) (by omega) (by have:=HM.out;simp;omega) (wo.heap.size+1) (by simp) ?_
       intro gg cap2 w6 hown6 hgrow6 hat6 hlt6
       have FAR:=Lib.hid (hst.out.far HB5.out hgrow6)
       have o61:=FAR.out.1
       have o6f:=FAR.out.2))
   all_goals
    have ST:Hid (DivSt w (w6.setCell ⟨w.heap.size+1,1,none⟩ (.slice (some ⟨gg,0,none⟩) (r.length+1) cap2)) u (.slice (some ⟨gg,0,none⟩) (r.length+1) cap2) (D.take (k+1))):=by
     refine hst.out.step HB5.out hgrow6 ?_
     rw[HT3.out]
     unfold Row
     rw[List.length_append,flat_append]
     exact hown6
    clear o61 o6f hown6 hgrow6 hat6 hlt6 FAR
    generalize w6.setCell ⟨w.heap.size+1,1,none⟩ (.slice (some ⟨gg,0,none⟩) (r.length+1) cap2)=w7 at ST⊢
    go_wp2_with fail
    go_roundw
    case rel=>exact⟨k+1,_,by omega,by go_num,ST⟩
    case measure=>simp[intOf];omega
  ·obtain rfl:k=vn:=by omega
   have hrow1:Row (w.heap.size+2) D v wo:=by
    rw[List.take_of_length_le (by rw[HDL.out,HRL.out];exact Nat.le_refl _)]at hrow
    exact hrow
   obtain⟨a3,cap3,rfl,hlies3,_⟩:=hrow1.lies
   have hDL:D.length=k:=by rw[HDL.out,HRL.out]
   rw[hDL]at hrow1 m1
   have S1:Hid (DivSt w wo u (.slice a3 k cap3) D):=by
    have:=hst.out
    rw[List.take_of_length_le (by rw[hDL];exact Nat.le_refl _),hDL]at this
    exact this
   have HL3:=Lib.hid hlies3
   have HDN:=Lib.hid hDL
   clear hst hrow hlies3 hDL HDL HDG HIN HRS HV HVN HS hrow1
   have CW:Hid (∀W,Calls Tryz.prog 134 #[.int .i64 u,.int .i64 1073741824] W fun e w'=>e= .returned (.bool (wi u 1073741824))∧W=w'):=fun W=>cwithin_any u 1073741824 W (by omega) (by omega)
   by_cases hwu:wi u 1073741824=true
   ·rw[hwu]at CW
    go_wp2_with fail
    refine(CW.out _).mono ?_
    rintro e w4 ⟨rfl,rfl⟩
    go_wp2_with fail
    clear CW m0 m1 mf mz q0 q1 qf hbel
    go_loopw [47] (fun i wr=>∃(j:Nat),j≤k∧i= .int .i64 j∧Hid (DivSt w wr u (.slice a3 k cap3) D)∧Hid (Below wo.heap.size wo wr)∧Hid (∀m,m<j→wi (D.getD m (0,0)).2 1073741824=true)) (fun i _=>k - (intOf i).toNat)
    case atStart=>exact⟨0,Nat.zero_le _,rfl,S1,Below.refl _ _,fun m hm=>absurd hm (Nat.not_lt_zero _)⟩
    case round=>
     clear S1
     obtain⟨j,hj,rfl,hsi,hbi,hai⟩:=hrel
     obtain⟨hrow2,q0,q1,qf,m0,m1,mf,mz,hbel⟩:=hsi.out
     by_cases hjt:j<k
     ·obtain⟨b3,off3,rfl,hb3,d1,d2⟩:=(HL3.out.below hbi.out) j (by rw[HDN.out];exact hjt)
      have hkj:wi (D.getD j (0,0)).2 1073741824=true→Hid (∀m,m<j+1→wi (D.getD m (0,0)).2 1073741824=true):=fun h m hm=>by
       by_cases e:m=j
       ·subst e;exact h
       ·exact hai.out m (by omega)
      have hbad:wi (D.getD j (0,0)).2 1073741824=false→Hid (x=3∧C=0∧E=[]):=fun h=>by
       have hk3:=divK_far (u:=u) (.inr (allIn_not (by rw[HDN.out];exact hjt) h))
       have:=HX.out.bad (by rw[hk3];decide)
       rw[hk3]at this
       exact this
      have CJ:Hid (∀W,Calls Tryz.prog 134 #[.int .i64 (D.getD j (0,0)).2,.int .i64 1073741824] W fun e w'=>e= .returned (.bool (wi (D.getD j (0,0)).2 1073741824))∧W=w'):=fun W=>cwithin_any _ 1073741824 W (by omega) (by omega)
      generalize (D.getD j (0,0)).1=V at d1
      generalize (D.getD j (0,0)).2=K at d2 hkj hbad CJ
      have SA:=Lib.hid (hsi.out.alloc (.cells #[.int .i64 V,.int .i64 K] 92))
      have BA:Hid (Below wo.heap.size wo (wr.alloc (.cells #[.int .i64 V,.int .i64 K] 92))):=hbi.out.alloc hbi.out.size _
      by_cases hwk:wi K 1073741824=true
      ·rw[hwk]at CJ
       have HKJ:=hkj hwk
       clear hkj hbad qf mf hbel hrow2 q0 q1 m0
       go_wp2_with fail
       refine(CJ.out _).mono ?_
       rintro e w4 ⟨rfl,rfl⟩
       go_wp2_with fail
       refine⟨⟨j+1,by omega,by go_num,SA,BA,HKJ⟩,by simp[intOf];omega⟩
      ·rw[Bool.not_eq_true]at hwk
       rw[hwk]at CJ
       obtain⟨rfl,rfl,rfl⟩:=(hbad hwk).out
       clear hkj hbad qf mf hbel hrow2 q0 q1 m0
       go_wp2_with fail
       refine(CJ.out _).mono ?_
       rintro e w4 ⟨rfl,rfl⟩
       obtain⟨_,q0,q1,qf,m0,m1,mf,mz,hbel⟩:=SA.out
       generalize wr.alloc (.cells #[.int .i64 V,.int .i64 K] 92)=w9 at SA BA q0 q1 qf m0 m1 mf mz hbel⊢
       obtain⟨e0,e1⟩:=res2 q0 q1 (.int .i64 0) (.slice none 0 0)
       have HE:=Lib.hid (And.intro e0 e1)
       have HBE:=Lib.hid hbel
       clear e0 e1 hbel
       go_wp2_with fail
       refine bodyPost_ret (v:= .tuple #[.agg #[.int .i64 0,.slice none 0 0],.iface 60 (.int .i64 3)]) ?_ rfl (LEnd.none rfl (below2 HBE.out (Nat.le_refl _) _ _))
       obtain⟨e0,e1⟩:=HE.out
       simp[results,Tryz.results135,go_sem,e0,e1]
     ·obtain rfl:j=k:=by omega
      have hall:=allIn_of (M:=1073741824) (R:=D) (fun m hm=>hai.out m (by rw[HDN.out]at hm;exact hm))
      have hdk:=divK_in hwu hall
      rw[HDN.out]at hdk
      by_cases h64:64<j
      ·rw[if_pos h64]at hdk
       obtain⟨hx0,rfl,rfl⟩:=HX.out.bad (by rw[hdk];decide)
       rw[hdk]at hx0
       subst hx0
       obtain⟨e0,e1⟩:=res2 q0 q1 (.int .i64 0) (.slice none 0 0)
       have HE:=Lib.hid (And.intro e0 e1)
       have HBE:=Lib.hid hbel
       clear e0 e1 hbel hdk hall
       go_wp2_with fail
       refine bodyPost_ret (v:= .tuple #[.agg #[.int .i64 0,.slice none 0 0],.iface 60 (.int .i64 2)]) ?_ rfl (LEnd.none rfl (below2 HBE.out (Nat.le_refl _) _ _))
       obtain⟨e0,e1⟩:=HE.out
       simp[results,Tryz.results135,go_sem,e0,e1]
      ·rw[if_neg h64]at hdk
       obtain⟨rfl,rfl,rfl⟩:=HX.out.ok hdk
       obtain⟨e0,e1⟩:=res2 q0 q1 (.int .i64 C) (.slice a3 j cap3)
       have HE:=Lib.hid (And.intro e0 e1)
       have HBE:=Lib.hid hbel
       have HRW:=Lib.hid hrow2
       clear e0 e1 hbel hdk hall hrow2
       go_wp2_with fail
       refine bodyPost_ret (v:= .tuple #[.agg #[.int .i64 C,.slice a3 j cap3],.nilIface]) ?_ rfl ⟨.slice a3 j cap3,rfl,Joins.ownsRow_le (HRW.out.set2 (by omega) _ _) (by omega),below2 HBE.out (Nat.le_refl _) _ _⟩
       obtain⟨e0,e1⟩:=HE.out
       simp[results,Tryz.results135,go_sem,e0,e1]
   ·rw[Bool.not_eq_true]at hwu
    rw[hwu]at CW
    have hk3:=divK_far (D:=D) (.inl hwu)
    obtain⟨hx0,rfl,rfl⟩:=HX.out.bad (by rw[hk3];decide)
    rw[hk3]at hx0
    subst hx0
    obtain⟨e0,e1⟩:=res2 q0 q1 (.int .i64 0) (.slice none 0 0)
    have HE:=Lib.hid (And.intro e0 e1)
    have HBE:=Lib.hid hbel
    clear e0 e1 hbel hk3
    go_wp2_with fail
    refine(CW.out _).mono ?_
    rintro e w4 ⟨rfl,rfl⟩
    go_wp2_with fail
    refine bodyPost_ret (v:= .tuple #[.agg #[.int .i64 0,.slice none 0 0],.iface 60 (.int .i64 3)]) ?_ rfl (LEnd.none rfl (below2 HBE.out (Nat.le_refl _) _ _))
    obtain⟨e0,e1⟩:=HE.out
    simp[results,Tryz.results135,go_sem,e0,e1]
end Cut
namespace Cut
open Go.RowKit Go.Maps
def sumOf (l:List (Int×Int)):List (Int×Int):=(tog (l.mergeSort fun a b=>decide (a.1≤b.1))).filter fun m=>m.2 != 0
theorem sumOf_is (l:List (Int×Int)):IsSum l (sumOf l):=by
 refine(tog_isSum (l.mergeSort fun a b=>decide (a.1≤b.1)) ?_).perm (List.mergeSort_perm _ _)
 intro i j hij hj
 have hs:=List.pairwise_mergeSort (le:=fun a b:Int×Int=>decide (a.1≤b.1)) (fun a b c h1 h2=>by simp at *; omega) (fun a b=>by simp;omega) l
 have:=List.pairwise_iff_getElem.1 hs i j (by omega) hj hij
 simp only[List.getD_eq_getElem?_getD]
 rw[List.getElem?_eq_getElem hj,List.getElem?_eq_getElem (by omega)]
 simpa using this
theorem sumOf_len (l:List (Int×Int)):(sumOf l).length≤l.length:=by
 have h1:=tog_len (l.mergeSort fun a b=>decide (a.1≤b.1)) _ (Nat.le_refl _)
 rw[List.take_length,List.length_mergeSort]at h1
 exact Nat.le_trans (List.length_filter_le _ _) h1
def lsOk (ls:List (Int×List (Int×Int))):Prop:=∀i,i<ls.length→snd (ls.getD i (0,[])).1 (ls.getD i (0,[])).2=true
theorem partsK_zero {n:Int}{ps:List (Int×Int)}:∀ {k},partsK n ps k=0→∀j,j<k→partK n (ps.getD j (0,0))=0
 | 0,_,j,hj=>absurd hj (Nat.not_lt_zero _)
 | k+1,h,j,hj=>by
   have h':(if partsK n ps k=0 then partK n (ps.getD k (0,0)) else partsK n ps k)=0:=h
   by_cases e:partsK n ps k=0
   ·rw[if_pos e]at h'
    by_cases hjk:j=k
    ·subst hjk;exact h'
    ·exact partsK_zero e j (by omega)
   ·rw[if_neg e]at h';exact absurd h' e
theorem stepK_ok {ls:List (Int×List (Int×Int))}{ps:List (Int×Int)}{div:Int}(h:stepK ls.length ps div=0)(hok:lsOk ls):partsOk ls ps∧1≤div∧div≤1073741824:=by
 unfold stepK at h
 by_cases h64:64<ps.length
 ·rw[if_pos h64]at h;cases h
 ·rw[if_neg h64]at h
  by_cases hp:partsK ls.length ps ps.length=0
  ·rw[if_pos hp]at h
   by_cases hd:div<1∨1073741824<div
   ·rw[if_pos hd]at h;cases h
   ·refine⟨⟨by omega,fun k hk=> ?_⟩,by omega,by omega⟩
    have h1:=partsK_zero hp k hk
    unfold partK at h1
    by_cases a:(ps.getD k (0,0)).1<0∨(ls.length:Int)≤(ps.getD k (0,0)).1
    ·rw[if_pos a]at h1;cases h1
    ·rw[if_neg a]at h1
     by_cases b:(ps.getD k (0,0)).2<1∨4096<(ps.getD k (0,0)).2
     ·rw[if_pos b]at h1;cases h1
     ·exact⟨⟨by omega,by omega⟩,⟨by omega,by omega⟩,hok _ (by omega)⟩
  ·rw[if_neg hp]at h;exact absurd h hp
def allDiv (g:Int)(R:List (Int×Int)):Bool:=R.all fun m=>m.2.tmod g == 0
theorem allDiv_of {g:Int}{R:List (Int×Int)}(h:∀k,k<R.length→(R.getD k (0,0)).2.tmod g=0):allDiv g R=true:=by
 refine List.all_eq_true.2 fun m hm=> ?_
 obtain⟨k,hk,rfl⟩:=List.getElem_of_mem hm
 have:=h k hk
 simpa [List.getD_eq_getElem?_getD,hk]using this
theorem allDiv_get {g:Int}{R:List (Int×Int)}(h:allDiv g R=true)(k:Nat)(hk:k<R.length):(R.getD k (0,0)).2.tmod g=0:=by
 have:=List.all_eq_true.1 h R[k] (List.getElem_mem hk)
 simpa [List.getD_eq_getElem?_getD,hk]using this
theorem allDiv_not {g:Int}{R:List (Int×Int)}{k:Nat}(hk:k<R.length)(h:(R.getD k (0,0)).2.tmod g≠0):allDiv g R=false:=by
 cases e:allDiv g R
 ·rfl
 ·exact absurd (allDiv_get e k hk) h
def tellK (n c div:Int)(ps R:List (Int×Int)):Int:=
 if stepK n ps div≠0 then stepK n ps div
 else if wi c 4398046511104=false∨allIn 4398046511104 R=false then 3
 else if allDiv div R=false then 7
 else divK (upI c div) (divT div R)
structure TellIs (n c div:Int)(ps R:List (Int×Int))(x C:Int)(E:List (Int×Int)):Prop where
 ok:tellK n c div ps R=0→x=0∧C=upI c div∧E=divT div R
 bad:tellK n c div ps R≠0→x=tellK n c div ps R∧C=0∧E=[]
theorem tellK_step {n c div:Int}{ps R:List (Int×Int)}(h:stepK n ps div≠0):tellK n c div ps R=stepK n ps div:=by unfold tellK;rw[if_pos h]
theorem tellK_far {n c div:Int}{ps R:List (Int×Int)}(h:stepK n ps div=0)(h2:wi c 4398046511104=false∨allIn 4398046511104 R=false):tellK n c div ps R=3:=by
 unfold tellK;rw[if_neg (by omega),if_pos h2]
theorem tellK_div {n c div:Int}{ps R:List (Int×Int)}(h:stepK n ps div=0)(h2:wi c 4398046511104=true)(h3:allIn 4398046511104 R=true)(h4:allDiv div R=false):tellK n c div ps R=7:=by
 unfold tellK;rw[if_neg (by omega),if_neg (by simp[h2,h3]),if_pos h4]
theorem tellK_ok {n c div:Int}{ps R:List (Int×Int)}(h:stepK n ps div=0)(h2:wi c 4398046511104=true)(h3:allIn 4398046511104 R=true)(h4:allDiv div R=true):tellK n c div ps R=divK (upI c div) (divT div R):=by
 unfold tellK;rw[if_neg (by omega),if_neg (by simp[h2,h3]),if_neg (by simp[h4])]
structure TellSt (w W:World)(pa:Option Addr)(pn pcap:Nat)(div:Int):Prop where
 s0:W.cell? ⟨w.heap.size,0,none⟩=some (.slice pa pn pcap)
 s1:W.cell? ⟨w.heap.size,1,none⟩=some (.int .i64 div)
 r0:W.cell? ⟨w.heap.size+1,0,none⟩=some (.int .i64 0)
 r1:W.cell? ⟨w.heap.size+1,1,none⟩=some (.slice none 0 0)
 rf:∀o,W.frozen? ⟨w.heap.size+1,o,none⟩=false
 mz:w.heap.size+1<W.heap.size
 bel:Below w.heap.size w W
theorem TellSt.below {w W W':World}{pa:Option Addr}{pn pcap B:Nat}{div:Int}(h:TellSt w W pa pn pcap div)(hb:Below B W W')(hB:w.heap.size+2≤B):TellSt w W' pa pn pcap div:=by
 have h0:w.heap.size<B:=by omega
 have h1:w.heap.size+1<B:=by omega
 exact⟨(hb.cell (p:=⟨w.heap.size,0,none⟩) h0).trans h.s0,(hb.cell (p:=⟨w.heap.size,1,none⟩) h0).trans h.s1,(hb.cell (p:=⟨w.heap.size+1,0,none⟩) h1).trans h.r0,(hb.cell (p:=⟨w.heap.size+1,1,none⟩) h1).trans h.r1,fun o=>(hb.frozen (p:=⟨w.heap.size+1,o,none⟩) h1).trans (h.rf o),Nat.lt_of_lt_of_le h.mz hb.size,h.bel.trans (hb.mono (by omega))⟩
theorem TellSt.start (w:World)(pa:Option Addr)(pn pcap:Nat)(div:Int):TellSt w ((w.alloc (.cells #[.slice pa pn pcap,.int .i64 div] 104)).alloc (.cells #[.int .i64 0,.slice none 0 0] 36)) pa pn pcap div:=by
 have h0:=heap_alloc_new w (.cells #[.slice pa pn pcap,.int .i64 div] 104)
 have hb:=(Below.refl w.heap.size w).alloc (Nat.le_refl _) (.cells #[.slice pa pn pcap,.int .i64 div] 104)
 have hz:(w.alloc (.cells #[.slice pa pn pcap,.int .i64 div] 104)).heap.size=w.heap.size+1:=by simp
 generalize w.alloc (.cells #[.slice pa pn pcap,.int .i64 div] 104)=w1 at h0 hb hz⊢
 have h1:=heap_alloc_new w1 (.cells #[.int .i64 0,.slice none 0 0] 36)
 have hb1:=(Below.refl w1.heap.size w1).alloc (Nat.le_refl _) (.cells #[.int .i64 0,.slice none 0 0] 36)
 rw[hz]at h1
 have hlt:w.heap.size<w1.heap.size:=by omega
 have hz2:(w1.alloc (.cells #[.int .i64 0,.slice none 0 0] 36)).heap.size=w1.heap.size+1:=by simp
 exact⟨(hb1.cell (p:=⟨w.heap.size,0,none⟩) hlt).trans (by rw[cell_of_row _ _ _ _ _ _ h0];rfl),(hb1.cell (p:=⟨w.heap.size,1,none⟩) hlt).trans (by rw[cell_of_row _ _ _ _ _ _ h0];rfl),
  by rw[cell_of_row _ _ _ _ _ _ h1];rfl,by rw[cell_of_row _ _ _ _ _ _ h1];rfl,fun o=>frozen_of_row _ _ _ _ _ h1,by omega,hb.trans (hb1.mono (by omega))⟩
theorem Sums.below {T:List (Int×Int)}{n B B':Nat}{w w':World}(h:Sums T n B w)(hb:Below B' w w')(hB:B<B'):Sums T n B w':=by
 obtain⟨D,⟨es,clock,h1,F,hs,hD⟩,h2⟩:=h.ex
 exact⟨D,⟨es,clock,(hb.block B hB).trans h1,F,hs,hD⟩,h2⟩
theorem LLies.below {B:Nat}{w w':World}{a:Option Addr}{ls:List (Int×List (Int×Int))}(h:LLies B w a ls)(hb:Below B w w'):LLies B w' a ls:=fun i hi=>by
 obtain⟨b,off,ta,tcap,ha,hlt,h1,h2,h3⟩:=h i hi
 exact⟨b,off,ta,tcap,ha,hlt,(hb.cell (p:=⟨b,_,none⟩) hlt).trans h1,(hb.cell (p:=⟨b,_,none⟩) hlt).trans h2,h3.below hb⟩
theorem LLies.mono {B B':Nat}{w:World}{a:Option Addr}{ls:List (Int×List (Int×Int))}(h:LLies B w a ls)(hB:B≤B'):LLies B' w a ls:=fun i hi=>by
 obtain⟨b,off,ta,tcap,ha,hlt,h1,h2,h3⟩:=h i hi
 exact⟨b,off,ta,tcap,ha,by omega,h1,h2,h3.mono hB⟩
theorem codeV_zero:codeV 0= .nilIface:=rfl
theorem codeV_ne {k:Int}(h:k≠0):codeV k= .iface 60 (.int .i64 k):=if_neg h
theorem tTo_vars {ls:List (Int×List (Int×Int))}{ps:List (Int×Int)}(h:partsOk ls ps):∀k,k≤ps.length→∀m∈tTo ls ps k,0≤m.1∧m.1<1048576
 | 0,_,m,hm=>by cases hm
 | k+1,hk,m,hm=>by
   rcases List.mem_append.1 hm with hm | hm
   ·exact tTo_vars h k (by omega) m hm
   ·obtain⟨p,hp,rfl⟩:=List.mem_map.1 hm
    obtain⟨_,_,hs⟩:=h.2 k (by omega)
    obtain⟨i,hi,rfl⟩:=List.getElem_of_mem hp
    have:=okAt_in ((snd_iff.1 hs).2.2 i hi)
    rw[List.getD_eq_getElem?_getD,List.getElem?_eq_getElem hi,Option.getD_some]at this
    exact⟨this.2.2.1,this.2.2.2.1⟩
end Cut
namespace Cut
open Go.RowKit Go.Maps
theorem tell_any (a:Option Addr)(n cap:Nat)(ls:List (Int×List (Int×Int)))(pa:Option Addr)(pn pcap:Nat)(ps:List (Int×Int))(div:Int)(w:World)(hn:ls.length=n)(hm:n≤9223372036854775807)(hl:LLies w.heap.size w a ls)(hok:lsOk ls)(hpn:ps.length=pn)(hpm:pn≤9223372036854775807)(hp:Lies w.heap.size w pa ps)
 (R:List (Int×Int)) (hR:R=sumOf (tTo ls ps pn)) (x C:Int) (E:List (Int×Int)) (hx:TellIs n (cTo ls ps pn) div ps R x C E):
 Calls Tryz.prog 119 #[.slice a n cap,.agg #[.slice pa pn pcap,.int .i64 div]] w (LEnd w.heap.size x C E w):=by
 have T0:=Lib.hid (TellSt.start w pa pn pcap div)
 have HCK:=Lib.hid (fun W (hb:Below w.heap.size w W)=>ccheck_any n pa pn pcap ps div W hpn hpm ((hp.below hb).mono hb.size))
 have HX:=Lib.hid hx
 clear hx
 by_cases hk0:stepK n ps div=0
 ·rw[hk0,codeV_zero]at HCK
  obtain⟨hpk,hd1,hd2⟩:=stepK_ok (ls:=ls) (by rw[hn];exact hk0) hok
  have p64:pn≤64:=by rw[←hpn];exact hpk.1
  have hc:=cTo_in hpk pn (by omega)
  have HTL:=Lib.hid (tTo_in hpk pn (by omega))
  have HTV:=Lib.hid (tTo_vars hpk pn (by omega))
  have HSM:=Lib.hid (fun W (hb:Below w.heap.size w W)=>csum_any a n cap ls pa pn pcap ps W hn hm ((hl.below hb).mono hb.size) hpn ((hp.below hb).mono hb.size) hpk)
  have hRS:IsSum (tTo ls ps pn) R:=by rw[hR];exact sumOf_is _
  have hRL:R.length≤4096:=by rw[hR];have:=sumOf_len (tTo ls ps pn);have:=HTL.out.1;omega
  have HVB:Hid (∀m∈R,0≤m.1∧m.1≤1073741824):=fun m hm=>by
   obtain⟨y,hy,hy2⟩:=hRS.comes hm
   have:=HTV.out y hy
   omega
  have hTn:(tTo ls ps pn).length≤65536:=by have:=HTL.out.1;omega
  have HRS:=Lib.hid hRS
  have HX3:Hid (wi (cTo ls ps pn) 4398046511104=false∨allIn 4398046511104 R=false→x=3∧C=0∧E=[]):=fun h=>by
   have e:=tellK_far hk0 h
   have:=HX.out.bad (by rw[e];decide)
   rwa [e]at this
  have HX7:Hid (wi (cTo ls ps pn) 4398046511104=true→allIn 4398046511104 R=true→allDiv div R=false→x=7∧C=0∧E=[]):=fun h1 h2 h3=>by
   have e:=tellK_div hk0 h1 h2 h3
   have:=HX.out.bad (by rw[e];decide)
   rwa [e]at this
  have HX0:Hid (wi (cTo ls ps pn) 4398046511104=true→allIn 4398046511104 R=true→allDiv div R=true→DivIs (upI (cTo ls ps pn) div) (divT div R) x C E):=fun h1 h2 h3=>by
   have e:=tellK_ok hk0 h1 h2 h3
   exact⟨fun h=>HX.out.ok (by rw[e];exact h),fun h=>by have:=HX.out.bad (by rw[e];exact h);rwa [e]at this⟩
  clear HX hpk hl hp hpn hn hok hR hRS HTL HTV hk0
  generalize cTo ls ps pn=c at hc HSM HX3 HX7 HX0
  generalize tTo ls ps pn=T at HSM hTn HRS
  have CW:Hid (∀W,Calls Tryz.prog 134 #[.int .i64 c,.int .i64 4398046511104] W fun e w'=>e= .returned (.bool (wi c 4398046511104))∧W=w'):=fun W=>cwithin_any c 4398046511104 W (by omega) (by omega)
  go_enter Tryz.func119,Tryz.ntmps119
  obtain⟨s0,s1,r0,r1,rf,mz,hbel⟩:=T0.out
  have HB:=Lib.hid hbel
  clear hbel r0 r1 rf
  go_wp2_with fail
  clear s0 s1
  refine(HCK.out _ HB.out).mono ?_
  rintro e w2 ⟨rfl,hb2⟩
  have T2:=Lib.hid (T0.out.below hb2 (by omega))
  clear T0 HB mz hb2 HCK
  obtain⟨s0,s1,r0,r1,rf,mz,hbel⟩:=T2.out
  have HB:=Lib.hid hbel
  clear hbel r0 r1 rf s1
  go_wp2_with fail
  refine(HSM.out _ HB.out).mono ?_
  rintro e w3 ⟨rfl,hs3,hb3⟩
  have T3:=Lib.hid (T2.out.below hb3 (by omega))
  have hz3:=hs3.ex.choose_spec.1.lt
  have hST:=standing_any T R T.length w2.heap.size w3 hs3 HRS.out hTn
  have HS3:=Lib.hid hs3
  clear T2 HB mz hb3 HSM s0 hs3
  go_wp2_with fail
  refine hST.mono ?_
  rintro e w4 ⟨vv,rfl,hr4,hb4⟩
  have T4:=Lib.hid (T3.out.below hb4 (by have:=T3.out.mz;omega))
  have HS4:=Lib.hid (HS3.out.below hb4 hz3)
  obtain⟨va,vcap,rfl,hnums⟩:=hr4.nums
  rw[List.length_map]at hr4⊢
  have HNU:=Lib.hid hnums
  clear T3 hb4 HS3 hST hr4 hnums
  generalize w2.heap.size=B at HS4⊢
  by_cases hwc:wi c 4398046511104=true
  ·rw[hwc]at CW
   replace HX3:=Lib.hid (fun h=>HX3.out (.inr h))
   replace HX7:=Lib.hid (HX7.out hwc)
   replace HX0:=Lib.hid (HX0.out hwc)
   have hwc4:=Lib.hid hwc
   clear hwc
   go_wp2_with fail
   refine(CW.out _).mono ?_
   rintro e w5 ⟨rfl,rfl⟩
   go_wp2_with fail
   clear CW
   go_loopw [38] (fun i wr=>∃(j:Nat),j≤R.length∧i= .int .i64 j∧Hid (∀m,m<j→wi (R.getD m (0,0)).2 4398046511104=true)∧wr=w4) (fun i _=>R.length - (intOf i).toNat)
   case atStart=>exact⟨0,Nat.zero_le _,rfl,fun m hm=>absurd hm (Nat.not_lt_zero _),rfl⟩
   case round=>
    obtain⟨j,hj,rfl,hai,rfl⟩:=hrel
    by_cases hjt:j<R.length
    ·obtain⟨b,off,rfl,hblt,c1⟩:=HNU.out j (by rw[List.length_map];exact hjt)
     rw[map_getD R j hjt]at c1
     have hmem:R.getD j (0,0)∈R:=by rw[List.getD_eq_getElem?_getD,List.getElem?_eq_getElem hjt];exact List.getElem_mem hjt
     have hvb:=HVB.out _ hmem
     obtain⟨D,hown,hat0⟩:=HS4.out.ex
     have hv0:=hat0 (R.getD j (0,0)).1
     rw[show coef T (R.getD j (0,0)).1=(R.getD j (0,0)).2 by rw[←HRS.out.eq,coef_up HRS.out.up hmem]]at hv0
     have hkj:wi (R.getD j (0,0)).2 4398046511104=true→Hid (∀m,m<j+1→wi (R.getD m (0,0)).2 4398046511104=true):=fun h m hm=>by
      by_cases e:m=j
      ·subst e;exact h
      ·exact hai.out m (by omega)
     have hbad:wi (R.getD j (0,0)).2 4398046511104=false→Hid (x=3∧C=0∧E=[]):=fun h=>HX3.out (allIn_not hjt h)
     have CJ:Hid (∀W,Calls Tryz.prog 134 #[.int .i64 (R.getD j (0,0)).2,.int .i64 4398046511104] W fun e w'=>e= .returned (.bool (wi (R.getD j (0,0)).2 4398046511104))∧W=w'):=fun W=>cwithin_any _ 4398046511104 W (by omega) (by omega)
     clear hat0 hmem
     generalize (R.getD j (0,0)).1=V at c1 hvb hv0
     generalize (R.getD j (0,0)).2=K at hkj hbad CJ hv0
     have hkey:keyOf Tryz.prog 3 (.int .i64 V)=some (.int .i64 V):=keyOf_int_mk Tryz.underlying3 (WalkArith.wf_i64 (by omega))
     by_cases hwk:wi K 4398046511104=true
     ·rw[hwk]at CJ
      have HKJ:=hkj hwk
      clear hkj hbad
      go_wp2_with (first
       | (at_lookup;refine wpList_lookup_own_int _ rfl _ _ 199 rfl 3 3 .i64 Tryz.lawInt Tryz.underlying199 Tryz.underlying3 (Tryz.zeroInt _) B T.length D rfl hown _ _ rfl hkey ?_;intro c9 hat hwc;obtain rfl:c9=K:=by have h9:=hat.symm.trans hv0;injection h9 with h9;injection h9))
      refine(CJ.out _).mono ?_
      rintro e w5 ⟨rfl,rfl⟩
      go_wp2_with fail
      refine⟨⟨j+1,by omega,by go_num,HKJ,trivial⟩,by simp[intOf];omega⟩
     ·rw[Bool.not_eq_true]at hwk
      rw[hwk]at CJ
      obtain⟨rfl,rfl,rfl⟩:=(hbad hwk).out
      clear hkj hbad
      go_wp2_with (first
       | (at_lookup;refine wpList_lookup_own_int _ rfl _ _ 199 rfl 3 3 .i64 Tryz.lawInt Tryz.underlying199 Tryz.underlying3 (Tryz.zeroInt _) B T.length D rfl hown _ _ rfl hkey ?_;intro c9 hat hwc;obtain rfl:c9=K:=by have h9:=hat.symm.trans hv0;injection h9 with h9;injection h9))
      refine(CJ.out _).mono ?_
      rintro e w5 ⟨rfl,rfl⟩
      obtain⟨s0,s1,r0,r1,rf,mz,hbel⟩:=T4.out
      obtain⟨e0,e1⟩:=res2 r0 r1 (.int .i64 0) (.slice none 0 0)
      have HE:=Lib.hid (And.intro e0 e1)
      have HBE:=Lib.hid hbel
      clear e0 e1 hbel s0 s1
      go_wp2_with fail
      refine bodyPost_ret (v:= .tuple #[.agg #[.int .i64 0,.slice none 0 0],.iface 60 (.int .i64 3)]) ?_ rfl (LEnd.none rfl (below2 HBE.out (by omega) _ _))
      obtain⟨e0,e1⟩:=HE.out
      simp[results,Tryz.results119,go_sem,e0,e1]
    ·obtain rfl:j=R.length:=by omega
     have hall:=allIn_of (M:=4398046511104) (R:=R) (fun m hm=>hai.out m hm)
     have HAL:=Lib.hid hall
     replace HX7:=Lib.hid (HX7.out hall)
     replace HX0:=Lib.hid (HX0.out hall)
     clear hall hai HX3
     obtain⟨w9,rfl⟩:∃w9:World,w9=wr:=⟨_,rfl⟩
     go_wp2_with fail
     go_loopw [52] (fun i wr=>∃(j:Nat),j≤R.length∧i= .int .i64 j∧Hid (∀m,m<j→(R.getD m (0,0)).2.tmod div=0)∧wr=w9) (fun i _=>R.length - (intOf i).toNat)
     case atStart=>exact⟨0,Nat.zero_le _,rfl,fun m hm=>absurd hm (Nat.not_lt_zero _),rfl⟩
     case round=>
      obtain⟨j,hj,rfl,hai,rfl⟩:=hrel
      by_cases hjt:j<R.length
      ·obtain⟨b,off,rfl,hblt,c1⟩:=HNU.out j (by rw[List.length_map];exact hjt)
       rw[map_getD R j hjt]at c1
       have hmem:R.getD j (0,0)∈R:=by rw[List.getD_eq_getElem?_getD,List.getElem?_eq_getElem hjt];exact List.getElem_mem hjt
       have hvb:=HVB.out _ hmem
       have hin:=allIn_get HAL.out j hjt
       obtain⟨D,hown,hat0⟩:=HS4.out.ex
       have hv0:=hat0 (R.getD j (0,0)).1
       rw[show coef T (R.getD j (0,0)).1=(R.getD j (0,0)).2 by rw[←HRS.out.eq,coef_up HRS.out.up hmem]]at hv0
       have hkj:(R.getD j (0,0)).2.tmod div=0→Hid (∀m,m<j+1→(R.getD m (0,0)).2.tmod div=0):=fun h m hm=>by
        by_cases e:m=j
        ·subst e;exact h
        ·exact hai.out m (by omega)
       have hbad:(R.getD j (0,0)).2.tmod div≠0→Hid (x=7∧C=0∧E=[]):=fun h=>HX7.out (allDiv_not hjt h)
       clear hat0 hmem
       generalize (R.getD j (0,0)).1=V at c1 hvb hv0
       generalize (R.getD j (0,0)).2=K at hkj hbad hv0 hin
       have hKb: -4398046511104≤K∧K≤4398046511104:=by unfold wi at hin;simpa using hin
       have hd0:div≠0:=by omega
       have hkey:keyOf Tryz.prog 3 (.int .i64 V)=some (.int .i64 V):=keyOf_int_mk Tryz.underlying3 (WalkArith.wf_i64 (by omega))
       have s1:=T4.out.s1
       by_cases hwk:K.tmod div=0
       ·have HKJ:=hkj hwk
        clear hkj hbad
        go_wp2_with (first
         | (at_lookup;refine wpList_lookup_own_int _ rfl _ _ 199 rfl 3 3 .i64 Tryz.lawInt Tryz.underlying199 Tryz.underlying3 (Tryz.zeroInt _) B T.length D rfl hown _ _ rfl hkey ?_;intro c9 hat hwc;obtain rfl:c9=K:=by have h9:=hat.symm.trans hv0;injection h9 with h9;injection h9))
        refine⟨⟨j+1,by omega,by go_num,HKJ,trivial⟩,by simp[intOf];omega⟩
       ·obtain⟨rfl,rfl,rfl⟩:=(hbad hwk).out
        clear hkj hbad
        obtain⟨s0,_,r0,r1,rf,mz,hbel⟩:=T4.out
        obtain⟨e0,e1⟩:=res2 r0 r1 (.int .i64 0) (.slice none 0 0)
        have HE:=Lib.hid (And.intro e0 e1)
        have HBE:=Lib.hid hbel
        clear e0 e1 hbel s0
        go_wp2_with (first
         | (at_lookup;refine wpList_lookup_own_int _ rfl _ _ 199 rfl 3 3 .i64 Tryz.lawInt Tryz.underlying199 Tryz.underlying3 (Tryz.zeroInt _) B T.length D rfl hown _ _ rfl hkey ?_;intro c9 hat hwc;obtain rfl:c9=K:=by have h9:=hat.symm.trans hv0;injection h9 with h9;injection h9))
        refine bodyPost_ret (v:= .tuple #[.agg #[.int .i64 0,.slice none 0 0],.iface 60 (.int .i64 7)]) ?_ rfl (LEnd.none rfl (below2 HBE.out (by omega) _ _))
        obtain⟨e0,e1⟩:=HE.out
        simp[results,Tryz.results119,go_sem,e0,e1]
      ·obtain rfl:j=R.length:=by omega
       have hDI:=HX0.out (allDiv_of (fun m hm=>hai.out m hm))
       have HDV:=Lib.hid (divided_any c div B T.length T R va R.length vcap wr ⟨hd1,hd2⟩ (by have h:=hwc4.out;unfold wi at h;simpa using h) HS4.out HRS.out HAL.out rfl HNU.out (by have:=hRL;omega) HVB.out x C E hDI)
       have s1:=T4.out.s1
       clear hDI
       go_wp2_with fail
       refine HDV.out.mono ?_
       rintro e w7 ⟨v7,rfl,hr7,hb7⟩
       have T7:=T4.out.below hb7 (by have:=T4.out.mz;omega)
       obtain⟨a7,cap7,rfl,_,_⟩:=hr7.lies
       obtain⟨s0,_,r0,r1,rf,mz,hbel⟩:=T7
       obtain⟨e0,e1⟩:=res2 r0 r1 (.int .i64 C) (.slice a7 E.length cap7)
       have HE:=Lib.hid (And.intro e0 e1)
       have HBE:=Lib.hid hbel
       have HR7:=Lib.hid hr7
       have HMZ:=Lib.hid T4.out.mz
       clear e0 e1 hbel s0 hr7 hb7
       go_wp2_with fail
       refine bodyPost_ret (v:= .tuple #[.agg #[.int .i64 C,.slice a7 E.length cap7],codeV x]) ?_ rfl ⟨.slice a7 E.length cap7,rfl,Joins.ownsRow_le (HR7.out.set2 HMZ.out _ _) (by have:=HMZ.out;omega),below2 HBE.out (by omega) _ _⟩
       obtain⟨e0,e1⟩:=HE.out
       simp[results,Tryz.results119,go_sem,e0,e1]
  ·rw[Bool.not_eq_true]at hwc
   rw[hwc]at CW
   obtain⟨rfl,rfl,rfl⟩:=HX3.out (.inl hwc)
   obtain⟨s0,s1,r0,r1,rf,mz,hbel⟩:=T4.out
   obtain⟨e0,e1⟩:=res2 r0 r1 (.int .i64 0) (.slice none 0 0)
   have HE:=Lib.hid (And.intro e0 e1)
   have HBE:=Lib.hid hbel
   clear e0 e1 hbel s0 s1
   go_wp2_with fail
   refine(CW.out _).mono ?_
   rintro e w5 ⟨rfl,rfl⟩
   go_wp2_with fail
   refine bodyPost_ret (v:= .tuple #[.agg #[.int .i64 0,.slice none 0 0],.iface 60 (.int .i64 3)]) ?_ rfl (LEnd.none rfl (below2 HBE.out (by omega) _ _))
   obtain⟨e0,e1⟩:=HE.out
   simp[results,Tryz.results119,go_sem,e0,e1]
 ·rw[codeV_ne hk0]at HCK
  have hk1:=tellK_step (c:=cTo ls ps pn) (R:=R) hk0
  obtain⟨hx0,rfl,rfl⟩:=HX.out.bad (by rw[hk1];exact hk0)
  rw[hk1]at hx0
  have HXE:=Lib.hid hx0
  generalize stepK n ps div=K at HCK hk0 HXE hx0
  clear HX hk1 hl hp hpn hn hok hR
  go_enter Tryz.func119,Tryz.ntmps119
  obtain⟨s0,s1,r0,r1,rf,mz,hbel⟩:=T0.out
  have HB:=Lib.hid hbel
  clear hbel r0 r1 rf
  go_wp2_with fail
  refine(HCK.out _ HB.out).mono ?_
  rintro e w2 ⟨rfl,hb2⟩
  have T2:=Lib.hid (T0.out.below hb2 (by omega))
  clear T0 HB s0 s1 mz hb2 HCK
  obtain⟨s0,s1,r0,r1,rf,mz,hbel⟩:=T2.out
  obtain⟨e0,e1⟩:=res2 r0 r1 (.int .i64 0) (.slice none 0 0)
  have HE:=Lib.hid (And.intro e0 e1)
  have HBE:=Lib.hid hbel
  clear e0 e1 hbel s0 s1
  go_wp2_with fail
  refine bodyPost_ret (v:= .tuple #[.agg #[.int .i64 0,.slice none 0 0],.iface 60 (.int .i64 K)]) ?_ rfl (LEnd.none (by rw[HXE.out,codeV_ne hk0]) (below2 HBE.out (by omega) _ _))
  obtain⟨e0,e1⟩:=HE.out
  simp[results,Tryz.results119,go_sem,e0,e1]
end Cut
namespace Cut
open Go.RowKit Go.Maps
def LiesS (S:Nat→Prop)(w:World)(a:Option Addr)(l:List (Int×Int)):Prop:=
 ∀i,i<l.length→∃b off,a=some ⟨b,off,none⟩∧S b∧w.cell? ⟨b,off+i*2,none⟩=some (.int .i64 (l.getD i (0,0)).1)∧w.cell? ⟨b,off+i*2+1,none⟩=some (.int .i64 (l.getD i (0,0)).2)
theorem LiesS.lies {S:Nat→Prop}{w:World}{B:Nat}{a:Option Addr}{l:List (Int×Int)}(hS:∀b,S b→b<B)(h:LiesS S w a l):Lies B w a l:=fun i hi=>by
 obtain⟨b,off,e,hb,r⟩:=h i hi
 exact⟨b,off,e,hS b hb,r⟩
theorem LiesS.keep {S S':Nat→Prop}{w w':World}{a:Option Addr}{l:List (Int×Int)}(hS:∀b,S b→S' b)(hk:∀b o,S b→w'.cell? ⟨b,o,none⟩=w.cell? ⟨b,o,none⟩)(h:LiesS S w a l):LiesS S' w' a l:=fun i hi=>by
 obtain⟨b,off,e,hb,r1,r2⟩:=h i hi
 exact⟨b,off,e,hS b hb,(hk _ _ hb).trans r1,(hk _ _ hb).trans r2⟩
theorem _root_.Go.Proofs.YtipahfcaplbifaaGreatDoor.Row.liesC {B:Nat}{l:List (Int×Int)}{v:Value}{w:World}(h:Row B l v w):∃a cap,v= .slice a l.length cap∧LiesS (fun b=>B≤b∧b<w.heap.size) w a l:=by
 obtain⟨a,cap,rfl,hl,_⟩:=h.lies
 refine⟨a,cap,rfl,fun i hi=> ?_⟩
 obtain⟨b,off,rfl,hb,g0,g1⟩:=hl i hi
 exact⟨b,off,rfl,⟨(World.ownsRow.lt h b rfl).1,hb⟩,g0,g1⟩
theorem clone_any (a:Option Addr)(n cap:Nat)(l:List (Int×Int))(w:World)(hn:l.length=n)(hm:n≤8192)(hl:Lies w.heap.size w a l):
 Calls Tryz.prog 49 #[.slice a n cap] w (RowEnd w.heap.size l w):=by
 have he:=fun W:World=>Lib.run_eql_slice_nil (P:=Tryz.prog) W 34 92 a n cap 0 0 Tryz.underlying34
 cases a with
 | none=>
   have hn0:n=0:=by
    cases n with
    | zero=>rfl
    | succ n=>obtain⟨_,_,e,_⟩:=hl 0 (by omega);cases e
   subst hn0
   have HN:=Lib.hid hn
   clear hn hl
   go_enter Tryz.func49,Tryz.ntmps49
   go_wp2_with fail
   go_ret
   exact⟨_,rfl,by rw[List.eq_nil_of_length_eq_zero HN.out];exact World.ownsRow_nil _ _ _ _,Below.refl _ _⟩
 | some a=>
   obtain⟨i0,hi,hz0,hz1,hz2⟩:=info_parts Tryz.infoMono
   have HN:=Lib.hid hn
   have HL:=Lib.hid hl
   clear hn hl
   go_enter Tryz.func49,Tryz.ntmps49
   have hown:(w.alloc (.cells #[] 92)).ownsRow w.heap.size 92 2 (.slice (some ⟨w.heap.size,0,none⟩) 0 0) 0 []:=World.ownsRow_made w #[] 0 (Nat.le_refl _) (by decide) rfl
   have HB:=Lib.hid ((Below.refl w.heap.size w).alloc (Nat.le_refl _) (.cells #[] 92))
   go_wp2_with (at_builtin;refine wpList_append_own _ rfl _ _ 34 rfl w.heap.size 92 i0 _ 2 16 Tryz.underlying34 hi hz0 hz1 hz2 rfl (by decide) _ _ _ rfl hown a n cap (flat l) rfl ?c1 ?c2 ?c3 ?c4 ?c5 ?c6 ?_)
   case c1=>rw[flat_len,HN.out]
   case c2=>exact(HL.out.below HB.out).news
   case c3=>exact flat_cells l
   case c4=>unfold maxLen;omega
   case c5=>omega
   case c6=>simp
   intro v' w1 hown' hgrow _
   go_wp2_with fail
   go_ret
   refine⟨_,rfl, ?_,HB.out.grown hgrow (by simp) (fun k hk=>(hown.lt k hk).1)⟩
   unfold Row
   rw[HN.out]
   simpa using hown'
theorem lt_of_some {W:World}{b:Nat}{o:Obj}(h:W.heap[b]? =some o):b<W.heap.size:=(Array.getElem?_eq_some_iff.1 h).1
structure LT where
 c:Int
 a:Option Addr
 cap:Nat
 t:List (Int×Int)
def lcells (xs:List LT):List Value:=xs.flatMap fun x=>[.int .i64 x.c,.slice x.a x.t.length x.cap]
def lforms (xs:List LT):List (Int×List (Int×Int)):=xs.map fun x=>(x.c,x.t)
theorem lforms_len (xs:List LT):(lforms xs).length=xs.length:=by simp[lforms]
theorem lforms_append (xs ys:List LT):lforms (xs ++ ys)=lforms xs ++ lforms ys:=by simp[lforms]
theorem lcells_append (xs ys:List LT):lcells (xs ++ ys)=lcells xs ++ lcells ys:=by simp[lcells]
theorem lcells_get:∀(xs:List LT) (i:Nat) (x:LT),xs[i]? =some x→(lcells xs)[i*2]? =some (.int .i64 x.c)∧(lcells xs)[i*2+1]? =some (.slice x.a x.t.length x.cap)
 | y :: r,0,x,h=>by obtain rfl:y=x:=by simpa using h
                    exact⟨rfl,rfl⟩
 | y :: r,i+1,x,h=>by
   have:=lcells_get r i x (by simpa using h)
   have e:lcells (y :: r)= .int .i64 y.c :: .slice y.a y.t.length y.cap :: lcells r:=rfl
   rw[e,show(i+1)*2=i*2+1+1 by omega]
   simpa using this
structure LRow (B:Nat)(xs:List LT)(v:Value)(w:World):Prop where
 row:w.ownsRow B 36 2 v xs.length (lcells xs)
 lies:∀x∈xs,LiesS (fun b=>B≤b∧b<w.heap.size∧v.ownBlock≠some b) w x.a x.t
theorem LRow.nil (B:Nat)(w:World):LRow B [] (.slice none 0 0) w:=⟨World.ownsRow_nil _ _ _ _,fun x hx=>by cases hx⟩
theorem LRow.llies {B:Nat}{xs:List LT}{v:Value}{w:World}(h:LRow B xs v w):∃a cap,v= .slice a xs.length cap∧LLies w.heap.size w a (lforms xs):=by
 have hr:=h.row
 have hc:=fun g=>World.ownsRow.cells hr (g:=g)
 have hlt:=World.ownsRow.lt hr
 obtain⟨_,h1 | ⟨g,cap,cur,hv,h2⟩⟩:=hr
 ·refine⟨none,0,by rw[h1.1,h1.2],fun i hi=> ?_⟩
  rw[lforms_len]at hi;omega
 ·have hl:=h.lies
  subst hv
  refine⟨some ⟨g,0,none⟩,cap,rfl,fun i hi=> ?_⟩
  rw[lforms_len]at hi
  have hx:xs[i]? =some xs[i]:=List.getElem?_eq_getElem hi
  obtain⟨g1,g2⟩:=lcells_get xs i _ hx
  have e:(lforms xs).getD i (0,[])=(xs[i].c,xs[i].t):=by simp[lforms,List.getD_eq_getElem?_getD,hi]
  rw[e]
  refine⟨g,0,xs[i].a,xs[i].cap,rfl,(hlt g rfl).2, ?_, ?_,(hl _ (List.getElem_mem hi)).lies (fun b hb=>hb.2.1)⟩
  ·have:=hc g rfl (i*2) _ g1
   rwa [show(⟨g,0,none⟩:Addr).add (i*2)=⟨g,0+i*2,none⟩ by unfold Addr.add;split<;>simp_all]at this
  ·have:=hc g rfl (i*2+1) _ g2
   rwa [show(⟨g,0,none⟩:Addr).add (i*2+1)=⟨g,0+i*2+1,none⟩ by unfold Addr.add;simp]at this
theorem LRow.below {B:Nat}{xs:List LT}{v:Value}{w w':World}(h:LRow B xs v w)(hb:Below w.heap.size w w'):LRow B xs v w':=
 ⟨World.ownsRow.kept (row:=none) h.row ⟨hb.os,hb.tape,hb.output,hb.size,fun q hq _=>hb.block q hq⟩ (by cases v.ownBlock<;>simp),fun x hx=>(h.lies x hx).keep (fun b ⟨h1,h2,h3⟩=>⟨h1,Nat.lt_of_lt_of_le h2 hb.size,h3⟩) (fun b o ⟨_,h2,_⟩=>hb.cell (p:=⟨b,o,none⟩) h2)⟩
theorem LRow.step {B:Nat}{xs:List LT}{x:LT}{v v6:Value}{w w5 w6:World}{g H:Nat}(h:LRow B xs v w)(hB:B≤w.heap.size)(hb5:Below w.heap.size w w5)(hx:LiesS (fun b=>w.heap.size≤b∧b<w5.heap.size) w5 x.a x.t)(hg:w5.grownBy w6 v.ownBlock)(hH:w5.heap.size≤H)
 (hv:v6.ownBlock=some g) (hat:v.ownBlock=some g∨g=H) (hr:w6.ownsRow B 36 2 v6 (xs.length+1) (lcells xs ++ [.int .i64 x.c,.slice x.a x.t.length x.cap])):LRow B (xs ++ [x]) v6 w6:=by
 have hvb:∀b,v.ownBlock=some b→b<w.heap.size:=fun b e=>(World.ownsRow.lt h.row b e).2
 have hk:∀b o,b<w5.heap.size→v.ownBlock≠some b→w6.cell? ⟨b,o,none⟩=w5.cell? ⟨b,o,none⟩:=fun b o hb hne=>World.cell?_of_block (hg.block b hb (fun e=>hne e.symm))
 have hne6:∀b,b<w5.heap.size→v.ownBlock≠some b→v6.ownBlock≠some b:=fun b hb hne e=>by
  rw[hv]at e
  rcases hat with hat | hat
  ·exact hne (hat.trans e)
  ·injection e with e;omega
 refine⟨?_,fun y hy=> ?_⟩
 ·rw[List.length_append,lcells_append]
  exact hr
 ·rcases List.mem_append.1 hy with hy | hy
  ·refine(h.lies y hy).keep (fun b ⟨h1,h2,h3⟩=> ?_) (fun b o ⟨h1,h2,h3⟩=> ?_)
   ·have h5:=Nat.lt_of_lt_of_le h2 hb5.size
    exact⟨h1,Nat.lt_of_lt_of_le h5 hg.size,hne6 b h5 h3⟩
   ·exact(hk b o (Nat.lt_of_lt_of_le h2 hb5.size) h3).trans (hb5.cell (p:=⟨b,o,none⟩) h2)
  ·rw[List.mem_singleton]at hy
   subst hy
   refine hx.keep (fun b ⟨h1,h2⟩=> ?_) (fun b o ⟨h1,h2⟩=> ?_)
   ·have h3:v.ownBlock≠some b:=fun e=>by have:=hvb b e;omega
    exact⟨by omega,Nat.lt_of_lt_of_le h2 hg.size,hne6 b h2 h3⟩
   ·exact hk b o h2 (fun e=>by have:=hvb b e;omega)
def tellS (ls:List (Int×List (Int×Int)))(s:List (Int×Int)×Int):Int:=tellK ls.length (cTo ls s.1 s.1.length) s.2 s.1 (sumOf (tTo ls s.1 s.1.length))
def lineS (ls:List (Int×List (Int×Int)))(s:List (Int×Int)×Int):Int×List (Int×Int):=(upI (cTo ls s.1 s.1.length) s.2,divT s.2 (sumOf (tTo ls s.1 s.1.length)))
def lnL (ls:List (Int×List (Int×Int)))(ss:List (List (Int×Int)×Int)):Nat→List (Int×List (Int×Int))
 | 0=>ls
 | k+1=>lnL ls ss k ++ [lineS (lnL ls ss k) (ss.getD k ([],0))]
theorem lnL_len (ls:List (Int×List (Int×Int)))(ss:List (List (Int×Int)×Int)):∀k,(lnL ls ss k).length=ls.length+k
 | 0=>rfl
 | k+1=>by rw[lnL,List.length_append,lnL_len ls ss k];rfl
inductive LinesIs (ls:List (Int×List (Int×Int))) (ss:List (List (Int×Int)×Int)):Int→Int→List (Int×List (Int×Int))→Prop
 | long:4096<ls.length∨4096<ss.length→LinesIs ls ss 2 (-1) []
 | prem (i:Nat):ls.length≤4096→ss.length≤4096→i<ls.length→(∀j,j<i→snd (ls.getD j (0,[])).1 (ls.getD j (0,[])).2=true)→snd (ls.getD i (0,[])).1 (ls.getD i (0,[])).2=false→LinesIs ls ss 5 i []
 | step (i:Nat):ls.length≤4096→ss.length≤4096→lsOk ls→i<ss.length→(∀j,j<i→tellS (lnL ls ss j) (ss.getD j ([],0))=0)→tellS (lnL ls ss i) (ss.getD i ([],0))≠0→LinesIs ls ss (tellS (lnL ls ss i) (ss.getD i ([],0))) i []
 | ok:ls.length≤4096→ss.length≤4096→lsOk ls→(∀j,j<ss.length→tellS (lnL ls ss j) (ss.getD j ([],0))=0)→LinesIs ls ss 0 (-1) (lnL ls ss ss.length)
theorem lines_is (ls:List (Int×List (Int×Int)))(ss:List (List (Int×Int)×Int)):∃x at' L,LinesIs ls ss x at' L:=by
 by_cases h:4096<ls.length∨4096<ss.length
 ·exact⟨_,_,_,.long h⟩
 ·by_cases h1:∀i,i<ls.length→snd (ls.getD i (0,[])).1 (ls.getD i (0,[])).2=true
  ·by_cases h2:∀i,i<ss.length→decide (tellS (lnL ls ss i) (ss.getD i ([],0))=0)=true
   ·exact⟨_,_,_,.ok (by omega) (by omega) h1 (fun j hj=>by simpa using h2 j hj)⟩
   ·obtain⟨j,hj,h3,h4⟩:=first_no _ _ h2
    exact⟨_,_,_,.step j (by omega) (by omega) h1 hj (fun i hi=>by simpa using h3 i hi) (by simpa using h4)⟩
  ·obtain⟨j,hj,h3,h4⟩:=first_no _ _ h1
   exact⟨_,_,_,.prem j (by omega) (by omega) hj h3 h4⟩
theorem okAt_mkC {l:List (Int×Int)}{i:Nat}(h:lastAt l i<(l.getD i (0,0)).1∧(l.getD i (0,0)).2≠0∧0≤(l.getD i (0,0)).1∧(l.getD i (0,0)).1<1048576∧ -1073741824≤(l.getD i (0,0)).2∧(l.getD i (0,0)).2≤1073741824):okAt l i=true:=by
 unfold okAt chk mst wi
 simp only[Bool.and_eq_true,decide_eq_true_eq]
 exact⟨h.1,h.2.1,⟨h.2.2.1,h.2.2.2.1⟩,h.2.2.2.2⟩
theorem snd_of_sum {c:Int}{l R:List (Int×Int)}(h:IsSum l R)(hc:wi c 1073741824=true)(hk:∀m∈R,wi m.2 1073741824=true)(h64:R.length≤64)(hV:∀m∈l,0≤m.1∧m.1<1048576):snd c R=true:=by
 refine snd_iff.2 ⟨hc,h64,fun i hi=>okAt_mkC ?_⟩
 have hmem:R.getD i (0,0)∈R:=by rw[List.getD_eq_getElem?_getD,List.getElem?_eq_getElem hi];simp
 obtain⟨x,hx,hxe⟩:=h.comes hmem
 have hv:=hV x hx
 have hw:=hk _ hmem
 unfold wi at hw
 have hw: -1073741824≤(R.getD i (0,0)).2∧(R.getD i (0,0)).2≤1073741824:=by simpa using hw
 refine⟨?_,h.nz _ hmem,by omega,by omega,hw.1,hw.2⟩
 by_cases h0:i=0
 ·subst h0;rw[lastAt_zero];omega
 ·obtain⟨j,rfl⟩:∃j,i=j+1:=⟨i - 1,by omega⟩
  rw[lastAt_succ]
  have:=List.pairwise_iff_getElem.1 h.up j (j+1) (by omega) hi (by omega)
  rw[List.getD_eq_getElem?_getD,List.getElem?_eq_getElem (show j<R.length by omega),List.getD_eq_getElem?_getD,List.getElem?_eq_getElem hi]
  simpa using this
theorem tdiv_ne0 {k g:Int}(hk:k≠0)(hd:k.tmod g=0):k.tdiv g≠0:=fun h=>hk (by
 have:=Int.tmod_add_mul_tdiv k g
 rw[hd,h]at this
 omega)
structure Took (ls:List (Int×List (Int×Int)))(s:List (Int×Int)×Int):Prop where
 parts:partsOk ls s.1
 div:1≤s.2∧s.2≤1073741824
 cin:wi (cTo ls s.1 s.1.length) 4398046511104=true
 rin:allIn 4398046511104 (sumOf (tTo ls s.1 s.1.length))=true
 all:allDiv s.2 (sumOf (tTo ls s.1 s.1.length))=true
 cok:wi (lineS ls s).1 1073741824=true
 rok:allIn 1073741824 (lineS ls s).2=true
 len:(lineS ls s).2.length≤64
theorem tellS_took {ls:List (Int×List (Int×Int))}{s:List (Int×Int)×Int}(hok:lsOk ls)(h:tellS ls s=0):Took ls s:=by
 unfold tellS at h
 by_cases h1:stepK ls.length s.1 s.2=0
 ·obtain⟨hp,hd⟩:=stepK_ok h1 hok
  by_cases h2:wi (cTo ls s.1 s.1.length) 4398046511104=false∨allIn 4398046511104 (sumOf (tTo ls s.1 s.1.length))=false
  ·rw[tellK_far h1 h2]at h;cases h
  ·have h3:wi (cTo ls s.1 s.1.length) 4398046511104=true:=by cases e:wi (cTo ls s.1 s.1.length) 4398046511104<;>simp[e]at h2⊢
   have h4:allIn 4398046511104 (sumOf (tTo ls s.1 s.1.length))=true:=by cases e:allIn 4398046511104 (sumOf (tTo ls s.1 s.1.length))<;>simp[e]at h2⊢
   cases h5:allDiv s.2 (sumOf (tTo ls s.1 s.1.length))
   ·rw[tellK_div h1 h3 h4 h5]at h;cases h
   ·rw[tellK_ok h1 h3 h4 h5]at h
    replace h:divK (lineS ls s).1 (lineS ls s).2=0:=h
    cases h6:wi (lineS ls s).1 1073741824
    ·rw[divK_far (.inl h6)]at h;cases h
    ·cases h7:allIn 1073741824 (lineS ls s).2
     ·rw[divK_far (.inr h7)]at h;cases h
     ·rw[divK_in h6 h7]at h
      by_cases h8:64<(lineS ls s).2.length
      ·rw[if_pos h8]at h;cases h
      ·exact⟨hp,hd,h3,h4,h5,h6,h7,by omega⟩
 ·rw[tellK_step h1]at h;exact absurd h h1
theorem tellS_ok {ls:List (Int×List (Int×Int))}{s:List (Int×Int)×Int}(hok:lsOk ls)(h:tellS ls s=0):snd (lineS ls s).1 (lineS ls s).2=true:=by
 have ht:=tellS_took hok h
 have hS:=sumOf_is (tTo ls s.1 s.1.length)
 refine snd_of_sum (l:=(lineS ls s).2) ⟨?_,fun m hm=> ?_,fun _=>rfl⟩ ht.cok (fun m hm=> ?_) ht.len (fun m hm=> ?_)
 ·exact List.Pairwise.map _ (fun a b h=>h) hS.up
 ·obtain⟨p,hp,rfl⟩:=List.mem_map.1 hm
  have:=List.all_eq_true.1 ht.all p hp
  exact tdiv_ne0 (hS.nz p hp) (by simpa using this)
 ·exact List.all_eq_true.1 ht.rok m hm
 ·obtain⟨p,hp,rfl⟩:=List.mem_map.1 hm
  obtain⟨y,hy,hy2⟩:=hS.comes hp
  have:=tTo_vars ht.parts _ (Nat.le_refl _) y hy
  show 0≤p.1∧p.1<1048576
  omega
theorem lnL_ok {ls:List (Int×List (Int×Int))}{ss:List (List (Int×Int)×Int)}(hok:lsOk ls):∀k,(∀j,j<k→tellS (lnL ls ss j) (ss.getD j ([],0))=0)→lsOk (lnL ls ss k)
 | 0,_=>hok
 | k+1,h=>by
   have h1:=lnL_ok hok k (fun j hj=>h j (by omega))
   intro i hi
   rw[lnL_len]at hi
   by_cases e:i<ls.length+k
   ·have:=h1 i (by rw[lnL_len];exact e)
    rw[lnL]
    simp only[List.getD_eq_getElem?_getD]at this⊢
    rw[List.getElem?_append_left (by rw[lnL_len];exact e)]
    exact this
   ·have e2:i=(lnL ls ss k).length:=by rw[lnL_len];omega
    subst e2
    rw[lnL]
    simp only[List.getD_eq_getElem?_getD]
    rw[List.getElem?_concat_length,Option.getD_some]
    exact tellS_ok h1 (h k (by omega))
def SLies (B:Nat)(w:World)(a:Option Addr)(ss:List (List (Int×Int)×Int)):Prop:=
 ∀i,i<ss.length→∃b off ta tcap,a=some ⟨b,off,none⟩∧b<B∧(ss.getD i ([],0)).1.length≤9223372036854775807∧w.cell? ⟨b,off+i*2,none⟩=some (.slice ta (ss.getD i ([],0)).1.length tcap)∧w.cell? ⟨b,off+i*2+1,none⟩=some (.int .i64 (ss.getD i ([],0)).2)∧Lies B w ta (ss.getD i ([],0)).1
theorem SLies.below {B:Nat}{w w':World}{a:Option Addr}{ss:List (List (Int×Int)×Int)}(h:SLies B w a ss)(hb:Below B w w'):SLies B w' a ss:=fun i hi=>by
 obtain⟨b,off,ta,tcap,ha,hlt,hm,h1,h2,h3⟩:=h i hi
 exact⟨b,off,ta,tcap,ha,hlt,hm,(hb.cell (p:=⟨b,_,none⟩) hlt).trans h1,(hb.cell (p:=⟨b,_,none⟩) hlt).trans h2,h3.below hb⟩
def ErrIs (B:Nat)(x at':Int)(er:Value)(w:World):Prop:=
 (at'<0→er=codeV x)∧(0≤at'→∃g,er= .iface 76 (.pointer (some ⟨g,0,none⟩))∧B≤g∧g<w.heap.size∧w.cell? ⟨g,0,none⟩=some (.int .i64 at')∧w.cell? ⟨g,1,none⟩=some (codeV x))
def LinesEnd (B:Nat)(x at':Int)(L:List (Int×List (Int×Int)))(w:World)(e:Ending)(w':World):Prop:=
 ∃v er xs,e= .returned (.tuple #[v,er])∧LRow B xs v w'∧lforms xs=L∧ErrIs B x at' er w'∧Below B w w'
end Cut
end Go.Proofs.YtipahfcaplbifaaGreatDoor
