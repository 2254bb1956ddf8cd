/- Parts of a proof. -/
import Derived.Test.YtipahfcaplbifaaGreatDoorQ02
import Derived.Test.YtipahfcaplbifaaGreatDoorQ15
import Derived.Test.YtipahfcaplbifaaGreatDoorQ17
import Derived.Test.YtipahfcaplbifaaGreatDoorQ22
import Derived.Test.YtipahfcaplbifaaGreatDoorQ38
import Derived.Test.YtipahfcaplbifaaGreatDoorQ43
import Derived.Test.YtipahfcaplbifaaGreatDoorRows
import Derived.ChangeSame
import Derived.ChangeVars
import Derived.JoinedOf
import Derived.RowKit
import Derived.RowKitTokens
import Derived.LaidLaws
import Derived.LaidHandle
import Derived.Stop.Joined
import Derived.BigQuiet
import Derived.Lib.LaidTab
import Derived.Lib.AppendIntMem
set_option linter.unusedVariables false
set_option linter.unusedSimpArgs false
set_option maxHeartbeats 60000000
set_option maxRecDepth 100000
namespace Go.Proofs.YtipahfcaplbifaaGreatDoor
section
open Go.RowKit
def pubK (am:List (Int×List (Int×Int)))(ls:List Int):Int:=if am.all (fun x=>snd x.1 x.2)=true then premK am ls else 5
def pubL (am:List (Int×List (Int×Int)))(ls:List Int):List (Int×List (Int×Int)):=if pubK am ls=0 then ls.map (oppA am) else[]
theorem pubK_ok {am:List (Int×List (Int×Int))}{ls:List Int}(h:Cut.lsOk am):pubK am ls=premK am ls:=by
 unfold pubK
 rw[if_pos]
 refine List.all_eq_true.2 fun x hx=> ?_
 obtain⟨i,hi,rfl⟩:=List.getElem_of_mem hx
 have:=h i hi
 rwa [List.getD_eq_getElem?_getD,List.getElem?_eq_getElem hi]at this
theorem pubL_ok {am:List (Int×List (Int×Int))}{ls:List Int}(h:Cut.lsOk am):pubL am ls=premL am ls:=by
 unfold pubL premL;rw[pubK_ok h]
theorem pubK_bad {am:List (Int×List (Int×Int))}{ls:List Int}{j:Nat}(hj:j<am.length)(h:snd (am.getD j (0,[])).1 (am.getD j (0,[])).2=false):pubK am ls=5:=by
 unfold pubK
 rw[if_neg]
 intro ha
 have:=List.all_eq_true.1 ha _ (List.getElem_mem hj)
 rw[List.getD_eq_getElem?_getD,List.getElem?_eq_getElem hj,Option.getD_some]at h
 rw[this]at h;cases h
def RPremEnd (B:Nat)(am:List (Int×List (Int×Int)))(ls:List Int)(w:World)(e:Ending)(w':World):Prop:=
 ∃v xs,e= .returned (.tuple #[v,.int .i64 (pubK am ls)])∧Cut.MRow B xs v w'∧Cut.lforms xs=pubL am ls∧Below B w w'
theorem rprem_bad {B:Nat}{am:List (Int×List (Int×Int))}{ls:List Int}{w W:World}{k:Int}(hk:pubK am ls=k)(h0:k≠0)(hb:Below B w W):RPremEnd B am ls w (.returned (.tuple #[.slice none 0 0,.int .i64 k])) W:=
 ⟨_,[],by rw[hk],Cut.MRow.nil _ _,by unfold pubL;rw[if_neg (by rw[hk];exact h0)];rfl,hb⟩
structure ME (w W:World)(M:Nat)(C:Int)(a:Option Addr)(cap:Nat)(t:List (Int×Int)):Prop where
 lt:w.heap.size≤M∧M<W.heap.size
 m0:W.cell? ⟨M,0,none⟩=some (.int .i64 C)
 m1:W.cell? ⟨M,1,none⟩=some (.slice a t.length cap)
 lies:Cut.LiesS (fun b=>w.heap.size≤b∧b<W.heap.size) W a t
 bel:Below w.heap.size w W
theorem me_a {w w6:World}{C:Int}{a:Option Addr}{cap:Nat}{t:List (Int×Int)}(hb:Below w.heap.size w w6)(hl:Cut.LiesS (fun b=>w.heap.size≤b∧b<w6.heap.size) w6 a t):ME w (w6.alloc (.cells #[.int .i64 C,.slice a t.length cap] 36)) w6.heap.size C a cap t:=by
 have hA:Below w6.heap.size w6 (w6.alloc (.cells #[.int .i64 C,.slice a t.length cap] 36)):=(Below.refl _ _).alloc (Nat.le_refl _) _
 have hn:=heap_alloc_new w6 (.cells #[.int .i64 C,.slice a t.length cap] 36)
 exact⟨⟨hb.size,by simp⟩,(cell_of_row _ _ _ _ _ _ hn).trans rfl,(cell_of_row _ _ _ _ _ _ hn).trans rfl,hl.keep (fun b ⟨h1,h2⟩=>⟨h1,Nat.lt_of_lt_of_le h2 hA.size⟩) (fun b o ⟨_,h2⟩=>hA.cell (p:=⟨b,o,none⟩) h2),hb.trans (hA.mono hb.size)⟩
theorem me_b {w w6:World}{C:Int}{a:Option Addr}{cap:Nat}{t:List (Int×Int)}(hb:Below (w.alloc (.cells #[.int .i64 0,.slice none 0 0] 36)).heap.size (w.alloc (.cells #[.int .i64 0,.slice none 0 0] 36)) w6)(hl:Cut.LiesS (fun b=>(w.alloc (.cells #[.int .i64 0,.slice none 0 0] 36)).heap.size≤b∧b<w6.heap.size) w6 a t):
 ME w ((w6.setCell ⟨w.heap.size,0,none⟩ (.int .i64 C)).setCell ⟨w.heap.size,1,none⟩ (.slice a t.length cap)) w.heap.size C a cap t:=by
 have hz:(w.alloc (.cells #[.int .i64 0,.slice none 0 0] 36)).heap.size=w.heap.size+1:=by simp
 have hA:Below w.heap.size w (w.alloc (.cells #[.int .i64 0,.slice none 0 0] 36)):=(Below.refl _ _).alloc (Nat.le_refl _) _
 have hn:w6.heap[w.heap.size]? =some (.cells #[.int .i64 0,.slice none 0 0] 36 (0,0)):=(hb.block _ (by omega)).trans (heap_alloc_new w _)
 have q0:w6.cell? ⟨w.heap.size,0,none⟩=some (.int .i64 0):=(cell_of_row _ _ _ _ _ _ hn).trans rfl
 have q1:w6.cell? ⟨w.heap.size,1,none⟩=some (.slice none 0 0):=(cell_of_row _ _ _ _ _ _ hn).trans rfl
 have hlt:=lt_of_some hn
 have hs1:(w6.setCell ⟨w.heap.size,0,none⟩ (.int .i64 C)).heap.size=w6.heap.size:=World.size_setCell _ _ _
 have hs2:((w6.setCell ⟨w.heap.size,0,none⟩ (.int .i64 C)).setCell ⟨w.heap.size,1,none⟩ (.slice a t.length cap)).heap.size=w6.heap.size:=by rw[World.size_setCell,hs1]
 have hW:Below w.heap.size w w6:=hA.trans (hb.mono hA.size)
 refine⟨⟨Nat.le_refl _,by rw[hs2];exact hlt⟩, ?_, ?_, ?_, ?_⟩
 ·rw[World.cell?_setCell_other _ ⟨w.heap.size,1,none⟩ ⟨w.heap.size,0,none⟩ _ (by simp)]
  exact World.cell?_setCell_same _ _ _ q0
 ·exact World.cell?_setCell_same _ _ _ ((World.cell?_setCell_other _ ⟨w.heap.size,0,none⟩ ⟨w.heap.size,1,none⟩ _ (by simp)).trans q1)
 ·refine hl.keep (fun b ⟨h1,h2⟩=>⟨by omega,by rw[hs2];exact h2⟩) (fun b o ⟨h1,h2⟩=> ?_)
  exact World.cell?_of_block (by rw[Below.heap_setCell _ _ _ _ (show b≠w.heap.size by omega),Below.heap_setCell _ _ _ _ (show b≠w.heap.size by omega)])
 ·exact(hW.setCell (p:=⟨w.heap.size,0,none⟩) (Nat.le_refl _) _).setCell (p:=⟨w.heap.size,1,none⟩) (Nat.le_refl _) _
theorem rprem_any (aa:Option Addr)(an acap:Nat)(am:List (Int×List (Int×Int)))(la:Option Addr)(n lcap:Nat)(ls:List Int)(w:World)(han:am.length=an)(ham:an≤1000000)(hla:Cut.LLies w.heap.size w aa am)(hlm:∀i,i<an→(am.getD i (0,[])).2.length≤9223372036854775807)(hln:ls.length=n)(hln2:n≤1000000)(hll:Nums w.heap.size w la ls):
 Calls Tryz.prog 10 #[.slice aa an acap,.slice la n lcap] w (RPremEnd w.heap.size am ls w):=by
 obtain⟨i0,hi,hz0,hz1,hz2⟩:=info_parts Cut.Tryz.infoLin
 have HLA:=Lib.hid hla
 have HLL:=Lib.hid hll
 have HLM:=Lib.hid hlm
 have HAN:=Lib.hid han
 have HN:=Lib.hid hln
 have hco:=fun c W=>coef_any c W
 clear hla hll han hln hlm
 go_enter Tryz.func10,Tryz.ntmps10
 go_wp2_with fail
 go_loopw [6] (fun i wr=>∃k:Nat,k≤an∧i= .int .i64 k∧Hid (∀j,j<k→snd (am.getD j (0,[])).1 (am.getD j (0,[])).2=true)∧Hid (Below w.heap.size w wr)) (fun i _=>an - (intOf i).toNat)
 case atStart=>exact⟨0,Nat.zero_le _,rfl,fun j hj=>absurd hj (Nat.not_lt_zero _),Below.refl _ _⟩
 case round=>
  obtain⟨k,hk,rfl,hok,hb⟩:=hrel
  obtain⟨wo,rfl⟩:∃wo:World,wo=wr:=⟨_,rfl⟩
  by_cases hlt:k<an
  ·obtain⟨b,off,ta,tcap,rfl,hbl,c0,c1,hli⟩:=HLA.out k (by rw[HAN.out];exact hlt)
   rw[←hb.out.cell (p:=⟨b,_,none⟩) hbl]at c0 c1
   have hm1:=HLM.out k hlt
   have HBD:Hid (snd (am.getD k (0,[])).1 (am.getD k (0,[])).2=false→∀W,Below w.heap.size w W→RPremEnd w.heap.size am ls w (.returned (.tuple #[.slice none 0 0,.int .i64 5])) W):=fun h W hb=>rprem_bad (pubK_bad (by rw[HAN.out];exact hlt) h) (by decide) hb
   have HOK:Hid (snd (am.getD k (0,[])).1 (am.getD k (0,[])).2=true→∀j,j<k+1→snd (am.getD j (0,[])).1 (am.getD j (0,[])).2=true):=fun h j hj=>by
    by_cases e:j=k
    ·subst e;exact h
    ·exact hok.out j (by omega)
   have hz:=hb.out.size
   have HCK:=Lib.hid (rcheck_any (am.getD k (0,[])).1 ta (am.getD k (0,[])).2.length tcap (am.getD k (0,[])).2 wo rfl hm1 ((hli.below hb.out).mono hz))
   generalize (am.getD k (0,[])).1=c at*
   generalize (am.getD k (0,[])).2=t at*
   clear hli
   cases hs:snd c t with
   | false=>
     have HE:=Lib.hid (HBD.out hs)
     rw[hs]at HCK
     clear HBD HOK hs
     go_wp2_with fail
     refine HCK.out.mono ?_
     rintro e w2 ⟨rfl,hb2⟩
     have HB2:=Lib.hid (hb.out.trans (hb2.mono hz))
     clear hb2 c0 c1
     go_wp2_with fail
     go_ret2
     exact HE.out _ HB2.out
   | true=>
     have HO2:=Lib.hid (HOK.out hs)
     rw[hs]at HCK
     clear HBD HOK hs
     go_wp2_with fail
     refine HCK.out.mono ?_
     rintro e w2 ⟨rfl,hb2⟩
     have HB2:=Lib.hid (hb.out.trans (hb2.mono hz))
     clear hb2 c0 c1
     go_wp2_with fail
     go_roundw
     case rel=>exact⟨k+1,by omega,by go_num,HO2,HB2⟩
     case measure=>simp[intOf];omega
  ·obtain rfl:k=an:=by omega
   have HOK:Hid (Cut.lsOk am):=fun j hj=>hok.out j (by rw[HAN.out]at hj;exact hj)
   have HBW:=hb
   clear hok HLM
   go_wp2_with fail
   go_loop [8] (fun i=>∃j:Nat,j≤n∧i= .int .i64 j∧Hid (∀q,q<j→inA am.length (ls.getD q 0)=true)) (fun i=>n - (intOf i).toNat)
   case atStart=>exact⟨0,Nat.zero_le _,rfl,fun j hj=>absurd hj (Nat.not_lt_zero _)⟩
   case round=>
    obtain⟨j,hj,rfl,hin⟩:=hrel
    by_cases hlt:j<n
    ·obtain⟨b,off,rfl,hbl,c0⟩:=HLL.out j (by rw[HN.out];exact hlt)
     rw[←HBW.out.cell (p:=⟨b,_,none⟩) hbl]at c0
     have H5:Hid (inA am.length (ls.getD j 0)=false→RPremEnd w.heap.size am ls w (.returned (.tuple #[.slice none 0 0,.int .i64 5])) wo):=fun h=>rprem_bad ((pubK_ok HOK.out).trans (prem_5 (by rw[HN.out];exact hlt) h)) (by decide) HBW.out
     have HI:Hid (inA am.length (ls.getD j 0)=true→∀q,q<j+1→inA am.length (ls.getD q 0)=true):=fun h q hq=>by
      by_cases e:q=j
      ·subst e;exact h
      ·exact hin.out q (by omega)
     have HX:Hid (inA am.length (ls.getD j 0)=decide (ls.getD j 0≠0∧ -(k:Int)≤ls.getD j 0∧ls.getD j 0≤k)):=by
      show _=_;unfold inA;rw[HAN.out]
     generalize ls.getD j 0=x at c0 H5 HI HX
     by_cases x0:x=0
     ·have HE:=Lib.hid (H5.out (by rw[HX.out];exact decide_eq_false (by omega)))
      subst x0
      clear H5 HI HX
      go_wp2_with fail
      go_ret2
      exact HE.out
     ·by_cases x1:x > (k:Int)
      ·have HE:=Lib.hid (H5.out (by rw[HX.out];exact decide_eq_false (by omega)))
       have x0':(x == 0)=false:=by simpa using x0
       clear H5 HI HX
       go_wp2_with fail
       go_ret2
       exact HE.out
      ·by_cases x2:x< -(k:Int)
       ·have HE:=Lib.hid (H5.out (by rw[HX.out];exact decide_eq_false (by omega)))
        have x0':(x == 0)=false:=by simpa using x0
        clear H5 HI HX
        go_wp2_with fail
        go_ret2
        exact HE.out
       ·have HI2:=Lib.hid (HI.out (by rw[HX.out];exact decide_eq_true (by omega)))
        have x0':(x == 0)=false:=by simpa using x0
        clear H5 HI HX
        go_wp2_with fail
        go_round
        case rel=>exact⟨j+1,by omega,by go_num,HI2⟩
        case measure=>simp[intOf];omega
    ·obtain rfl:j=n:=by omega
     have HIN:Hid (∀q,q<ls.length→inA am.length (ls.getD q 0)=true):=fun q hq=>hin.out q (by rw[HN.out]at hq;exact hq)
     clear hin
     go_wp2_with fail
     go_loopw [9,10] (fun v i wr=>∃(q:Nat) (xs:List Cut.LT),q≤j∧i= .int .i64 q∧Hid (Cut.MRow w.heap.size xs v wr)∧Hid (Cut.lforms xs=(ls.take q).map (oppA am))∧Hid (∀m,m<q→nearA am (ls.getD m 0)=true)∧Hid (Below w.heap.size w wr)) (fun _ i _=>j - (intOf i).toNat)
     case atStart=>exact⟨0,[],Nat.zero_le _,rfl,Cut.MRow.nil _ _,rfl,fun j hj=>absurd hj (Nat.not_lt_zero _),HBW⟩
     case round=>
      clear HBW hb
      obtain⟨q,xs,hq,rfl,hrow,hfs,hnr,hb⟩:=hrel
      obtain⟨wq,rfl⟩:∃wq:World,wq=wr:=⟨_,rfl⟩
      have hxl:xs.length=q:=by rw[←Cut.lforms_len,hfs.out,List.length_map,List.length_take,HN.out];omega
      by_cases hjt:q<j
      ·obtain⟨b,off,rfl,hbl,d0⟩:=HLL.out q (by rw[HN.out];exact hjt)
       have hbel:=hb.out
       rw[←hbel.cell (p:=⟨b,_,none⟩) hbl]at d0
       have HIJ:=Lib.hid (HIN.out q (by rw[HN.out];exact hjt))
       have HTK:=Lib.hid (take_map am ls q (by rw[HN.out];exact hjt))
       have HNR:Hid (nearA am (ls.getD q 0)=true→∀m,m<q+1→nearA am (ls.getD m 0)=true):=fun h m hm=>by
        by_cases e:m=q
        ·subst e;exact h
        ·exact hnr.out m (by omega)
       have HFR:Hid (nearA am (ls.getD q 0)=false→∀W,Below w.heap.size w W→RPremEnd w.heap.size am ls w (.returned (.tuple #[.slice none 0 0,.int .i64 3])) W):=fun h W hb=>rprem_bad ((pubK_ok HOK.out).trans (prem_3 HIN.out (by rw[HN.out];exact hjt) h)) (by decide) hb
       generalize ls.getD q 0=x at d0 HIJ HTK HNR HFR
       have hxr: -(k:Int)≤x∧x≤k∧x≠0:=by have:=of_decide_eq_true HIJ.out;rw[HAN.out]at this;omega
       obtain⟨hx1,hx2,hx3⟩:=hxr
       by_cases hneg:x<0
       ·obtain⟨k1,hsn,b2,off2,ta,tcap,rfl,hb2,c0,c1,hli⟩:=atom_lies HLA.out HOK.out HIJ.out ((-x).toNat - 1) (by omega)
        rw[←hbel.cell (p:=⟨b2,_,none⟩) hb2]at c0 c1
        rw[HAN.out]at k1
        have HN2:=Lib.hid (HNR.out (by unfold nearA;rw[decide_eq_true hneg];rfl))
        have HTK2:Hid ((ls.take (q+1)).map (oppA am)=(ls.take q).map (oppA am) ++ [((atA am x).1,(atA am x).2)]):=by
         show _=_;rw[HTK.out];unfold oppA;rw[if_pos hneg]
        obtain⟨ce,te⟩:∃z,z=atA am x:=⟨_,rfl⟩
        rw[←te]at c0 c1 hli HTK2
        obtain⟨c,t⟩:=ce
        simp only at c0 c1 hli
        clear te hsn HIJ HTK HNR HFR
        have hz:=hbel.size
        have HLI:=Lib.hid (hli.below hbel)
        have hx4:0≤ -x - 1:=by omega
        have hx5: -x - 1<(k:Int):=by omega
        have HA:Hid (Below wq.heap.size wq (wq.alloc (.cells #[.int .i64 c,.slice ta t.length tcap] 36))):=(Below.refl _ wq).alloc (Nat.le_refl _) _
        have HRW:Hid ((wq.alloc (.cells #[.int .i64 c,.slice ta t.length tcap] 36)).ownsRow w.heap.size 36 2 u9 xs.length (Cut.lcells xs)):=World.ownsRow.alloc hrow.out.row _
        have NEWS:=Lib.hid (Cut.lin_new wq c ta t.length tcap 36 wq.heap.size rfl)
        have HBZ:Hid (w.heap.size≤(wq.alloc (.cells #[.int .i64 c,.slice ta t.length tcap] 36)).heap.size):=Nat.le_trans hz HA.out.size
        clear hli
        go_wp2_with (at_builtin;refine wpList_append_lies _ rfl _ _ 22 rfl w.heap.size 36 i0 _ 2 32 Tryz.underlying22 hi hz0 hz1 hz2 rfl (by omega) u9 xs.length (Cut.lcells xs) rfl HRW.out ⟨wq.heap.size,0,none⟩ 1 1 [.int .i64 c,.slice ta t.length tcap] rfl rfl NEWS.out (Cut.lin_one _ _ _ _) (by omega) (by unfold maxLen;omega) (by omega) HBZ.out (wq.heap.size+1) (by simp) ?_)
        intro gg cap6 w6 hown6 hgrow6 hat6 hlt6
        rw[←hxl]at hown6
        have RN:Hid (Cut.MRow w.heap.size (xs ++ [⟨c,ta,tcap,t⟩]) (.slice (some ⟨gg,0,none⟩) (xs.length+1) cap6) w6):=by
         refine Cut.MRow.step (x:=⟨c,ta,tcap,t⟩) (w5:=wq.alloc (.cells #[.int .i64 c,.slice ta t.length tcap] 36)) (g:=gg) (H:=wq.heap.size+1) hrow.out HA.out ?_ hgrow6 (by simp) rfl hat6 hown6
         intro i hi9
         obtain⟨b9,o9,e9,h9,r1,r2⟩:=HLI.out.below (HA.out.mono hz) i hi9
         exact⟨b9,o9,e9,⟨Nat.lt_of_lt_of_le h9 HBZ.out,fun e=>by have:=(World.ownsRow.lt hrow.out.row b9 e).1;omega⟩,r1,r2⟩
        have BN:Hid (Below w.heap.size w w6):=(hbel.trans (HA.out.mono hz)).grown hgrow6 HBZ.out (fun g hg=>(World.ownsRow.lt hrow.out.row g hg).1)
        have FN:Hid (Cut.lforms (xs ++ [⟨c,ta,tcap,t⟩])=(ls.take (q+1)).map (oppA am)):=by
         show _=_
         rw[Cut.lforms_append,hfs.out,HTK2.out];rfl
        rw[hxl]at RN
        clear hown6 hgrow6 hat6 hlt6 HRW NEWS HBZ HA c0 c1 d0
        go_wp2_with fail
        go_roundw
        case rel=>exact⟨q+1,_,by omega,by go_num,RN,FN,HN2,BN⟩
        case measure=>simp[intOf];omega
       ·have hx4:0≤x - 1:=by omega
        have hx5:x - 1<(k:Int):=by omega
        obtain⟨k1,hsn,b2,off2,ta,tcap,rfl,hb2,c0,c1,hli⟩:=atom_lies HLA.out HOK.out HIJ.out (x.toNat - 1) (by omega)
        rw[←hbel.cell (p:=⟨b2,_,none⟩) hb2]at c0 c1
        rw[HAN.out]at k1
        have HTK2:Hid ((ls.take (q+1)).map (oppA am)=(ls.take q).map (oppA am) ++ [(1 - (atA am x).1,scale (-1) (atA am x).2)]):=by
         show _=_;rw[HTK.out];unfold oppA;rw[if_neg hneg]
        have HNA:Hid (nearA am x=wi (1 - (atA am x).1) 1073741824):=by
         show _=_;unfold nearA;rw[decide_eq_false hneg];rfl
        have ht64:=(snd_iff.1 hsn).2.1
        have hsm:=snd_terms hsn
        have hcb:=(snd_iff.1 hsn).1
        obtain⟨ce,te⟩:∃z,z=atA am x:=⟨_,rfl⟩
        rw[←te]at c0 c1 hli HTK2 ht64 HNA hsm hcb
        obtain⟨c,t⟩:=ce
        simp only at c0 c1 hli ht64 hsm hcb
        have HNA:Hid (nearA am x=wi (1 - c) 1073741824):=HNA
        have HTK2:Hid ((ls.take (q+1)).map (oppA am)=(ls.take q).map (oppA am) ++ [(1 - c,scale (-1) t)]):=HTK2
        have hc9: -1073741824≤c∧c≤1073741824:=by unfold wi at hcb;simpa using hcb
        clear te HIJ HTK hsn hcb
        have hz:=hbel.size
        have HTM:=Lib.hid (fun W (hb:Below w.heap.size w W)=>rtimes_any c (-1) ta t.length tcap t W rfl ht64 ((hli.below hb).mono hb.size) (fun m hm=>by have:=(hsm m hm).2;omega))
        have hbp:Below wq.heap.size wq (wq.alloc (.cells #[.int .i64 c,.slice ta t.length tcap] 36)):=(Below.refl _ wq).alloc (Nat.le_refl _) _
        have BP:Hid (Below w.heap.size w (wq.alloc (.cells #[.int .i64 c,.slice ta t.length tcap] 36))):=hbel.trans (hbp.mono hz)
        have RP:Hid (Cut.MRow w.heap.size xs u9 (wq.alloc (.cells #[.int .i64 c,.slice ta t.length tcap] 36))):=hrow.out.below hbp
        have PZ:Hid ((wq.alloc (.cells #[.int .i64 c,.slice ta t.length tcap] 36)).heap[wq.heap.size]? =some (.cells #[.int .i64 c,.slice ta t.length tcap] 36 (0,0))):=heap_alloc_new wq _
        have hw1:IntKind.i64.wrap (1 - c)=1 - c:=IntWalk.i64_in _ (by omega)
        clear hbp hli hsm
        go_wp2_with fail
        generalize hW1:wq.alloc (.cells #[.int .i64 c,.slice ta t.length tcap] 36)=W2 at BP RP PZ⊢
        have hzp:wq.heap.size<W2.heap.size:=by rw[←hW1];simp
        clear hW1
        have p0:W2.cell? ⟨wq.heap.size,0,none⟩=some (.int .i64 c):=by rw[cell_of_row _ _ _ _ _ _ PZ.out];rfl
        have p1:W2.cell? ⟨wq.heap.size,1,none⟩=some (.slice ta t.length tcap):=by rw[cell_of_row _ _ _ _ _ _ PZ.out];rfl
        generalize wq.heap.size=P at hzp p0 p1 hz⊢
        clear c0 c1 d0 PZ hbel hrow hb
        have HP2:=Lib.hid hzp
        clear hzp
        have QA:Hid (∀W,Below W2.heap.size W2 W→W.cell? ⟨P,0,none⟩=some (.int .i64 c)∧W.cell? ⟨P,1,none⟩=some (.slice ta t.length tcap)):=fun W hb=>⟨(hb.cell (p:=⟨P,0,none⟩) HP2.out).trans p0,(hb.cell (p:=⟨P,1,none⟩) HP2.out).trans p1⟩
        have PA:Hid (Below W2.heap.size W2 W2.drew):=(Below.refl _ _).drew
        have PB:Hid (Below W2.heap.size W2 ((W2.alloc (.cells #[.int .i64 0,.slice none 0 0] 36)).drew)):=((Below.refl _ W2).alloc (Nat.le_refl _) _).drew
        have QT:Hid (∀W,Below W2.heap.size W2 W→Calls Tryz.prog 25 #[.agg #[.int .i64 c,.slice ta t.length tcap],.int .i64 (-1)] W fun e w'=>∃a6 cap6,e= .returned (.slice a6 (scale (-1) t).length cap6)∧Cut.LiesS (fun b=>W.heap.size≤b∧b<w'.heap.size) w' a6 (scale (-1) t)∧Below W.heap.size W w'∧Below W2.heap.size W2 w'):=fun W hb=>
         (HTM.out W (BP.out.trans (hb.mono BP.out.size))).mono fun e w' h=>by
           obtain⟨v,rfl,h1,h2⟩:=h
           obtain⟨a6,cap6,rfl,hl6⟩:=h1.liesC
           exact⟨a6,cap6,rfl,hl6,h2,hb.trans (h2.mono hb.size)⟩
        clear HTM
        go_region_held3 (fun w'=>w'.cell? ⟨P,0,none⟩=some (.int .i64 c)∧w'.cell? ⟨P,1,none⟩=some (.slice ta t.length tcap))
         (first
           | exact QA.out _ (me_b (C:=1 - c) (cap:=cap6) ((Below.refl _ _).drew.trans hb6) hl6).bel
           | exact QA.out _ hb6w
           | exact QA.out _ (hb6w.alloc hb6w.size _)
           | exact QA.out _ PA.out
           | exact QA.out _ PB.out
           | go_keep)
         (first
           | (go_at_call 25
              refine(QT.out _ PB.out).mono ?_
              rintro e w6 ⟨a6,cap6,rfl,hl6,hb6,hb6w⟩
              have hnb:w6.heap[W2.heap.size]? =some (.cells #[.int .i64 0,.slice none 0 0] 36 (0,0)):=(hb6.block _ (by show _<(W2.alloc _).heap.size;simp)).trans (heap_alloc_new W2 _)
              have y0:w6.cell? ⟨W2.heap.size,0,none⟩=some (.int .i64 0):=(cell_of_row _ _ _ _ _ _ hnb).trans rfl
              have y1:w6.cell? ⟨W2.heap.size,1,none⟩=some (.slice none 0 0):=(cell_of_row _ _ _ _ _ _ hnb).trans rfl
              have yf:∀o,w6.frozen? ⟨W2.heap.size,o,none⟩=false:=fun o=>frozen_of_row _ _ _ _ _ hnb)
           | (go_at_call 25
              refine(QT.out _ PA.out).mono ?_
              rintro e w6 ⟨a6,cap6,rfl,hl6,hb6,hb6w⟩))
        all_goals
         first
         | (show Exit.then _ _ _ _ (World.alloc w6 _)
            have TT:=Lib.hid (me_a (C:=1 - c) (cap:=cap6) hb6w hl6)
            generalize w6.alloc (.cells #[.int .i64 (1 - c),.slice a6 (scale (-1) t).length cap6] 36)=W9 at TT⊢
            generalize w6.heap.size=M9 at TT⊢
            clear hl6 hb6 hb6w)
         | (have TT:=Lib.hid (me_b (w:=W2) (C:=1 - c) (cap:=cap6) ((Below.refl _ _).drew.trans hb6) hl6)
            generalize (w6.setCell ⟨W2.heap.size,0,none⟩ (.int .i64 (1 - c))).setCell ⟨W2.heap.size,1,none⟩ (.slice a6 (scale (-1) t).length cap6)=W9 at TT⊢
            generalize hM9:W2.heap.size=M9 at TT⊢
            clear hl6 hb6 hb6w hnb y0 y1 yf)
         obtain⟨_,x0,x1,_,_⟩:=TT.out
         clear p0 p1 QA PA PB QT
         cases hf:wi (1 - c) 1073741824 with
         | false=>
           have HE:=Lib.hid (HFR.out (by rw[HNA.out];exact hf))
           have hcf:=fun W=>coef_any (1 - c) W
           rw[hf]at hcf
           have B9:=Lib.hid (BP.out.trans (TT.out.bel.mono BP.out.size))
           clear HNR HFR HNA hf hco
           generalize 1 - c=C at*
           go_wp2_with (go_at_call 26;refine(hcf _).mono ?_;rintro e w' ⟨rfl,rfl⟩)
           go_ret2
           exact HE.out _ B9.out
         | true=>
           have HN2:=Lib.hid (HNR.out (by rw[HNA.out];exact hf))
           have hcf:=fun W=>coef_any (1 - c) W
           rw[hf]at hcf
           have hE64:(scale (-1) t).length≤64:=by rw[scale_len];exact ht64
           clear HNR HFR HNA hf hco hw1
           generalize 1 - c=C at*
           generalize scale (-1) t=E at*
           have HA:Hid (Below W9.heap.size W9 (W9.alloc (.cells #[.int .i64 C,.slice a6 E.length cap6] 36))):=(Below.refl _ W9).alloc (Nat.le_refl _) _
           have B9:=Lib.hid (BP.out.trans (TT.out.bel.mono BP.out.size))
           have HRW:Hid ((W9.alloc (.cells #[.int .i64 C,.slice a6 E.length cap6] 36)).ownsRow w.heap.size 36 2 u9 xs.length (Cut.lcells xs)):=World.ownsRow.alloc (RP.out.below TT.out.bel).row _
           have NEWS:=Lib.hid (Cut.lin_new W9 C a6 E.length cap6 36 W9.heap.size rfl)
           have HBZ:Hid (w.heap.size≤(W9.alloc (.cells #[.int .i64 C,.slice a6 E.length cap6] 36)).heap.size):=Nat.le_trans B9.out.size HA.out.size
           go_wp2_with (first
            | (at_builtin;refine wpList_append_lies _ rfl _ _ 22 rfl w.heap.size 36 i0 _ 2 32 Tryz.underlying22 hi hz0 hz1 hz2 rfl (by omega) u9 xs.length (Cut.lcells xs) rfl HRW.out ⟨W9.heap.size,0,none⟩ 1 1 [.int .i64 C,.slice a6 E.length cap6] rfl rfl NEWS.out (Cut.lin_one _ _ _ _) (by omega) (by unfold maxLen;omega) (by omega) HBZ.out (W9.heap.size+1) (by simp) ?_)
            | (go_at_call 26;refine(hcf _).mono ?_;rintro e w' ⟨rfl,rfl⟩))
           intro gg cap7 w7 hown7 hgrow7 hat7 hlt7
           rw[←hxl]at hown7
           have RN:Hid (Cut.MRow w.heap.size (xs ++ [⟨C,a6,cap6,E⟩]) (.slice (some ⟨gg,0,none⟩) (xs.length+1) cap7) w7):=by
            refine Cut.MRow.step (x:=⟨C,a6,cap6,E⟩) (w5:=W9.alloc (.cells #[.int .i64 C,.slice a6 E.length cap6] 36)) (g:=gg) (H:=W9.heap.size+1) RP.out (TT.out.bel.trans (HA.out.mono TT.out.bel.size)) ?_ hgrow7 (by simp) rfl hat7 hown7
            exact TT.out.lies.keep (fun b ⟨h1,h2⟩=>⟨Nat.lt_of_lt_of_le h2 HA.out.size,fun e=>by have:=(World.ownsRow.lt RP.out.row b e).2;omega⟩) (fun b o ⟨h1,h2⟩=>HA.out.cell (p:=⟨b,o,none⟩) h2)
           have BN:Hid (Below w.heap.size w w7):=(B9.out.trans (HA.out.mono B9.out.size)).grown hgrow7 HBZ.out (fun g hg=>(World.ownsRow.lt RP.out.row g hg).1)
           have FN:Hid (Cut.lforms (xs ++ [⟨C,a6,cap6,E⟩])=(ls.take (q+1)).map (oppA am)):=by
            show _=_
            rw[Cut.lforms_append,hfs.out,HTK2.out];rfl
           rw[hxl]at RN
           clear hown7 hgrow7 hat7 hlt7 HRW NEWS HBZ HA x0 x1
           go_wp2_with fail
           go_roundw
           case rel=>exact⟨q+1,_,by omega,by go_num,RN,FN,HN2,BN⟩
           case measure=>simp[intOf];omega
      ·obtain rfl:q=j:=by omega
       have HE:Hid (RPremEnd w.heap.size am ls w (.returned (.tuple #[u9,.int .i64 0])) wq):=by
        have h0:pubK am ls=0:=(pubK_ok HOK.out).trans (prem_0 HIN.out (fun m hm=>hnr.out m (by rw[HN.out]at hm;exact hm)))
        refine⟨_,xs,by rw[h0],hrow.out, ?_,hb.out⟩
        rw[hfs.out,List.take_of_length_le (by rw[HN.out];exact Nat.le_refl _)]
        unfold pubL;rw[if_pos h0]
       go_wp2_with fail
       go_ret2
       exact HE.out
end
section
open Go.ChangeShapes Go.WideShapes Go.ChangeAt Go.RowKit
theorem Tryz.own:ownKnob Tryz.prog.godebug=none:=by kernel_rfl
theorem Tryz.laidOut:laidOutB Tryz.prog=true:=by kernel_rfl
def laidT:List (String×DataW Unit):=[("math/bits.deBruijn32tab",Rows.laid_math_bits_deBruijn32tab),("math/bits.deBruijn64tab",Rows.laid_math_bits_deBruijn64tab),("internal/strconv.uint64pow10",Rows.laid_internal_strconv_uint64pow10)]
def laidE:List (String×DataW Unit):=[("errors.errorType",Rows.laid_errors_errorType)]
def laidL:List (String×DataW Unit):=laidT ++ laidE
theorem Tryz.gTab:Tryz.prog.globalNamed "internal/strconv.uint64pow10" =some 1:=by kernel_rfl
theorem Tryz.gTabType:(Tryz.prog.globals[1]?).map (·.type)=some 235:=by kernel_rfl
theorem Tryz.cellsTab:Tryz.prog.cellsOf 235=20:=by kernel_rfl
theorem Tryz.cellsU64:Tryz.prog.cellsOf 217=1:=by kernel_rfl
theorem Tryz.et:Tryz.prog.globalNamed "errors.errorType" =some 0:=by kernel_rfl
theorem Tryz.rt:(Tryz.prog.cutTypes.find? (·.1 == "internal/reflectlite.rtype")).map (·.2)=some 162:=by kernel_rfl
theorem Tryz.oneRow:((List.range 276).filter fun t=>Tryz.prog.rowNamed t [101,114,114,111,114])=[26]:=by kernel_rfl
theorem Tryz.size:Tryz.prog.types.size=276:=by kernel_rfl
theorem laid_tail {P:Program}{x:String×DataW Unit}{l:List (String×DataW Unit)}{w:World}(h:laidMet P (x :: l) w):laidMet P l w:=by
 obtain⟨ps,h1,h2,h3⟩:=h
 obtain⟨g,t,cs,fuel,p,q,_,_,_,_,h4,rfl⟩:=h1
 exact⟨q,h4,(List.nodup_append.1 h2).2.1,fun b off hb=>h3 b off (List.mem_append.2 (.inr hb))⟩
theorem laid_parts {W:World}(h:laidMetH Tryz.prog laidL W):laidMet Tryz.prog laidT W∧handlesMet Tryz.prog laidE W:=h
theorem tens_of_laid {W:World}(h:laidMetH Tryz.prog laidL W):Tens W.heap.size W:=by
 have h':=(laid_parts h).1
 exact Lib.tabBelow_of_tabIs (Lib.tabIs_of_head (rest:=[]) Tryz.gTab Tryz.gTabType Tryz.underlying235 Tryz.underlying217 Tryz.cellsU64 Tryz.cellsTab (laid_tail (laid_tail h')))
theorem handle_of_laid {W:World}(h:laidMetH Tryz.prog laidL W):Prp.Laid0 W:=by
 obtain⟨name,u,ty,e1,e2,e3,e4,e5⟩:=(laid_parts h).2 _ (List.mem_singleton.2 rfl)
 have en:name=[101,114,114,111,114]:=(Option.some.inj e1).symm
 subst en
 obtain rfl:=Option.some.inj (Tryz.rt.symm.trans e2)
 have hm:ty∈(List.range 276).filter fun t=>Tryz.prog.rowNamed t [101,114,114,111,114]:=List.mem_filter.2 ⟨List.mem_range.2 (by rw[←Tryz.size];exact e3),e4⟩
 rw[Tryz.oneRow]at hm
 obtain rfl:=List.mem_singleton.1 hm
 have hh:typeHandle Tryz.prog 26= .pointer (some ⟨4,26,none⟩):=by kernel_rfl
 rw[hh]at e5
 unfold Prp.Laid0
 simpa using World.var?_cell Tryz.et e5 0
noncomputable def laidWorld (os:Os):World:=
 let w0:=World.holding Tryz.prog os ⟨#[], #[],[]⟩
 { w0 with heap:=(((w0.heap.modify 2 fun
    | .cells _ t frozen=> .cells #[.int .u8 0,.int .u8 1,.int .u8 28,.int .u8 2,.int .u8 29,.int .u8 14,.int .u8 24,.int .u8 3,.int .u8 30,.int .u8 22,.int .u8 20,.int .u8 15,.int .u8 25,.int .u8 17,.int .u8 4,.int .u8 8,.int .u8 31,.int .u8 27,.int .u8 13,.int .u8 23,.int .u8 21,.int .u8 19,.int .u8 16,.int .u8 7,.int .u8 26,.int .u8 12,.int .u8 18,.int .u8 6,.int .u8 11,.int .u8 5,.int .u8 10,.int .u8 9] t frozen
    | o=>o).modify 3 fun
    | .cells _ t frozen=> .cells #[.int .u8 0,.int .u8 1,.int .u8 56,.int .u8 2,.int .u8 57,.int .u8 49,.int .u8 28,.int .u8 3,.int .u8 61,.int .u8 58,.int .u8 42,.int .u8 50,.int .u8 38,.int .u8 29,.int .u8 17,.int .u8 4,.int .u8 62,.int .u8 47,.int .u8 59,.int .u8 36,.int .u8 45,.int .u8 43,.int .u8 51,.int .u8 22,.int .u8 53,.int .u8 39,.int .u8 33,.int .u8 30,.int .u8 24,.int .u8 18,.int .u8 12,.int .u8 5,.int .u8 63,.int .u8 55,.int .u8 48,.int .u8 27,.int .u8 60,.int .u8 41,.int .u8 37,.int .u8 16,.int .u8 46,.int .u8 35,.int .u8 44,.int .u8 21,.int .u8 52,.int .u8 32,.int .u8 23,.int .u8 11,.int .u8 54,.int .u8 26,.int .u8 40,.int .u8 15,.int .u8 34,.int .u8 20,.int .u8 31,.int .u8 10,.int .u8 25,.int .u8 14,.int .u8 19,.int .u8 9,.int .u8 13,.int .u8 8,.int .u8 7,.int .u8 6] t frozen
    | o=>o).modify 1 fun
    | .cells _ t frozen=> .cells #[.int .u64 1,.int .u64 10,.int .u64 100,.int .u64 1000,.int .u64 10000,.int .u64 100000,.int .u64 1000000,.int .u64 10000000,.int .u64 100000000,.int .u64 1000000000,.int .u64 10000000000,.int .u64 100000000000,.int .u64 1000000000000,.int .u64 10000000000000,.int .u64 100000000000000,.int .u64 1000000000000000,.int .u64 10000000000000000,.int .u64 100000000000000000,.int .u64 1000000000000000000,.int .u64 10000000000000000000] t frozen
    | o=>o).modify 0 fun
    | .cells _ t frozen=> .cells #[.iface 162 (.agg #[.pointer (some ⟨4,26,none⟩)])] t frozen
    | o=>o }
theorem laidWorld_met (os:Os)(args:Array Value):laidMetH Tryz.prog laidL ((laidWorld os).forCall (fun _ _=>0) ⟨#[],args,[]⟩).memory:=
 laidMetH_of_parts (laidMet_of_run' 8 (by kernel_rfl) (by kernel_rfl):laidMet Tryz.prog laidT _) (by kernel_rfl)
section
variable {H:Type} {enc:TypeId×Value→H} {w:World} {base:Nat} {spare:Nat→Bool} {held:Bool}
theorem open_cert {r:Reach}{b0:Nat}{v:Value}{d:DataW H}{p:List MemPlace}(hv:Value.okWide Tryz.prog w r b0 43 v)(h:DataW.Trod enc Tryz.prog w base spare held 43 v d p):
 ∃la ln lcap lms ra rn rcap ss,v= .agg #[.slice la ln lcap,.slice ra rn rcap]∧lms.length=ln∧ln≤9223372036854775807∧ss.length=rn∧rn≤9223372036854775807∧LmLies w.heap.size w la lms∧Prp.CLies w.heap.size w ra ss∧∀i,i<rn→(ss.getD i []).length≤9223372036854775807:=by
 obtain⟨cs,rfl,hsz⟩:=okWide_struct Tryz.underlying43 hv
 obtain⟨fuel,hf⟩:=h
 obtain⟨c0,c1,y0,y1,n,e,h0,h1⟩:=Pak.two_fields (cs:=cs.toList) Tryz.underlying43 (by kernel_rfl) ⟨rfl,by kernel_rfl⟩ ⟨rfl,by kernel_rfl⟩ (by simpa [Value.cells]using hf)
 obtain⟨la,lcap,lms,e0,hs0,hl0,hm0,_⟩:=Pak.open_row (sh:=Pak.lemSh) Tryz.underlying40 (by kernel_rfl) (by decide) Pak.opn_lem h0
 obtain⟨ra,rcap,ss,e1,hs1,hl1,hm1,_⟩:=Pak.open_row (sh:=Pak.clauseSh) Tryz.underlying41 (by kernel_rfl) (by decide) Pak.opn_clause h1
 have e2:=List.cons.inj e0
 have e3:=List.cons.inj e1
 have ecs:cs= #[.slice la lms.length lcap,.slice ra ss.length rcap]:=by
  cases cs
  simp only[]at e
  rw[e,e2.1,e3.1]
 have h63:maxLen=9223372036854775807:=rfl
 exact⟨la,_,lcap,lms,ra,_,rcap,ss,by rw[ecs],rfl,by omega,rfl,by omega,lmlies_of hs0,clies_of hs1 (fun b hb=>hb),fun i hi=>by
  obtain⟨b,off,us,_,_,_,u,rfl,a,cap,rfl,hn⟩:=hs1.2 i hi
  have:=hn.1
  rwa [List.getD_eq_getElem?_getD,List.getElem?_eq_getElem hi,Option.getD_some]⟩
end
end
end Go.Proofs.YtipahfcaplbifaaGreatDoor
