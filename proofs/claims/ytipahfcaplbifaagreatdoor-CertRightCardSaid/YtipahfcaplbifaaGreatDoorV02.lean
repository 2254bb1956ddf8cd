/- Parts of a proof. -/
import Derived.Test.YtipahfcaplbifaaGreatDoorV01
import Derived.Test.YtipahfcaplbifaaGreatDoorQ33
import Derived.Test.YtipahfcaplbifaaGreatDoorQ39
import Derived.Test.YtipahfcaplbifaaGreatDoorQ11
import Derived.Deep.AppendLies
import Derived.Deep.RegionLaw
import Derived.Test.YtipahfcaplbifaaGreatDoorQ15
import Derived.Test.YtipahfcaplbifaaGreatDoorQ18
set_option linter.unusedVariables false
set_option linter.unusedSimpArgs false
set_option maxHeartbeats 60000000
set_option maxRecDepth 100000
namespace Go.Proofs.YtipahfcaplbifaaGreatDoor
section
open Go.RowKit
theorem neg_sumO {c:Int}{l:List (Int×Int)}(hs:snd c l=true):IsSum (scale 1 [] ++ scale (-1) l) (scale (-1) l):=neg_sum hs
theorem one_terms {c:Int}{l:List (Int×Int)}(hs:snd c l=true):Bd 4398046511104 (scale 1 [] ++ scale (-1) l)∧∀m∈scale 1 [] ++ scale (-1) l,0≤m.1∧m.1<1048576:=
 both_terms (ca:=1) (x:=1) (y:= -1) (la:=[]) (by decide) hs (by omega) (by omega)
theorem one_add (c:Int)(a:Option Addr)(n cap:Nat)(l:List (Int×Int))(w:World)(hn:l.length=n)(hl:Lies w.heap.size w a l)(hs:snd c l=true)(hf:wi (1 - c) 1073741824=true):
 Calls Tryz.prog 50 #[.agg #[.int .i64 1,.slice none 0 0],.agg #[.int .i64 c,.slice a n cap],.int .i64 1,.int .i64 (-1)] w (LinOk w.heap.size (1 - c) (scale (-1) l) w):=by
 have h64:=(snd_iff.1 hs).2.1
 obtain⟨hs1,hs2⟩:=one_terms hs
 have e:(1:Int)*1+ -1*c=1 - c:=by omega
 have:=add_ok 1 c 1 (-1) none a 0 n 0 cap [] l (scale (-1) l) w rfl hn (fun i hi=>absurd hi (Nat.not_lt_zero i)) hl (by decide) hs (by omega) (by omega)
  (fun a n cap W B hn hrow hB hm=>gather_ok _ a n cap B _ (scale (-1) l) W hn hrow hB hm hs1 hs2 (neg_sumO hs) (by rw[e];exact hf) (neg_wi hs) (by rw[scale_len];omega))
 rw[e]at this
 exact this
theorem one_far (c:Int)(a:Option Addr)(n cap:Nat)(l:List (Int×Int))(w:World)(hn:l.length=n)(hl:Lies w.heap.size w a l)(hs:snd c l=true)(hf:wi (1 - c) 1073741824=false):
 Calls Tryz.prog 50 #[.agg #[.int .i64 1,.slice none 0 0],.agg #[.int .i64 c,.slice a n cap],.int .i64 1,.int .i64 (-1)] w (LinErr w.heap.size 3 w):=by
 obtain⟨hs1,hs2⟩:=one_terms hs
 have e:(1:Int)*1+ -1*c=1 - c:=by omega
 exact add_err 3 1 c 1 (-1) none a 0 n 0 cap [] l w rfl hn (fun i hi=>absurd hi (Nat.not_lt_zero i)) hl (by decide) hs (by omega) (by omega)
  (fun a n cap W B hn hrow hB hm=>gather_far1 _ a n cap B _ (scale (-1) l) W hn hrow hB hm hs1 hs2 (neg_sumO hs) (by rw[e];exact hf))
def PremEnd (B:Nat)(am:List (Int×List (Int×Int)))(ls:List Int)(w:World)(e:Ending)(w':World):Prop:=
 ∃v xs,e= .returned (.tuple #[v,codeV (premK am ls)])∧Cut.LRow B xs v w'∧Cut.lforms xs=premL am ls∧Below B w w'
theorem getD_in {ls:List Int}{j:Nat}(h:j<ls.length):ls.getD j 0∈ls:=by
 rw[List.getD_eq_getElem?_getD,List.getElem?_eq_getElem h];exact List.getElem_mem h
theorem all_of {ls:List Int}{p:Int→Bool}(h:∀j,j<ls.length→p (ls.getD j 0)=true):ls.all p=true:=by
 refine List.all_eq_true.2 fun x hx=> ?_
 obtain⟨i,hi,rfl⟩:=List.getElem_of_mem hx
 have:=h i hi
 rwa [List.getD_eq_getElem?_getD,List.getElem?_eq_getElem hi]at this
theorem not_all {ls:List Int}{p:Int→Bool}{j:Nat}(hj:j<ls.length)(h:p (ls.getD j 0)=false):¬ls.all p=true:=fun ha=>by
 rw[List.all_eq_true.1 ha _ (getD_in hj)]at h;cases h
theorem prem_5 {am:List (Int×List (Int×Int))}{ls:List Int}{j:Nat}(hj:j<ls.length)(h:inA am.length (ls.getD j 0)=false):premK am ls=5:=by
 unfold premK;rw[if_neg (not_all hj h)]
theorem prem_3 {am:List (Int×List (Int×Int))}{ls:List Int}{j:Nat}(ha:∀j,j<ls.length→inA am.length (ls.getD j 0)=true)(hj:j<ls.length)(h:nearA am (ls.getD j 0)=false):premK am ls=3:=by
 unfold premK;rw[if_pos (all_of ha),if_neg (not_all hj h)]
theorem prem_0 {am:List (Int×List (Int×Int))}{ls:List Int}(ha:∀j,j<ls.length→inA am.length (ls.getD j 0)=true)(hb:∀j,j<ls.length→nearA am (ls.getD j 0)=true):premK am ls=0:=by
 unfold premK;rw[if_pos (all_of ha),if_pos (all_of hb)]
theorem prem_bad {B:Nat}{am:List (Int×List (Int×Int))}{ls:List Int}{w W:World}{k:Int}(hk:premK am ls=k)(h0:k≠0)(hb:Below B w W):PremEnd B am ls w (.returned (.tuple #[.slice none 0 0,.iface 60 (.int .i64 k)])) W:=
 ⟨_,[],by rw[hk];unfold codeV;rw[if_neg h0],Cut.LRow.nil _ _,by unfold premL;rw[if_neg (by rw[hk];exact h0)];rfl,hb⟩
theorem take_map (am:List (Int×List (Int×Int)))(ls:List Int)(k:Nat)(h:k<ls.length):(ls.take (k+1)).map (oppA am)=(ls.take k).map (oppA am) ++ [oppA am (ls.getD k 0)]:=by
 rw[List.take_succ_eq_append_getElem h,List.map_append]
 simp[List.getD_eq_getElem?_getD,h]
theorem atom_lies {B:Nat}{w:World}{a:Option Addr}{am:List (Int×List (Int×Int))}(h:Cut.LLies B w a am)(hok:Cut.lsOk am){x:Int}(hx:inA am.length x=true)(k:Nat)(hk:k=x.natAbs - 1):
 k<am.length∧snd (atA am x).1 (atA am x).2=true∧∃b off ta tcap,a=some ⟨b,off,none⟩∧b<B∧w.cell? ⟨b,off+k*2,none⟩=some (.int .i64 (atA am x).1)∧w.cell? ⟨b,off+k*2+1,none⟩=some (.slice ta (atA am x).2.length tcap)∧Lies B w ta (atA am x).2:=by
 have hx':=of_decide_eq_true hx
 subst hk
 have hlt:x.natAbs - 1<am.length:=by omega
 exact⟨hlt,hok _ hlt,h _ hlt⟩
theorem prem_any (aa:Option Addr)(an acap:Nat)(am:List (Int×List (Int×Int)))(la:Option Addr)(n lcap:Nat)(ls:List Int)(w:World)(han:am.length=an)(ham:an≤1000000)(hla:Cut.LLies w.heap.size w aa am)(hok:Cut.lsOk am)(hln:ls.length=n)(hlm:n≤1000000)(hll:Nums w.heap.size w la ls):
 Calls Tryz.prog 23 #[.slice aa an acap,.slice la n lcap] w (PremEnd w.heap.size am ls w):=by
 obtain⟨i0,hi,hz0,hz1,hz2⟩:=info_parts Cut.Tryz.infoLin
 have n1:=fun t v W=>Cut.Tryz.neIface t v W
 have HLA:=Lib.hid hla
 have HOK:=Lib.hid hok
 have HLL:=Lib.hid hll
 have HAN:=Lib.hid han
 have HN:=Lib.hid hln
 clear hla hok hll han hln
 go_enter Tryz.func23,Tryz.ntmps23
 go_wp2_with fail
 go_loop [16] (fun i=>∃k:Nat,k≤n∧i= .int .i64 k∧Hid (∀j,j<k→inA am.length (ls.getD j 0)=true)) (fun i=>n - (intOf i).toNat)
 case atStart=>exact⟨0,Nat.zero_le _,rfl,fun j hj=>absurd hj (Nat.not_lt_zero _)⟩
 case round=>
  obtain⟨k,hk,rfl,hin⟩:=hrel
  by_cases hlt:k<n
  ·obtain⟨b,off,rfl,hb,c0⟩:=HLL.out k (by rw[HN.out];exact hlt)
   have H5:Hid (inA am.length (ls.getD k 0)=false→PremEnd w.heap.size am ls w (.returned (.tuple #[.slice none 0 0,.iface 60 (.int .i64 5)])) w):=fun h=>prem_bad (prem_5 (by rw[HN.out];exact hlt) h) (by decide) (Below.refl _ _)
   have HI:Hid (inA am.length (ls.getD k 0)=true→∀j,j<k+1→inA am.length (ls.getD j 0)=true):=fun h j hj=>by
    by_cases e:j=k
    ·subst e;exact h
    ·exact hin.out j (by omega)
   have HX:Hid (inA am.length (ls.getD k 0)=decide (ls.getD k 0≠0∧ -(an:Int)≤ls.getD k 0∧ls.getD k 0≤an)):=by
    show _=_;unfold inA;rw[HAN.out]
   generalize ls.getD k 0=x at c0 H5 HI HX
   by_cases x0:x=0
   ·have HE:=Lib.hid (H5.out (by rw[HX.out];exact decide_eq_false (by omega)))
    subst x0
    clear H5 HI HX
    go_wp2_with fail
    go_ret2
    exact HE.out
   ·by_cases x1:x > (an:Int)
    ·have HE:=Lib.hid (H5.out (by rw[HX.out];exact decide_eq_false (by omega)))
     have x0':(x == 0)=false:=by simpa using x0
     clear H5 HI HX
     go_wp2_with fail
     go_ret2
     exact HE.out
    ·by_cases x2:x< -(an:Int)
     ·have HE:=Lib.hid (H5.out (by rw[HX.out];exact decide_eq_false (by omega)))
      have x0':(x == 0)=false:=by simpa using x0
      clear H5 HI HX
      go_wp2_with fail
      go_ret2
      exact HE.out
     ·have HI2:=Lib.hid (HI.out (by rw[HX.out];exact decide_eq_true (by omega)))
      have x0':(x == 0)=false:=by simpa using x0
      clear H5 HI HX
      go_wp2_with fail
      go_round
      case rel=>exact⟨k+1,by omega,by go_num,HI2⟩
      case measure=>simp[intOf];omega
  ·obtain rfl:k=n:=by omega
   have HIN:Hid (∀j,j<ls.length→inA am.length (ls.getD j 0)=true):=fun j hj=>hin.out j (by rw[HN.out]at hj;exact hj)
   clear hin
   go_wp2_with fail
   go_loopw [8,39] (fun v i wr=>∃(j:Nat) (xs:List Cut.LT),j≤k∧i= .int .i64 j∧Hid (Cut.LRow w.heap.size xs v wr)∧Hid (Cut.lforms xs=(ls.take j).map (oppA am))∧Hid (∀m,m<j→nearA am (ls.getD m 0)=true)∧Hid (Below w.heap.size w wr)) (fun _ i _=>k - (intOf i).toNat)
   case atStart=>exact⟨0,[],Nat.zero_le _,rfl,Cut.LRow.nil _ _,rfl,fun j hj=>absurd hj (Nat.not_lt_zero _),Below.refl _ _⟩
   case round=>
    obtain⟨j,xs,hj,rfl,hrow,hfs,hnr,hb⟩:=hrel
    obtain⟨wo,rfl⟩:∃wo:World,wo=wr:=⟨_,rfl⟩
    have hxl:xs.length=j:=by rw[←Cut.lforms_len,hfs.out,List.length_map,List.length_take,HN.out];omega
    by_cases hjt:j<k
    ·obtain⟨b,off,rfl,hbl,d0⟩:=HLL.out j (by rw[HN.out];exact hjt)
     have hbel:=hb.out
     rw[←hbel.cell (p:=⟨b,_,none⟩) hbl]at d0
     have HIJ:=Lib.hid (HIN.out j (by rw[HN.out];exact hjt))
     have HTK:=Lib.hid (take_map am ls j (by rw[HN.out];exact hjt))
     have HNR:Hid (nearA am (ls.getD j 0)=true→∀m,m<j+1→nearA am (ls.getD m 0)=true):=fun h m hm=>by
      by_cases e:m=j
      ·subst e;exact h
      ·exact hnr.out m (by omega)
     have HFR:Hid (nearA am (ls.getD j 0)=false→∀W,Below w.heap.size w W→PremEnd w.heap.size am ls w (.returned (.tuple #[.slice none 0 0,.iface 60 (.int .i64 3)])) W):=fun h W hb=>prem_bad (prem_3 HIN.out (by rw[HN.out];exact hjt) h) (by decide) hb
     generalize ls.getD j 0=x at d0 HIJ HTK HNR HFR
     have hxr: -(an:Int)≤x∧x≤an∧x≠0:=by have:=of_decide_eq_true HIJ.out;rw[HAN.out]at this;omega
     obtain⟨hx1,hx2,hx3⟩:=hxr
     by_cases hneg:x<0
     ·obtain⟨k1,hsn,b2,off2,ta,tcap,rfl,hb2,c0,c1,hli⟩:=atom_lies HLA.out HOK.out HIJ.out ((-x).toNat - 1) (by omega)
      rw[←hbel.cell (p:=⟨b2,_,none⟩) hb2]at c0 c1
      rw[HAN.out]at k1
      have HN2:=Lib.hid (HNR.out (by unfold nearA;rw[decide_eq_true hneg];rfl))
      have HTK2:Hid ((ls.take (j+1)).map (oppA am)=(ls.take j).map (oppA am) ++ [((atA am x).1,(atA am x).2)]):=by
       show _=_;rw[HTK.out];unfold oppA;rw[if_pos hneg]
      have ht64:=(snd_iff.1 hsn).2.1
      obtain⟨ce,te⟩:∃z,z=atA am x:=⟨_,rfl⟩
      rw[←te]at c0 c1 hli HTK2 ht64
      obtain⟨c,t⟩:=ce
      simp only at c0 c1 hli ht64
      clear te hsn HIJ HTK HNR HFR
      have hz:=hbel.size
      have HCL:=Lib.hid (fun W (hb:Below w.heap.size w W)=>clone_any ta t.length tcap t W rfl (by omega) ((hli.below hb).mono hb.size))
      have hbp:Below wo.heap.size wo (wo.alloc (.cells #[.int .i64 c,.slice ta t.length tcap] 36)):=(Below.refl _ wo).alloc (Nat.le_refl _) _
      have BP:Hid (Below w.heap.size w (wo.alloc (.cells #[.int .i64 c,.slice ta t.length tcap] 36))):=hbel.trans (hbp.mono hz)
      have RP:Hid (Cut.LRow w.heap.size xs u8 (wo.alloc (.cells #[.int .i64 c,.slice ta t.length tcap] 36))):=hrow.out.below hbp
      have PZ:Hid ((wo.alloc (.cells #[.int .i64 c,.slice ta t.length tcap] 36)).heap[wo.heap.size]? =some (.cells #[.int .i64 c,.slice ta t.length tcap] 36 (0,0))):=heap_alloc_new wo _
      have hx4:0≤ -x - 1:=by omega
      have hx5: -x - 1<(an:Int):=by omega
      clear hbp hli
      go_wp2_with fail
      generalize hW1:wo.alloc (.cells #[.int .i64 c,.slice ta t.length tcap] 36)=w2 at BP RP PZ⊢
      have hzp:wo.heap.size<w2.heap.size:=by rw[←hW1];simp
      clear hW1
      have p0:w2.cell? ⟨wo.heap.size,0,none⟩=some (.int .i64 c):=by rw[cell_of_row _ _ _ _ _ _ PZ.out];rfl
      have p1:w2.cell? ⟨wo.heap.size,1,none⟩=some (.slice ta t.length tcap):=by rw[cell_of_row _ _ _ _ _ _ PZ.out];rfl
      generalize wo.heap.size=P at hzp p0 p1 hz⊢
      clear c0 c1 d0 PZ hbel hrow hb
      have HP2:=Lib.hid hzp
      clear hzp
      have QA:Hid (∀W,Below w2.heap.size w2 W→W.cell? ⟨P,0,none⟩=some (.int .i64 c)∧W.cell? ⟨P,1,none⟩=some (.slice ta t.length tcap)):=fun W hb=>⟨(hb.cell (p:=⟨P,0,none⟩) HP2.out).trans p0,(hb.cell (p:=⟨P,1,none⟩) HP2.out).trans p1⟩
      go_region_law (first
       | (refine step_append_lies _ (by rfl) _ _ _ (by rfl) w.heap.size 36 i0 _ 2 32 Tryz.underlying22 hi hz0 hz1 hz2 rfl (by omega) u8 xs.length (Cut.lcells xs) (by rfl) HRW.out
           ⟨w5.heap.size,0,none⟩ 1 1 [.int .i64 c,.slice a5 t.length cap5] (by rfl) (by rfl) NEWS.out (Cut.lin_one _ _ _ _) (by omega) (by unfold maxLen;omega) (by omega) HBZ.out (w5.heap.size+1) (by simp) ?_
          intro gg cap6 w6 hown6 hgrow6 hat6 hlt6)
       | (go_simp
          go_at_call 49
          refine(HCL.out _ BP.out.drew).mono ?_
          rintro e w5 ⟨v5,rfl,hrow5,hb5⟩
          obtain⟨a5,cap5,rfl,hl5⟩:=hrow5.liesC
          have HB5:Hid (Below w2.heap.size w2 w5):=(Below.refl _ w2).drew.trans hb5
          have r0:=(QA.out _ HB5.out).1
          have r1:=(QA.out _ HB5.out).2
          have HL5:=Lib.hid hl5
          have HRW:Hid ((w5.alloc (.cells #[.int .i64 c,.slice a5 t.length cap5] 36)).ownsRow w.heap.size 36 2 u8 xs.length (Cut.lcells xs)):=World.ownsRow.alloc (RP.out.below HB5.out).row _
          have NEWS:=Lib.hid (Cut.lin_new w5 c a5 t.length cap5 36 w5.heap.size rfl)
          have HBZ:Hid (w.heap.size≤(w5.alloc (.cells #[.int .i64 c,.slice a5 t.length cap5] 36)).heap.size):=Nat.le_trans (Nat.le_trans BP.out.size HB5.out.size) ((Below.refl w5.heap.size w5).alloc (Nat.le_refl _) _).size
          clear hrow5 hl5 hb5))
      all_goals
       have BA5:Below w5.heap.size w5 (w5.alloc (.cells #[.int .i64 c,.slice a5 t.length cap5] 36)):=(Below.refl _ w5).alloc (Nat.le_refl _) _
       have RN:Hid (Cut.LRow w.heap.size (xs ++ [⟨c,a5,cap5,t⟩]) (.slice (some ⟨gg,0,none⟩) (xs.length+1) cap6) w6):=
        Cut.LRow.step (x:=⟨c,a5,cap5,t⟩) (w5:=w5.alloc (.cells #[.int .i64 c,.slice a5 t.length cap5] 36)) (g:=gg) (H:=w5.heap.size+1) RP.out BP.out.size (HB5.out.trans (BA5.mono HB5.out.size)) (HL5.out.keep (fun b ⟨h1,h2⟩=>⟨h1,Nat.lt_of_lt_of_le h2 BA5.size⟩) (fun b o ⟨h1,h2⟩=>BA5.cell (p:=⟨b,o,none⟩) h2)) hgrow6 (by simp) rfl hat6 hown6
       have BN:Hid (Below w.heap.size w w6):=((BP.out.trans (HB5.out.mono BP.out.size)).trans (BA5.mono (Nat.le_trans BP.out.size HB5.out.size))).grown hgrow6 HBZ.out (fun g hg=>(World.ownsRow.lt RP.out.row g hg).1)
       have FN:Hid (Cut.lforms (xs ++ [⟨c,a5,cap5,t⟩])=(ls.take (j+1)).map (oppA am)):=by
        show _=_
        rw[Cut.lforms_append,hfs.out,HTK2.out];rfl
       rw[hxl]at RN
       clear BA5 hown6 hgrow6 hat6 hlt6 HRW NEWS HBZ HL5 HB5 p0 p1 QA r0 r1
       go_wp2_with fail
       go_roundw
       case rel=>exact⟨j+1,_,by omega,by go_num,RN,FN,HN2,BN⟩
       case measure=>simp[intOf];omega
     ·have hx4:0≤x - 1:=by omega
      have hx5:x - 1<(an:Int):=by omega
      obtain⟨k1,hsn,b2,off2,ta,tcap,rfl,hb2,c0,c1,hli⟩:=atom_lies HLA.out HOK.out HIJ.out (x.toNat - 1) (by omega)
      rw[←hbel.cell (p:=⟨b2,_,none⟩) hb2]at c0 c1
      rw[HAN.out]at k1
      have HTK2:Hid ((ls.take (j+1)).map (oppA am)=(ls.take j).map (oppA am) ++ [(1 - (atA am x).1,scale (-1) (atA am x).2)]):=by
       show _=_;rw[HTK.out];unfold oppA;rw[if_neg hneg]
      have HNA:Hid (nearA am x=wi (1 - (atA am x).1) 1073741824):=by
       show _=_;unfold nearA;rw[decide_eq_false hneg];rfl
      have ht64:=(snd_iff.1 hsn).2.1
      obtain⟨ce,te⟩:∃z,z=atA am x:=⟨_,rfl⟩
      rw[←te]at c0 c1 hli HTK2 ht64 HNA hsn
      obtain⟨c,t⟩:=ce
      simp only at c0 c1 hli ht64 hsn
      have HNA:Hid (nearA am x=wi (1 - c) 1073741824):=HNA
      have HTK2:Hid ((ls.take (j+1)).map (oppA am)=(ls.take j).map (oppA am) ++ [(1 - c,scale (-1) t)]):=HTK2
      clear te HIJ HTK
      have hz:=hbel.size
      have HLI:=Lib.hid ((hli.below hbel).mono hz)
      clear hli
      by_cases hf:wi (1 - c) 1073741824=true
      ·have HAD:=Lib.hid (one_add c ta t.length tcap t wo rfl HLI.out hsn hf)
       have HN2:=Lib.hid (HNR.out (by rw[HNA.out];exact hf))
       have hc1:=hsn
       clear HNR HFR HNA hf hsn hc1 HLI
       go_wp2_with fail
       refine HAD.out.mono ?_
       rintro e w7 ⟨v7,rfl,hr7,hb7⟩
       obtain⟨a7,cap7,rfl,hl7⟩:=hr7.liesC
       have HSL:Hid ((scale (-1) t).length≤64):=by show _≤_;rw[scale_len];exact ht64
       obtain⟨C,hC⟩:∃C,C=1 - c:=⟨_,rfl⟩
       rw[←hC]at HTK2⊢
       generalize scale (-1) t=E at HTK2 hl7 HSL⊢
       clear hC
       have B7:=Lib.hid hb7
       have HL7:=Lib.hid hl7
       have hbp:Below w7.heap.size w7 ((w7.alloc (.cells #[.int .i64 C,.slice a7 E.length cap7] 36)).alloc (.cells #[.int .i64 C,.slice a7 E.length cap7] 36)):=((Below.refl _ w7).alloc (Nat.le_refl _) _).alloc (by simp) _
       have W2:=Lib.hid hbp
       have BP:Hid (Below w.heap.size w w7):=hbel.trans (hb7.mono hz)
       have HRW:Hid (((w7.alloc (.cells #[.int .i64 C,.slice a7 E.length cap7] 36)).alloc (.cells #[.int .i64 C,.slice a7 E.length cap7] 36)).ownsRow w.heap.size 36 2 u8 xs.length (Cut.lcells xs)):=((hrow.out.below B7.out).below W2.out).row
       have NEWS:=Lib.hid (Cut.lin_new (w7.alloc (.cells #[.int .i64 C,.slice a7 E.length cap7] 36)) C a7 E.length cap7 36 (w7.heap.size+1) (by simp))
       have HBZ:Hid (w.heap.size≤((w7.alloc (.cells #[.int .i64 C,.slice a7 E.length cap7] 36)).alloc (.cells #[.int .i64 C,.slice a7 E.length cap7] 36)).heap.size):=Nat.le_trans BP.out.size W2.out.size
       clear hr7 hb7 hl7 HAD hbp c0 c1 d0 hbel hb
       go_wp2_with (at_builtin;refine wpList_append_lies _ rfl _ _ 22 rfl w.heap.size 36 i0 _ 2 32 Tryz.underlying22 hi hz0 hz1 hz2 rfl (by omega) u8 xs.length (Cut.lcells xs) rfl HRW.out ⟨w7.heap.size+1,0,none⟩ 1 1 [.int .i64 C,.slice a7 E.length cap7] rfl rfl NEWS.out (Cut.lin_one _ _ _ _) (by omega) (by unfold maxLen;omega) (by omega) HBZ.out (w7.heap.size+1+1) (by simp) ?_)
       intro gg cap6 w6 hown6 hgrow6 hat6 hlt6
       rw[←hxl]at hown6
       have RN:Hid (Cut.LRow w.heap.size (xs ++ [⟨C,a7,cap7,E⟩]) (.slice (some ⟨gg,0,none⟩) (xs.length+1) cap6) w6):=
        Cut.LRow.step (x:=⟨C,a7,cap7,E⟩) (w5:=(w7.alloc (.cells #[.int .i64 C,.slice a7 E.length cap7] 36)).alloc (.cells #[.int .i64 C,.slice a7 E.length cap7] 36)) (g:=gg) (H:=w7.heap.size+1+1) hrow.out hz (B7.out.trans (W2.out.mono B7.out.size)) (HL7.out.keep (fun b ⟨h1,h2⟩=>⟨h1,Nat.lt_of_lt_of_le h2 W2.out.size⟩) (fun b o ⟨h1,h2⟩=>W2.out.cell (p:=⟨b,o,none⟩) h2)) hgrow6 (by simp) rfl hat6 hown6
       have BN:Hid (Below w.heap.size w w6):=(BP.out.trans (W2.out.mono BP.out.size)).grown hgrow6 HBZ.out (fun g hg=>(World.ownsRow.lt hrow.out.row g hg).1)
       have FN:Hid (Cut.lforms (xs ++ [⟨C,a7,cap7,E⟩])=(ls.take (j+1)).map (oppA am)):=by
        show _=_
        rw[Cut.lforms_append,hfs.out,HTK2.out];rfl
       rw[hxl]at RN
       clear hown6 hgrow6 hat6 hlt6 HRW NEWS HBZ HL7 B7 W2
       go_wp2_with fail
       go_roundw
       case rel=>exact⟨j+1,_,by omega,by go_num,RN,FN,HN2,BN⟩
       case measure=>simp[intOf];omega
      ·rw[Bool.not_eq_true]at hf
       have HAD:=Lib.hid (one_far c ta t.length tcap t wo rfl HLI.out hsn hf)
       have HE:=Lib.hid (HFR.out (by rw[HNA.out];exact hf))
       have HBL:=Lib.hid hbel
       clear HNR HFR HNA hf hsn HLI
       go_wp2_with fail
       refine HAD.out.mono ?_
       rintro e w7 ⟨rfl,hb7⟩
       have B8:Hid (Below w.heap.size w (w7.alloc (.cells #[.int .i64 0,.slice none 0 0] 36))):=(HBL.out.trans (hb7.mono HBL.out.size)).alloc (HBL.out.trans (hb7.mono HBL.out.size)).size _
       clear hb7 HAD c0 c1 d0 hbel
       go_wp2_with fail
       go_ret2
       exact HE.out _ B8.out
    ·obtain rfl:j=k:=by omega
     have HE:Hid (PremEnd w.heap.size am ls w (.returned (.tuple #[u8,.nilIface])) wo):=by
      have h0:premK am ls=0:=prem_0 HIN.out (fun m hm=>hnr.out m (by rw[HN.out]at hm;exact hm))
      refine⟨_,xs,by rw[h0];rfl,hrow.out, ?_,hb.out⟩
      rw[hfs.out,List.take_of_length_le (by rw[HN.out];exact Nat.le_refl _)]
      unfold premL;rw[if_pos h0]
     go_wp2_with fail
     go_ret2
     exact HE.out
end
namespace Prp
open Go.RowKit
theorem litV_neg {vs:List Bool}{l:Int}(h:litV vs l=true):¬litV vs (-l)=true:=fun h2=>by
 cases lit_way vs l with
 | zero _ hr=>rw[h]at hr;cases hr
 | far _ _ hr=>rw[h]at hr;cases hr
 | nfar _ _ hr=>rw[h]at hr;cases hr
 | pos k b e1 e2 e3 hr=>
   rw[h]at hr
   subst hr
   cases lit_way vs (-l)with
   | zero _ hr=>rw[h2]at hr;cases hr
   | far _ _ hr=>rw[h2]at hr;cases hr
   | nfar _ _ hr=>rw[h2]at hr;cases hr
   | pos k2 b f1 f2 f3 hr=>omega
   | neg k2 b f1 f2 f3 hr=>
     obtain rfl:k=k2:=by omega
     rw[e3]at f3;rw[h2,←f3]at hr;cases hr
 | neg k b e1 e2 e3 hr=>
   rw[h]at hr
   cases lit_way vs (-l)with
   | zero _ hr=>rw[h2]at hr;cases hr
   | far _ _ hr=>rw[h2]at hr;cases hr
   | nfar _ _ hr=>rw[h2]at hr;cases hr
   | pos k2 b2 f1 f2 f3 hr2=>
     obtain rfl:k=k2:=by omega
     rw[e3]at f3;rw[h2,←f3]at hr2;rw[←hr2]at hr;cases hr
   | neg k2 b f1 f2 f3 hr=>omega
end Prp
namespace Prp
open Go.RowKit
theorem RupIs.zero {n:Int}{cs ss:List (List Int)}{x at':Int}(h:RupIs n cs ss x at')(hx:x=0):chkK n cs=0∧chkK n (cs ++ ss)=0∧(∀j,j<ss.length→OkAt cs ss j)∧[]∈cs ++ ss∧at'= -1:=by
 cases h with
 | one h=>exact absurd hx h
 | two _ h=>exact absurd hx h
 | step=>cases hx
 | opn=>cases hx
 | yes h1 h2 h3 h4=>exact⟨h1,h2,h3,h4,rfl⟩
theorem litV_other {vs:List Bool}{n:Nat}{x:Int}(hr:inR n x)(hn:n≤vs.length)(h:litV vs x=false):litV vs (-x)=true:=by
 unfold inR at hr
 unfold litV at h⊢
 by_cases hp:0<x
 ·rw[if_pos hp]at h
  rw[if_neg (by omega)]
  rw[decide_eq_true (show x≤(vs.length:Int) by omega),Bool.true_and]at h
  rw[decide_eq_true (show -x<0∧ -(vs.length:Int)≤ -x by omega),show(-(-x) - 1)=x - 1 by omega,h];rfl
 ·rw[if_neg hp]at h
  rw[if_pos (by omega)]
  rw[decide_eq_true (show x<0∧ -(vs.length:Int)≤x by omega),Bool.true_and]at h
  rw[decide_eq_true (show -x≤(vs.length:Int) by omega),Bool.true_and]
  simpa using h
theorem rup_none {n:Nat}{cs ss:List (List Int)}{x at':Int}(h:RupIs n cs ss x at')(hx:x=0){vs:List Bool}(hv:n≤vs.length):valB cs vs=false:=by
 obtain⟨_,h2,h3,h4,_⟩:=h.zero hx
 obtain⟨n1,e1,_,_,_,h5⟩:=chkK_zero h2
 obtain rfl:n=n1:=by omega
 cases hb:valB cs vs with
 | false=>rfl
 | true=>
   have hc:∀c,c∈cs→∃l,l∈c∧litV vs l=true:=fun c hc=>List.any_eq_true.1 (List.all_eq_true.1 hb c hc)
   have key:∀i,i≤ss.length→∀c,c∈(cs ++ ss).take (cs.length+i)→∃l,l∈c∧litV vs l=true:=by
    intro i
    induction i with
    | zero=>intro _ c hm;rw[Nat.add_zero,List.take_left]at hm;exact hc c hm
    | succ i ih=>
      intro hi c hm
      have e:(cs ++ ss).take (cs.length+(i+1))=(cs ++ ss).take (cs.length+i) ++ [ss.getD i []]:=by
       rw[←Nat.add_assoc,take_snocG _ _ (by rw[List.length_append];omega),getD_app (by omega)]
      rw[e]at hm
      rcases List.mem_append.1 hm with h | h
      ·exact ih (by omega) c h
      ·obtain rfl:c=ss.getD i []:=by simpa using h
       have hmem:ss.getD i []∈cs ++ ss:=List.mem_append_right _ (getD_memC (by omega))
       cases ha:anyV vs (ss.getD i [])with
       | true=>exact List.any_eq_true.1 ha
       | false=>
         refine absurd (h3 i (by omega)) (Conf.not (v:=fun l=>litV vs l=true) (fun l h=>litV_neg h) (ih (by omega)) (fun l hl=> ?_))
         obtain⟨y,hy,rfl⟩:=List.mem_map.1 hl
         refine litV_other (h5 _ hmem y hy) hv ?_
         have:=List.any_eq_false.1 ha y hy
         simpa using this
   obtain⟨l,hl,_⟩:=key ss.length (Nat.le_refl _) [] (by rw[←List.length_append,List.take_length];exact h4)
   cases hl
end Prp
end Go.Proofs.YtipahfcaplbifaaGreatDoor
