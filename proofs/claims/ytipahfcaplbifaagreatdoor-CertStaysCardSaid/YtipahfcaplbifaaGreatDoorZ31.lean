/- Parts of a proof. -/
import Derived.Test.YtipahfcaplbifaaGreatDoorZ03
import Derived.Test.YtipahfcaplbifaaGreatDoorZ07
import Derived.Test.YtipahfcaplbifaaGreatDoorZ09
import Derived.Test.YtipahfcaplbifaaGreatDoorZ10
import Derived.Test.YtipahfcaplbifaaGreatDoorZ12
import Derived.Test.YtipahfcaplbifaaGreatDoorZ15
import Derived.Test.YtipahfcaplbifaaGreatDoorZ19
import Derived.Test.YtipahfcaplbifaaGreatDoorZ23
import Derived.Test.YtipahfcaplbifaaGreatDoorZ24
import Derived.Test.YtipahfcaplbifaaGreatDoorZ27
import Derived.Test.YtipahfcaplbifaaGreatDoorZ29
import Derived.Lib.QuietBelow
import Derived.BigQuiet
import Derived.Test.YtipahfcaplbifaaGreatDoorRows
import Derived.ChangeSame
import Derived.ChangeVars
import Derived.JoinedOf
import Derived.RowKit
import Derived.RowKitTokens
import Derived.LaidLaws
import Derived.LaidHandle
import Derived.Stop.Joined
import Derived.Lib.LaidTab
import Derived.Lib.AppendIntMem
set_option linter.unusedVariables false
set_option linter.unusedSimpArgs false
set_option maxHeartbeats 60000000
set_option maxRecDepth 100000
namespace Go.Proofs.YtipahfcaplbifaaGreatDoor
namespace Cut
open Go.RowKit Go.Maps
theorem partsK_in (n:Int)(ps:List (Int×Int)):∀k,0≤partsK n ps k∧partsK n ps k≤16
 | 0=>by constructor<;>simp[partsK]
 | k+1=>by
   have:=partsK_in n ps k
   unfold partsK
   split
   ·unfold partK;split
    ·omega
    ·split<;>omega
   ·exact this
theorem stepK_in (n:Int)(ps:List (Int×Int))(div:Int):0≤stepK n ps div∧stepK n ps div≤16:=by
 have:=partsK_in n ps ps.length
 unfold stepK
 split
 ·omega
 ·split
  ·split<;>omega
  ·exact this
theorem divK_in2 (C:Int)(E:List (Int×Int)):0≤divK C E∧divK C E≤16:=by unfold divK;repeat (first | split | omega)
theorem tellK_in (n c div:Int)(ps R:List (Int×Int)):0≤tellK n c div ps R∧tellK n c div ps R≤16:=by
 have h1:=stepK_in n ps div
 have h2:=divK_in2 (upI c div) (divT div R)
 unfold tellK
 split
 ·exact h1
 ·split
  ·omega
  ·split
   ·omega
   ·exact h2
theorem LinesIs.code {ls ss at' L}{x:Int}(h:LinesIs ls ss x at' L):(0≤x∧x≤16)∧(0≤at'→x≠0):=by
 cases h with
 | long _=>exact⟨by omega,fun _=>by omega⟩
 | prem _=>exact⟨by omega,fun _=>by omega⟩
 | step _ _ _ _ _ _ g=>exact⟨tellK_in _ _ _ _ _,fun _=>g⟩
 | ok _ _ _ _=>exact⟨by omega,fun h=>by omega⟩
theorem refX_code {ls ss at' L}{x:Int}(h:LinesIs ls ss x at' L):(0≤refX x L∧refX x L≤16)∧(0≤at'→refX x L≠0):=by
 have hc:=h.code
 by_cases hx:x=0
 ·have ha:=(h.zero hx).1
  refine⟨?_,fun h=>by omega⟩
  unfold refX;rw[if_pos hx];split<;>omega
 ·have e:refX x L=x:=if_neg hx
  rw[e];exact hc
end Cut
section
open Go.RowKit
def atA (am:List (Int×List (Int×Int)))(x:Int):Int×List (Int×Int):=am.getD (x.natAbs - 1) (0,[])
def oppA (am:List (Int×List (Int×Int)))(x:Int):Int×List (Int×Int):=if x<0 then atA am x else(1 - (atA am x).1,scale (-1) (atA am x).2)
def inA (m:Nat)(x:Int):Bool:=decide (x≠0∧ -(m:Int)≤x∧x≤m)
def nearA (am:List (Int×List (Int×Int)))(x:Int):Bool:=decide (x<0) || wi (1 - (atA am x).1) 1073741824
def premK (am:List (Int×List (Int×Int)))(ls:List Int):Int:=if ls.all (inA am.length)=true then(if ls.all (nearA am)=true then 0 else 3) else 5
def premL (am:List (Int×List (Int×Int)))(ls:List Int):List (Int×List (Int×Int)):=if premK am ls=0 then ls.map (oppA am) else[]
theorem premK_zero {am:List (Int×List (Int×Int))}{ls:List Int}(h:premK am ls=0):(∀x∈ls,inA am.length x=true)∧(∀x∈ls,nearA am x=true)∧premL am ls=ls.map (oppA am):=by
 refine⟨?_, ?_,by unfold premL;rw[if_pos h]⟩
 all_goals
  unfold premK at h
  split at h
  ·rename_i h1
   split at h
   ·rename_i h2
    first | exact List.all_eq_true.1 h1 | exact List.all_eq_true.1 h2
   ·cases h
  ·cases h
def LemIs (am:List (Int×List (Int×Int)))(lm:List Int×List (List (Int×Int)×Int))(k:Int):Prop:=
 (premK am lm.1≠0∧k=premK am lm.1)∨(premK am lm.1=0∧∃x at' L,Cut.LinesIs (premL am lm.1) lm.2 x at' L∧k=Cut.refX x L)
theorem lem_is (am:List (Int×List (Int×Int)))(lm:List Int×List (List (Int×Int)×Int)):∃k,LemIs am lm k:=by
 by_cases h:premK am lm.1=0
 ·obtain⟨x,at',L,hL⟩:=Cut.lines_is (premL am lm.1) lm.2
  exact⟨_,.inr ⟨h,x,at',L,hL,rfl⟩⟩
 ·exact⟨_,.inl ⟨h,rfl⟩⟩
theorem lems_is (am:List (Int×List (Int×Int)))(lms:List (List Int×List (List (Int×Int)×Int))):∃ks:Nat→Int,∀j,j<lms.length→LemIs am (lms.getD j ([],[])) (ks j):=
 ⟨fun j=>Classical.choose (lem_is am (lms.getD j ([],[]))),fun j _=>Classical.choose_spec (lem_is am (lms.getD j ([],[])))⟩
inductive CertIs (nk mk:Int) (ks:Nat→Int) (nl:Nat) (N:Int) (cs ss:List (List Int)):Int→Int→Prop
 | norm:nk≠0→CertIs nk mk ks nl N cs ss nk (-1)
 | cnf:nk=0→mk≠0→CertIs nk mk ks nl N cs ss mk (-1)
 | lem (j:Nat):nk=0→mk=0→j<nl→(∀i,i<j→ks i=0)→ks j≠0→CertIs nk mk ks nl N cs ss (ks j) j
 | rup (x at':Int):nk=0→mk=0→(∀i,i<nl→ks i=0)→Prp.RupIs N cs ss x at'→CertIs nk mk ks nl N cs ss x at'
theorem CertIs.unique {nk mk:Int}{ks:Nat→Int}{nl:Nat}{N:Int}{cs ss:List (List Int)}{x at' x2 at2:Int}(h:CertIs nk mk ks nl N cs ss x at')(h2:CertIs nk mk ks nl N cs ss x2 at2):x=x2∧at'=at2:=by
 cases h with
 | norm h=>
   cases h2 with
   | norm=>exact⟨rfl,rfl⟩
   | cnf g=>exact absurd g h
   | lem j g=>exact absurd g h
   | rup _ _ g=>exact absurd g h
 | cnf h h'=>
   cases h2 with
   | norm g=>exact absurd h g
   | cnf=>exact⟨rfl,rfl⟩
   | lem j _ g=>exact absurd g h'
   | rup _ _ _ g=>exact absurd g h'
 | lem j h h' hj ha hn=>
   cases h2 with
   | norm g=>exact absurd h g
   | cnf _ g=>exact absurd h' g
   | lem i _ _ hi ga gn=>
     rcases Nat.lt_trichotomy i j with hlt | rfl | hlt
     ·exact absurd (ha i hlt) gn
     ·exact⟨rfl,rfl⟩
     ·exact absurd (ga j hlt) hn
   | rup _ _ _ _ g=>exact absurd (g j hj) hn
 | rup _ _ h h' ha hr=>
   cases h2 with
   | norm g=>exact absurd h g
   | cnf _ g=>exact absurd h' g
   | lem i _ _ hi ga gn=>exact absurd (ha i hi) gn
   | rup _ _ _ _ _ g=>exact hr.unique g
end
section
open Go.RowKit
theorem neg_sumO {c:Int}{l:List (Int×Int)}(hs:snd c l=true):IsSum (scale 1 [] ++ scale (-1) l) (scale (-1) l):=neg_sum hs
theorem one_terms {c:Int}{l:List (Int×Int)}(hs:snd c l=true):Bd 4398046511104 (scale 1 [] ++ scale (-1) l)∧∀m∈scale 1 [] ++ scale (-1) l,0≤m.1∧m.1<1048576:=
 both_terms (ca:=1) (x:=1) (y:= -1) (la:=[]) (by decide) hs (by omega) (by omega)
theorem one_add (c:Int)(a:Option Addr)(n cap:Nat)(l:List (Int×Int))(w:World)(hn:l.length=n)(hl:Lies w.heap.size w a l)(hs:snd c l=true)(hf:wi (1 - c) 1073741824=true):
 Calls Tryz.prog 50 #[.agg #[.int .i64 1,.slice none 0 0],.agg #[.int .i64 c,.slice a n cap],.int .i64 1,.int .i64 (-1)] w (LinOk w.heap.size (1 - c) (scale (-1) l) w):=by
 have h64:=(snd_iff.1 hs).2.1
 obtain⟨hs1,hs2⟩:=one_terms hs
 have e:(1:Int)*1+ -1*c=1 - c:=by omega
 have:=add_ok 1 c 1 (-1) none a 0 n 0 cap [] l (scale (-1) l) w rfl hn (fun i hi=>absurd hi (Nat.not_lt_zero i)) hl (by decide) hs (by omega) (by omega)
  (fun a n cap W B hn hrow hB hm=>gather_ok _ a n cap B _ (scale (-1) l) W hn hrow hB hm hs1 hs2 (neg_sumO hs) (by rw[e];exact hf) (neg_wi hs) (by rw[scale_len];omega))
 rw[e]at this
 exact this
theorem one_far (c:Int)(a:Option Addr)(n cap:Nat)(l:List (Int×Int))(w:World)(hn:l.length=n)(hl:Lies w.heap.size w a l)(hs:snd c l=true)(hf:wi (1 - c) 1073741824=false):
 Calls Tryz.prog 50 #[.agg #[.int .i64 1,.slice none 0 0],.agg #[.int .i64 c,.slice a n cap],.int .i64 1,.int .i64 (-1)] w (LinErr w.heap.size 3 w):=by
 obtain⟨hs1,hs2⟩:=one_terms hs
 have e:(1:Int)*1+ -1*c=1 - c:=by omega
 exact add_err 3 1 c 1 (-1) none a 0 n 0 cap [] l w rfl hn (fun i hi=>absurd hi (Nat.not_lt_zero i)) hl (by decide) hs (by omega) (by omega)
  (fun a n cap W B hn hrow hB hm=>gather_far1 _ a n cap B _ (scale (-1) l) W hn hrow hB hm hs1 hs2 (neg_sumO hs) (by rw[e];exact hf))
def PremEnd (B:Nat)(am:List (Int×List (Int×Int)))(ls:List Int)(w:World)(e:Ending)(w':World):Prop:=
 ∃v xs,e= .returned (.tuple #[v,codeV (premK am ls)])∧Cut.LRow B xs v w'∧Cut.lforms xs=premL am ls∧Below B w w'
theorem getD_in {ls:List Int}{j:Nat}(h:j<ls.length):ls.getD j 0∈ls:=by
 rw[List.getD_eq_getElem?_getD,List.getElem?_eq_getElem h];exact List.getElem_mem h
theorem all_of {ls:List Int}{p:Int→Bool}(h:∀j,j<ls.length→p (ls.getD j 0)=true):ls.all p=true:=by
 refine List.all_eq_true.2 fun x hx=> ?_
 obtain⟨i,hi,rfl⟩:=List.getElem_of_mem hx
 have:=h i hi
 rwa [List.getD_eq_getElem?_getD,List.getElem?_eq_getElem hi]at this
theorem not_all {ls:List Int}{p:Int→Bool}{j:Nat}(hj:j<ls.length)(h:p (ls.getD j 0)=false):¬ls.all p=true:=fun ha=>by
 rw[List.all_eq_true.1 ha _ (getD_in hj)]at h;cases h
theorem prem_5 {am:List (Int×List (Int×Int))}{ls:List Int}{j:Nat}(hj:j<ls.length)(h:inA am.length (ls.getD j 0)=false):premK am ls=5:=by
 unfold premK;rw[if_neg (not_all hj h)]
theorem prem_3 {am:List (Int×List (Int×Int))}{ls:List Int}{j:Nat}(ha:∀j,j<ls.length→inA am.length (ls.getD j 0)=true)(hj:j<ls.length)(h:nearA am (ls.getD j 0)=false):premK am ls=3:=by
 unfold premK;rw[if_pos (all_of ha),if_neg (not_all hj h)]
theorem prem_0 {am:List (Int×List (Int×Int))}{ls:List Int}(ha:∀j,j<ls.length→inA am.length (ls.getD j 0)=true)(hb:∀j,j<ls.length→nearA am (ls.getD j 0)=true):premK am ls=0:=by
 unfold premK;rw[if_pos (all_of ha),if_pos (all_of hb)]
theorem prem_bad {B:Nat}{am:List (Int×List (Int×Int))}{ls:List Int}{w W:World}{k:Int}(hk:premK am ls=k)(h0:k≠0)(hb:Below B w W):PremEnd B am ls w (.returned (.tuple #[.slice none 0 0,.iface 60 (.int .i64 k)])) W:=
 ⟨_,[],by rw[hk];unfold codeV;rw[if_neg h0],Cut.LRow.nil _ _,by unfold premL;rw[if_neg (by rw[hk];exact h0)];rfl,hb⟩
theorem take_map (am:List (Int×List (Int×Int)))(ls:List Int)(k:Nat)(h:k<ls.length):(ls.take (k+1)).map (oppA am)=(ls.take k).map (oppA am) ++ [oppA am (ls.getD k 0)]:=by
 rw[List.take_succ_eq_append_getElem h,List.map_append]
 simp[List.getD_eq_getElem?_getD,h]
theorem atom_lies {B:Nat}{w:World}{a:Option Addr}{am:List (Int×List (Int×Int))}(h:Cut.LLies B w a am)(hok:Cut.lsOk am){x:Int}(hx:inA am.length x=true)(k:Nat)(hk:k=x.natAbs - 1):
 k<am.length∧snd (atA am x).1 (atA am x).2=true∧∃b off ta tcap,a=some ⟨b,off,none⟩∧b<B∧w.cell? ⟨b,off+k*2,none⟩=some (.int .i64 (atA am x).1)∧w.cell? ⟨b,off+k*2+1,none⟩=some (.slice ta (atA am x).2.length tcap)∧Lies B w ta (atA am x).2:=by
 have hx':=of_decide_eq_true hx
 subst hk
 have hlt:x.natAbs - 1<am.length:=by omega
 exact⟨hlt,hok _ hlt,h _ hlt⟩
theorem prem_any (aa:Option Addr)(an acap:Nat)(am:List (Int×List (Int×Int)))(la:Option Addr)(n lcap:Nat)(ls:List Int)(w:World)(han:am.length=an)(ham:an≤1000000)(hla:Cut.LLies w.heap.size w aa am)(hok:Cut.lsOk am)(hln:ls.length=n)(hlm:n≤1000000)(hll:Nums w.heap.size w la ls):
 Calls Tryz.prog 23 #[.slice aa an acap,.slice la n lcap] w (PremEnd w.heap.size am ls w):=by
 obtain⟨i0,hi,hz0,hz1,hz2⟩:=info_parts Cut.Tryz.infoLin
 have n1:=fun t v W=>Cut.Tryz.neIface t v W
 have HLA:=Lib.hid hla
 have HOK:=Lib.hid hok
 have HLL:=Lib.hid hll
 have HAN:=Lib.hid han
 have HN:=Lib.hid hln
 clear hla hok hll han hln
 go_enter Tryz.func23,Tryz.ntmps23
 go_wp2_with fail
 go_loop [16] (fun i=>∃k:Nat,k≤n∧i= .int .i64 k∧Hid (∀j,j<k→inA am.length (ls.getD j 0)=true)) (fun i=>n - (intOf i).toNat)
 case atStart=>exact⟨0,Nat.zero_le _,rfl,fun j hj=>absurd hj (Nat.not_lt_zero _)⟩
 case round=>
  obtain⟨k,hk,rfl,hin⟩:=hrel
  by_cases hlt:k<n
  ·obtain⟨b,off,rfl,hb,c0⟩:=HLL.out k (by rw[HN.out];exact hlt)
   have H5:Hid (inA am.length (ls.getD k 0)=false→PremEnd w.heap.size am ls w (.returned (.tuple #[.slice none 0 0,.iface 60 (.int .i64 5)])) w):=fun h=>prem_bad (prem_5 (by rw[HN.out];exact hlt) h) (by decide) (Below.refl _ _)
   have HI:Hid (inA am.length (ls.getD k 0)=true→∀j,j<k+1→inA am.length (ls.getD j 0)=true):=fun h j hj=>by
    by_cases e:j=k
    ·subst e;exact h
    ·exact hin.out j (by omega)
   have HX:Hid (inA am.length (ls.getD k 0)=decide (ls.getD k 0≠0∧ -(an:Int)≤ls.getD k 0∧ls.getD k 0≤an)):=by
    show _=_;unfold inA;rw[HAN.out]
   generalize ls.getD k 0=x at c0 H5 HI HX
   by_cases x0:x=0
   ·have HE:=Lib.hid (H5.out (by rw[HX.out];exact decide_eq_false (by omega)))
    subst x0
    clear H5 HI HX
    go_wp2_with fail
    go_ret2
    exact HE.out
   ·by_cases x1:x > (an:Int)
    ·have HE:=Lib.hid (H5.out (by rw[HX.out];exact decide_eq_false (by omega)))
     have x0':(x == 0)=false:=by simpa using x0
     clear H5 HI HX
     go_wp2_with fail
     go_ret2
     exact HE.out
    ·by_cases x2:x< -(an:Int)
     ·have HE:=Lib.hid (H5.out (by rw[HX.out];exact decide_eq_false (by omega)))
      have x0':(x == 0)=false:=by simpa using x0
      clear H5 HI HX
      go_wp2_with fail
      go_ret2
      exact HE.out
     ·have HI2:=Lib.hid (HI.out (by rw[HX.out];exact decide_eq_true (by omega)))
      have x0':(x == 0)=false:=by simpa using x0
      clear H5 HI HX
      go_wp2_with fail
      go_round
      case rel=>exact⟨k+1,by omega,by go_num,HI2⟩
      case measure=>simp[intOf];omega
  ·obtain rfl:k=n:=by omega
   have HIN:Hid (∀j,j<ls.length→inA am.length (ls.getD j 0)=true):=fun j hj=>hin.out j (by rw[HN.out]at hj;exact hj)
   clear hin
   go_wp2_with fail
   go_loopw [8,39] (fun v i wr=>∃(j:Nat) (xs:List Cut.LT),j≤k∧i= .int .i64 j∧Hid (Cut.LRow w.heap.size xs v wr)∧Hid (Cut.lforms xs=(ls.take j).map (oppA am))∧Hid (∀m,m<j→nearA am (ls.getD m 0)=true)∧Hid (Below w.heap.size w wr)) (fun _ i _=>k - (intOf i).toNat)
   case atStart=>exact⟨0,[],Nat.zero_le _,rfl,Cut.LRow.nil _ _,rfl,fun j hj=>absurd hj (Nat.not_lt_zero _),Below.refl _ _⟩
   case round=>
    obtain⟨j,xs,hj,rfl,hrow,hfs,hnr,hb⟩:=hrel
    obtain⟨wo,rfl⟩:∃wo:World,wo=wr:=⟨_,rfl⟩
    have hxl:xs.length=j:=by rw[←Cut.lforms_len,hfs.out,List.length_map,List.length_take,HN.out];omega
    by_cases hjt:j<k
    ·obtain⟨b,off,rfl,hbl,d0⟩:=HLL.out j (by rw[HN.out];exact hjt)
     have hbel:=hb.out
     rw[←hbel.cell (p:=⟨b,_,none⟩) hbl]at d0
     have HIJ:=Lib.hid (HIN.out j (by rw[HN.out];exact hjt))
     have HTK:=Lib.hid (take_map am ls j (by rw[HN.out];exact hjt))
     have HNR:Hid (nearA am (ls.getD j 0)=true→∀m,m<j+1→nearA am (ls.getD m 0)=true):=fun h m hm=>by
      by_cases e:m=j
      ·subst e;exact h
      ·exact hnr.out m (by omega)
     have HFR:Hid (nearA am (ls.getD j 0)=false→∀W,Below w.heap.size w W→PremEnd w.heap.size am ls w (.returned (.tuple #[.slice none 0 0,.iface 60 (.int .i64 3)])) W):=fun h W hb=>prem_bad (prem_3 HIN.out (by rw[HN.out];exact hjt) h) (by decide) hb
     generalize ls.getD j 0=x at d0 HIJ HTK HNR HFR
     have hxr: -(an:Int)≤x∧x≤an∧x≠0:=by have:=of_decide_eq_true HIJ.out;rw[HAN.out]at this;omega
     obtain⟨hx1,hx2,hx3⟩:=hxr
     by_cases hneg:x<0
     ·obtain⟨k1,hsn,b2,off2,ta,tcap,rfl,hb2,c0,c1,hli⟩:=atom_lies HLA.out HOK.out HIJ.out ((-x).toNat - 1) (by omega)
      rw[←hbel.cell (p:=⟨b2,_,none⟩) hb2]at c0 c1
      rw[HAN.out]at k1
      have HN2:=Lib.hid (HNR.out (by unfold nearA;rw[decide_eq_true hneg];rfl))
      have HTK2:Hid ((ls.take (j+1)).map (oppA am)=(ls.take j).map (oppA am) ++ [((atA am x).1,(atA am x).2)]):=by
       show _=_;rw[HTK.out];unfold oppA;rw[if_pos hneg]
      have ht64:=(snd_iff.1 hsn).2.1
      obtain⟨ce,te⟩:∃z,z=atA am x:=⟨_,rfl⟩
      rw[←te]at c0 c1 hli HTK2 ht64
      obtain⟨c,t⟩:=ce
      simp only at c0 c1 hli ht64
      clear te hsn HIJ HTK HNR HFR
      have hz:=hbel.size
      have HCL:=Lib.hid (fun W (hb:Below w.heap.size w W)=>clone_any ta t.length tcap t W rfl (by omega) ((hli.below hb).mono hb.size))
      have hbp:Below wo.heap.size wo (wo.alloc (.cells #[.int .i64 c,.slice ta t.length tcap] 36)):=(Below.refl _ wo).alloc (Nat.le_refl _) _
      have BP:Hid (Below w.heap.size w (wo.alloc (.cells #[.int .i64 c,.slice ta t.length tcap] 36))):=hbel.trans (hbp.mono hz)
      have RP:Hid (Cut.LRow w.heap.size xs u8 (wo.alloc (.cells #[.int .i64 c,.slice ta t.length tcap] 36))):=hrow.out.below hbp
      have PZ:Hid ((wo.alloc (.cells #[.int .i64 c,.slice ta t.length tcap] 36)).heap[wo.heap.size]? =some (.cells #[.int .i64 c,.slice ta t.length tcap] 36 (0,0))):=heap_alloc_new wo _
      have hx4:0≤ -x - 1:=by omega
      have hx5: -x - 1<(an:Int):=by omega
      clear hbp hli
      go_wp2_with fail
      generalize hW1:wo.alloc (.cells #[.int .i64 c,.slice ta t.length tcap] 36)=w2 at BP RP PZ⊢
      have hzp:wo.heap.size<w2.heap.size:=by rw[←hW1];simp
      clear hW1
      have p0:w2.cell? ⟨wo.heap.size,0,none⟩=some (.int .i64 c):=by rw[cell_of_row _ _ _ _ _ _ PZ.out];rfl
      have p1:w2.cell? ⟨wo.heap.size,1,none⟩=some (.slice ta t.length tcap):=by rw[cell_of_row _ _ _ _ _ _ PZ.out];rfl
      generalize wo.heap.size=P at hzp p0 p1 hz⊢
      clear c0 c1 d0 PZ hbel hrow hb
      have HP2:=Lib.hid hzp
      clear hzp
      have QA:Hid (∀W,Below w2.heap.size w2 W→W.cell? ⟨P,0,none⟩=some (.int .i64 c)∧W.cell? ⟨P,1,none⟩=some (.slice ta t.length tcap)):=fun W hb=>⟨(hb.cell (p:=⟨P,0,none⟩) HP2.out).trans p0,(hb.cell (p:=⟨P,1,none⟩) HP2.out).trans p1⟩
      go_region_law (first
       | (refine step_append_lies _ (by rfl) _ _ _ (by rfl) w.heap.size 36 i0 _ 2 32 Tryz.underlying22 hi hz0 hz1 hz2 rfl (by omega) u8 xs.length (Cut.lcells xs) (by rfl) HRW.out
           ⟨w5.heap.size,0,none⟩ 1 1 [.int .i64 c,.slice a5 t.length cap5] (by rfl) (by rfl) NEWS.out (Cut.lin_one _ _ _ _) (by omega) (by unfold maxLen;omega) (by omega) HBZ.out (w5.heap.size+1) (by simp) ?_
          intro gg cap6 w6 hown6 hgrow6 hat6 hlt6)
       | (go_simp
          go_at_call 49
          refine(HCL.out _ BP.out.drew).mono ?_
          rintro e w5 ⟨v5,rfl,hrow5,hb5⟩
          obtain⟨a5,cap5,rfl,hl5⟩:=hrow5.liesC
          have HB5:Hid (Below w2.heap.size w2 w5):=(Below.refl _ w2).drew.trans hb5
          have r0:=(QA.out _ HB5.out).1
          have r1:=(QA.out _ HB5.out).2
          have HL5:=Lib.hid hl5
          have HRW:Hid ((w5.alloc (.cells #[.int .i64 c,.slice a5 t.length cap5] 36)).ownsRow w.heap.size 36 2 u8 xs.length (Cut.lcells xs)):=World.ownsRow.alloc (RP.out.below HB5.out).row _
          have NEWS:=Lib.hid (Cut.lin_new w5 c a5 t.length cap5 36 w5.heap.size rfl)
          have HBZ:Hid (w.heap.size≤(w5.alloc (.cells #[.int .i64 c,.slice a5 t.length cap5] 36)).heap.size):=Nat.le_trans (Nat.le_trans BP.out.size HB5.out.size) ((Below.refl w5.heap.size w5).alloc (Nat.le_refl _) _).size
          clear hrow5 hl5 hb5))
      all_goals
       have BA5:Below w5.heap.size w5 (w5.alloc (.cells #[.int .i64 c,.slice a5 t.length cap5] 36)):=(Below.refl _ w5).alloc (Nat.le_refl _) _
       have RN:Hid (Cut.LRow w.heap.size (xs ++ [⟨c,a5,cap5,t⟩]) (.slice (some ⟨gg,0,none⟩) (xs.length+1) cap6) w6):=
        Cut.LRow.step (x:=⟨c,a5,cap5,t⟩) (w5:=w5.alloc (.cells #[.int .i64 c,.slice a5 t.length cap5] 36)) (g:=gg) (H:=w5.heap.size+1) RP.out BP.out.size (HB5.out.trans (BA5.mono HB5.out.size)) (HL5.out.keep (fun b ⟨h1,h2⟩=>⟨h1,Nat.lt_of_lt_of_le h2 BA5.size⟩) (fun b o ⟨h1,h2⟩=>BA5.cell (p:=⟨b,o,none⟩) h2)) hgrow6 (by simp) rfl hat6 hown6
       have BN:Hid (Below w.heap.size w w6):=((BP.out.trans (HB5.out.mono BP.out.size)).trans (BA5.mono (Nat.le_trans BP.out.size HB5.out.size))).grown hgrow6 HBZ.out (fun g hg=>(World.ownsRow.lt RP.out.row g hg).1)
       have FN:Hid (Cut.lforms (xs ++ [⟨c,a5,cap5,t⟩])=(ls.take (j+1)).map (oppA am)):=by
        show _=_
        rw[Cut.lforms_append,hfs.out,HTK2.out];rfl
       rw[hxl]at RN
       clear BA5 hown6 hgrow6 hat6 hlt6 HRW NEWS HBZ HL5 HB5 p0 p1 QA r0 r1
       go_wp2_with fail
       go_roundw
       case rel=>exact⟨j+1,_,by omega,by go_num,RN,FN,HN2,BN⟩
       case measure=>simp[intOf];omega
     ·have hx4:0≤x - 1:=by omega
      have hx5:x - 1<(an:Int):=by omega
      obtain⟨k1,hsn,b2,off2,ta,tcap,rfl,hb2,c0,c1,hli⟩:=atom_lies HLA.out HOK.out HIJ.out (x.toNat - 1) (by omega)
      rw[←hbel.cell (p:=⟨b2,_,none⟩) hb2]at c0 c1
      rw[HAN.out]at k1
      have HTK2:Hid ((ls.take (j+1)).map (oppA am)=(ls.take j).map (oppA am) ++ [(1 - (atA am x).1,scale (-1) (atA am x).2)]):=by
       show _=_;rw[HTK.out];unfold oppA;rw[if_neg hneg]
      have HNA:Hid (nearA am x=wi (1 - (atA am x).1) 1073741824):=by
       show _=_;unfold nearA;rw[decide_eq_false hneg];rfl
      have ht64:=(snd_iff.1 hsn).2.1
      obtain⟨ce,te⟩:∃z,z=atA am x:=⟨_,rfl⟩
      rw[←te]at c0 c1 hli HTK2 ht64 HNA hsn
      obtain⟨c,t⟩:=ce
      simp only at c0 c1 hli ht64 hsn
      have HNA:Hid (nearA am x=wi (1 - c) 1073741824):=HNA
      have HTK2:Hid ((ls.take (j+1)).map (oppA am)=(ls.take j).map (oppA am) ++ [(1 - c,scale (-1) t)]):=HTK2
      clear te HIJ HTK
      have hz:=hbel.size
      have HLI:=Lib.hid ((hli.below hbel).mono hz)
      clear hli
      by_cases hf:wi (1 - c) 1073741824=true
      ·have HAD:=Lib.hid (one_add c ta t.length tcap t wo rfl HLI.out hsn hf)
       have HN2:=Lib.hid (HNR.out (by rw[HNA.out];exact hf))
       have hc1:=hsn
       clear HNR HFR HNA hf hsn hc1 HLI
       go_wp2_with fail
       refine HAD.out.mono ?_
       rintro e w7 ⟨v7,rfl,hr7,hb7⟩
       obtain⟨a7,cap7,rfl,hl7⟩:=hr7.liesC
       have HSL:Hid ((scale (-1) t).length≤64):=by show _≤_;rw[scale_len];exact ht64
       obtain⟨C,hC⟩:∃C,C=1 - c:=⟨_,rfl⟩
       rw[←hC]at HTK2⊢
       generalize scale (-1) t=E at HTK2 hl7 HSL⊢
       clear hC
       have B7:=Lib.hid hb7
       have HL7:=Lib.hid hl7
       have hbp:Below w7.heap.size w7 ((w7.alloc (.cells #[.int .i64 C,.slice a7 E.length cap7] 36)).alloc (.cells #[.int .i64 C,.slice a7 E.length cap7] 36)):=((Below.refl _ w7).alloc (Nat.le_refl _) _).alloc (by simp) _
       have W2:=Lib.hid hbp
       have BP:Hid (Below w.heap.size w w7):=hbel.trans (hb7.mono hz)
       have HRW:Hid (((w7.alloc (.cells #[.int .i64 C,.slice a7 E.length cap7] 36)).alloc (.cells #[.int .i64 C,.slice a7 E.length cap7] 36)).ownsRow w.heap.size 36 2 u8 xs.length (Cut.lcells xs)):=((hrow.out.below B7.out).below W2.out).row
       have NEWS:=Lib.hid (Cut.lin_new (w7.alloc (.cells #[.int .i64 C,.slice a7 E.length cap7] 36)) C a7 E.length cap7 36 (w7.heap.size+1) (by simp))
       have HBZ:Hid (w.heap.size≤((w7.alloc (.cells #[.int .i64 C,.slice a7 E.length cap7] 36)).alloc (.cells #[.int .i64 C,.slice a7 E.length cap7] 36)).heap.size):=Nat.le_trans BP.out.size W2.out.size
       clear hr7 hb7 hl7 HAD hbp c0 c1 d0 hbel hb
       go_wp2_with (at_builtin;refine wpList_append_lies _ rfl _ _ 22 rfl w.heap.size 36 i0 _ 2 32 Tryz.underlying22 hi hz0 hz1 hz2 rfl (by omega) u8 xs.length (Cut.lcells xs) rfl HRW.out ⟨w7.heap.size+1,0,none⟩ 1 1 [.int .i64 C,.slice a7 E.length cap7] rfl rfl NEWS.out (Cut.lin_one _ _ _ _) (by omega) (by unfold maxLen;omega) (by omega) HBZ.out (w7.heap.size+1+1) (by simp) ?_)
       intro gg cap6 w6 hown6 hgrow6 hat6 hlt6
       rw[←hxl]at hown6
       have RN:Hid (Cut.LRow w.heap.size (xs ++ [⟨C,a7,cap7,E⟩]) (.slice (some ⟨gg,0,none⟩) (xs.length+1) cap6) w6):=
        Cut.LRow.step (x:=⟨C,a7,cap7,E⟩) (w5:=(w7.alloc (.cells #[.int .i64 C,.slice a7 E.length cap7] 36)).alloc (.cells #[.int .i64 C,.slice a7 E.length cap7] 36)) (g:=gg) (H:=w7.heap.size+1+1) hrow.out hz (B7.out.trans (W2.out.mono B7.out.size)) (HL7.out.keep (fun b ⟨h1,h2⟩=>⟨h1,Nat.lt_of_lt_of_le h2 W2.out.size⟩) (fun b o ⟨h1,h2⟩=>W2.out.cell (p:=⟨b,o,none⟩) h2)) hgrow6 (by simp) rfl hat6 hown6
       have BN:Hid (Below w.heap.size w w6):=(BP.out.trans (W2.out.mono BP.out.size)).grown hgrow6 HBZ.out (fun g hg=>(World.ownsRow.lt hrow.out.row g hg).1)
       have FN:Hid (Cut.lforms (xs ++ [⟨C,a7,cap7,E⟩])=(ls.take (j+1)).map (oppA am)):=by
        show _=_
        rw[Cut.lforms_append,hfs.out,HTK2.out];rfl
       rw[hxl]at RN
       clear hown6 hgrow6 hat6 hlt6 HRW NEWS HBZ HL7 B7 W2
       go_wp2_with fail
       go_roundw
       case rel=>exact⟨j+1,_,by omega,by go_num,RN,FN,HN2,BN⟩
       case measure=>simp[intOf];omega
      ·rw[Bool.not_eq_true]at hf
       have HAD:=Lib.hid (one_far c ta t.length tcap t wo rfl HLI.out hsn hf)
       have HE:=Lib.hid (HFR.out (by rw[HNA.out];exact hf))
       have HBL:=Lib.hid hbel
       clear HNR HFR HNA hf hsn HLI
       go_wp2_with fail
       refine HAD.out.mono ?_
       rintro e w7 ⟨rfl,hb7⟩
       have B8:Hid (Below w.heap.size w (w7.alloc (.cells #[.int .i64 0,.slice none 0 0] 36))):=(HBL.out.trans (hb7.mono HBL.out.size)).alloc (HBL.out.trans (hb7.mono HBL.out.size)).size _
       clear hb7 HAD c0 c1 d0 hbel
       go_wp2_with fail
       go_ret2
       exact HE.out _ B8.out
    ·obtain rfl:j=k:=by omega
     have HE:Hid (PremEnd w.heap.size am ls w (.returned (.tuple #[u8,.nilIface])) wo):=by
      have h0:premK am ls=0:=prem_0 HIN.out (fun m hm=>hnr.out m (by rw[HN.out]at hm;exact hm))
      refine⟨_,xs,by rw[h0];rfl,hrow.out, ?_,hb.out⟩
      rw[hfs.out,List.take_of_length_le (by rw[HN.out];exact Nat.le_refl _)]
      unfold premL;rw[if_pos h0]
     go_wp2_with fail
     go_ret2
     exact HE.out
end
section
open Go.RowKit Go.Extern.Stop Go.Stop Go.Extern
theorem Tryz.assignableC (w:World):(ReflectliteType.relation "AssignableTo" ReflectliteType.assignableTo #[.agg #[.pointer (some ⟨4,60,none⟩)],.iface 162 (.agg #[.pointer (some ⟨4,76,none⟩)])]).run Tryz.prog w= .ok (.bool false) w:=by kernel_rfl
theorem Tryz.noAsC (v:Value)(xT:TypeId)(w:World):(Instr.typeAssert (.iface 60 v) xT 166 true).run Tryz.prog w= .ok (.tuple #[.nilIface,.bool false]) w:=run_typeAssert_lacksB Tryz.underlying166 (by kernel_rfl) (by kernel_rfl) v xT w
theorem Tryz.noUnC (v:Value)(xT:TypeId)(w:World):(Instr.typeAssert (.iface 60 v) xT 169 true).run Tryz.prog w= .ok (.tuple #[.nilIface,.bool false]) w:=run_typeAssert_lacksB Tryz.underlying169 (by kernel_rfl) (by kernel_rfl) v xT w
theorem Tryz.noUnsC (v:Value)(xT:TypeId)(w:World):(Instr.typeAssert (.iface 60 v) xT 171 true).run Tryz.prog w= .ok (.tuple #[.nilIface,.bool false]) w:=run_typeAssert_lacksB Tryz.underlying171 (by kernel_rfl) (by kernel_rfl) v xT w
theorem as_code (k:Int)(t:Addr)(old:Value)(w:World)(hg:w.cell? ⟨0,0,none⟩=some (.iface 162 (.agg #[.pointer (some ⟨4,26,none⟩)])))(ht0:w.cell? t=some old):
 Calls Tryz.prog 43 #[.iface 60 (.int .i64 k),.iface 94 (.pointer (some t))] w fun ev w'=>ev= .returned (.bool false)∧Below w.heap.size w w':=by
 have h6:= @run_callFunc_extern Tryz.prog 72 _ (fun args=>ReflectliteValue.unpack (args.getD 0 (.tuple #[]))) Tryz.func72 (by kernel_rfl) (by kernel_rfl) (by kernel_rfl) (by kernel_rfl)
 have h7:= @run_callFunc_extern Tryz.prog 73 _ (ReflectliteValue.methodAny (ReflectliteValue.valueError "reflectlite.Value.Type" 0) (fun t _ _ _=>ReflectliteType.toType t)) Tryz.func73 (by kernel_rfl) (by kernel_rfl) (by kernel_rfl) (by kernel_rfl)
 have h8:= @run_callFunc_extern Tryz.prog 74 _ (ReflectliteValue.method (ReflectliteValue.valueError "reflectlite.Value.IsNil" 0) ReflectliteValue.isNil) Tryz.func74 (by kernel_rfl) (by kernel_rfl) (by kernel_rfl) (by kernel_rfl)
 have h27:= @run_callFunc_extern Tryz.prog 203 _ (ReflectliteType.abiMethod fun t=>do pure (.int .u8 (←Rtype.kind t))) Tryz.func203 (by kernel_rfl) (by kernel_rfl) (by kernel_rfl) (by kernel_rfl)
 have h37:= @run_callFunc_extern Tryz.prog 215 _ (ReflectliteType.method ReflectliteType.elem) Tryz.func215 (by kernel_rfl) (by kernel_rfl) (by kernel_rfl) (by kernel_rfl)
 have h38:= @run_callFunc_extern Tryz.prog 216 _ (ReflectliteType.relation "Implements" ReflectliteType.implements_) Tryz.func216 (by kernel_rfl) (by kernel_rfl) (by kernel_rfl) (by kernel_rfl)
 have h10:= @run_callFunc_extern Tryz.prog 76 _ ReflectliteType.typeOf Tryz.func76 (by kernel_rfl) (by kernel_rfl) (by kernel_rfl) (by kernel_rfl)
 have h35:= @run_callFunc_extern Tryz.prog 213 _ (ReflectliteType.relation "AssignableTo" ReflectliteType.assignableTo) Tryz.func213 (by kernel_rfl) (by kernel_rfl) (by kernel_rfl) (by kernel_rfl)
 have tO:=Prp.Tryz.typeOfC
 have mA:=Prp.Tryz.methodAssignableTo
 have a25:=Tryz.assignableC
 have nA:=Tryz.noAsC
 have nU:=Tryz.noUnC
 have nS:=Tryz.noUnsC
 have f6:=Prp.Tryz.valueOfPP
 have f7:=Prp.Tryz.typePP
 have mK:=Prp.Tryz.methodKind
 have mE:=Prp.Tryz.methodElem
 have mI:=Prp.Tryz.methodImplements
 have k27:=Prp.Tryz.kindPP
 have k25:=Prp.Tryz.kindP
 have e27:=Prp.Tryz.elemPP
 have i25:=Prp.Tryz.implementsP
 have n8:=Prp.Tryz.isNilPP ⟨w.heap.size,0,none⟩ t ((w.alloc (.cells #[.pointer (some t)] 94)).alloc (.cells #[.pointer (some ⟨4,94,none⟩),.pointer (some ⟨w.heap.size,0,none⟩),.int .u64 150] 135)) (by simp)
 have hlt:0<w.heap.size:=by
  rcases Nat.eq_zero_or_pos w.heap.size with h0 | h
  ·simp[World.cell?,h0]at hg
  ·exact h
 have hg2:((w.alloc (.cells #[.pointer (some t)] 94)).alloc (.cells #[.pointer (some ⟨4,94,none⟩),.pointer (some ⟨w.heap.size,0,none⟩),.int .u64 150] 135)).cell? ⟨0,0,none⟩=some (.iface 162 (.agg #[.pointer (some ⟨4,26,none⟩)])):=by
  rw[World.cell?_alloc_lt _ _ ⟨0,0,none⟩ (by simp),World.cell?_alloc_lt _ _ ⟨0,0,none⟩ hlt];exact hg
 go_enter Tryz.func43,Tryz.ntmps43
 go_wp2
 refine wp_loop_rounds 1 ?_
 rw[rounds_succ]
 go_wp2
 go_ret
 refine⟨rfl, ?_⟩
 repeat' (first | exact Below.refl _ _ | refine Below.alloc ?_ ?_ _)
 all_goals (simp;try omega)
theorem code_err {B:Nat}{k at':Int}{er:Value}{w:World}(h:Cut.ErrIs B k at' er w)(hk:k≠0)(hg:Prp.Laid0 w):
 Calls Tryz.prog 34 #[er] w fun e w'=>e= .returned (codeV k)∧Below w.heap.size w w':=by
 have hb0:Below w.heap.size w (w.alloc (.cells #[.pointer none] 76)):=(Below.refl _ w).alloc (Nat.le_refl _) _
 have hn:=heap_alloc_new w (.cells #[.pointer none] 76)
 have hg1:=hg.below hb0 hg.pos
 have hc0:(w.alloc (.cells #[.pointer none] 76)).cell? ⟨w.heap.size,0,none⟩=some (.pointer none):=(cell_of_row _ _ _ _ _ _ hn).trans rfl
 have HB0:=Lib.hid hb0
 by_cases ha:at'<0
 ·have e:=h.1 ha
  have e2:Cut.codeV k= .iface 60 (.int .i64 k):=if_neg hk
  have e3:codeV k= .iface 60 (.int .i64 k):=if_neg hk
  rw[e,e2,e3]
  have HAS:=Lib.hid (as_code k ⟨w.heap.size,0,none⟩ _ _ hg1 hc0)
  clear h hg hb0 hn hg1 hc0 e e2 e3
  go_enter Tryz.func34,Tryz.ntmps34
  go_wp2_with fail
  refine HAS.out.mono ?_
  rintro e w1 ⟨rfl,hb1⟩
  have HB1:=Lib.hid (HB0.out.trans (hb1.mono HB0.out.size))
  clear hb1 HAS
  go_wp2_with fail
  go_ret
  exact⟨rfl,HB1.out⟩
 ·obtain⟨g,e1,_,e3,e4,e5⟩:=h.2 (by omega)
  have HAS:=Lib.hid (Prp.as_spot ⟨g,0,none⟩ w.heap.size (.pointer none) (w.alloc (.cells #[.pointer none] 76)) hg1 hc0 (frozen_of_row _ _ _ _ _ hn) (lt_of_some hn))
  have e5:w.cell? ⟨g,1,none⟩=some (codeV k):=e5
  rw[e1]
  have HG:=Lib.hid (And.intro e3 e5)
  obtain⟨kv,hkv⟩:∃kv,kv=codeV k:=⟨_,rfl⟩
  rw[←hkv]at HG⊢
  clear h hg hb0 hn hg1 hc0 e1 e3 e4 e5 hkv
  go_enter Tryz.func34,Tryz.ntmps34
  go_wp2_with fail
  refine HAS.out.mono ?_
  rintro e w1 ⟨rfl,hc1,hb1,hz1⟩
  have q1:w1.cell? ⟨g,1,none⟩=some kv:=(hb1.cell (p:=⟨g,1,none⟩) HG.out.1).trans ((HB0.out.cell (p:=⟨g,1,none⟩) HG.out.1).trans HG.out.2)
  have HB1:Hid (Below w.heap.size w w1):=HB0.out.trans hb1
  clear hb1 HAS
  go_wp2_with fail
  go_ret
  exact⟨rfl,HB1.out⟩
def LemEnd (B:Nat)(k:Int)(w:World)(e:Ending)(w':World):Prop:=∃er at',e= .returned er∧Cut.ErrIs B k at' er w'∧(0≤at'→k≠0)∧Below B w w'
theorem ErrIs.low {B B':Nat}{k at':Int}{er:Value}{w:World}(h:Cut.ErrIs B k at' er w)(hB:B'≤B):Cut.ErrIs B' k at' er w:=
 ⟨h.1,fun h0=>by
   obtain⟨g,e1,e2,r⟩:=h.2 h0
   exact⟨g,e1,Nat.le_trans hB e2,r⟩⟩
theorem prem_short {am:List (Int×List (Int×Int))}(hok:Cut.lsOk am){ls:List Int}(h:premK am ls=0):∀i,i<(premL am ls).length→((premL am ls).getD i (0,[])).2.length≤64:=by
 obtain⟨h1,_,h3⟩:=premK_zero h
 intro i hi
 rw[h3]at hi⊢
 rw[List.length_map]at hi
 rw[List.getD_eq_getElem?_getD,List.getElem?_map,List.getElem?_eq_getElem hi,Option.map_some,Option.getD_some]
 have hin:=of_decide_eq_true (h1 _ (List.getElem_mem hi))
 have hs:=hok (ls[i].natAbs - 1) (by omega)
 have h64:=(snd_iff.1 hs).2.1
 unfold oppA
 split
 ·exact h64
 ·rw[scale_len];exact h64
theorem prem_len {am:List (Int×List (Int×Int))}{ls:List Int}(h:premK am ls=0):(premL am ls).length=ls.length:=by rw[(premK_zero h).2.2,List.length_map]
theorem lemma_any (aa:Option Addr)(an acap:Nat)(am:List (Int×List (Int×Int)))(la:Option Addr)(n lcap:Nat)(ls:List Int)(sa:Option Addr)(sn scap:Nat)(ss:List (List (Int×Int)×Int))(w:World)(k:Int)(hk:LemIs am (ls,ss) k)
 (han:am.length=an) (ham:an≤1000000) (hla:Cut.LLies w.heap.size w aa am) (hok:Cut.lsOk am) (hln:ls.length=n) (hlm:n≤1000000) (hll:Nums w.heap.size w la ls) (hsn:ss.length=sn) (hsm:sn≤9223372036854775807) (hsl:Cut.SLies w.heap.size w sa ss):
 Calls Tryz.prog 33 #[.slice aa an acap,.agg #[.slice la n lcap,.slice sa sn scap]] w (LemEnd w.heap.size k w):=by
 have hA:Below w.heap.size w (w.alloc (.cells #[.slice la n lcap,.slice sa sn scap] 57)):=(Below.refl _ w).alloc (Nat.le_refl _) _
 have hn:=heap_alloc_new w (.cells #[.slice la n lcap,.slice sa sn scap] 57)
 have hc0:(w.alloc (.cells #[.slice la n lcap,.slice sa sn scap] 57)).cell? ⟨w.heap.size,0,none⟩=some (.slice la n lcap):=(cell_of_row _ _ _ _ _ _ hn).trans rfl
 have hc1:(w.alloc (.cells #[.slice la n lcap,.slice sa sn scap] 57)).cell? ⟨w.heap.size,1,none⟩=some (.slice sa sn scap):=(cell_of_row _ _ _ _ _ _ hn).trans rfl
 have hlt:w.heap.size<(w.alloc (.cells #[.slice la n lcap,.slice sa sn scap] 57)).heap.size:=by simp
 have HPR:=Lib.hid (prem_any aa an acap am la n lcap ls (w.alloc (.cells #[.slice la n lcap,.slice sa sn scap] 57)) han ham ((hla.below hA).mono hA.size) hok hln hlm ((hll.below hA).mono hA.size))
 have HSL:=Lib.hid ((hsl.below hA).mono hA.size)
 have HA:=Lib.hid hA
 have HLT:=Lib.hid hlt
 have n1:=fun t v W=>Cut.Tryz.neIface t v W
 have HSN:=Lib.hid hsn
 have HLN:=Lib.hid hln
 clear hla hll hsl hn hA hlt hsn hln
 rcases hk with ⟨h0,rfl⟩ | ⟨h0,x,at',L,hL,rfl⟩
 ·have e3:codeV (premK am ls)= .iface 60 (.int .i64 (premK am ls)):=if_neg h0
  have HE:Hid (∀W,Below w.heap.size w W→LemEnd w.heap.size (premK am ls) w (.returned (.iface 60 (.int .i64 (premK am ls)))) W):=fun W hb=>⟨_, -1,rfl,⟨fun _=>e3.symm,fun h=>absurd h (by decide)⟩,fun h=>absurd h (by decide),hb⟩
  have E3:=Lib.hid e3
  clear hok h0 e3
  go_enter Tryz.func33,Tryz.ntmps33
  go_wp2_with fail
  refine HPR.out.mono ?_
  rintro e w1 ⟨v,xs,rfl,hrow,hfs,hb1⟩
  rw[E3.out]
  have HB:=Lib.hid (HA.out.trans (hb1.mono HA.out.size))
  clear hrow hfs hb1 HPR
  go_wp2_with fail
  go_ret
  exact HE.out _ HB.out
 ·have HSH:=Lib.hid (prem_short hok h0)
  have HPL:=Lib.hid (prem_len h0)
  have HK0:Hid (codeV (premK am ls)= .nilIface):=by show _=_;rw[h0];rfl
  have HCO:=Lib.hid (Cut.refX_code hL)
  have HRF:=Lib.hid (fun(W:World) (a:Option Addr) (m cap:Nat) (h:Cut.Given W.heap.size W a m (premL am ls) sa sn ss)=>Cut.refutes_any a m cap (premL am ls) sa sn scap ss W h x at' L hL)
  clear hok h0 hL
  go_enter Tryz.func33,Tryz.ntmps33
  go_wp2_with fail
  refine HPR.out.mono ?_
  rintro e w1 ⟨v,xs,rfl,hrow,hfs,hb1⟩
  rw[HK0.out]
  obtain⟨pa,pcap,rfl,hll⟩:=hrow.llies
  rw[hfs]at hll
  have hxl:(premL am ls).length=xs.length:=by rw[←hfs,Cut.lforms_len]
  have hxm:xs.length≤9223372036854775807:=by rw[←hxl,HPL.out,HLN.out];omega
  have q0:=(hb1.cell (p:=⟨w.heap.size,0,none⟩) HLT.out).trans hc0
  have q1:=(hb1.cell (p:=⟨w.heap.size,1,none⟩) HLT.out).trans hc1
  have HR:=Lib.hid (HRF.out w1 pa xs.length pcap ⟨hxl,hll,fun i hi=>Nat.le_trans (HSH.out i (by rw[hxl];exact hi)) (by decide),HSN.out,(HSL.out.below hb1).mono hb1.size,hxm,hsm⟩)
  have HB:=Lib.hid (HA.out.trans (hb1.mono HA.out.size))
  clear hrow hfs hb1 hll hxl hc0 hc1 HPR HRF
  generalize xs.length=m at HR hxm
  go_wp2_with fail
  refine HR.out.mono ?_
  rintro e w2 ⟨er,rfl,her,hb2⟩
  have HE:Hid (LemEnd w.heap.size (Cut.refX x L) w (.returned er) w2):=⟨er,at',rfl,ErrIs.low her HB.out.size,HCO.out.2,HB.out.trans (hb2.mono HB.out.size)⟩
  clear her hb2 HR
  go_wp2_with fail
  go_ret
  exact HE.out
end
section
open Go.RowKit
theorem lies_of_parts {S:Nat→Prop}{w:World}{a:Option Addr}{ps:List (Int×Int)}{B:Nat}(h:Pak.Sits Pak.partSh S w a ps)(hS:∀b,S b→b<B):Lies B w a ps:=fun i hi=>by
 obtain⟨b,off,us,e,hb,hc,rfl,_⟩:=h.2 i hi
 have e1:Pak.partSh.k=2:=rfl
 have c0:=hc 0 _ rfl
 have c1:=hc 1 _ rfl
 rw[e1,Nat.add_zero]at c0
 rw[e1]at c1
 rw[List.getD_eq_getElem?_getD,List.getElem?_eq_getElem hi,Option.getD_some]
 exact⟨b,off,e,hS b hb,c0,c1⟩
theorem slies_of {S:Nat→Prop}{w:World}{a:Option Addr}{ss:List (List (Int×Int)×Int)}{B:Nat}(h:Pak.Sits Pak.stepSh S w a ss)(hS:∀b,S b→b<B):Cut.SLies B w a ss:=fun i hi=>by
 obtain⟨b,off,us,e,hb,hc,v,rfl,_,ta,tcap,rfl,hn⟩:=h.2 i hi
 have e1:Pak.stepSh.k=2:=rfl
 have c0:=hc 0 _ rfl
 have c1:=hc 1 _ rfl
 rw[e1,Nat.add_zero]at c0
 rw[e1]at c1
 rw[List.getD_eq_getElem?_getD,List.getElem?_eq_getElem hi,Option.getD_some]
 exact⟨b,off,ta,tcap,e,hS b hb,hn.1,c0,c1,lies_of_parts hn hS⟩
def LmLies (B:Nat)(w:World)(a:Option Addr)(lms:List (List Int×List (List (Int×Int)×Int))):Prop:=
 ∀i,i<lms.length→∃b off ta tcap sa scap,a=some ⟨b,off,none⟩∧b<B∧w.cell? ⟨b,off+i*2,none⟩=some (.slice ta (lms.getD i ([],[])).1.length tcap)∧w.cell? ⟨b,off+i*2+1,none⟩=some (.slice sa (lms.getD i ([],[])).2.length scap)∧
  ((lms.getD i ([],[])).1.length≤9223372036854775807∧(lms.getD i ([],[])).2.length≤9223372036854775807)∧Pak.Sits Pak.intSh (Pak.Lo B) w ta (lms.getD i ([],[])).1∧Cut.SLies B w sa (lms.getD i ([],[])).2
theorem lmlies_of {w:World}{a:Option Addr}{lms:List (List Int×List (List (Int×Int)×Int))}{B:Nat}(h:Pak.Sits Pak.lemSh (Pak.Lo B) w a lms):LmLies B w a lms:=fun i hi=>by
 obtain⟨b,off,us,e,hb,hc,v,u,rfl,⟨ta,tcap,rfl,hn⟩,⟨sa,scap,rfl,hs⟩⟩:=h.2 i hi
 have e1:Pak.lemSh.k=2:=rfl
 have c0:=hc 0 _ rfl
 have c1:=hc 1 _ rfl
 rw[e1,Nat.add_zero]at c0
 rw[e1]at c1
 rw[List.getD_eq_getElem?_getD,List.getElem?_eq_getElem hi,Option.getD_some]
 exact⟨b,off,ta,tcap,sa,scap,e,hb,c0,c1,⟨hn.1,hs.1⟩,hn,slies_of hs (fun b hb=>hb)⟩
theorem Cut.SLies.up {B B':Nat}{w:World}{a:Option Addr}{ss:List (List (Int×Int)×Int)}(h:Cut.SLies B w a ss)(hB:B≤B'):Cut.SLies B' w a ss:=fun i hi=>by
 obtain⟨b,off,ta,tcap,ha,hlt,hm,h1,h2,h3⟩:=h i hi
 exact⟨b,off,ta,tcap,ha,by omega,hm,h1,h2,h3.mono hB⟩
theorem LmLies.below {w w':World}{a:Option Addr}{lms:List (List Int×List (List (Int×Int)×Int))}{B B':Nat}(h:LmLies B w a lms)(hb:Below B w w')(hB:B≤B'):LmLies B' w' a lms:=fun i hi=>by
 obtain⟨b,off,ta,tcap,sa,scap,e,hlt,c0,c1,hm,hn,hs⟩:=h i hi
 exact⟨b,off,ta,tcap,sa,scap,e,by omega,(hb.cell (p:=⟨b,_,none⟩) hlt).trans c0,(hb.cell (p:=⟨b,_,none⟩) hlt).trans c1,hm,hn.below hb hB,(hs.below hb).up hB⟩
structure EasyC (lms:List (List Int×List (List (Int×Int)×Int)))(ss:List (List Int)):Prop where
 l1:lms.length≤40
 k1:∀i,i<lms.length→(lms.getD i ([],[])).1.length≤40∧(lms.getD i ([],[])).2.length≤60
 l2:ss.length≤60
 k2:∀i,i<ss.length→(ss.getD i []).length≤60
theorem EasyC.lits {lms:List (List Int×List (List (Int×Int)×Int))}{ss:List (List Int)}(h:EasyC lms ss):∀c∈lms.map Prod.fst,c.length≤40:=fun c hc=>by
 obtain⟨lm,hl,rfl⟩:=List.mem_map.1 hc
 obtain⟨i,hi,rfl⟩:=List.getElem_of_mem hl
 have:=(h.k1 i hi).1
 rwa [List.getD_eq_getElem?_getD,List.getElem?_eq_getElem hi,Option.getD_some]at this
theorem EasyC.few {lms:List (List Int×List (List (Int×Int)×Int))}{ss:List (List Int)}(h:EasyC lms ss){n:Nat}{g:FT}(hi:isF n g=true)(hc:cnfK n g=0):Prp.Few (clsF n g ++ lms.map Prod.fst) ss:=by
 obtain⟨q1,q2,q3,q4⟩:=cls_len hi
 have hk:Prp.chkK (makF n g).n (clsF n g)=0:=by
  unfold cnfK at hc
  rw[if_neg (by rw[hi];decide)]at hc
  split at hc
  ·cases hc
  ·rename_i h2;exact Classical.byContradiction fun h3=>h2 (.inr h3)
 obtain⟨_,_,_,hm,_⟩:=Prp.chkK_zero hk
 refine⟨?_,by have:=h.l2;omega,fun c hcm=> ?_,fun c hcm=> ?_⟩
 ·rw[List.length_append,List.length_map];have:=h.l1;omega
 ·rcases List.mem_append.1 hcm with h1 | h1
  ·have:=q4 c h1;omega
  ·have:=h.lits c h1;omega
 ·obtain⟨i,hi,rfl⟩:=List.getElem_of_mem hcm
  have:=h.k2 i hi
  rw[List.getD_eq_getElem?_getD,List.getElem?_eq_getElem hi,Option.getD_some]at this
  omega
theorem run_all (W:World)(N:Nat)(hN:N≤W.heap.size)(v0:Value)(h0:W.ownsRow N 23 1 v0 0 [])(a:Option Addr)(n cap:Nat)(xs:List (List Int))(hn:xs.length=n)(hs:Pak.Sits Pak.clauseSh (Pak.Lo N) W a xs)(hx:n≤4000000):
 ∃v w',(∀ty,(Builtin.append_ #[41,41] ty #[v0,.slice a n cap]).run Tryz.prog W= .ok v w')∧OwnP Pak.clauseSh 23 N (Pak.Lo N) xs v w'∧W.grownBy w' v0.ownBlock:=by
 obtain⟨i0,hi,hz0,hz1,hz2⟩:=info_parts Prp.Tryz.infoInts
 by_cases hn0:n=0
 ·subst hn0
  obtain rfl:xs=[]:=List.eq_nil_of_length_eq_zero hn
  obtain⟨v',w',hr,h2,h3,_⟩:=Prp.run_append_rows (P:=Tryz.prog) (w:=W) N 41 41 23 i0 _ Tryz.underlying41 hi hz0 hz1 hz2 rfl v0 0 [] rfl h0 hN a 0 cap [] rfl (fun h=>absurd h (by decide)) (by omega)
  refine⟨v',w',fun ty=>hr,⟨⟨[],rfl,h2,fun i hi=>absurd hi (Nat.not_lt_zero i)⟩,fun b hb=>⟨Nat.lt_of_lt_of_le hb (Nat.le_trans hN h3.size),fun e=> ?_⟩⟩,h3⟩
  have:=(World.ownsRow.lt h2 b e).1
  have hb:b<N:=hb
  omega
 ·obtain⟨b0,off0,_,e0,hb0,_⟩:=hs.2 0 (by omega)
  subst e0
  obtain⟨css,hcl,hc⟩:=Pak.list_ofC n (fun i (cs:List Value)=>∃hi:i<xs.length,(∀j u,cs[j]? =some u→W.cell? ⟨b0,off0+i*1+j,none⟩=some u)∧Pak.clauseSh.rel (Pak.Lo N) W cs xs[i]) (fun i hi=>by
   obtain⟨b,off,cs,e,_,h1,h2⟩:=hs.2 i (by omega)
   injection e with e
   injection e with e1 e2
   subst e1 e2
   exact⟨cs,by omega,h1,h2⟩)
  have hk:∀cs∈css,cs.length=1:=fun cs hm=>by
   obtain⟨i,hi,rfl⟩:=List.getElem_of_mem hm
   obtain⟨_,_,h2⟩:=hc i hi
   exact Pak.clauseSh.len h2
  have hfl:css.flatten.length=n:=by rw[Pak.flatten_len hk,hcl,Nat.mul_one]
  obtain⟨g,cap',w',hr,h2,h3,h4,h5⟩:=run_append_lies (P:=Tryz.prog) W 41 41 N 23 i0 _ 1 24 Tryz.underlying41 hi hz0 hz1 hz2 rfl (by decide) v0 0 [] h0 ⟨b0,off0,none⟩ n cap css.flatten (by rw[hfl,Nat.mul_one])
   (fun j u hu=>by
     have hj:j<n:=by have:=(List.getElem?_eq_some_iff.1 hu).1;omega
     have hf:=Pak.flatten_get hk j 0 (by omega) (by decide)
     rw[Nat.mul_one,Nat.add_zero]at hf
     rw[hf]at hu
     obtain⟨_,h1,_⟩:=hc j (by omega)
     have:=h1 0 u hu
     rw[Nat.mul_one,Nat.add_zero]at this
     rwa [show(⟨b0,off0,none⟩:Addr).add j=⟨b0,off0+j,none⟩ by unfold Addr.add;split<;>simp_all])
   (fun u hu=>by
     obtain⟨cs,hm,hu⟩:=List.mem_flatten.1 hu
     obtain⟨i,hi,rfl⟩:=List.getElem_of_mem hm
     obtain⟨_,_,h2⟩:=hc i hi
     exact Pak.clauseSh.one h2 u hu) (by omega) (by unfold maxLen;omega) (by omega) hN _ rfl
  rw[Nat.zero_add,List.nil_append]at h2
  have hlt:=World.ownsRow.lt h2
  have hv0:=World.ownsRow.lt h0
  rw[Nat.zero_add]at hr
  refine⟨_,w',fun ty=>hr,⟨⟨css,by omega,by rw[hn];exact h2,fun i hi hi2=> ?_⟩,fun b hb=>⟨Nat.lt_of_lt_of_le hb (Nat.le_trans hN h3.size),fun e=> ?_⟩⟩,h3⟩
  ·obtain⟨_,_,hr2⟩:=hc i hi2
   exact Pak.clauseSh.keep (fun b hb=>hb) (fun b o (hb:b<N)=>World.cell?_of_block (h3.block b (by omega) (fun e=>by have:=(hv0 b e.symm).1;omega))) hr2
  ·have:=(hlt b e).1
   have hb:b<N:=hb
   omega
def CloneEnd (xs:List (List Int))(w:World)(e:Ending)(w':World):Prop:=∃v,e= .returned v∧OwnP Pak.clauseSh 23 w.heap.size (Pak.Lo w.heap.size) xs v w'∧Below w.heap.size w w'
theorem clone_r (a:Option Addr)(n cap:Nat)(xs:List (List Int))(w:World)(hn:xs.length=n)(hm:n≤4000000)(hs:Pak.Sits Pak.clauseSh (Pak.Lo w.heap.size) w a xs):
 Calls Tryz.prog 32 #[.slice a n cap] w (CloneEnd xs w):=by
 have he:=fun W:World=>Lib.run_eql_slice_nil (P:=Tryz.prog) W 41 23 a n cap 0 0 Tryz.underlying41
 cases a with
 | none=>
   have hn0:n=0:=by
    cases n with
    | zero=>rfl
    | succ n=>obtain⟨_,_,_,e,_⟩:=hs.2 0 (by omega);cases e
   subst hn0
   have HE:Hid (CloneEnd xs w (.returned (.slice none 0 0)) w):=⟨_,rfl,by rw[List.eq_nil_of_length_eq_zero hn];exact(OwnP.nil _ _ _ _).more (fun b hb=>hb.elim) (fun b hb=>⟨hb,fun e=>by cases e⟩),Below.refl _ _⟩
   clear hn hs
   go_enter Tryz.func32,Tryz.ntmps32
   go_wp2_with fail
   go_ret
   exact HE.out
 | some a=>
   have hb0:Below w.heap.size w (w.alloc (.cells #[] 23)):=(Below.refl _ w).alloc (Nat.le_refl _) _
   have hown:(w.alloc (.cells #[] 23)).ownsRow w.heap.size 23 1 (.slice (some ⟨w.heap.size,0,none⟩) 0 0) 0 []:=World.ownsRow_made w #[] 0 (Nat.le_refl _) (by decide) rfl
   obtain⟨v,w2,hr,ho,hg⟩:=run_all (w.alloc (.cells #[] 23)) w.heap.size hb0.size _ hown (some a) n cap xs hn (hs.up hb0) hm
   have HE:Hid (CloneEnd xs w (.returned v) w2):=⟨_,rfl,ho,hb0.grown hg hb0.size (fun k hk=>(hown.lt k hk).1)⟩
   clear hn hs hb0 hown ho hg
   go_enter Tryz.func32,Tryz.ntmps32
   go_wp2_with (at_builtin;refine Lib.wpList_append_run _ rfl _ _ _ _ rfl _ _ rfl rfl _ _ (hr _) ?_)
   all_goals
    go_ret
    exact HE.out
end
section
open Go.ChangeShapes Go.WideShapes Go.ChangeAt Go.RowKit
theorem Tryz.own:ownKnob Tryz.prog.godebug=none:=by kernel_rfl
theorem Tryz.laidOut:laidOutB Tryz.prog=true:=by kernel_rfl
def laidT:List (String×DataW Unit):=[("math/bits.deBruijn32tab",Rows.laid_math_bits_deBruijn32tab),("math/bits.deBruijn64tab",Rows.laid_math_bits_deBruijn64tab),("internal/strconv.uint64pow10",Rows.laid_internal_strconv_uint64pow10)]
def laidE:List (String×DataW Unit):=[("errors.errorType",Rows.laid_errors_errorType)]
def laidL:List (String×DataW Unit):=laidT ++ laidE
theorem Tryz.gTab:Tryz.prog.globalNamed "internal/strconv.uint64pow10" =some 1:=by kernel_rfl
theorem Tryz.gTabType:(Tryz.prog.globals[1]?).map (·.type)=some 235:=by kernel_rfl
theorem Tryz.cellsTab:Tryz.prog.cellsOf 235=20:=by kernel_rfl
theorem Tryz.cellsU64:Tryz.prog.cellsOf 217=1:=by kernel_rfl
theorem Tryz.et:Tryz.prog.globalNamed "errors.errorType" =some 0:=by kernel_rfl
theorem Tryz.rt:(Tryz.prog.cutTypes.find? (·.1 == "internal/reflectlite.rtype")).map (·.2)=some 162:=by kernel_rfl
theorem Tryz.oneRow:((List.range 276).filter fun t=>Tryz.prog.rowNamed t [101,114,114,111,114])=[26]:=by kernel_rfl
theorem Tryz.size:Tryz.prog.types.size=276:=by kernel_rfl
theorem laid_tail {P:Program}{x:String×DataW Unit}{l:List (String×DataW Unit)}{w:World}(h:laidMet P (x :: l) w):laidMet P l w:=by
 obtain⟨ps,h1,h2,h3⟩:=h
 obtain⟨g,t,cs,fuel,p,q,_,_,_,_,h4,rfl⟩:=h1
 exact⟨q,h4,(List.nodup_append.1 h2).2.1,fun b off hb=>h3 b off (List.mem_append.2 (.inr hb))⟩
theorem laid_parts {W:World}(h:laidMetH Tryz.prog laidL W):laidMet Tryz.prog laidT W∧handlesMet Tryz.prog laidE W:=h
theorem tens_of_laid {W:World}(h:laidMetH Tryz.prog laidL W):Tens W.heap.size W:=by
 have h':=(laid_parts h).1
 exact Lib.tabBelow_of_tabIs (Lib.tabIs_of_head (rest:=[]) Tryz.gTab Tryz.gTabType Tryz.underlying235 Tryz.underlying217 Tryz.cellsU64 Tryz.cellsTab (laid_tail (laid_tail h')))
theorem handle_of_laid {W:World}(h:laidMetH Tryz.prog laidL W):Prp.Laid0 W:=by
 obtain⟨name,u,ty,e1,e2,e3,e4,e5⟩:=(laid_parts h).2 _ (List.mem_singleton.2 rfl)
 have en:name=[101,114,114,111,114]:=(Option.some.inj e1).symm
 subst en
 obtain rfl:=Option.some.inj (Tryz.rt.symm.trans e2)
 have hm:ty∈(List.range 276).filter fun t=>Tryz.prog.rowNamed t [101,114,114,111,114]:=List.mem_filter.2 ⟨List.mem_range.2 (by rw[←Tryz.size];exact e3),e4⟩
 rw[Tryz.oneRow]at hm
 obtain rfl:=List.mem_singleton.1 hm
 have hh:typeHandle Tryz.prog 26= .pointer (some ⟨4,26,none⟩):=by kernel_rfl
 rw[hh]at e5
 unfold Prp.Laid0
 simpa using World.var?_cell Tryz.et e5 0
noncomputable def laidWorld (os:Os):World:=
 let w0:=World.holding Tryz.prog os ⟨#[], #[],[]⟩
 { w0 with heap:=(((w0.heap.modify 2 fun
    | .cells _ t frozen=> .cells #[.int .u8 0,.int .u8 1,.int .u8 28,.int .u8 2,.int .u8 29,.int .u8 14,.int .u8 24,.int .u8 3,.int .u8 30,.int .u8 22,.int .u8 20,.int .u8 15,.int .u8 25,.int .u8 17,.int .u8 4,.int .u8 8,.int .u8 31,.int .u8 27,.int .u8 13,.int .u8 23,.int .u8 21,.int .u8 19,.int .u8 16,.int .u8 7,.int .u8 26,.int .u8 12,.int .u8 18,.int .u8 6,.int .u8 11,.int .u8 5,.int .u8 10,.int .u8 9] t frozen
    | o=>o).modify 3 fun
    | .cells _ t frozen=> .cells #[.int .u8 0,.int .u8 1,.int .u8 56,.int .u8 2,.int .u8 57,.int .u8 49,.int .u8 28,.int .u8 3,.int .u8 61,.int .u8 58,.int .u8 42,.int .u8 50,.int .u8 38,.int .u8 29,.int .u8 17,.int .u8 4,.int .u8 62,.int .u8 47,.int .u8 59,.int .u8 36,.int .u8 45,.int .u8 43,.int .u8 51,.int .u8 22,.int .u8 53,.int .u8 39,.int .u8 33,.int .u8 30,.int .u8 24,.int .u8 18,.int .u8 12,.int .u8 5,.int .u8 63,.int .u8 55,.int .u8 48,.int .u8 27,.int .u8 60,.int .u8 41,.int .u8 37,.int .u8 16,.int .u8 46,.int .u8 35,.int .u8 44,.int .u8 21,.int .u8 52,.int .u8 32,.int .u8 23,.int .u8 11,.int .u8 54,.int .u8 26,.int .u8 40,.int .u8 15,.int .u8 34,.int .u8 20,.int .u8 31,.int .u8 10,.int .u8 25,.int .u8 14,.int .u8 19,.int .u8 9,.int .u8 13,.int .u8 8,.int .u8 7,.int .u8 6] t frozen
    | o=>o).modify 1 fun
    | .cells _ t frozen=> .cells #[.int .u64 1,.int .u64 10,.int .u64 100,.int .u64 1000,.int .u64 10000,.int .u64 100000,.int .u64 1000000,.int .u64 10000000,.int .u64 100000000,.int .u64 1000000000,.int .u64 10000000000,.int .u64 100000000000,.int .u64 1000000000000,.int .u64 10000000000000,.int .u64 100000000000000,.int .u64 1000000000000000,.int .u64 10000000000000000,.int .u64 100000000000000000,.int .u64 1000000000000000000,.int .u64 10000000000000000000] t frozen
    | o=>o).modify 0 fun
    | .cells _ t frozen=> .cells #[.iface 162 (.agg #[.pointer (some ⟨4,26,none⟩)])] t frozen
    | o=>o }
theorem laidWorld_met (os:Os)(args:Array Value):laidMetH Tryz.prog laidL ((laidWorld os).forCall (fun _ _=>0) ⟨#[],args,[]⟩).memory:=
 laidMetH_of_parts (laidMet_of_run' 8 (by kernel_rfl) (by kernel_rfl):laidMet Tryz.prog laidT _) (by kernel_rfl)
section
variable {H:Type} {enc:TypeId×Value→H} {w:World} {base:Nat} {spare:Nat→Bool} {held:Bool}
end
end
section
open Go.ChangeShapes Go.WideShapes Go.ChangeAt Go.RowKit
section
variable {H:Type} {enc:TypeId×Value→H} {w:World} {base:Nat} {spare:Nat→Bool} {held:Bool}
theorem open_cert2 {r:Reach}{b0:Nat}{v:Value}{d:DataW H}{p:List MemPlace}(hv:Value.okWide Tryz.prog w r b0 43 v)(h:DataW.Trod enc Tryz.prog w base spare held 43 v d p):
 ∃la ln lcap lms ra rn rcap ss,v= .agg #[.slice la ln lcap,.slice ra rn rcap]∧lms.length=ln∧ln≤9223372036854775807∧ss.length=rn∧rn≤9223372036854775807∧Pak.Sits Pak.lemSh (Pak.Lo w.heap.size) w la lms∧Pak.Sits Pak.clauseSh (Pak.Lo w.heap.size) w ra ss∧∀i,i<rn→(ss.getD i []).length≤9223372036854775807:=by
 obtain⟨cs,rfl,hsz⟩:=okWide_struct Tryz.underlying43 hv
 obtain⟨fuel,hf⟩:=h
 obtain⟨c0,c1,y0,y1,n,e,h0,h1⟩:=Pak.two_fields (cs:=cs.toList) Tryz.underlying43 (by kernel_rfl) ⟨rfl,by kernel_rfl⟩ ⟨rfl,by kernel_rfl⟩ (by simpa [Value.cells]using hf)
 obtain⟨la,lcap,lms,e0,hs0,hl0,hm0,_⟩:=Pak.open_row (sh:=Pak.lemSh) Tryz.underlying40 (by kernel_rfl) (by decide) Pak.opn_lem h0
 obtain⟨ra,rcap,ss,e1,hs1,hl1,hm1,_⟩:=Pak.open_row (sh:=Pak.clauseSh) Tryz.underlying41 (by kernel_rfl) (by decide) Pak.opn_clause h1
 have e2:=List.cons.inj e0
 have e3:=List.cons.inj e1
 have ecs:cs= #[.slice la lms.length lcap,.slice ra ss.length rcap]:=by
  cases cs
  simp only[]at e
  rw[e,e2.1,e3.1]
 have h63:maxLen=9223372036854775807:=rfl
 exact⟨la,_,lcap,lms,ra,_,rcap,ss,by rw[ecs],rfl,by omega,rfl,by omega,hs0,hs1,fun i hi=>by
  obtain⟨b,off,us,_,_,_,u,rfl,a,cap,rfl,hn⟩:=hs1.2 i hi
  have:=hn.1
  rwa [List.getD_eq_getElem?_getD,List.getElem?_eq_getElem hi,Option.getD_some]⟩
end
end
end Go.Proofs.YtipahfcaplbifaaGreatDoor
