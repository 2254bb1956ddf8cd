/- Parts of a proof. -/
import Derived.Test.YtipahfcaplbifaaGreatDoorQ08
import Derived.LaidEql
import Derived.Lib.QuietBelow
import Derived.Test.YtipahfcaplbifaaGreatDoorQ11
import Derived.Test.YtipahfcaplbifaaGreatDoorQ44
import Derived.Test.YtipahfcaplbifaaGreatDoorQ38
import Derived.Deep.RegionWith
import Derived.Test.YtipahfcaplbifaaGreatDoorQ46
import Derived.Test.YtipahfcaplbifaaGreatDoorQ09
import Derived.Test.YtipahfcaplbifaaGreatDoorQ45
import Derived.Test.YtipahfcaplbifaaGreatDoorQ02
import Derived.Test.YtipahfcaplbifaaGreatDoorRows
import Derived.ProofKit
import Derived.OpenShut
import Derived.ChangeOld
import Derived.Deep.Slices
import Derived.Deep.Fields
import Derived.Lib.SmallJoins
import Derived.BigQuiet
set_option linter.unusedVariables false
set_option linter.unusedSimpArgs false
set_option maxHeartbeats 60000000
set_option maxRecDepth 100000
namespace Go.Proofs.YtipahfcaplbifaaGreatDoor
namespace Prp
open Go.RowKit
section
variable {P:Program} (w:World)
end
theorem code_any (x:Int)(w:World)(hx:0≤x∧x≤16):Calls Tryz.prog 12 #[codeV x] w fun e w'=>e= .returned (.int .i64 x)∧w=w':=by
 by_cases h0:x=0
 ·subst h0;exact code_nil w
 ·rw[show codeV x= .iface 60 (.int .i64 x) from if_neg h0];exact code_k x w (by omega) (by omega)
end Prp
section
open Go.RowKit
theorem pub_sound {am:List (Int×List (Int×Int))}{ls:List Int}(h:pubK am ls=0):Cut.lsOk am∧premK am ls=0:=by
 unfold pubK at h
 split at h
 ·rename_i ha
  refine⟨fun i hi=> ?_,h⟩
  have:=List.all_eq_true.1 ha _ (List.getElem_mem hi)
  rw[List.getD_eq_getElem?_getD,List.getElem?_eq_getElem hi]
  exact this
 ·cases h
theorem pubL_zero {am:List (Int×List (Int×Int))}{ls:List Int}(h:pubK am ls=0):pubL am ls=ls.map (oppA am):=by unfold pubL;rw[if_pos h]
theorem pubL_not {am:List (Int×List (Int×Int))}{ls:List Int}(h:pubK am ls≠0):pubL am ls=[]:=by unfold pubL;rw[if_neg h]
theorem pubK_in (am:List (Int×List (Int×Int)))(ls:List Int):0≤pubK am ls∧pubK am ls≤16:=by
 unfold pubK
 split
 ·have:=premK_in am ls;omega
 ·omega
theorem opp_len (am:List (Int×List (Int×Int)))(x:Int):(oppA am x).2.length=(atA am x).2.length:=by
 unfold oppA
 split
 ·rfl
 ·exact scale_len _ _
theorem pubL_at {am:List (Int×List (Int×Int))}{ls:List Int}(h:pubK am ls=0){i:Nat}(hi:i<ls.length):(pubL am ls).getD i (0,[])=oppA am (ls.getD i 0):=by
 rw[pubL_zero h]
 simp[List.getD_eq_getElem?_getD,hi]
theorem pub_atom {am:List (Int×List (Int×Int))}{ls:List Int}(h:pubK am ls=0){i:Nat}(hi:i<ls.length):inA am.length (ls.getD i 0)=true∧nearA am (ls.getD i 0)=true∧snd (atA am (ls.getD i 0)).1 (atA am (ls.getD i 0)).2=true:=by
 obtain⟨hok,h0⟩:=pub_sound h
 obtain⟨p1,p2,_⟩:=premK_zero h0
 have hin:=p1 _ (getD_in hi)
 refine⟨hin,p2 _ (getD_in hi), ?_⟩
 have h3:=of_decide_eq_true hin
 exact hok _ (by omega)
theorem pubL_len {am:List (Int×List (Int×Int))}{ls:List Int}(i:Nat)(hi:i<(pubL am ls).length):((pubL am ls).getD i (0,[])).2.length≤64:=by
 by_cases h:pubK am ls=0
 ·have hi2:i<ls.length:=by rwa [pubL_zero h,List.length_map]at hi
  rw[pubL_at h hi2,opp_len]
  exact(snd_iff.1 (pub_atom h hi2).2.2).2.1
 ·rw[pubL_not h]at hi;exact absurd hi (Nat.not_lt_zero _)
def PubEnd (B:Nat)(am:List (Int×List (Int×Int)))(ls:List Int)(w:World)(e:Ending)(w':World):Prop:=
 ∃a n cap,e= .returned (.tuple #[.slice a n cap,codeV (pubK am ls)])∧(pubL am ls).length=n∧Cut.LLies w'.heap.size w' a (pubL am ls)∧Below B w w'
theorem pub_bad {B:Nat}{am:List (Int×List (Int×Int))}{ls:List Int}{w W:World}{j:Nat}(hj:j<am.length)(h:snd (am.getD j (0,[])).1 (am.getD j (0,[])).2=false)(hb:Below B w W):PubEnd B am ls w (.returned (.tuple #[.slice none 0 0,.iface 60 (.int .i64 5)])) W:=by
 have h5:=pubK_bad (ls:=ls) hj h
 have hn:pubL am ls=[]:=pubL_not (by rw[h5];decide)
 exact⟨none,0,0,by rw[h5];unfold codeV;rw[if_neg (by decide)],by rw[hn];rfl,by rw[hn];exact fun i hi=>absurd hi (Nat.not_lt_zero _),hb⟩
theorem pub_of {B:Nat}{am:List (Int×List (Int×Int))}{ls:List Int}{w W W':World}{e:Ending}(hok:Cut.lsOk am)(hb:Below B w W)(hB:B≤W.heap.size)(h:PremEnd W.heap.size am ls W e W'):PubEnd B am ls w e W':=by
 obtain⟨v,xs,rfl,hr,hf,hbl⟩:=h
 obtain⟨a,cap,rfl,hl⟩:=hr.llies
 refine⟨a,xs.length,cap,by rw[pubK_ok hok], ?_, ?_,hb.trans (hbl.mono hB)⟩
 ·rw[pubL_ok hok,←hf,Cut.lforms_len]
 ·rw[pubL_ok hok,←hf];exact hl
theorem pub_any (aa:Option Addr)(an acap:Nat)(am:List (Int×List (Int×Int)))(la:Option Addr)(n lcap:Nat)(ls:List Int)(w:World)(han:am.length=an)(ham:an≤1000000)(hla:Cut.LLies w.heap.size w aa am)(hlm:∀i,i<an→(am.getD i (0,[])).2.length≤9223372036854775807)(hln:ls.length=n)(hln2:n≤1000000)(hll:Nums w.heap.size w la ls):
 Calls Tryz.prog 9 #[.slice aa an acap,.slice la n lcap] w (PubEnd w.heap.size am ls w):=by
 have n1:=fun t v W=>Cut.Tryz.neIface t v W
 have n0:=fun W=>Tryz.neNil W
 have HPR:=Lib.hid (fun(hok:Cut.lsOk am) W (hb:Below w.heap.size w W)=>prem_any aa an acap am la n lcap ls W han ham ((hla.below hb).mono hb.size) hok hln hln2 ((hll.below hb).mono hb.size))
 have HLA:=Lib.hid hla
 have HLM:=Lib.hid hlm
 have HAN:=Lib.hid han
 clear hla hll han hln hlm
 go_enter Tryz.func9,Tryz.ntmps9
 go_wp2_with fail
 go_loopw [10] (fun i wr=>∃k:Nat,k≤an∧i= .int .i64 k∧Hid (∀j,j<k→snd (am.getD j (0,[])).1 (am.getD j (0,[])).2=true)∧Hid (Below w.heap.size w wr)) (fun i _=>an - (intOf i).toNat)
 case atStart=>exact⟨0,Nat.zero_le _,rfl,fun j hj=>absurd hj (Nat.not_lt_zero _),Below.refl _ _⟩
 case round=>
  obtain⟨k,hk,rfl,hok,hb⟩:=hrel
  obtain⟨wo,rfl⟩:∃wo:World,wo=wr:=⟨_,rfl⟩
  by_cases hlt:k<an
  ·obtain⟨b,off,ta,tcap,rfl,hbl,c0,c1,hli⟩:=HLA.out k (by rw[HAN.out];exact hlt)
   have hbel:=hb.out
   rw[←hbel.cell (p:=⟨b,_,none⟩) hbl]at c0 c1
   have hlm:=HLM.out k hlt
   have HBD:Hid (snd (am.getD k (0,[])).1 (am.getD k (0,[])).2=false→∀W,Below w.heap.size w W→PubEnd w.heap.size am ls w (.returned (.tuple #[.slice none 0 0,.iface 60 (.int .i64 5)])) W):=fun h W hb=>pub_bad (by rw[HAN.out];exact hlt) h hb
   have HOK:Hid (snd (am.getD k (0,[])).1 (am.getD k (0,[])).2=true→∀j,j<k+1→snd (am.getD j (0,[])).1 (am.getD j (0,[])).2=true):=fun h j hj=>by
    by_cases e:j=k
    ·subst e;exact h
    ·exact hok.out j (by omega)
   have hz:=hbel.size
   generalize (am.getD k (0,[])).1=c at*
   generalize (am.getD k (0,[])).2=t at*
   have HLI2:=Lib.hid hli
   clear hli
   have hbp:Below wo.heap.size wo (wo.alloc (.cells #[.int .i64 c,.slice ta t.length tcap] 36)):=(Below.refl _ wo).alloc (Nat.le_refl _) _
   have BP:Hid (Below w.heap.size w (wo.alloc (.cells #[.int .i64 c,.slice ta t.length tcap] 36))):=hbel.trans (hbp.mono hz)
   have PZ:Hid ((wo.alloc (.cells #[.int .i64 c,.slice ta t.length tcap] 36)).heap[wo.heap.size]? =some (.cells #[.int .i64 c,.slice ta t.length tcap] 36 (0,0))):=heap_alloc_new wo _
   clear hbp
   by_cases hsn:snd c t=true
   ·have HCK:=Lib.hid (fun W (hb:Below w.heap.size w W)=>check_yes c ta t.length tcap t W rfl ((HLI2.out.below hb).mono hb.size) hsn)
    have HO2:=Lib.hid (HOK.out hsn)
    clear HOK HBD hsn
    go_wp2_with fail
    generalize hW1:wo.alloc (.cells #[.int .i64 c,.slice ta t.length tcap] 36)=wp at BP PZ⊢
    clear hW1
    have p0:wp.cell? ⟨wo.heap.size,0,none⟩=some (.int .i64 c):=by rw[cell_of_row _ _ _ _ _ _ PZ.out];rfl
    have p1:wp.cell? ⟨wo.heap.size,1,none⟩=some (.slice ta t.length tcap):=by rw[cell_of_row _ _ _ _ _ _ PZ.out];rfl
    clear c0 c1 PZ hbel hb
    go_wp2_with fail
    refine(HCK.out _ BP.out).mono ?_
    rintro e w2 ⟨rfl,hb2⟩
    have B2:=Lib.hid (BP.out.trans (hb2.mono BP.out.size))
    clear hb2 p0 p1 BP HCK
    go_wp2_with fail
    go_roundw
    case rel=>exact⟨k+1,by omega,by go_num,HO2,B2⟩
    case measure=>simp[intOf];omega
   ·rw[Bool.not_eq_true]at hsn
    have HCK:=Lib.hid (fun W (hb:Below w.heap.size w W)=>check_no c ta t.length tcap t W rfl hlm ((HLI2.out.below hb).mono hb.size) hsn)
    have HE:=Lib.hid (HBD.out hsn)
    clear HOK HBD hsn
    go_wp2_with fail
    generalize hW1:wo.alloc (.cells #[.int .i64 c,.slice ta t.length tcap] 36)=wp at BP PZ⊢
    clear hW1
    have p0:wp.cell? ⟨wo.heap.size,0,none⟩=some (.int .i64 c):=by rw[cell_of_row _ _ _ _ _ _ PZ.out];rfl
    have p1:wp.cell? ⟨wo.heap.size,1,none⟩=some (.slice ta t.length tcap):=by rw[cell_of_row _ _ _ _ _ _ PZ.out];rfl
    clear c0 c1 PZ hbel hb
    go_wp2_with fail
    refine(HCK.out _ BP.out).mono ?_
    rintro e w2 ⟨rfl,hb2⟩
    have B2:=Lib.hid (BP.out.trans (hb2.mono BP.out.size))
    clear hb2 p0 p1 BP HCK
    go_wp2_with fail
    go_ret2
    exact HE.out _ B2.out
  ·obtain rfl:k=an:=by omega
   have HOK:Hid (Cut.lsOk am):=fun j hj=>hok.out j (by rw[HAN.out]at hj;exact hj)
   have HB:=hb
   clear hok hb HLM HLA
   go_wp2_with fail
   refine(HPR.out HOK.out _ HB.out).mono ?_
   intro e w2 hend
   have HE:=Lib.hid (pub_of HOK.out HB.out HB.out.size hend)
   clear hend
   obtain⟨v,xs,cap,rfl,hL,hr,hbl⟩:=HE.out
   clear hL hr hbl
   go_wp2_with fail
   go_ret2
   exact HE.out
end
section
open Go.RowKit
theorem forms_eq {ls ms:List (Int×List (Int×Int))}(hl:ls.length=ms.length)(h:∀i,i<ls.length→ls.getD i (0,[])=ms.getD i (0,[])):ls=ms:=by
 refine List.ext_getElem hl fun i h1 h2=> ?_
 have:=h i h1
 simpa [List.getD_eq_getElem?_getD,h1,h2]using this
theorem same_iff2 {c d:Int}{l m:List (Int×Int)}:same c d l m=true↔(c,l)=(d,m):=by
 unfold same
 simp
theorem rsames_any (a:Option Addr)(n cap:Nat)(ls:List (Int×List (Int×Int)))(b:Option Addr)(m capb:Nat)(ms:List (Int×List (Int×Int)))(w:World)(hn:ls.length=n)(hm:ms.length=m)(hnm:n≤9223372036854775807)(hmm:m≤9223372036854775807)
 (hl:LLies w.heap.size w a ls) (hlm:∀i,i<n→(ls.getD i (0,[])).2.length≤9223372036854775807) (hk:LLies w.heap.size w b ms) (hkm:∀i,i<m→(ms.getD i (0,[])).2.length≤9223372036854775807):
 Calls Tryz.prog 11 #[.slice a n cap,.slice b m capb] w fun e w'=>e= .returned (.bool (decide (ls=ms)))∧Below w.heap.size w w':=by
 by_cases hnn:n=m
 ·subst hnn
  have HS:Hid (∀r:Bool,(r=true↔∀i,i<n→ls.getD i (0,[])=ms.getD i (0,[]))→decide (ls=ms)=r):=fun r hr=>by
   rw[Bool.eq_iff_iff,hr]
   simp only[decide_eq_true_eq]
   exact⟨fun h i _=>by rw[h],fun h=>forms_eq (by omega) (fun i hi=>h i (by omega))⟩
  have HN:=Lib.hid hn
  have HM:=Lib.hid hm
  have HL:=Lib.hid hl
  have HK:=Lib.hid hk
  have HLM:=Lib.hid hlm
  have HKM:=Lib.hid hkm
  generalize decide (ls=ms)=R at HS⊢
  clear hn hm hl hk hlm hkm
  go_enter Tryz.func11,Tryz.ntmps11
  go_wp2_with fail
  go_loopw [5] (fun i wr=>∃k:Nat,k≤n∧i= .int .i64 k∧Hid (∀j,j<k→ls.getD j (0,[])=ms.getD j (0,[]))∧Hid (Below w.heap.size w wr)) (fun i _=>n - (intOf i).toNat)
  case atStart=>exact⟨0,Nat.zero_le _,rfl,fun j hj=>absurd hj (Nat.not_lt_zero j),Below.refl _ _⟩
  case round=>
   obtain⟨k,hk',rfl,hok,hb⟩:=hrel
   by_cases hlt:k<n
   ·obtain⟨ab,aoff,ta,tcap,rfl,hab,a1,a2,hla⟩:=HL.out k (by rw[HN.out];exact hlt)
    obtain⟨bb,boff,tb,tcapb,rfl,hbb,b1,b2,hlb⟩:=HK.out k (by rw[HM.out];exact hlt)
    rw[←hb.out.cell (p:=⟨ab,_,none⟩) hab]at a1 a2
    rw[←hb.out.cell (p:=⟨bb,_,none⟩) hbb]at b1 b2
    have hl1:=HLM.out k hlt
    have hl2:=HKM.out k hlt
    have hdec:Hid (same (ls.getD k (0,[])).1 (ms.getD k (0,[])).1 (ls.getD k (0,[])).2 (ms.getD k (0,[])).2=true↔ls.getD k (0,[])=ms.getD k (0,[])):=same_iff2
    have HNO:Hid (ls.getD k (0,[])≠ms.getD k (0,[])→R=false):=fun h=>HS.out false ⟨fun h=>absurd h (by decide),fun h2=>absurd (h2 k hlt) h⟩
    have HYES:Hid (ls.getD k (0,[])=ms.getD k (0,[])→∀j,j<k+1→ls.getD j (0,[])=ms.getD j (0,[])):=fun h j hj=>by
     by_cases e:j=k
     ·subst e;exact h
     ·exact hok.out j (by omega)
    obtain⟨z1,hz1⟩:∃z,z=ls.getD k (0,[]):=⟨_,rfl⟩
    obtain⟨z2,hz2⟩:∃z,z=ms.getD k (0,[]):=⟨_,rfl⟩
    rw[←hz1]at a1 a2 hla hl1 hdec HNO HYES
    rw[←hz2]at b1 b2 hlb hl2 hdec HNO HYES
    obtain⟨c,t⟩:=z1
    obtain⟨d,u⟩:=z2
    clear hz1 hz2
    simp only at a1 a2 b1 b2 hla hlb hl1 hl2
    have HC:=Lib.hid (fun W (hb:Below w.heap.size w W)=>same_any c d ta tb t.length u.length tcap tcapb t u W rfl rfl hl1 hl2 ((hla.below hb).mono hb.size) ((hlb.below hb).mono hb.size))
    have HBD:Hid (Below w.heap.size w wr.drew):=hb.out.drew
    clear hla hlb hl1 hl2
    by_cases e:same c d t u=true
    ·rw[e]at HC
     have HY:Hid (∀j,j<k+1→ls.getD j (0,[])=ms.getD j (0,[])):=HYES.out (hdec.out.1 e)
     clear e HNO HYES hdec
     go_wp2_with fail
     go_region_with (go_at_call 27;refine(HC.out _ HBD.out).mono ?_;rintro e w4 ⟨rfl,hb4⟩;have HB4:=Lib.hid (HBD.out.trans (hb4.mono HBD.out.size));clear hb4)
     all_goals
      clear a1 a2 b1 b2
      go_wp2_with fail
      refine⟨⟨k+1,by omega,by go_num,HY,HB4⟩,by simp[intOf];omega⟩
    ·have HF:=Lib.hid (HNO.out (fun h=>e (hdec.out.2 h)))
     rw[Bool.not_eq_true]at e
     rw[e]at HC
     clear e HNO HYES hdec
     go_wp2_with fail
     go_region_with (go_at_call 27;refine(HC.out _ HBD.out).mono ?_;rintro e w4 ⟨rfl,hb4⟩;have HB4:=Lib.hid (HBD.out.trans (hb4.mono HBD.out.size));clear hb4)
     all_goals
      clear a1 a2 b1 b2
      go_wp2_with fail
      go_ret
      exact⟨ret_bool HF.out.symm,HB4.out⟩
   ·have HF:=Lib.hid (HS.out true ⟨fun _ i hi=>hok.out i (by omega),fun _=>rfl⟩)
    go_wp2_with fail
    go_ret
    exact⟨ret_bool HF.out.symm,hb.out⟩
 ·have hnn':((n:Int) != (m:Int))=true:=by simp;omega
  have HS:Hid (decide (ls=ms)=false):=decide_eq_false (fun h=>hnn (by rw[←hn,←hm,h]))
  clear hn hm hl hk
  go_enter Tryz.func11,Tryz.ntmps11
  go_wp2_with fail
  go_ret
  exact⟨ret_bool HS.out.symm,Below.refl _ _⟩
end
section
open Go.RowKit
structure GivenP (aa:Option Addr)(an:Nat)(am:List (Int×List (Int×Int)))(la:Option Addr)(n:Nat)(ls:List Int)(w:World):Prop where
 ean:am.length=an
 a:Cut.LLies w.heap.size w aa am
 am63:∀i,i<an→(am.getD i (0,[])).2.length≤9223372036854775807
 en:ls.length=n
 l:Nums w.heap.size w la ls
theorem GivenP.below {aa:Option Addr}{an:Nat}{am:List (Int×List (Int×Int))}{la:Option Addr}{n:Nat}{ls:List Int}{w W:World}(h:GivenP aa an am la n ls w)(hb:Below w.heap.size w W):GivenP aa an am la n ls W:=
 ⟨h.ean,(h.a.below hb).mono hb.size,h.am63,h.en,(h.l.below hb).mono hb.size⟩
theorem certPremises_any (hup:UpSaid10)(aa:Option Addr)(an acap:Nat)(am:List (Int×List (Int×Int)))(la:Option Addr)(n lcap:Nat)(ls:List Int)(w:World)(h:GivenP aa an am la n ls w)(ht:Tens w.heap.size w)(hg:Prp.Laid0 w):
 Calls Tryz.prog 3 #[.slice aa an acap,.slice la n lcap] w fun e w'=>e= .returned (.bool true)∧Below w.heap.size w w':=by
 have HUP:=Lib.hid (hup w ht hg)
 have hK:=fun W (hb:Below w.heap.size w W)=>h.below hb
 have HPU:=Lib.hid (fun(h1:an≤1000000) (h2:n≤1000000) W (hb:Below w.heap.size w W)=>pub_any aa an acap am la n lcap ls W (hK W hb).ean h1 (hK W hb).a (hK W hb).am63 (hK W hb).en h2 (hK W hb).l)
 have HRP:=Lib.hid (fun(h1:an≤1000000) (h2:n≤1000000) W (hb:Below w.heap.size w W)=>rprem_any aa an acap am la n lcap ls W (hK W hb).ean h1 (hK W hb).a (hK W hb).am63 (hK W hb).en h2 (hK W hb).l)
 have HLE:Hid ((pubL am ls).length≤n):=by
  show _≤_
  by_cases h0:pubK am ls=0
  ·rw[pubL_zero h0,List.length_map];exact Nat.le_of_eq h.en
  ·rw[pubL_not h0];exact Nat.zero_le _
 have HCO:Hid (∀W:World,Calls Tryz.prog 12 #[codeV (pubK am ls)] W fun e w'=>e= .returned (.int .i64 (pubK am ls))∧W=w'):=fun W=>Prp.code_any (pubK am ls) W (pubK_in am ls)
 have HLN:=Lib.hid (fun i (hi:i<(pubL am ls).length)=>pubL_len i hi)
 clear hup ht hg hK h
 go_enter Tryz.func3,Tryz.ntmps3
 go_wp2_with fail
 refine HUP.out.mono ?_
 rintro e w1 ⟨rfl,hb1⟩
 have B1:=Lib.hid hb1
 clear hb1 HUP
 by_cases h1:200<an
 ·clear HPU HRP HLE HCO HLN
  go_wp2_with fail
  go_ret
  exact⟨rfl,B1.out⟩
 ·by_cases h2:1000<n
  ·clear HPU HRP HLE HCO HLN
   go_wp2_with fail
   go_ret
   exact⟨rfl,B1.out⟩
  ·go_wp2_with fail
   refine(HPU.out (by omega) (by omega) _ B1.out).mono ?_
   rintro e w2 ⟨a2,n2,cap2,rfl,hn2,hl2,hb2⟩
   have B2:=Lib.hid (B1.out.trans (hb2.mono B1.out.size))
   have HL2:=Lib.hid hl2
   have HN2:=Lib.hid hn2
   clear hb2 hl2 hn2 HPU
   go_wp2_with fail
   refine(HRP.out (by omega) (by omega) _ B2.out).mono ?_
   rintro e w3 ⟨v3,xs,rfl,hr,hf,hb3⟩
   obtain⟨a3,cap3,rfl,hl3⟩:=hr.llies
   have B3:=Lib.hid (B2.out.trans (hb3.mono B2.out.size))
   have hn3:xs.length=n2:=by rw[←Cut.lforms_len,hf];exact HN2.out
   have hle:n2≤n:=by rw[←HN2.out];exact HLE.out
   rw[hf]at hl3
   have HSM:=Lib.hid (rsames_any a2 n2 cap2 (pubL am ls) a3 n2 cap3 (pubL am ls) w3 HN2.out HN2.out (by omega) (by omega) ((HL2.out.below hb3).mono hb3.size) (fun i hi=>by have:=HLN.out i (by rw[HN2.out];exact hi);omega) hl3 (fun i hi=>by have:=HLN.out i (by rw[HN2.out];exact hi);omega))
   rw[decide_eq_true rfl]at HSM
   rw[hn3]
   clear hb3 hr hf hl3 hn3 HRP HL2 HN2 HLE HLN
   generalize codeV (pubK am ls)=ev at*
   generalize pubK am ls=x at*
   go_wp2_with fail
   refine HSM.out.mono ?_
   rintro e w4 ⟨rfl,hb4⟩
   have B4:=Lib.hid (B3.out.trans (hb4.mono B3.out.size))
   clear hb4 HSM
   go_wp2_with fail
   refine(HCO.out _).mono ?_
   rintro e w5 ⟨rfl,rfl⟩
   clear HCO
   go_wp2_with fail
   go_ret
   exact⟨by simp,B4.out⟩
end
section
open Go.ChangeShapes Go.WideShapes Go.RowKit Go.Deep
section
variable {H:Type} {enc:TypeId×Value→H} {P:Program} {w:World} {base:Nat} {spare:Nat→Bool} {held:Bool}
end
section
variable {H:Type} {enc:TypeId×Value→H} {w:World} {base:Nat} {spare:Nat→Bool} {held:Bool}
theorem open_nums {r:Reach}{b0:Nat}{v:Value}{d:DataW H}{p:List MemPlace}(hv:Value.okWide Tryz.prog w r b0 23 v)(h:DataW.Trod enc Tryz.prog w base spare held 23 v d p):
 ∃(a:Option Addr) (n cap:Nat) (zs:List Int),v= .slice a n cap∧zs.length=n∧n≤cap∧cap≤maxLen∧(∀i,i<zs.length→∃b off,a=some ⟨b,off,none⟩∧b<w.heap.size∧w.cell? ⟨b,off+i,none⟩=some (.int .i64 (zs.getD i 0)))∧∀m∈zs,(Lit.int .i64 m).wf=true:=by
 obtain⟨a,len,cap,rfl⟩:=okWide_slice Tryz.underlying23 hv
 obtain⟨fuel,hf⟩:=h
 rcases open_ints Tryz.underlying23 Tryz.underlying3 (by kernel_rfl) hf with ⟨hcs,_⟩ | ⟨x,l,c,zs,hcs,_,hl,hm,hz,_,hcell,hwz⟩
 ·simp[Value.cells]at hcs
  obtain⟨rfl,rfl,rfl⟩:=hcs
  exact⟨none,0,0,[],rfl,rfl,Nat.le_refl _,Nat.zero_le _,fun i hi=>absurd hi (Nat.not_lt_zero i),fun m hm=>by cases hm⟩
 ·simp[Value.cells]at hcs
  obtain⟨rfl,rfl,rfl⟩:=hcs
  have hz':len≤zs.length:=by rw[hz];split<;>omega
  clear hz
  refine⟨some x,len,cap,zs.take len,rfl,by simp;omega,hl,hm,fun i hi=> ?_,fun m hm=>hwz m (List.mem_of_mem_take hm)⟩
  have hi':i<len:=by rw[List.length_take]at hi;omega
  obtain⟨b,off,rfl,hc⟩:=ints_at hcell (by omega)
  have h1:=hc i (by omega)
  refine⟨b,off,rfl,by simpa using block_lt_of_cell h1, ?_⟩
  rw[h1]
  simp[List.getD_eq_getElem?_getD,hi']
end
end
section
open Go.ChangeShapes Go.WideShapes Go.ChangeAt Go.RowKit
def atomSh:Pak.Sh (Int×List (Int×Int)) where
 k:=2
 rel:=fun S w cs x=>∃v,cs=[.int .i64 x.1,v]∧Pak.Slot Pak.partSh S w v x.2
 len:=fun⟨v,h,_⟩=>by rw[h];rfl
 one:=fun⟨v,h,h2⟩ u hu=>by rw[h]at hu;simp at hu;rcases hu with rfl | rfl;rfl;exact h2.one
 keep:=fun hS hk ⟨v,h,h2⟩=>⟨v,h,h2.keep hS hk⟩
theorem llies_atoms {B:Nat}{w:World}{a:Option Addr}{am:List (Int×List (Int×Int))}(h:Pak.Sits atomSh (Pak.Lo B) w a am):Cut.LLies B w a am:=fun i hi=>by
 obtain⟨b,off,us,e,hb,hc,v,rfl,ta,tcap,rfl,hn⟩:=h.2 i hi
 have e1:atomSh.k=2:=rfl
 have c0:=hc 0 _ rfl
 have c1:=hc 1 _ rfl
 rw[e1,Nat.add_zero]at c0
 rw[e1]at c1
 rw[List.getD_eq_getElem?_getD,List.getElem?_eq_getElem hi,Option.getD_some]
 exact⟨b,off,ta,tcap,e,hb,c0,c1,lies_of_parts hn (fun b hb=>hb)⟩
section
variable {H:Type} {enc:TypeId×Value→H} {w:World} {base:Nat} {spare:Nat→Bool} {held:Bool}
theorem opn_mono:Pak.Opn enc w base spare held Pak.partSh 92:=fun h=>by
 obtain⟨c0,c1,y0,y1,n,rfl,h0,h1⟩:=Pak.two_fields Tryz.underlying92 (by kernel_rfl) ⟨rfl,by kernel_rfl⟩ ⟨rfl,by kernel_rfl⟩ h
 obtain⟨z0,e0,_,w0⟩:=DataW.trod_int Tryz.underlying3 h0
 obtain⟨z1,e1,_,w1⟩:=DataW.trod_int Tryz.underlying3 h1
 injection e0 with e0
 injection e1 with e1
 subst e0 e1
 exact⟨⟨z0,z1⟩,rfl,Pak.i64_of w0,Pak.i64_of w1⟩
theorem opn_atom:Pak.Opn enc w base spare held atomSh 36:=fun h=>by
 obtain⟨c0,c1,y0,y1,n,rfl,h0,h1⟩:=Pak.two_fields Tryz.underlying36 (by kernel_rfl) ⟨rfl,by kernel_rfl⟩ ⟨rfl,by kernel_rfl⟩ h
 obtain⟨z,e0,_,_⟩:=DataW.trod_int Tryz.underlying3 h0
 injection e0 with e0
 subst e0
 obtain⟨xs,hs⟩:=Pak.opn_slot (sh:=Pak.partSh) Tryz.underlying34 (by kernel_rfl) (by decide) opn_mono h1
 exact⟨⟨z,xs⟩,_,rfl,hs⟩
theorem open_atoms {r:Reach}{b0:Nat}{v:Value}{d:DataW H}{p:List MemPlace}(hv:Value.okWide Tryz.prog w r b0 22 v)(h:DataW.Trod enc Tryz.prog w base spare held 22 v d p):
 ∃aa an acap am,v= .slice aa an acap∧am.length=an∧Cut.LLies w.heap.size w aa am∧∀i,i<an→(am.getD i (0,[])).2.length≤9223372036854775807:=by
 obtain⟨a,len,cap,rfl⟩:=okWide_slice Tryz.underlying22 hv
 obtain⟨fuel,hf⟩:=h
 obtain⟨a',cap',xs,e,hs,hl,hm,_⟩:=Pak.open_row (sh:=atomSh) (x:=(d,p)) Tryz.underlying22 (by kernel_rfl) (by decide) opn_atom hf
 refine⟨a',xs.length,cap',xs,by simpa [Value.cells]using e,rfl,llies_atoms hs,fun i hi=> ?_⟩
 obtain⟨b,off,us,_,_,_,v,rfl,ta,tcap,rfl,hn⟩:=hs.2 i hi
 have:=hn.1
 rwa [List.getD_eq_getElem?_getD,List.getElem?_eq_getElem hi,Option.getD_some]
end
end
section
open Go.ChangeShapes Go.WideShapes Go.ChangeAt Go.RowKit
theorem certPremises_lifted (hup:UpSaid10)(os:Os)(started:os.Started)(H:Type)(enc:TypeId×Value→H):
 ReturnsInHanded {} Tryz.checked os 3 .any (fun w args=>(Rows.certPremisesSpec.pre enc Tryz.prog Tryz.f3 [] false w args∧laidMetH Tryz.prog laidL w)∧sizedMet enc Tryz.prog Tryz.f3 (OpenSpec.ofChange Rows.certPremisesSpec) false w args)
  (Rows.certPremisesSpec.post enc Tryz.prog Tryz.f3 false true false false):=by
 refine returnsInHanded_of_change_and (C:=Tryz.checked) (X:=fun w _=>laidMetH Tryz.prog laidL w) (fun _ _ _ hh h=>h.of_heap hh) Tryz.own started (by kernel_rfl) Tryz.func3
  (ChangeSpec.witness_at (enc:=enc) (C:=Tryz.checked) (os:=os) (X:=fun w _=>laidMetH Tryz.prog laidL w) false (laidWorld os) #[.slice none 0 0,.slice none 0 0] 8 rfl (by kernel_rfl) (by kernel_rfl) (by kernel_rfl) (by kernel_rfl) (by kernel_rfl) (laidWorld_met os _)) ?_
 intro W base args ds gs before hval0 hW _ _ hL _
 have hval:∀(j:Nat) t v,Tryz.f3.params[j]? =some t→args[j]? =some v→Value.okWide Tryz.prog W .any base t v:=hval0
 have hW':=hW
 obtain⟨p,q,hA0,hV,rfl,hfz,hnd⟩:=hW
 have hA:DataW.TrodAll enc Tryz.prog W 0 (fun _=>true) true Tryz.f3.params.toList args.toList ds p:=hA0
 rw[Tryz.params3]at hA hval
 obtain⟨v0,vs0,d0,ds0,p0,q0,hargs,rfl,rfl,h0,r0⟩:=trodAll_cons hA
 obtain⟨v1,vs1,d1,ds1,p1,q1,rfl,rfl,rfl,h1,r1⟩:=trodAll_cons r0
 obtain⟨rfl,rfl,rfl⟩:=trodAll_nil r1
 obtain rfl:args= #[v0,v1]:=by cases args;simp_all
 obtain⟨rfl,rfl⟩:=trodVars_none hV
 have k0:=h0
 have lt0:∀x∈p0,x.block<W.heap.size:=by obtain⟨m,hm⟩:=k0;exact DataW.trod_lt m _ _ _ hm
 have k1:=h1
 have lt1:∀x∈p1,x.block<W.heap.size:=by obtain⟨m,hm⟩:=k1;exact DataW.trod_lt m _ _ _ hm
 obtain⟨aa,an,acap,am,rfl,ean,hla,ham⟩:=open_atoms (hval 0 22 v0 rfl rfl) h0
 obtain⟨a1,n1,cap1,ls,rfl,hl1,hx1,hcap1,hnums1,hwf1⟩:=open_nums (hval 1 23 v1 rfl rfl) h1
 have hm1:n1≤9223372036854775807:=by unfold maxLen at hcap1;omega
 have hg:=handle_of_laid hL
 clear hA0 hval0
 have ht:=tens_of_laid hL
 have hG:GivenP aa an am a1 n1 ls W:=⟨ean,hla,ham,hl1,hnums1⟩
 refine(certPremises_any hup aa an acap am a1 n1 cap1 ls W hG ht hg).mono fun e W' ⟨he,bel⟩=> ?_
 subst he
 exact⟨_,rfl,_,_,_,[],_,[],hW',trodAll_mk1 (shut_bool Tryz.underlying4 _),(trodAll_cons_mk (Below.trod Tryz.laidOut (by kernel_rfl) (of_decide_eq_true (by kernel_rfl)) k0 bel lt0) (trodAll_cons_mk (Below.trod Tryz.laidOut (by kernel_rfl) (of_decide_eq_true (by kernel_rfl)) k1 bel lt1) trodAll_mk0)),rfl,bel.frame _,fun h=>by cases h⟩
theorem certPremises_over (hup:UpSaid10):Rows.CertPremisesSaid:=
 OpenClaim.holds_of_wide 3 Tryz.f3 rfl rfl rfl rfl rfl rfl rfl ⟨rfl,rfl,rfl,rfl,rfl⟩ rfl rfl rfl rfl rfl (by kernel_rfl) Tryz.func3 (by kernel_rfl)
  (of_decide_eq_true (by kernel_rfl)) (by unfold Func.isWrapper;first | (rw[if_pos (by decide+kernel)];kernel_rfl) | (rw[if_neg (by decide+kernel)];exact⟨rfl,rfl⟩))
  (fun os started H enc _=>certPremises_lifted hup os started H enc)
end
end Go.Proofs.YtipahfcaplbifaaGreatDoor
