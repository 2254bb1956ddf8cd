/- Parts of a proof. -/
import Derived.Test.YtipahfcaplbifaaGreatDoorQ06
import Derived.Test.YtipahfcaplbifaaGreatDoorQ09
import Derived.Test.YtipahfcaplbifaaGreatDoorQ44
import Derived.Test.YtipahfcaplbifaaGreatDoorQ34
import Derived.Test.YtipahfcaplbifaaGreatDoorQ45
import Derived.Test.YtipahfcaplbifaaGreatDoorQ21
import Derived.Test.YtipahfcaplbifaaGreatDoorQ43
import Derived.Test.YtipahfcaplbifaaGreatDoorQ18
import Derived.Test.YtipahfcaplbifaaGreatDoorQ38
import Derived.Test.YtipahfcaplbifaaGreatDoorQ46
import Derived.Test.YtipahfcaplbifaaGreatDoorQ02
import Derived.Test.YtipahfcaplbifaaGreatDoorRows
import Derived.ProofKit
import Derived.OpenShut
import Derived.ChangeOld
import Derived.Deep.Slices
import Derived.Deep.Fields
import Derived.Lib.SmallJoins
import Derived.BigQuiet
set_option linter.unusedVariables false
set_option linter.unusedSimpArgs false
set_option maxHeartbeats 60000000
set_option maxRecDepth 100000
namespace Go.Proofs.YtipahfcaplbifaaGreatDoor
section
open Go.RowKit
def valOf (zs:List Int)(v:Int):Int:=if v<zs.length then zs.getD v.toNat 0 else 0
def sAt (c:Int)(l:List (Int×Int))(zs:List Int):Nat→Int
 | 0=>c
 | i+1=>sAt c l zs i+(l.getD i (0,0)).2*valOf zs (l.getD i (0,0)).1
def near (l:List (Int×Int))(zs:List Int)(i:Nat):Bool:=wi (valOf zs (l.getD i (0,0)).1) 16777216
theorem sAt_in (c:Int)(l:List (Int×Int))(zs:List Int)(hc: -1073741824≤c∧c≤1073741824):∀i,i≤64→(∀j,j<i→ -1073741824≤(l.getD j (0,0)).2∧(l.getD j (0,0)).2≤1073741824)→(∀j,j<i→near l zs j=true)→
 -(1073741824+i*18014398509481984:Int)≤sAt c l zs i∧sAt c l zs i≤1073741824+i*18014398509481984
 | 0,_,_,_=>by unfold sAt;omega
 | i+1,hi,hk,hx=>by
   have h1:=sAt_in c l zs hc i (by omega) (fun j hj=>hk j (by omega)) (fun j hj=>hx j (by omega))
   have h2:=hk i (by omega)
   have h3:=hx i (by omega)
   unfold near wi at h3
   have h3: -16777216≤valOf zs (l.getD i (0,0)).1∧valOf zs (l.getD i (0,0)).1≤16777216:=by simpa using h3
   have h4:((l.getD i (0,0)).2*valOf zs (l.getD i (0,0)).1).natAbs≤1073741824*16777216:=by
    rw[Int.natAbs_mul];exact Nat.mul_le_mul (by omega) (by omega)
   unfold sAt
   omega
end
section
open Go.RowKit
theorem pub_sound {am:List (Int×List (Int×Int))}{ls:List Int}(h:pubK am ls=0):Cut.lsOk am∧premK am ls=0:=by
 unfold pubK at h
 split at h
 ·rename_i ha
  refine⟨fun i hi=> ?_,h⟩
  have:=List.all_eq_true.1 ha _ (List.getElem_mem hi)
  rw[List.getD_eq_getElem?_getD,List.getElem?_eq_getElem hi]
  exact this
 ·cases h
theorem pubL_zero {am:List (Int×List (Int×Int))}{ls:List Int}(h:pubK am ls=0):pubL am ls=ls.map (oppA am):=by unfold pubL;rw[if_pos h]
theorem pubL_not {am:List (Int×List (Int×Int))}{ls:List Int}(h:pubK am ls≠0):pubL am ls=[]:=by unfold pubL;rw[if_neg h]
theorem pubL_at {am:List (Int×List (Int×Int))}{ls:List Int}(h:pubK am ls=0){i:Nat}(hi:i<ls.length):(pubL am ls).getD i (0,[])=oppA am (ls.getD i 0):=by
 rw[pubL_zero h]
 simp[List.getD_eq_getElem?_getD,hi]
theorem pub_atom {am:List (Int×List (Int×Int))}{ls:List Int}(h:pubK am ls=0){i:Nat}(hi:i<ls.length):inA am.length (ls.getD i 0)=true∧nearA am (ls.getD i 0)=true∧snd (atA am (ls.getD i 0)).1 (atA am (ls.getD i 0)).2=true:=by
 obtain⟨hok,h0⟩:=pub_sound h
 obtain⟨p1,p2,_⟩:=premK_zero h0
 have hin:=p1 _ (getD_in hi)
 refine⟨hin,p2 _ (getD_in hi), ?_⟩
 have h3:=of_decide_eq_true hin
 exact hok _ (by omega)
def PubEnd (B:Nat)(am:List (Int×List (Int×Int)))(ls:List Int)(w:World)(e:Ending)(w':World):Prop:=
 ∃a n cap,e= .returned (.tuple #[.slice a n cap,codeV (pubK am ls)])∧(pubL am ls).length=n∧Cut.LLies w'.heap.size w' a (pubL am ls)∧Below B w w'
theorem pub_bad {B:Nat}{am:List (Int×List (Int×Int))}{ls:List Int}{w W:World}{j:Nat}(hj:j<am.length)(h:snd (am.getD j (0,[])).1 (am.getD j (0,[])).2=false)(hb:Below B w W):PubEnd B am ls w (.returned (.tuple #[.slice none 0 0,.iface 60 (.int .i64 5)])) W:=by
 have h5:=pubK_bad (ls:=ls) hj h
 have hn:pubL am ls=[]:=pubL_not (by rw[h5];decide)
 exact⟨none,0,0,by rw[h5];unfold codeV;rw[if_neg (by decide)],by rw[hn];rfl,by rw[hn];exact fun i hi=>absurd hi (Nat.not_lt_zero _),hb⟩
theorem pub_of {B:Nat}{am:List (Int×List (Int×Int))}{ls:List Int}{w W W':World}{e:Ending}(hok:Cut.lsOk am)(hb:Below B w W)(hB:B≤W.heap.size)(h:PremEnd W.heap.size am ls W e W'):PubEnd B am ls w e W':=by
 obtain⟨v,xs,rfl,hr,hf,hbl⟩:=h
 obtain⟨a,cap,rfl,hl⟩:=hr.llies
 refine⟨a,xs.length,cap,by rw[pubK_ok hok], ?_, ?_,hb.trans (hbl.mono hB)⟩
 ·rw[pubL_ok hok,←hf,Cut.lforms_len]
 ·rw[pubL_ok hok,←hf];exact hl
theorem pub_any (aa:Option Addr)(an acap:Nat)(am:List (Int×List (Int×Int)))(la:Option Addr)(n lcap:Nat)(ls:List Int)(w:World)(han:am.length=an)(ham:an≤1000000)(hla:Cut.LLies w.heap.size w aa am)(hlm:∀i,i<an→(am.getD i (0,[])).2.length≤9223372036854775807)(hln:ls.length=n)(hln2:n≤1000000)(hll:Nums w.heap.size w la ls):
 Calls Tryz.prog 9 #[.slice aa an acap,.slice la n lcap] w (PubEnd w.heap.size am ls w):=by
 have n1:=fun t v W=>Cut.Tryz.neIface t v W
 have n0:=fun W=>Tryz.neNil W
 have HPR:=Lib.hid (fun(hok:Cut.lsOk am) W (hb:Below w.heap.size w W)=>prem_any aa an acap am la n lcap ls W han ham ((hla.below hb).mono hb.size) hok hln hln2 ((hll.below hb).mono hb.size))
 have HLA:=Lib.hid hla
 have HLM:=Lib.hid hlm
 have HAN:=Lib.hid han
 clear hla hll han hln hlm
 go_enter Tryz.func9,Tryz.ntmps9
 go_wp2_with fail
 go_loopw [10] (fun i wr=>∃k:Nat,k≤an∧i= .int .i64 k∧Hid (∀j,j<k→snd (am.getD j (0,[])).1 (am.getD j (0,[])).2=true)∧Hid (Below w.heap.size w wr)) (fun i _=>an - (intOf i).toNat)
 case atStart=>exact⟨0,Nat.zero_le _,rfl,fun j hj=>absurd hj (Nat.not_lt_zero _),Below.refl _ _⟩
 case round=>
  obtain⟨k,hk,rfl,hok,hb⟩:=hrel
  obtain⟨wo,rfl⟩:∃wo:World,wo=wr:=⟨_,rfl⟩
  by_cases hlt:k<an
  ·obtain⟨b,off,ta,tcap,rfl,hbl,c0,c1,hli⟩:=HLA.out k (by rw[HAN.out];exact hlt)
   have hbel:=hb.out
   rw[←hbel.cell (p:=⟨b,_,none⟩) hbl]at c0 c1
   have hlm:=HLM.out k hlt
   have HBD:Hid (snd (am.getD k (0,[])).1 (am.getD k (0,[])).2=false→∀W,Below w.heap.size w W→PubEnd w.heap.size am ls w (.returned (.tuple #[.slice none 0 0,.iface 60 (.int .i64 5)])) W):=fun h W hb=>pub_bad (by rw[HAN.out];exact hlt) h hb
   have HOK:Hid (snd (am.getD k (0,[])).1 (am.getD k (0,[])).2=true→∀j,j<k+1→snd (am.getD j (0,[])).1 (am.getD j (0,[])).2=true):=fun h j hj=>by
    by_cases e:j=k
    ·subst e;exact h
    ·exact hok.out j (by omega)
   have hz:=hbel.size
   generalize (am.getD k (0,[])).1=c at*
   generalize (am.getD k (0,[])).2=t at*
   have HLI2:=Lib.hid hli
   clear hli
   have hbp:Below wo.heap.size wo (wo.alloc (.cells #[.int .i64 c,.slice ta t.length tcap] 36)):=(Below.refl _ wo).alloc (Nat.le_refl _) _
   have BP:Hid (Below w.heap.size w (wo.alloc (.cells #[.int .i64 c,.slice ta t.length tcap] 36))):=hbel.trans (hbp.mono hz)
   have PZ:Hid ((wo.alloc (.cells #[.int .i64 c,.slice ta t.length tcap] 36)).heap[wo.heap.size]? =some (.cells #[.int .i64 c,.slice ta t.length tcap] 36 (0,0))):=heap_alloc_new wo _
   clear hbp
   by_cases hsn:snd c t=true
   ·have HCK:=Lib.hid (fun W (hb:Below w.heap.size w W)=>check_yes c ta t.length tcap t W rfl ((HLI2.out.below hb).mono hb.size) hsn)
    have HO2:=Lib.hid (HOK.out hsn)
    clear HOK HBD hsn
    go_wp2_with fail
    generalize hW1:wo.alloc (.cells #[.int .i64 c,.slice ta t.length tcap] 36)=wp at BP PZ⊢
    clear hW1
    have p0:wp.cell? ⟨wo.heap.size,0,none⟩=some (.int .i64 c):=by rw[cell_of_row _ _ _ _ _ _ PZ.out];rfl
    have p1:wp.cell? ⟨wo.heap.size,1,none⟩=some (.slice ta t.length tcap):=by rw[cell_of_row _ _ _ _ _ _ PZ.out];rfl
    clear c0 c1 PZ hbel hb
    go_wp2_with fail
    refine(HCK.out _ BP.out).mono ?_
    rintro e w2 ⟨rfl,hb2⟩
    have B2:=Lib.hid (BP.out.trans (hb2.mono BP.out.size))
    clear hb2 p0 p1 BP HCK
    go_wp2_with fail
    go_roundw
    case rel=>exact⟨k+1,by omega,by go_num,HO2,B2⟩
    case measure=>simp[intOf];omega
   ·rw[Bool.not_eq_true]at hsn
    have HCK:=Lib.hid (fun W (hb:Below w.heap.size w W)=>check_no c ta t.length tcap t W rfl hlm ((HLI2.out.below hb).mono hb.size) hsn)
    have HE:=Lib.hid (HBD.out hsn)
    clear HOK HBD hsn
    go_wp2_with fail
    generalize hW1:wo.alloc (.cells #[.int .i64 c,.slice ta t.length tcap] 36)=wp at BP PZ⊢
    clear hW1
    have p0:wp.cell? ⟨wo.heap.size,0,none⟩=some (.int .i64 c):=by rw[cell_of_row _ _ _ _ _ _ PZ.out];rfl
    have p1:wp.cell? ⟨wo.heap.size,1,none⟩=some (.slice ta t.length tcap):=by rw[cell_of_row _ _ _ _ _ _ PZ.out];rfl
    clear c0 c1 PZ hbel hb
    go_wp2_with fail
    refine(HCK.out _ BP.out).mono ?_
    rintro e w2 ⟨rfl,hb2⟩
    have B2:=Lib.hid (BP.out.trans (hb2.mono BP.out.size))
    clear hb2 p0 p1 BP HCK
    go_wp2_with fail
    go_ret2
    exact HE.out _ B2.out
  ·obtain rfl:k=an:=by omega
   have HOK:Hid (Cut.lsOk am):=fun j hj=>hok.out j (by rw[HAN.out]at hj;exact hj)
   have HB:=hb
   clear hok hb HLM HLA
   go_wp2_with fail
   refine(HPR.out HOK.out _ HB.out).mono ?_
   intro e w2 hend
   have HE:=Lib.hid (pub_of HOK.out HB.out HB.out.size hend)
   clear hend
   obtain⟨v,xs,cap,rfl,hL,hr,hbl⟩:=HE.out
   clear hL hr hbl
   go_wp2_with fail
   go_ret2
   exact HE.out
end
section
open Go.RowKit
theorem of_any (v:Int)(a:Option Addr)(n cap:Nat)(zs:List Int)(w:World)(hn:zs.length=n)(hm:n≤9223372036854775807)(hv:0≤v)(hz:Nums w.heap.size w a zs):
 Calls Tryz.prog 42 #[.slice a n cap,.int .i64 v] w fun e w'=>e= .returned (.int .i64 (valOf zs v))∧w=w':=by
 by_cases hlt:v<n
 ·obtain⟨i,rfl⟩:=Int.eq_ofNat_of_zero_le hv
  obtain⟨b,off,rfl,hb,hc⟩:=hz i (by omega)
  have hx2:valOf zs (i:Int)=zs.getD i 0:=by unfold valOf;rw[if_pos (by omega)];simp
  rw[hx2]
  generalize zs.getD i 0=x at hc⊢
  clear hz hn hx2
  go_enter Tryz.func42,Tryz.ntmps42
  go_wp2
  go_ret
  exact⟨rfl,rfl⟩
 ·have hx2:valOf zs v=0:=by unfold valOf;rw[if_neg (by omega)]
  rw[hx2]
  clear hz hn hx2
  go_enter Tryz.func42,Tryz.ntmps42
  go_wp2
  go_ret
  exact⟨rfl,rfl⟩
theorem sAt_eq (c:Int)(l:List (Int×Int))(zs:List Int)(k:Nat):sAt c l zs (k+1)=sAt c l zs k+valOf zs (l.getD k (0,0)).1*(l.getD k (0,0)).2:=by
 show sAt c l zs k+_*_=_
 rw[Int.mul_comm]
theorem val_mul {x k:Int}(hx: -16777216≤x∧x≤16777216)(hk: -1073741824≤k∧k≤1073741824): -18014398509481984≤x*k∧x*k≤18014398509481984:=by
 have h1:(x*k).natAbs≤16777216*1073741824:=by
  rw[Int.natAbs_mul];exact Nat.mul_le_mul (by omega) (by omega)
 omega
theorem rvalue_any (c:Int)(a:Option Addr)(n cap:Nat)(l:List (Int×Int))(a2:Option Addr)(n2 cap2:Nat)(zs:List Int)(w:World)(hn:l.length=n)(hn2:zs.length=n2)(hm2:n2≤9223372036854775807)(hl:Lies w.heap.size w a l)(hz:Nums w.heap.size w a2 zs)(hs:snd c l=true)
 (v r:Int) (hr:(v=sAt c l zs n∧r=0∧∀i,i<n→near l zs i=true)∨(v=0∧r=1∧¬ ∀i,i<n→near l zs i=true)):
 Calls Tryz.prog 18 #[.agg #[.int .i64 c,.slice a n cap],.slice a2 n2 cap2] w fun e w'=>e= .returned (.tuple #[.int .i64 v,.int .i64 r])∧Below w.heap.size w w':=by
 obtain⟨hwc,h64,hall⟩:=snd_iff.1 hs
 have hcb: -1073741824≤c∧c≤1073741824:=by unfold wi at hwc;simpa using hwc
 have hb0:Below w.heap.size w (w.alloc (.cells #[.int .i64 c,.slice a n cap] 36)):=(Below.refl _ w).alloc (Nat.le_refl _) _
 have hck:=rcheck_any c a n cap l _ hn (by omega) ((hl.below hb0).mono hb0.size)
 rw[hs]at hck
 have hn64:n≤64:=by omega
 have HB:=Lib.hid hb0
 have HN:=Lib.hid hn
 have HN2:=Lib.hid hn2
 have HL:=Lib.hid hl
 have HZ:=Lib.hid hz
 have HR:=Lib.hid hr
 have HK:=Lib.hid (fun j (hj:j<n)=>okAt_in (hall j (by omega)))
 have HSI:=Lib.hid (fun k (hk:k≤n) hx=>sAt_in c l zs hcb k (by omega) (fun j hj=>(okAt_in (hall j (by omega))).2.2.2.2) hx)
 clear hn hn2 hl hz hr hall hwc hb0 hs h64 hcb
 go_enter Tryz.func18,Tryz.ntmps18
 go_wp2_with (go_at_call 24;refine hck.mono ?_;rintro e w1 ⟨rfl,hb1⟩;obtain⟨hc1,hf1⟩:=bcell hb1;have hz1:w.heap.size<w1.heap.size:=(by have:=hb1.size;simp at this;omega))
 have B1:=Lib.hid (HB.out.trans (hb1.mono (by simp)))
 have a0:w1.cell? ⟨w.heap.size,1,none⟩=some (.slice a n cap):=by rw[hc1 _ _ (by simp)];simp
 clear hc1 hf1 hb1 hck
 go_loop [7,8,9] (fun s i _=>∃k:Nat,k≤n∧i= .int .i64 k∧s= .int .i64 (sAt c l zs k)∧Hid (∀j,j<k→near l zs j=true)) (fun _ i _=>n - (intOf i).toNat)
 case atStart=>exact⟨0,Nat.zero_le _,rfl,rfl,fun j hj=>absurd hj (Nat.not_lt_zero j)⟩
 case round=>
  obtain⟨k,hk,rfl,rfl,hok⟩:=hrel
  by_cases hlt:k<n
  ·obtain⟨b,off,rfl,hblt,c1,c2⟩:=(HL.out.below B1.out) k (by rw[HN.out];exact hlt)
   have hkk:=HK.out k hlt
   have hof:=of_any (l.getD k (0,0)).1 a2 n2 cap2 zs w1 HN2.out hm2 hkk.2.2.1 ((HZ.out.below B1.out).mono B1.out.size)
   have hss:=HSI.out k hk (fun j hj=>hok.out j hj)
   have hst:=sAt_eq c l zs k
   by_cases hx:near l zs k=true
   ·have hok2:Hid (∀j,j<k+1→near l zs j=true):=fun j hj=>by
     by_cases ej:j=k
     ·rw[ej];exact hx
     ·exact hok.out j (by omega)
    have hxb: -16777216≤valOf zs (l.getD k (0,0)).1∧valOf zs (l.getD k (0,0)).1≤16777216:=by unfold near wi at hx;simpa using hx
    have hm:=val_mul hxb hkk.2.2.2.2
    have HST:=Lib.hid hst
    clear hst hx hkk
    generalize hX:valOf zs (l.getD k (0,0)).1=X at hof hxb hm HST
    generalize (l.getD k (0,0)).1=v at c1 hof
    generalize (l.getD k (0,0)).2=u at c2 hm HST
    generalize hS:sAt c l zs k=S at hss HST
    clear hX hS
    go_wp2_with (go_at_call 42;refine hof.mono ?_;rintro e w' ⟨rfl,rfl⟩)
    go_round
    case rel=>exact⟨k+1,by omega,by go_num,by rw[HST.out],hok2⟩
    case measure=>simp[intOf];omega
   ·have HF:Hid (v=0∧r=1):=by
     rcases HR.out with ⟨_,_,h3⟩ | ⟨h1,h2,_⟩
     ·exact absurd (h3 k hlt) hx
     ·exact⟨h1,h2⟩
    have hxb:¬(-16777216≤valOf zs (l.getD k (0,0)).1∧valOf zs (l.getD k (0,0)).1≤16777216):=fun h=>hx (by unfold near;exact wi_t h)
    clear hst hx hkk
    generalize hX:valOf zs (l.getD k (0,0)).1=X at hof hxb
    generalize (l.getD k (0,0)).1=v at c1 hof
    clear hX
    obtain⟨rfl,rfl⟩:=HF.out
    by_cases hlo:X< -16777216
    ·go_wp2_with (go_at_call 42;refine hof.mono ?_;rintro e w' ⟨rfl,rfl⟩)
     go_ret2
     exact⟨rfl,B1.out⟩
    ·have hhi:16777216<X:=by omega
     go_wp2_with (go_at_call 42;refine hof.mono ?_;rintro e w' ⟨rfl,rfl⟩)
     go_ret2
     exact⟨rfl,B1.out⟩
  ·have hkn:n=k:=by omega
   have HF:Hid (v=sAt c l zs k∧r=0):=by
    rcases HR.out with ⟨h1,h2,_⟩ | ⟨_,_,h3⟩
    ·rw[hkn]at h1;exact⟨h1,h2⟩
    ·exact absurd (fun i hi=>hok.out i (by omega)) h3
   clear hkn HR
   obtain⟨rfl,rfl⟩:=HF.out
   clear HF
   go_wp2
   go_ret2
   exact⟨rfl,B1.out⟩
end
namespace Cut
open Go.RowKit Go.Maps
def evl (zs:List Int)(l:List (Int×Int)):Int:=(l.map fun m=>m.2*valOf zs m.1).sum
theorem evl_nil (zs:List Int):evl zs []=0:=rfl
theorem evl_cons (zs:List Int)(m:Int×Int)(l:List (Int×Int)):evl zs (m :: l)=m.2*valOf zs m.1+evl zs l:=by simp[evl]
theorem evl_append (zs:List Int)(l r:List (Int×Int)):evl zs (l ++ r)=evl zs l+evl zs r:=by simp[evl,List.sum_append]
theorem sAt_evl (c:Int)(l:List (Int×Int))(zs:List Int):∀k,k≤l.length→sAt c l zs k=c+evl zs (l.take k)
 | 0,_=>by simp[sAt,evl]
 | k+1,hk=>by
   rw[take_snoc l k (by omega),evl_append,evl_cons,evl_nil]
   unfold sAt
   rw[sAt_evl c l zs k (by omega)]
   omega
def fval (zs:List Int)(l:Int×List (Int×Int)):Int:=l.1+evl zs l.2
theorem fval_sAt (zs:List Int)(c:Int)(l:List (Int×Int)):sAt c l zs l.length=fval zs (c,l):=by
 rw[sAt_evl c l zs _ (Nat.le_refl _),List.take_length];rfl
end Cut
section
open Go.RowKit
theorem sAt_plus (c:Int)(l:List (Int×Int))(zs:List Int):∀k,sAt c l zs k=c+sAt 0 l zs k
 | 0=>by show c=c+0;omega
 | k+1=>by rw[sAt_eq,sAt_eq,sAt_plus c l zs k,Int.add_assoc]
theorem sAt_neg (l:List (Int×Int))(zs:List Int):∀k,k≤l.length→sAt 0 (scale (-1) l) zs k= - sAt 0 l zs k
 | 0,_=>rfl
 | k+1,hk=>by
   rw[sAt_eq,sAt_eq,sAt_neg l zs k (by omega),scale_get (-1) l k (by omega)]
   show -sAt 0 l zs k+valOf zs (l.getD k (0,0)).1*(-1*(l.getD k (0,0)).2)=_
   rw[Int.neg_mul,Int.one_mul,Int.mul_neg]
   omega
end
section
open Go.RowKit
theorem fval_opp (zs:List Int)(am:List (Int×List (Int×Int)))(x:Int):Cut.fval zs (oppA am x)=if x<0 then Cut.fval zs (atA am x) else 1 - Cut.fval zs (atA am x):=by
 unfold oppA
 by_cases h:x<0
 ·rw[if_pos h,if_pos h]
 ·rw[if_neg h,if_neg h,←Cut.fval_sAt zs (1 - (atA am x).1) (scale (-1) (atA am x).2),sAt_plus,scale_len,sAt_neg _ _ _ (Nat.le_refl _)]
  have:=Cut.fval_sAt zs (atA am x).1 (atA am x).2
  rw[sAt_plus]at this
  have e:Cut.fval zs (atA am x)=Cut.fval zs ((atA am x).1,(atA am x).2):=rfl
  rw[e,←this]
  omega
end
section
open Go.RowKit
structure GivenP (aa:Option Addr)(an:Nat)(am:List (Int×List (Int×Int)))(la:Option Addr)(n:Nat)(ls:List Int)(w:World):Prop where
 ean:am.length=an
 a:Cut.LLies w.heap.size w aa am
 am63:∀i,i<an→(am.getD i (0,[])).2.length≤9223372036854775807
 en:ls.length=n
 l:Nums w.heap.size w la ls
theorem GivenP.below {aa:Option Addr}{an:Nat}{am:List (Int×List (Int×Int))}{la:Option Addr}{n:Nat}{ls:List Int}{w W:World}(h:GivenP aa an am la n ls w)(hb:Below w.heap.size w W):GivenP aa an am la n ls W:=
 ⟨h.ean,(h.a.below hb).mono hb.size,h.am63,h.en,(h.l.below hb).mono hb.size⟩
theorem vals_of (zs:List Int)(c:Int)(l:List (Int×Int))(hs:snd c l=true):∃v r:Int,((r=0∧v=Cut.fval zs (c,l))∨r=1)∧
 ∀(a:Option Addr) (n cap:Nat) (a2:Option Addr) (n2 cap2:Nat) (w:World),l.length=n→zs.length=n2→n2≤9223372036854775807→Lies w.heap.size w a l→Nums w.heap.size w a2 zs→
 Calls Tryz.prog 18 #[.agg #[.int .i64 c,.slice a n cap],.slice a2 n2 cap2] w fun e w'=>e= .returned (.tuple #[.int .i64 v,.int .i64 r])∧Below w.heap.size w w':=by
 by_cases h:∀i,i<l.length→near l zs i=true
 ·refine⟨sAt c l zs l.length,0,.inl ⟨rfl,Cut.fval_sAt zs c l⟩,fun a n cap a2 n2 cap2 w hn hn2 hm2 hl hz=> ?_⟩
  subst hn
  exact rvalue_any c a _ cap l a2 n2 cap2 zs w rfl hn2 hm2 hl hz hs _ _ (.inl ⟨rfl,rfl,h⟩)
 ·refine⟨0,1,.inr rfl,fun a n cap a2 n2 cap2 w hn hn2 hm2 hl hz=> ?_⟩
  subst hn
  exact rvalue_any c a _ cap l a2 n2 cap2 zs w rfl hn2 hm2 hl hz hs _ _ (.inr ⟨rfl,rfl,h⟩)
theorem opp_snd {am:List (Int×List (Int×Int))}{x:Int}(hs:snd (atA am x).1 (atA am x).2=true)(hn:nearA am x=true):snd (oppA am x).1 (oppA am x).2=true:=by
 unfold oppA
 by_cases hx:x<0
 ·rw[if_pos hx];exact hs
 ·rw[if_neg hx]
  unfold nearA at hn
  rw[decide_eq_false hx,Bool.false_or]at hn
  exact snd_iff.2 ⟨hn,(snd_iff.1 (snd_neg hs)).2⟩
theorem opp_vals {zs:List Int}{am:List (Int×List (Int×Int))}{x va ra vb rb:Int}(ha:(ra=0∧va=Cut.fval zs ((atA am x).1,(atA am x).2))∨ra=1)(hb:(rb=0∧vb=Cut.fval zs ((oppA am x).1,(oppA am x).2))∨rb=1):(ra=0∧rb=0∧vb=if x<0 then va else 1 - va)∨(ra=1∧(rb=0∨rb=1))∨(ra=0∧rb=1):=by
 rcases ha with ⟨h1,h2⟩ | h1
 ·rcases hb with ⟨h3,h4⟩ | h3
  ·exact .inl ⟨h1,h3,by rw[h4,h2];exact fval_opp zs am x⟩
  ·exact .inr (.inr ⟨h1,h3⟩)
 ·rcases hb with ⟨h3,h4⟩ | h3
  ·exact .inr (.inl ⟨h1,.inl h3⟩)
  ·exact .inr (.inl ⟨h1,.inr h3⟩)
structure ApartAt (W:World)(b1 o1 b2 o2 b3 o3:Nat)(x c:Int)(ta:Option Addr)(t:List (Int×Int))(tcap:Nat)(d:Int)(ua:Option Addr)(u:List (Int×Int))(ucap:Nat):Prop where
 l0:W.cell? ⟨b1,o1,none⟩=some (.int .i64 x)
 a0:W.cell? ⟨b2,o2,none⟩=some (.int .i64 c)
 a1:W.cell? ⟨b2,o2+1,none⟩=some (.slice ta t.length tcap)
 p0:W.cell? ⟨b3,o3,none⟩=some (.int .i64 d)
 p1:W.cell? ⟨b3,o3+1,none⟩=some (.slice ua u.length ucap)
 lt:b1<W.heap.size∧b2<W.heap.size∧b3<W.heap.size
theorem ApartAt.below {W W':World}{b1 o1 b2 o2 b3 o3:Nat}{x c:Int}{ta:Option Addr}{t:List (Int×Int)}{tcap:Nat}{d:Int}{ua:Option Addr}{u:List (Int×Int)}{ucap:Nat}(h:ApartAt W b1 o1 b2 o2 b3 o3 x c ta t tcap d ua u ucap)(hb:Below W.heap.size W W'):ApartAt W' b1 o1 b2 o2 b3 o3 x c ta t tcap d ua u ucap:=
 ⟨(hb.cell (p:=⟨b1,o1,none⟩) h.lt.1).trans h.l0,(hb.cell (p:=⟨b2,o2,none⟩) h.lt.2.1).trans h.a0,(hb.cell (p:=⟨b2,o2+1,none⟩) h.lt.2.1).trans h.a1,(hb.cell (p:=⟨b3,o3,none⟩) h.lt.2.2).trans h.p0,(hb.cell (p:=⟨b3,o3+1,none⟩) h.lt.2.2).trans h.p1,
   Nat.lt_of_lt_of_le h.lt.1 hb.size,Nat.lt_of_lt_of_le h.lt.2.1 hb.size,Nat.lt_of_lt_of_le h.lt.2.2 hb.size⟩
end
section
open Go.RowKit
theorem certApart_any (hup:UpSaid10)(aa:Option Addr)(an acap:Nat)(am:List (Int×List (Int×Int)))(la:Option Addr)(n lcap:Nat)(ls:List Int)(a2:Option Addr)(n2 cap2:Nat)(zs:List Int)(w:World)(h:GivenP aa an am la n ls w)(hn2:zs.length=n2)(hm2:n2≤9223372036854775807)(hz:Nums w.heap.size w a2 zs)(ht:Tens w.heap.size w)(hg:Prp.Laid0 w):
 Calls Tryz.prog 6 #[.slice aa an acap,.slice la n lcap,.slice a2 n2 cap2] w fun e w'=>e= .returned (.bool true)∧Below w.heap.size w w':=by
 have HUP:=Lib.hid (hup w ht hg)
 have hK:=fun W (hb:Below w.heap.size w W)=>h.below hb
 have HPU:=Lib.hid (fun(h1:an≤1000000) (h2:n≤1000000) W (hb:Below w.heap.size w W)=>pub_any aa an acap am la n lcap ls W (hK W hb).ean h1 (hK W hb).a (hK W hb).am63 (hK W hb).en h2 (hK W hb).l)
 have H:=Lib.hid h
 have HZ:=Lib.hid hz
 have HN2:=Lib.hid hn2
 have n0:=fun W=>Tryz.neNil W
 have n1:=fun t v W=>Cut.Tryz.neIface t v W
 clear hup ht hg hK h hz hn2
 go_enter Tryz.func6,Tryz.ntmps6
 go_wp2_with fail
 refine HUP.out.mono ?_
 rintro e w1 ⟨rfl,hb1⟩
 have B1:=Lib.hid hb1
 clear hb1 HUP
 by_cases h1:200<an
 ·clear HPU
  go_wp2_with fail
  go_ret
  exact⟨rfl,B1.out⟩
 ·by_cases h2:1000<n
  ·clear HPU
   go_wp2_with fail
   go_ret
   exact⟨rfl,B1.out⟩
  ·go_wp2_with fail
   refine(HPU.out (by omega) (by omega) _ B1.out).mono ?_
   rintro e w2 ⟨a3,n3,cap3,rfl,hn3,hl3,hb2⟩
   have B2:=Lib.hid (B1.out.trans (hb2.mono B1.out.size))
   have HL3:=Lib.hid hl3
   have HN3:=Lib.hid hn3
   clear hb2 hl3 hn3 HPU
   rcases codeV_ways (pubK am ls)with ⟨hk0,hcv⟩ | ⟨hk0,kk,hcv⟩
   ·rw[hcv]
    clear hcv
    obtain rfl:n3=n:=by rw[←HN3.out,pubL_zero hk0,List.length_map];exact H.out.en
    have HK0:=Lib.hid hk0
    clear hk0
    go_wp2_with fail
    go_loopw [10] (fun i wr=>∃k:Nat,k≤n3∧i= .int .i64 k∧Hid (Below w2.heap.size w2 wr)) (fun i _=>n3 - (intOf i).toNat)
    case atStart=>exact⟨0,Nat.zero_le _,rfl,Below.refl _ _⟩
    case round=>
     obtain⟨k,hk,rfl,hb⟩:=hrel
     obtain⟨wo,rfl⟩:∃wo:World,wo=wr:=⟨_,rfl⟩
     have BW:Hid (Below w.heap.size w wo):=B2.out.trans (hb.out.mono B2.out.size)
     by_cases hlt:k<n3
     ·have hks:k<ls.length:=by rw[H.out.en];exact hlt
      obtain⟨hin,hnr,hsa⟩:=pub_atom HK0.out hks
      have hsb:=opp_snd hsa hnr
      have hpe:=pubL_at HK0.out hks
      obtain⟨b1,o1,rfl,hl1,l0⟩:=H.out.l k hks
      obtain⟨b3,o3,ua,ucap,rfl,hl3,p0,p1,hpl⟩:=HL3.out k (by rw[HN3.out];exact hlt)
      rw[hpe]at p0 p1 hpl
      generalize ls.getD k 0=x at*
      have hx':=of_decide_eq_true hin
      rw[H.out.ean]at hx'
      obtain⟨va,ra,hra,HVA⟩:=vals_of zs _ _ hsa
      obtain⟨vb,rb,hrb,HVB⟩:=vals_of zs _ _ hsb
      have HR:=Lib.hid (opp_vals hra hrb)
      have hok:=(pub_sound HK0.out).1
      clear hra hrb hsb hpe
      by_cases hneg:x<0
      ·obtain⟨k1,_,b2,o2,ta,tcap,rfl,hl2,c0,c1,hla⟩:=atom_lies H.out.a hok hin ((-x).toNat - 1) (by omega)
       have HA2:Hid (ApartAt wo b1 (o1+k) b2 (o2+((-x).toNat - 1)*2) b3 (o3+k*2) x (atA am x).1 ta (atA am x).2 tcap (oppA am x).1 ua (oppA am x).2 ucap):=
        ⟨(BW.out.cell (p:=⟨b1,_,none⟩) hl1).trans l0,(BW.out.cell (p:=⟨b2,_,none⟩) hl2).trans c0,(BW.out.cell (p:=⟨b2,_,none⟩) hl2).trans c1,(hb.out.cell (p:=⟨b3,_,none⟩) hl3).trans p0,(hb.out.cell (p:=⟨b3,_,none⟩) hl3).trans p1,
          Nat.lt_of_lt_of_le hl1 BW.out.size,Nat.lt_of_lt_of_le hl2 BW.out.size,Nat.lt_of_lt_of_le hl3 hb.out.size⟩
       have CA:=Lib.hid (HVA ta _ tcap a2 n2 cap2 wo rfl HN2.out hm2 ((hla.below BW.out).mono BW.out.size) ((HZ.out.below BW.out).mono BW.out.size))
       have CB:=Lib.hid (fun W (hbw:Below wo.heap.size wo W)=>HVB ua _ ucap a2 n2 cap2 W rfl HN2.out hm2 ((hpl.below (hb.out.trans (hbw.mono hb.out.size))).mono (hb.out.trans (hbw.mono hb.out.size)).size) ((HZ.out.below (BW.out.trans (hbw.mono BW.out.size))).mono (BW.out.trans (hbw.mono BW.out.size)).size))
       clear HVA HVB hla hpl l0 p0 p1 c0 c1 hsa hnr hin hok hl1 hl2 hl3 hks
       rw[H.out.ean]at k1
       generalize (atA am x).1=c at*
       generalize (atA am x).2=t at*
       generalize (oppA am x).1=d at*
       generalize (oppA am x).2=u at*
       obtain⟨l0,c0,c1,p0,p1,_⟩:=HA2.out
       go_wp2_with fail
       refine CA.out.mono ?_
       rintro e w4 ⟨rfl,hb4⟩
       have B4:=Lib.hid hb4
       obtain⟨l0',c0',c1',p0',p1',_⟩:=HA2.out.below hb4
       clear hb4 CA l0 c0 c1 p0 p1
       go_wp2_with fail
       refine(CB.out _ B4.out).mono ?_
       rintro e w5 ⟨rfl,hb5⟩
       have B5:=Lib.hid (B4.out.trans (hb5.mono B4.out.size))
       have BR:Hid (Below w2.heap.size w2 w5):=hb.out.trans (B5.out.mono hb.out.size)
       obtain⟨l0,c0,c1,p0,p1,_⟩:=HA2.out.below B5.out
       clear hb5 CB l0' c0' c1' p0' p1' B4 B5 HA2
       rcases HR.out with ⟨rfl,rfl,hvb⟩ | ⟨rfl,rfl | rfl⟩ | ⟨rfl,rfl⟩
       ·rw[if_pos hneg]at hvb
        have hE:((decide (va≤0) == decide (0<x)) == decide (vb≤0))=false:=by
         rw[decide_eq_false (show ¬ 0<x by omega)]
         by_cases hva:va≤0
         ·rw[decide_eq_true hva,decide_eq_true (show vb≤0 by omega)];rfl
         ·rw[decide_eq_false hva,decide_eq_false (show ¬vb≤0 by omega)];rfl
        clear HR hvb
        go_wp2_with fail
        go_roundw
        case rel=>exact⟨k+1,by omega,by go_num,BR⟩
        case measure=>simp[intOf];omega
       all_goals
        clear HR
        go_wp2_with fail
        go_roundw
        case rel=>exact⟨k+1,by omega,by go_num,BR⟩
        case measure=>simp[intOf];omega
      ·obtain⟨k1,_,b2,o2,ta,tcap,rfl,hl2,c0,c1,hla⟩:=atom_lies H.out.a hok hin (x.toNat - 1) (by omega)
       have HA2:Hid (ApartAt wo b1 (o1+k) b2 (o2+(x.toNat - 1)*2) b3 (o3+k*2) x (atA am x).1 ta (atA am x).2 tcap (oppA am x).1 ua (oppA am x).2 ucap):=
        ⟨(BW.out.cell (p:=⟨b1,_,none⟩) hl1).trans l0,(BW.out.cell (p:=⟨b2,_,none⟩) hl2).trans c0,(BW.out.cell (p:=⟨b2,_,none⟩) hl2).trans c1,(hb.out.cell (p:=⟨b3,_,none⟩) hl3).trans p0,(hb.out.cell (p:=⟨b3,_,none⟩) hl3).trans p1,
          Nat.lt_of_lt_of_le hl1 BW.out.size,Nat.lt_of_lt_of_le hl2 BW.out.size,Nat.lt_of_lt_of_le hl3 hb.out.size⟩
       have CA:=Lib.hid (HVA ta _ tcap a2 n2 cap2 wo rfl HN2.out hm2 ((hla.below BW.out).mono BW.out.size) ((HZ.out.below BW.out).mono BW.out.size))
       have CB:=Lib.hid (fun W (hbw:Below wo.heap.size wo W)=>HVB ua _ ucap a2 n2 cap2 W rfl HN2.out hm2 ((hpl.below (hb.out.trans (hbw.mono hb.out.size))).mono (hb.out.trans (hbw.mono hb.out.size)).size) ((HZ.out.below (BW.out.trans (hbw.mono BW.out.size))).mono (BW.out.trans (hbw.mono BW.out.size)).size))
       clear HVA HVB hla hpl l0 p0 p1 c0 c1 hsa hnr hin hok hl1 hl2 hl3 hks
       rw[H.out.ean]at k1
       generalize (atA am x).1=c at*
       generalize (atA am x).2=t at*
       generalize (oppA am x).1=d at*
       generalize (oppA am x).2=u at*
       obtain⟨l0,c0,c1,p0,p1,_⟩:=HA2.out
       have hpos:0<x:=by omega
       go_wp2_with fail
       refine CA.out.mono ?_
       rintro e w4 ⟨rfl,hb4⟩
       have B4:=Lib.hid hb4
       obtain⟨l0',c0',c1',p0',p1',_⟩:=HA2.out.below hb4
       clear hb4 CA l0 c0 c1 p0 p1
       go_wp2_with fail
       refine(CB.out _ B4.out).mono ?_
       rintro e w5 ⟨rfl,hb5⟩
       have B5:=Lib.hid (B4.out.trans (hb5.mono B4.out.size))
       have BR:Hid (Below w2.heap.size w2 w5):=hb.out.trans (B5.out.mono hb.out.size)
       obtain⟨l0,c0,c1,p0,p1,_⟩:=HA2.out.below B5.out
       clear hb5 CB l0' c0' c1' p0' p1' B4 B5 HA2
       rcases HR.out with ⟨rfl,rfl,hvb⟩ | ⟨rfl,rfl | rfl⟩ | ⟨rfl,rfl⟩
       ·rw[if_neg (by omega)]at hvb
        have hE:((decide (va≤0) == decide (0<x)) == decide (vb≤0))=false:=by
         rw[decide_eq_true hpos]
         by_cases hva:va≤0
         ·rw[decide_eq_true hva,decide_eq_false (show ¬vb≤0 by omega)];rfl
         ·rw[decide_eq_false hva,decide_eq_true (show vb≤0 by omega)];rfl
        have hE2:(decide (va≤0) == decide (vb≤0))=false:=by
         by_cases hva:va≤0
         ·rw[decide_eq_true hva,decide_eq_false (show ¬vb≤0 by omega)];rfl
         ·rw[decide_eq_false hva,decide_eq_true (show vb≤0 by omega)];rfl
        clear HR hvb
        go_wp2_with fail
        go_roundw
        case rel=>exact⟨k+1,by omega,by go_num,BR⟩
        case measure=>simp[intOf];omega
       all_goals
        clear HR
        go_wp2_with fail
        go_roundw
        case rel=>exact⟨k+1,by omega,by go_num,BR⟩
        case measure=>simp[intOf];omega
     ·obtain rfl:k=n3:=by omega
      have HE:Hid (Below w.heap.size w wo):=BW
      go_wp2_with fail
      go_ret
      exact⟨rfl,HE.out⟩
   ·rw[hcv]
    clear hcv hk0
    go_wp2_with fail
    go_ret
    exact⟨rfl,B2.out⟩
end
section
open Go.ChangeShapes Go.WideShapes Go.RowKit Go.Deep
section
variable {H:Type} {enc:TypeId×Value→H} {P:Program} {w:World} {base:Nat} {spare:Nat→Bool} {held:Bool}
end
section
variable {H:Type} {enc:TypeId×Value→H} {w:World} {base:Nat} {spare:Nat→Bool} {held:Bool}
theorem open_nums {r:Reach}{b0:Nat}{v:Value}{d:DataW H}{p:List MemPlace}(hv:Value.okWide Tryz.prog w r b0 23 v)(h:DataW.Trod enc Tryz.prog w base spare held 23 v d p):
 ∃(a:Option Addr) (n cap:Nat) (zs:List Int),v= .slice a n cap∧zs.length=n∧n≤cap∧cap≤maxLen∧(∀i,i<zs.length→∃b off,a=some ⟨b,off,none⟩∧b<w.heap.size∧w.cell? ⟨b,off+i,none⟩=some (.int .i64 (zs.getD i 0)))∧∀m∈zs,(Lit.int .i64 m).wf=true:=by
 obtain⟨a,len,cap,rfl⟩:=okWide_slice Tryz.underlying23 hv
 obtain⟨fuel,hf⟩:=h
 rcases open_ints Tryz.underlying23 Tryz.underlying3 (by kernel_rfl) hf with ⟨hcs,_⟩ | ⟨x,l,c,zs,hcs,_,hl,hm,hz,_,hcell,hwz⟩
 ·simp[Value.cells]at hcs
  obtain⟨rfl,rfl,rfl⟩:=hcs
  exact⟨none,0,0,[],rfl,rfl,Nat.le_refl _,Nat.zero_le _,fun i hi=>absurd hi (Nat.not_lt_zero i),fun m hm=>by cases hm⟩
 ·simp[Value.cells]at hcs
  obtain⟨rfl,rfl,rfl⟩:=hcs
  have hz':len≤zs.length:=by rw[hz];split<;>omega
  clear hz
  refine⟨some x,len,cap,zs.take len,rfl,by simp;omega,hl,hm,fun i hi=> ?_,fun m hm=>hwz m (List.mem_of_mem_take hm)⟩
  have hi':i<len:=by rw[List.length_take]at hi;omega
  obtain⟨b,off,rfl,hc⟩:=ints_at hcell (by omega)
  have h1:=hc i (by omega)
  refine⟨b,off,rfl,by simpa using block_lt_of_cell h1, ?_⟩
  rw[h1]
  simp[List.getD_eq_getElem?_getD,hi']
end
end
section
open Go.ChangeShapes Go.WideShapes Go.ChangeAt Go.RowKit
def atomSh:Pak.Sh (Int×List (Int×Int)) where
 k:=2
 rel:=fun S w cs x=>∃v,cs=[.int .i64 x.1,v]∧Pak.Slot Pak.partSh S w v x.2
 len:=fun⟨v,h,_⟩=>by rw[h];rfl
 one:=fun⟨v,h,h2⟩ u hu=>by rw[h]at hu;simp at hu;rcases hu with rfl | rfl;rfl;exact h2.one
 keep:=fun hS hk ⟨v,h,h2⟩=>⟨v,h,h2.keep hS hk⟩
theorem llies_atoms {B:Nat}{w:World}{a:Option Addr}{am:List (Int×List (Int×Int))}(h:Pak.Sits atomSh (Pak.Lo B) w a am):Cut.LLies B w a am:=fun i hi=>by
 obtain⟨b,off,us,e,hb,hc,v,rfl,ta,tcap,rfl,hn⟩:=h.2 i hi
 have e1:atomSh.k=2:=rfl
 have c0:=hc 0 _ rfl
 have c1:=hc 1 _ rfl
 rw[e1,Nat.add_zero]at c0
 rw[e1]at c1
 rw[List.getD_eq_getElem?_getD,List.getElem?_eq_getElem hi,Option.getD_some]
 exact⟨b,off,ta,tcap,e,hb,c0,c1,lies_of_parts hn (fun b hb=>hb)⟩
section
variable {H:Type} {enc:TypeId×Value→H} {w:World} {base:Nat} {spare:Nat→Bool} {held:Bool}
theorem opn_mono:Pak.Opn enc w base spare held Pak.partSh 92:=fun h=>by
 obtain⟨c0,c1,y0,y1,n,rfl,h0,h1⟩:=Pak.two_fields Tryz.underlying92 (by kernel_rfl) ⟨rfl,by kernel_rfl⟩ ⟨rfl,by kernel_rfl⟩ h
 obtain⟨z0,e0,_,w0⟩:=DataW.trod_int Tryz.underlying3 h0
 obtain⟨z1,e1,_,w1⟩:=DataW.trod_int Tryz.underlying3 h1
 injection e0 with e0
 injection e1 with e1
 subst e0 e1
 exact⟨⟨z0,z1⟩,rfl,Pak.i64_of w0,Pak.i64_of w1⟩
theorem opn_atom:Pak.Opn enc w base spare held atomSh 36:=fun h=>by
 obtain⟨c0,c1,y0,y1,n,rfl,h0,h1⟩:=Pak.two_fields Tryz.underlying36 (by kernel_rfl) ⟨rfl,by kernel_rfl⟩ ⟨rfl,by kernel_rfl⟩ h
 obtain⟨z,e0,_,_⟩:=DataW.trod_int Tryz.underlying3 h0
 injection e0 with e0
 subst e0
 obtain⟨xs,hs⟩:=Pak.opn_slot (sh:=Pak.partSh) Tryz.underlying34 (by kernel_rfl) (by decide) opn_mono h1
 exact⟨⟨z,xs⟩,_,rfl,hs⟩
theorem open_atoms {r:Reach}{b0:Nat}{v:Value}{d:DataW H}{p:List MemPlace}(hv:Value.okWide Tryz.prog w r b0 22 v)(h:DataW.Trod enc Tryz.prog w base spare held 22 v d p):
 ∃aa an acap am,v= .slice aa an acap∧am.length=an∧Cut.LLies w.heap.size w aa am∧∀i,i<an→(am.getD i (0,[])).2.length≤9223372036854775807:=by
 obtain⟨a,len,cap,rfl⟩:=okWide_slice Tryz.underlying22 hv
 obtain⟨fuel,hf⟩:=h
 obtain⟨a',cap',xs,e,hs,hl,hm,_⟩:=Pak.open_row (sh:=atomSh) (x:=(d,p)) Tryz.underlying22 (by kernel_rfl) (by decide) opn_atom hf
 refine⟨a',xs.length,cap',xs,by simpa [Value.cells]using e,rfl,llies_atoms hs,fun i hi=> ?_⟩
 obtain⟨b,off,us,_,_,_,v,rfl,ta,tcap,rfl,hn⟩:=hs.2 i hi
 have:=hn.1
 rwa [List.getD_eq_getElem?_getD,List.getElem?_eq_getElem hi,Option.getD_some]
end
end
section
open Go.ChangeShapes Go.WideShapes Go.ChangeAt Go.RowKit
theorem certApart_lifted (hup:UpSaid10)(os:Os)(started:os.Started)(H:Type)(enc:TypeId×Value→H):
 ReturnsInHanded {} Tryz.checked os 6 .any (fun w args=>(Rows.certApartSpec.pre enc Tryz.prog Tryz.f6 [] false w args∧laidMetH Tryz.prog laidL w)∧sizedMet enc Tryz.prog Tryz.f6 (OpenSpec.ofChange Rows.certApartSpec) false w args)
  (Rows.certApartSpec.post enc Tryz.prog Tryz.f6 false true false false):=by
 refine returnsInHanded_of_change_and (C:=Tryz.checked) (X:=fun w _=>laidMetH Tryz.prog laidL w) (fun _ _ _ hh h=>h.of_heap hh) Tryz.own started (by kernel_rfl) Tryz.func6
  (ChangeSpec.witness_at (enc:=enc) (C:=Tryz.checked) (os:=os) (X:=fun w _=>laidMetH Tryz.prog laidL w) false (laidWorld os) #[.slice none 0 0,.slice none 0 0,.slice none 0 0] 8 rfl (by kernel_rfl) (by kernel_rfl) (by kernel_rfl) (by kernel_rfl) (by kernel_rfl) (laidWorld_met os _)) ?_
 intro W base args ds gs before hval0 hW _ _ hL _
 have hval:∀(j:Nat) t v,Tryz.f6.params[j]? =some t→args[j]? =some v→Value.okWide Tryz.prog W .any base t v:=hval0
 have hW':=hW
 obtain⟨p,q,hA0,hV,rfl,hfz,hnd⟩:=hW
 have hA:DataW.TrodAll enc Tryz.prog W 0 (fun _=>true) true Tryz.f6.params.toList args.toList ds p:=hA0
 rw[Tryz.params6]at hA hval
 obtain⟨v0,vs0,d0,ds0,p0,q0,hargs,rfl,rfl,h0,r0⟩:=trodAll_cons hA
 obtain⟨v1,vs1,d1,ds1,p1,q1,rfl,rfl,rfl,h1,r1⟩:=trodAll_cons r0
 obtain⟨v2,vs2,d2,ds2,p2,q2,rfl,rfl,rfl,h2,r2⟩:=trodAll_cons r1
 obtain⟨rfl,rfl,rfl⟩:=trodAll_nil r2
 obtain rfl:args= #[v0,v1,v2]:=by cases args;simp_all
 obtain⟨rfl,rfl⟩:=trodVars_none hV
 have k0:=h0
 have lt0:∀x∈p0,x.block<W.heap.size:=by obtain⟨m,hm⟩:=k0;exact DataW.trod_lt m _ _ _ hm
 have k1:=h1
 have lt1:∀x∈p1,x.block<W.heap.size:=by obtain⟨m,hm⟩:=k1;exact DataW.trod_lt m _ _ _ hm
 have k2:=h2
 have lt2:∀x∈p2,x.block<W.heap.size:=by obtain⟨m,hm⟩:=k2;exact DataW.trod_lt m _ _ _ hm
 obtain⟨aa,an,acap,am,rfl,ean,hla,ham⟩:=open_atoms (hval 0 22 v0 rfl rfl) h0
 obtain⟨a1,n1,cap1,ls,rfl,hl1,hx1,hcap1,hnums1,hwf1⟩:=open_nums (hval 1 23 v1 rfl rfl) h1
 have hm1:n1≤9223372036854775807:=by unfold maxLen at hcap1;omega
 obtain⟨a2,n2,cap2,zs,rfl,hl2,hx2,hcap2,hnums2,hwf2⟩:=open_nums (hval 2 23 v2 rfl rfl) h2
 have hm2:n2≤9223372036854775807:=by unfold maxLen at hcap2;omega
 have hg:=handle_of_laid hL
 clear hA0 hval0
 have ht:=tens_of_laid hL
 have hG:GivenP aa an am a1 n1 ls W:=⟨ean,hla,ham,hl1,hnums1⟩
 refine(certApart_any hup aa an acap am a1 n1 cap1 ls a2 n2 cap2 zs W hG hl2 hm2 hnums2 ht hg).mono fun e W' ⟨he,bel⟩=> ?_
 subst he
 exact⟨_,rfl,_,_,_,[],_,[],hW',trodAll_mk1 (shut_bool Tryz.underlying4 _),(trodAll_cons_mk (Below.trod Tryz.laidOut (by kernel_rfl) (of_decide_eq_true (by kernel_rfl)) k0 bel lt0) (trodAll_cons_mk (Below.trod Tryz.laidOut (by kernel_rfl) (of_decide_eq_true (by kernel_rfl)) k1 bel lt1) (trodAll_cons_mk (Below.trod Tryz.laidOut (by kernel_rfl) (of_decide_eq_true (by kernel_rfl)) k2 bel lt2) trodAll_mk0))),rfl,bel.frame _,fun h=>by cases h⟩
theorem certApart_over (hup:UpSaid10):Rows.CertApartSaid:=
 OpenClaim.holds_of_wide 6 Tryz.f6 rfl rfl rfl rfl rfl rfl rfl ⟨rfl,rfl,rfl,rfl,rfl⟩ rfl rfl rfl rfl rfl (by kernel_rfl) Tryz.func6 (by kernel_rfl)
  (of_decide_eq_true (by kernel_rfl)) (by unfold Func.isWrapper;first | (rw[if_pos (by decide+kernel)];kernel_rfl) | (rw[if_neg (by decide+kernel)];exact⟨rfl,rfl⟩))
  (fun os started H enc _=>certApart_lifted hup os started H enc)
end
end Go.Proofs.YtipahfcaplbifaaGreatDoor
