/- Parts of a proof. -/
import Derived.Test.YtipahfcaplbifaaGreatDoorQ11
import Derived.Test.YtipahfcaplbifaaGreatDoorQ15
import Derived.Test.YtipahfcaplbifaaGreatDoorQ16
import Derived.Test.YtipahfcaplbifaaGreatDoorQ17
set_option linter.unusedVariables false
set_option linter.unusedSimpArgs false
set_option maxHeartbeats 60000000
set_option maxRecDepth 100000
namespace Go.Proofs.YtipahfcaplbifaaGreatDoor
namespace Prp
open Go.RowKit
def negs (l:List Int):List Int:=l.map fun x=> -x
theorem negs_len (l:List Int):(negs l).length=l.length:=by simp[negs]
theorem negs_get (l:List Int)(i:Nat)(h:i<l.length):(negs l).getD i 0= -(l.getD i 0):=by simp[negs,List.getD_eq_getElem?_getD,h]
theorem getD_mem0 {l:List Int}{i:Nat}(h:i<l.length):l.getD i 0∈l:=by
 rw[List.getD_eq_getElem?_getD,List.getElem?_eq_getElem h];exact List.getElem_mem h
theorem inR_neg {n:Nat}{x:Int}(h:inR n x):inR n (-x):=by unfold inR at h⊢;omega
theorem negs_in {n:Nat}{l:List Int}(h:∀x,x∈l→inR n x):∀x,x∈negs l→inR n x:=fun x hx=>by
 obtain⟨y,hy,rfl⟩:=List.mem_map.1 hx
 exact inR_neg (h y hy)
structure Opp (b k i:Nat)(ls:List Int)(wr:World):Prop where
 arr:∃f,Arr wr b k f∧∀j,j<i→f j= -(ls.getD j 0)
 fr:∀o,wr.frozen? ⟨b,o,none⟩=false
 lt:b<wr.heap.size
theorem Opp.step {b k i:Nat}{ls:List Int}{wr:World}(h:Opp b k i ls wr)(hi:i<k){x:Int}(hx:x= -(ls.getD i 0)):Opp b k (i+1) ls (wr.setCell ⟨b,i,none⟩ (.int .i64 x)):=by
 obtain⟨f,h1,h2⟩:=h.arr
 refine⟨⟨upd f i x,h1.set hi x,fun j hj=> ?_⟩,fun o=>(World.frozen?_setCell _ _ _ _).trans (h.fr o),by rw[World.size_setCell];exact h.lt⟩
 by_cases e:j=i
 ·subst e;rw[upd_same];exact hx
 ·rw[upd_ne e];exact h2 j (by omega)
theorem Opp.nums {b k:Nat}{ls:List Int}{wr:World}(h:Opp b k k ls wr)(hk:ls.length=k):Nums wr.heap.size wr (some ⟨b,0,none⟩) (negs ls):=fun i hi=>by
 rw[negs_len]at hi
 obtain⟨f,h1,h2⟩:=h.arr
 refine⟨b,0,rfl,h.lt, ?_⟩
 rw[negs_get ls i hi,Nat.zero_add,←h2 i (by omega)]
 exact h1 i (by omega)
theorem madeOpp (w:World)(k:Nat)(ls:List Int):Opp w.heap.size k 0 ls (w.alloc (.cells (madeCells #[.int .i64 0] k) 3)):=by
 have hn:=heap_alloc_new w (.cells (madeCells #[.int .i64 0] k) 3)
 refine⟨⟨fun _=>0,fun i hi=> ?_,fun j hj=>absurd hj (Nat.not_lt_zero j)⟩,fun o=>frozen_of_row _ _ _ _ _ hn,lt_of_some hn⟩
 rw[cell_of_row _ _ _ _ _ _ hn]
 simp[madeCells,hi,Nat.mod_one]
theorem fK_ok {n:Nat}{cs:List (List Int)}{ls:List Int}(h:chkK n cs=0)(hl:∀x,x∈ls→inR n x):fK n cs ls=0:=by
 unfold fK;rw[if_neg (by rw[h];decide),if_pos (litsB_iff.2 hl)]
theorem FollowIs.iff {n:Nat}{cs:List (List Int)}{ls:List Int}{b:Bool}{A:Nat→Int}(h:FollowIs n cs ls b A):b=true↔Conf cs ls:=by
 cases h with
 | conf h=>exact⟨fun _=>h,fun _=>rfl⟩
 | ok _ _ _ h=>exact⟨fun h'=>by simp at h',fun h'=>absurd h' h⟩
theorem rfol_any (hbeg:BeginSaid)(n:Nat)(cs:List (List Int))(ls:List Int)(hc:chkK n cs=0)(hs:∀x,x∈ls→inR n x)(a:Option Addr)(m cap:Nat)(a2:Option Addr)(k cap2:Nat)(w:World)(hm:cs.length=m)(hk:ls.length=k)(hk4:k≤40000)(hl:CLies w.heap.size w a cs)(hl2:Nums w.heap.size w a2 ls):
 Calls Tryz.prog 59 #[.int .i64 n,.slice a m cap,.slice a2 k cap2] w fun e w'=>∃b,e= .returned (.bool b)∧(b=true↔Conf cs (negs ls))∧Below w.heap.size w w':=by
 obtain⟨n0,e0,hn,hm2,hkk,hcs⟩:=chkK_zero hc
 have hm3:m≤16384:=by omega
 have hnn:n≤8192:=by omega
 have HFO:=Lib.hid (fun W (hb:Below w.heap.size w W) (b cap5:Nat) (h5:Nums W.heap.size W (some ⟨b,0,none⟩) (negs ls))=>follow_any hbeg n a m cap cs (some ⟨b,0,none⟩) k cap5 (negs ls) W hm (by omega) ((hl.below hb).mono hb.size) (fun _ j hj=>by
  have:=hkk (cs.getD j []) (by rw[List.getD_eq_getElem?_getD,List.getElem?_eq_getElem (by omega)];exact List.getElem_mem _)
  omega) ((negs_len ls).trans hk) (by omega) h5)
 have HFK:=Lib.hid (fK_ok hc (negs_in hs))
 have HS:=Lib.hid hs
 have HK:=Lib.hid hk
 have HL2:=Lib.hid hl2
 have HMK:=Lib.hid (madeOpp w k ls)
 have B1:Hid (Below w.heap.size w (w.alloc (.cells (madeCells #[.int .i64 0] k) 3))):=(Below.refl _ w).alloc (Nat.le_refl _) _
 have hmk:=run_make_ints w k k rfl hk4
 have n2:=fun W=>Tryz.eqNil W
 clear hc hs hm hk hl hl2 hbeg e0 hm2 hkk hcs
 go_enter Tryz.func59,Tryz.ntmps59
 go_wp2_with fail
 go_loopw [18] (fun i wr=>∃j:Nat,j≤k∧i= .int .i64 j∧Hid (Opp w.heap.size k j ls wr)∧Hid (Below w.heap.size w wr)) (fun i _=>k - (intOf i).toNat)
 case atStart=>exact⟨0,Nat.zero_le _,rfl,HMK,B1⟩
 case round=>
  obtain⟨j,hj,rfl,hop,hb⟩:=hrel
  by_cases hlt:j<k
  ·obtain⟨b3,off3,rfl,h3l,c3⟩:=HL2.out j (by rw[HK.out];exact hlt)
   have c3:=(hb.out.cell (p:=⟨b3,off3+j,none⟩) h3l).trans c3
   have hin:=HS.out (ls.getD j 0) (getD_mem0 (by rw[HK.out];exact hlt))
   have hwn:IntKind.i64.wrap (-(ls.getD j 0))= -(ls.getD j 0):=IntWalk.i64_in _ (by unfold inR at hin;omega)
   have HST:=Lib.hid (fun(x:Int) (hx:x= -(ls.getD j 0))=>hop.out.step hlt hx)
   obtain⟨f,hf1,_⟩:=hop.out.arr
   have hcell:=hf1 j hlt
   have hfr:=hop.out.fr j
   have hlti:(j:Int)<(k:Int):=by omega
   clear hin
   generalize ls.getD j 0=y at c3 hwn HST
   generalize f j=z at hcell
   clear hf1
   go_wp2_with fail
   go_roundw
   case rel=>exact⟨j+1,by omega,by go_num,HST.out _ rfl,hb.out.setCell (p:=⟨w.heap.size,j,none⟩) (Nat.le_refl _) _⟩
   case measure=>simp[intOf];omega
  ·obtain rfl:j=k:=by omega
   have HN:=Lib.hid (hop.out.nums HK.out)
   clear hop HMK
   go_wp2_with fail
   refine(HFO.out _ hb.out _ _ HN.out).mono ?_
   rintro e w5 ⟨hb5,v,b,rfl,h0,h1⟩
   rw[HFK.out,codeV_zero]
   obtain⟨m1,A,e1,_,_,hf,_⟩:=h1 HFK.out
   have e1:n=m1:=by omega
   subst e1
   have HI:=Lib.hid hf.iff
   have BE:=Lib.hid (hb.out.trans (hb5.mono hb.out.size))
   clear hf h0 h1 hb5
   go_wp2_with fail
   all_goals
    go_ret
    exact⟨_,rfl,HI.out,BE.out⟩
end Prp
namespace Prp
open Go.RowKit
theorem CLies.take {B:Nat}{w:World}{a:Option Addr}{cs:List (List Int)}(h:CLies B w a cs)(k:Nat):CLies B w a (cs.take k):=fun i hi=>by
 rw[List.length_take]at hi
 have e:(cs.take k).getD i []=cs.getD i []:=by
  rw[List.getD_eq_getElem?_getD,List.getElem?_take,if_pos (by omega),List.getD_eq_getElem?_getD]
 rw[e]
 exact h i (by omega)
structure Few (cs ss:List (List Int)):Prop where
 l1:cs.length≤20000
 l2:ss.length≤100
 k1:∀c,c∈cs→c.length≤100000
 k2:∀c,c∈ss→c.length≤100
theorem Few.k {cs ss:List (List Int)}(h:Few cs ss):∀c,c∈cs ++ ss→c.length≤100000:=fun c hc=>by
 rcases List.mem_append.1 hc with h1 | h1
 ·exact h.k1 c h1
 ·have:=h.k2 c h1;omega
theorem Few.l {cs ss:List (List Int)}(h:Few cs ss):(cs ++ ss).length≤20100:=by rw[List.length_append];have:=h.l1;have:=h.l2;omega
theorem getD_memC {cs:List (List Int)}{i:Nat}(h:i<cs.length):cs.getD i []∈cs:=by
 rw[List.getD_eq_getElem?_getD,List.getElem?_eq_getElem h];exact List.getElem_mem h
theorem sumTo_takeC (cs:List (List Int))(k:Nat):∀j,j≤k→sumTo (cs.take k) j=sumTo cs j
 | 0,_=>rfl
 | j+1,h=>by
   have e:(cs.take k).getD j []=cs.getD j []:=by
    rw[List.getD_eq_getElem?_getD,List.getElem?_take,if_pos (by omega),List.getD_eq_getElem?_getD]
   have e2:sumTo (cs.take k) (j+1)=sumTo (cs.take k) j+((cs.take k).getD j []).length:=rfl
   rw[e2,e,sumTo_takeC cs k j (by omega)]
   rfl
theorem chkK_take {n:Int}{cs:List (List Int)}(h:cs.length≤20100)(hk:∀c,c∈cs→c.length≤100000)(h0:chkK n cs=0)(k:Nat):chkK n (cs.take k)=0:=by
 have h1:sumTo (cs.take k) (cs.take k).length≤sumTo cs cs.length:=by
  rw[sumTo_takeC cs k _ (by rw[List.length_take];omega)]
  exact sumTo_mono cs (by rw[List.length_take];omega)
 have h2:(cs.take k).length≤cs.length:=by rw[List.length_take];omega
 unfold chkK at h0⊢
 by_cases c1:n<0∨8192<n
 ·rw[if_pos c1]at h0;cases h0
 ·rw[if_neg c1]at h0⊢
  by_cases c2:16384<cs.length
  ·rw[if_pos c2]at h0;cases h0
  ·rw[if_neg c2]at h0
   rw[if_neg (by omega)]
   by_cases c3:131072<sumTo cs cs.length
   ·rw[if_pos c3]at h0;cases h0
   ·rw[if_neg c3]at h0
    rw[if_neg (by omega)]
    by_cases c4:cs.all (litsB n)=true
    ·rw[if_pos (List.all_eq_true.2 fun c hc=>List.all_eq_true.1 c4 c (List.mem_of_mem_take hc))]
    ·rw[if_neg c4]at h0;cases h0
def OkAt (cs ss:List (List Int))(i:Nat):Prop:=Conf ((cs ++ ss).take (cs.length+i)) (negs (ss.getD i []))
inductive RupIs (n:Int) (cs ss:List (List Int)):Int→Int→Prop
 | one:chkK n cs≠0→RupIs n cs ss (chkK n cs) (-1)
 | two:chkK n cs=0→chkK n (cs ++ ss)≠0→RupIs n cs ss (chkK n (cs ++ ss)) (-1)
 | step (i:Nat):chkK n cs=0→chkK n (cs ++ ss)=0→i<ss.length→(∀j,j<i→OkAt cs ss j)→¬OkAt cs ss i→RupIs n cs ss 9 i
 | opn:chkK n cs=0→chkK n (cs ++ ss)=0→(∀j,j<ss.length→OkAt cs ss j)→[]∉cs ++ ss→RupIs n cs ss 8 (-1)
 | yes:chkK n cs=0→chkK n (cs ++ ss)=0→(∀j,j<ss.length→OkAt cs ss j)→[]∈cs ++ ss→RupIs n cs ss 0 (-1)
theorem RupIs.unique {n:Int}{cs ss:List (List Int)}{x at' x2 at2:Int}(h:RupIs n cs ss x at')(h2:RupIs n cs ss x2 at2):x=x2∧at'=at2:=by
 cases h with
 | one h=>
   cases h2 with
   | one=>exact⟨rfl,rfl⟩
   | two h3=>exact absurd h3 h
   | step i h3=>exact absurd h3 h
   | opn h3=>exact absurd h3 h
   | yes h3=>exact absurd h3 h
 | two h h'=>
   cases h2 with
   | one h3=>exact absurd h h3
   | two h3=>exact⟨rfl,rfl⟩
   | step i _ h3=>exact absurd h3 h'
   | opn _ h3=>exact absurd h3 h'
   | yes _ h3=>exact absurd h3 h'
 | step i h h' hi hj hn=>
   cases h2 with
   | one h3=>exact absurd h h3
   | two _ h3=>exact absurd h' h3
   | step k _ _ hk hjk hnk=>
     rcases Nat.lt_trichotomy i k with hlt | rfl | hlt
     ·exact absurd (hjk i hlt) hn
     ·exact⟨rfl,rfl⟩
     ·exact absurd (hj k hlt) hnk
   | opn _ _ h3=>exact absurd (h3 i hi) hn
   | yes _ _ h3=>exact absurd (h3 i hi) hn
 | opn h h' ha he=>
   cases h2 with
   | one h3=>exact absurd h h3
   | two _ h3=>exact absurd h' h3
   | step k _ _ hk hjk hnk=>exact absurd (ha k hk) hnk
   | opn=>exact⟨rfl,rfl⟩
   | yes _ _ _ h3=>exact absurd h3 he
 | yes h h' ha he=>
   cases h2 with
   | one h3=>exact absurd h h3
   | two _ h3=>exact absurd h' h3
   | step k _ _ hk hjk hnk=>exact absurd (ha k hk) hnk
   | opn _ _ _ h3=>exact absurd he h3
   | yes=>exact⟨rfl,rfl⟩
theorem RupIs.in {n:Int}{cs ss:List (List Int)}{x at':Int}(h:RupIs n cs ss x at'):(0≤x∧x≤16)∧(0≤at'→x≠0)∧ -1≤at':=by
 have h1:=chkK_in n cs
 have h2:=chkK_in n (cs ++ ss)
 cases h<;>refine⟨⟨by omega,by omega⟩,fun h=>by omega,by omega⟩
theorem nil_mem {cs:List (List Int)}{k:Nat}(hk:k<cs.length)(h:(cs.getD k []).length=0):[]∈cs:=by
 have:=getD_memC hk
 rwa [List.length_eq_zero_iff.1 h]at this
theorem nil_not {cs:List (List Int)}(h:∀k,k<cs.length→(cs.getD k []).length≠0):[]∉cs:=fun hm=>by
 obtain⟨k,hk,e⟩:=List.getElem_of_mem hm
 exact h k hk (by rw[List.getD_eq_getElem?_getD,List.getElem?_eq_getElem hk,e];rfl)
theorem getD_app {cs ss:List (List Int)}{i:Nat}(hi:i<ss.length):(cs ++ ss).getD (cs.length+i) []=ss.getD i []:=by
 rw[List.getD_eq_getElem?_getD,List.getElem?_append_right (by omega),List.getD_eq_getElem?_getD];congr 2;omega
theorem codeErr (B:Nat)(x:Int)(w:World):ErrIs B x (-1) (codeV x) w:=⟨fun _=>rfl,fun h=>by omega⟩
end Prp
namespace Prp
open Go.RowKit
def RupEnd (n:Int)(cs ss:List (List Int))(w:World)(e:Ending)(w':World):Prop:=
 ∃er x at',e= .returned er∧RupIs n cs ss x at'∧ErrIs w.heap.size x at' er w'∧Below w.heap.size w w'
theorem spotErr {B:Nat}(at':Nat)(W:World)(h:B≤W.heap.size):ErrIs B 9 at' (.iface 76 (.pointer (some ⟨W.heap.size,0,none⟩))) (W.alloc (.cells #[.int .i64 at',.iface 60 (.int .i64 9)] 79)):=by
 have hn:=heap_alloc_new W (.cells #[.int .i64 at',.iface 60 (.int .i64 9)] 79)
 refine⟨fun h=>by omega,fun _=>⟨W.heap.size,rfl,h,by simp,(cell_of_row _ _ _ _ _ _ hn).trans rfl,(cell_of_row _ _ _ _ _ _ hn).trans rfl⟩⟩
theorem rup_any (hbeg:BeginSaid)(n:Int)(a:Option Addr)(m cap:Nat)(cs:List (List Int))(a2:Option Addr)(m2 cap2:Nat)(ss:List (List Int))(w:World)(h1:GivenC w a m cs)(h2:GivenC w a2 m2 ss)(hf:Few cs ss):
 Calls Tryz.prog 35 #[.int .i64 n,.slice a m cap,.slice a2 m2 cap2] w (RupEnd n cs ss w):=by
 have hm1:=h1.hm
 have hm2:=h2.hm
 have hm3:m≤20000:=by have:=hf.l1;omega
 have hm4:m2≤100:=by have:=hf.l2;omega
 have big:∀(l:List (List Int)) (k:Nat),(∀c,c∈l→c.length≤100000)→l.length=k→k≤16384→∀j,j<k→(l.getD j []).length≤4611686018427387904:=fun l k hl hk _ j hj=>by
  have:=hl _ (getD_memC (cs:=l) (i:=j) (by omega));omega
 have HCK:=Lib.hid (check_any n a m cap cs w h1.hm h1.hmm h1.hl (big cs m hf.k1 hm1))
 have n1:=fun t v W=>Tryz.neIface t v W
 have n2:=fun W=>Tryz.neNil W
 by_cases c1:chkK n cs=0
 ·rw[c1,codeV_zero]at HCK
  obtain⟨n0,rfl,hn,_,_,_⟩:=chkK_zero c1
  have HCA:=Lib.hid (fun(W:World) (b:Option Addr) (cap5:Nat) (hl:CLies W.heap.size W b (cs ++ ss))=>check_any n0 b (m+m2) cap5 (cs ++ ss) W (by rw[List.length_append];omega) (by omega) hl (big _ _ hf.k (by rw[List.length_append];omega)))
  have H1:=Lib.hid h1
  have H2:=Lib.hid h2
  have HCO:=Lib.hid (fun(W:World) (g:Nat) (hb:Below w.heap.size w W)=>concat_any g a m cap cs a2 m2 cap2 ss W hm1 hm2 (by omega) (by omega) ((h1.hl.below hb).mono hb.size) ((h2.hl.below hb).mono hb.size))
  have HF:=Lib.hid hf
  by_cases c2:chkK n0 (cs ++ ss)=0
  ·rw[c2,codeV_zero]at HCA
   have HIN:Hid (∀j,j<m2→∀x,x∈ss.getD j []→inR n0 x):=fun j hj x hx=>by
    obtain⟨n3,e3,_,_,_,h5⟩:=chkK_zero c2
    obtain rfl:n0=n3:=by omega
    exact h5 _ (List.mem_append_right _ (getD_memC (by omega))) x hx
   have HFO:=Lib.hid (fun(W:World) (b:Option Addr) (cap5:Nat) (hl:CLies W.heap.size W b (cs ++ ss)) (j:Nat) (hj:j<m2) (ta:Option Addr) (tcap:Nat) (hn5:Nums W.heap.size W ta (ss.getD j []))=>
    rfol_any hbeg n0 ((cs ++ ss).take (cs.length+j)) (ss.getD j []) (chkK_take hf.l hf.k c2 _) (HIN.out j hj) b (m+j) cap5 ta (ss.getD j []).length tcap W (by rw[List.length_take,List.length_append];omega) rfl (by have:=hf.k2 _ (getD_memC (cs:=ss) (i:=j) (by omega));omega) (hl.take _) hn5)
   have HC1:=Lib.hid c1
   have HC2:=Lib.hid c2
   have HM1:=Lib.hid hm1
   have HM2:=Lib.hid hm2
   clear c1 c2 h1 h2 hf big hm1 hm2 HIN
   go_enter Tryz.func35,Tryz.ntmps35
   go_wp2_with fail
   refine HCK.out.mono ?_
   rintro e w1 ⟨rfl,hb1⟩
   have B1:Hid (Below w.heap.size w (w1.alloc (.cells #[.slice a m cap,.slice a2 m2 cap2] 41))):=hb1.alloc hb1.size _
   clear hb1 HCK
   go_wp2_with fail
   refine(HCO.out _ w1.heap.size B1.out (by simp) (by simp) (by simp)).mono ?_
   rintro e w2 ⟨b,cap5,rfl,hc1,hc2,hcl,hb2⟩
   have B2:=Lib.hid (B1.out.trans (hb2.mono B1.out.size))
   have HCL:=Lib.hid hcl
   clear hb2 hcl B1 HCO
   go_wp2_with fail
   refine(HCA.out _ _ _ HCL.out).mono ?_
   rintro e w3 ⟨rfl,hb3⟩
   have HCL3:=Lib.hid ((HCL.out.below hb3).mono hb3.size)
   have B3:=Lib.hid (B2.out.trans (hb3.mono B2.out.size))
   clear hb3 HCL B2 HCA
   go_wp2_with fail
   go_loopw [32] (fun i wr=>∃j:Nat,j≤m2∧i= .int .i64 j∧Hid (∀k,k<j→OkAt cs ss k)∧Hid (Below w3.heap.size w3 wr)) (fun i _=>m2 - (intOf i).toNat)
   case atStart=>exact⟨0,Nat.zero_le _,rfl,fun k hk=>absurd hk (Nat.not_lt_zero k),Below.refl _ _⟩
   case round=>
    obtain⟨j,hj,rfl,hok,hbr⟩:=hrel
    obtain⟨wo,rfl⟩:∃wo:World,wo=wr:=⟨_,rfl⟩
    have BR:=Lib.hid (B3.out.trans (hbr.out.mono B3.out.size))
    have HCR:=Lib.hid ((HCL3.out.below hbr.out).mono hbr.out.size)
    by_cases hlt:j<m2
    ·have hlti:(j:Int)<(m2:Int):=by omega
     obtain⟨b3,off3,ta,tcap,rfl,hb3l,d1,dn⟩:=H2.out.hl j (by rw[HM2.out];exact hlt)
     have d1:=(BR.out.cell (p:=⟨b3,off3+j,none⟩) hb3l).trans d1
     have HDN:=Lib.hid ((dn.below BR.out).mono BR.out.size)
     obtain⟨b5,off5,_,_,rfl,_⟩:=HCR.out 0 (by rw[List.length_append,HM1.out,HM2.out];omega)
     have hwa:IntKind.i64.wrap ((m:Int)+(j:Int))=((m+j:Nat):Int):=by rw[←Int.natCast_add];exact IntWalk.i64_in _ (by omega)
     have hs1:¬(((m+j:Nat):Int)<0):=by omega
     have hs2:m+j≤cap5:=by omega
     have HFJ:=Lib.hid (HFO.out wo _ cap5 HCR.out j hlt ta tcap HDN.out)
     have HOK:Hid (Conf ((cs ++ ss).take (cs.length+j)) (negs (ss.getD j []))↔OkAt cs ss j):=Iff.rfl
     clear dn HDN HFO
     generalize (ss.getD j []).length=lj at d1 HFJ
     go_wp2_with fail
     refine HFJ.out.mono ?_
     rintro e w4 ⟨bb,rfl,hiff,hb4⟩
     have B4:=Lib.hid (BR.out.trans (hb4.mono BR.out.size))
     have hb4:=Lib.hid (hbr.out.trans (hb4.mono hbr.out.size))
     cases bb with
     | false=>
       have HNO:Hid (¬OkAt cs ss j):=fun h=>by have:=hiff.2 (HOK.out.2 h);cases this
       have HE:Hid (RupEnd n0 cs ss w (.returned (.iface 76 (.pointer (some ⟨w4.heap.size,0,none⟩)))) (w4.alloc (.cells #[.int .i64 j,.iface 60 (.int .i64 9)] 79))):=
        ⟨_,_,_,rfl,.step j HC1.out HC2.out (by rw[HM2.out];exact hlt) hok.out HNO.out,spotErr j w4 B4.out.size,B4.out.alloc B4.out.size _⟩
       clear hiff HNO HFJ HOK
       go_wp2_with fail
       go_ret
       exact HE.out
     | true=>
       have HOK2:Hid (∀k,k<j+1→OkAt cs ss k):=fun k hk=>by
        by_cases e:k=j
        ·subst e;exact HOK.out.1 (hiff.1 rfl)
        ·exact hok.out k (by omega)
       clear hiff HFJ HOK
       go_wp2_with fail
       go_roundw
       case rel=>exact⟨j+1,by omega,by go_num,HOK2,hb4⟩
       case measure=>simp[intOf];omega
    ·obtain rfl:j=m2:=by omega
     have HOK:Hid (∀k,k<ss.length→OkAt cs ss k):=fun k hk=>hok.out k (by rw[HM2.out]at hk;exact hk)
     clear hok HFO H2
     go_wp2_with fail
     go_loopw [55] (fun i wr=>∃k:Nat,k≤m+j∧i= .int .i64 k∧Hid (∀q,q<k→((cs ++ ss).getD q []).length≠0)∧Hid (Below wo.heap.size wo wr)) (fun i _=>m+j - (intOf i).toNat)
     case atStart=>exact⟨0,Nat.zero_le _,rfl,fun k hk=>absurd hk (Nat.not_lt_zero k),Below.refl _ _⟩
     case round=>
      obtain⟨k,hk,rfl,hno,hbq⟩:=hrel
      have HLA:Hid ((cs ++ ss).length=m+j):=by show _=_;rw[List.length_append,HM1.out,HM2.out]
      have BQ:=Lib.hid (BR.out.trans (hbq.out.mono BR.out.size))
      by_cases hlt2:k<m+j
      ·have hlti:(k:Int)<((m+j:Nat):Int):=by omega
       have hlti2:(k:Int)<(m:Int)+(j:Int):=by omega
       obtain⟨b3,off3,ta,tcap,rfl,hb3l,d1,_⟩:=HCR.out k (by rw[HLA.out];exact hlt2)
       have d1:=(hbq.out.cell (p:=⟨b3,off3+k,none⟩) hb3l).trans d1
       by_cases hz:((cs ++ ss).getD k []).length=0
       ·have HE:Hid (∀W,Below w.heap.size w W→RupEnd n0 cs ss w (.returned .nilIface) W):=fun W hb=>⟨_,0,_,rfl,.yes HC1.out HC2.out HOK.out (nil_mem (by rw[HLA.out];exact hlt2) hz),codeErr _ _ _,hb⟩
        rw[hz]at d1
        clear hz
        go_wp2_with fail
        go_ret
        exact HE.out _ BQ.out
       ·have hno2:Hid (∀q,q<k+1→((cs ++ ss).getD q []).length≠0):=fun q hq=>by
         by_cases e:q=k
         ·subst e;exact hz
         ·exact hno.out q (by omega)
        generalize ((cs ++ ss).getD k []).length=lk at d1 hz
        have hzi:((lk:Int) == 0)=false:=by simp;omega
        have hzn:¬(lk=0):=hz
        clear hz
        go_wp2_with fail
        go_roundw
        case rel=>exact⟨k+1,by omega,by go_num,hno2,hbq⟩
        case measure=>simp[intOf];omega
      ·obtain rfl:k=m+j:=by omega
       have HE:Hid (∀W,Below w.heap.size w W→RupEnd n0 cs ss w (.returned (.iface 60 (.int .i64 8))) W):=fun W hb=>⟨_,8,_,rfl,.opn HC1.out HC2.out HOK.out (nil_not (by rw[HLA.out];exact hno.out)),codeErr _ _ _,hb⟩
       go_wp2_with fail
       go_ret
       exact HE.out _ BQ.out
  ·have HR:Hid (∀W,Below w.heap.size w W→RupEnd n0 cs ss w (.returned (codeV (chkK n0 (cs ++ ss)))) W):=fun W hb=>⟨_,_,_,rfl,.two c1 c2,codeErr _ _ _,hb⟩
   rw[codeV_ne c2]at HCA HR
   clear c1 c2 h1 h2 hf big hm1 hm2 hbeg
   go_enter Tryz.func35,Tryz.ntmps35
   go_wp2_with fail
   refine HCK.out.mono ?_
   rintro e w1 ⟨rfl,hb1⟩
   have B1:Hid (Below w.heap.size w (w1.alloc (.cells #[.slice a m cap,.slice a2 m2 cap2] 41))):=hb1.alloc hb1.size _
   clear hb1 HCK
   go_wp2_with fail
   refine(HCO.out _ w1.heap.size B1.out (by simp) (by simp) (by simp)).mono ?_
   rintro e w2 ⟨b,cap5,rfl,hc1,hc2,hcl,hb2⟩
   have B2:=Lib.hid (B1.out.trans (hb2.mono B1.out.size))
   have HCL:=Lib.hid hcl
   clear hb2 hcl B1 HCO
   go_wp2_with fail
   refine(HCA.out _ _ _ HCL.out).mono ?_
   rintro e w3 ⟨rfl,hb3⟩
   have B3:=Lib.hid (B2.out.trans (hb3.mono B2.out.size))
   clear hb3 HCL B2 HCA
   go_wp2_with fail
   go_ret
   exact HR.out _ B3.out
 ·have HR:Hid (∀W,Below w.heap.size w W→RupEnd n cs ss w (.returned (codeV (chkK n cs))) W):=fun W hb=>⟨_,_,_,rfl,.one c1,codeErr _ _ _,hb⟩
  rw[codeV_ne c1]at HCK HR
  clear h1 h2 hf big hbeg
  go_enter Tryz.func35,Tryz.ntmps35
  go_wp2_with fail
  refine HCK.out.mono ?_
  rintro e w1 ⟨rfl,hb1⟩
  go_wp2_with fail
  go_ret
  exact HR.out _ hb1
end Prp
namespace Prp
open Go.RowKit
def RRupEnd (n:Int)(cs ss:List (List Int))(w:World)(e:Ending)(w':World):Prop:=
 ∃x at',e= .returned (.tuple #[.int .i64 x,.int .i64 at'])∧RupIs n cs ss x at'∧Below w.heap.size w w'
theorem negs_snoc (l:List Int)(k:Nat)(h:k<l.length):negs (l.take k) ++ [-(l.getD k 0)]=negs (l.take (k+1)):=by
 rw[List.take_succ_eq_append_getElem h]
 rw[negs,negs,List.map_append]
 simp[List.getD_eq_getElem?_getD,h]
theorem rrup_any (n:Int)(a:Option Addr)(m cap:Nat)(cs:List (List Int))(a2:Option Addr)(m2 cap2:Nat)(ss:List (List Int))(w:World)(h1:GivenC w a m cs)(h2:GivenC w a2 m2 ss)(hf:Few cs ss):
 Calls Tryz.prog 39 #[.int .i64 n,.slice a m cap,.slice a2 m2 cap2] w (RRupEnd n cs ss w):=by
 have hm1:=h1.hm
 have hm2:=h2.hm
 have hm3:m≤20000:=by have:=hf.l1;omega
 have hm4:m2≤100:=by have:=hf.l2;omega
 have big:∀(l:List (List Int)) (k:Nat),(∀c,c∈l→c.length≤100000)→l.length=k→k≤16384→∀j,j<k→(l.getD j []).length≤4611686018427387904:=fun l k hl hk _ j hj=>by
  have:=hl _ (getD_memC (cs:=l) (i:=j) (by omega));omega
 have HCK:=Lib.hid (rcheck_any n a m cap cs w h1.hm h1.hmm h1.hl (big cs m hf.k1 hm1))
 by_cases c1:chkK n cs=0
 ·have HC1:=Lib.hid c1
  rw[c1]at HCK
  have HCA:=Lib.hid (fun(W:World) (b:Option Addr) (cap5:Nat) (hl:CLies W.heap.size W b (cs ++ ss))=>rcheck_any n b (m+m2) cap5 (cs ++ ss) W (by rw[List.length_append];omega) (by omega) hl (big _ _ hf.k (by rw[List.length_append];omega)))
  have H1:=Lib.hid h1
  have H2:=Lib.hid h2
  have HF:=Lib.hid hf
  obtain⟨i0,hi,hz0,hz1,hz2⟩:=info_parts Tryz.infoInts
  obtain⟨i1,hi1,hy0,hy1,hy2⟩:=info_parts Tryz.infoInt
  obtain⟨xs,ex,hx,hxc⟩:=h1.hl.rows
  obtain⟨ys,ey,hy,hyc⟩:=h2.hl.rows
  have HXL:Hid (xs.length=m):=by show _=_;rw[←hm1,←ex,gforms_len]
  have HYL:Hid (ys.length=m2):=by show _=_;rw[←hm2,←ey,gforms_len]
  have B1:Hid (Below w.heap.size w (w.alloc (.cells #[] 23))):=(Below.refl _ w).alloc (Nat.le_refl _) _
  obtain⟨v2,w2,hr2,ho2,_,hb2⟩:=run_append_rows (P:=Tryz.prog) (w:=w.alloc (.cells #[] 23)) w.heap.size 41 41 23 i0 _ Tryz.underlying41 hi hz0 hz1 hz2 rfl _ 0 [] rfl (World.ownsRow_lit w #[] 0 (Nat.le_refl _) (by unfold maxLen;omega) rfl) B1.out.size a m cap xs HXL.out (fun h=>by
   obtain⟨b,off,rfl,hlt,h3⟩:=hxc (by omega)
   exact⟨b,off,rfl,fun j u hu=>(B1.out.cell (p:=⟨b,off+j,none⟩) hlt).trans (h3 j u hu)⟩) (by omega)
  have B2:=Lib.hid (B1.out.trans hb2)
  obtain⟨v3,w3,hr3,ho3,_,hb3⟩:=run_append_rows (P:=Tryz.prog) (w:=w2) w.heap.size 41 41 23 i0 _ Tryz.underlying41 hi hz0 hz1 hz2 rfl v2 (0+m) ([] ++ xs) (by rw[List.nil_append,HXL.out,Nat.zero_add]) ho2 B2.out.size a2 m2 cap2 ys HYL.out (fun h=>by
   obtain⟨b,off,rfl,hlt,h3⟩:=hyc (by omega)
   exact⟨b,off,rfl,fun j u hu=>(B2.out.cell (p:=⟨b,off+j,none⟩) hlt).trans (h3 j u hu)⟩) (by omega)
  have B3:=Lib.hid (B2.out.trans hb3)
  have hk:=own_clies (by rw[List.nil_append,List.length_append,HXL.out,HYL.out,Nat.zero_add]) ho3 (fun x hx'=>by
   rw[List.nil_append]at hx'
   rcases List.mem_append.1 hx' with h | h
   ·exact((hx x h).below B3.out).mono B3.out.size
   ·exact((hy x h).below B3.out).mono B3.out.size)
  obtain⟨b,cap5,rfl,hc1,hc2,hc⟩:=hk
  rw[Nat.zero_add]at hc1 hr3
  rw[List.nil_append,gforms_append,ex,ey]at hc
  have HCL:=Lib.hid hc
  clear hx hy hxc hyc ex ey ho2 hb2 ho3 hb3 hc B1 B2
  by_cases c2:chkK n (cs ++ ss)=0
  ·obtain⟨n0,rfl,hn,_,_,h5⟩:=chkK_zero c2
   have HC2:=Lib.hid c2
   have H5:=Lib.hid h5
   rw[c2]at HCA
   clear c1 c2 h5 h1 h2 hf big
   have HM1:=Lib.hid hm1
   have HM2:=Lib.hid hm2
   clear hm1 hm2
   go_enter Tryz.func39,Tryz.ntmps39
   go_wp2_with fail
   refine HCK.out.mono ?_
   rintro e w1 ⟨rfl,rfl⟩
   go_wp2_with (at_builtin;first | refine Lib.wpList_append_run _ rfl _ _ _ _ rfl _ _ rfl rfl _ _ hr2 ?_ | refine Lib.wpList_append_run _ rfl _ _ _ _ rfl _ _ rfl rfl _ _ hr3 ?_)
   refine(HCA.out _ _ _ HCL.out).mono ?_
   rintro e w4 ⟨rfl,rfl⟩
   go_wp2_with fail
   have HLA:Hid ((cs ++ ss).length=m+m2):=by show _=_;rw[List.length_append,HM1.out,HM2.out]
   go_loopw [10,11] (fun em i wr=>∃(k:Nat) (z:Bool),k≤m+m2∧em= .bool z∧i= .int .i64 k∧Hid (z=true↔∃q,q<k∧((cs ++ ss).getD q []).length=0)∧Hid (∀j,m+j<k→OkAt cs ss j)∧Hid (Below w3.heap.size w3 wr)) (fun _ i _=>m+m2 - (intOf i).toNat)
   case atStart=>exact⟨0,false,Nat.zero_le _,rfl,rfl,⟨fun h=>(by cases h),fun⟨q,hq,_⟩=>absurd hq (Nat.not_lt_zero q)⟩,fun j hj=>absurd hj (Nat.not_lt_zero _),Below.refl _ _⟩
   case round=>
    obtain⟨k,z,hk,rfl,rfl,hz,hok,hbr⟩:=hrel
    obtain⟨wo,rfl⟩:∃wo:World,wo=wr:=⟨_,rfl⟩
    have BR:=Lib.hid (B3.out.trans (hbr.out.mono B3.out.size))
    have HCR:=Lib.hid ((HCL.out.below hbr.out).mono hbr.out.size)
    by_cases hlt:k<m+m2
    ·have hlti:(k:Int)<((m+m2:Nat):Int):=by omega
     have hlti2:(k:Int)<(m:Int)+(m2:Int):=by omega
     have hmem:=getD_memC (cs:=cs ++ ss) (i:=k) (by rw[HLA.out];exact hlt)
     have hcl:=HF.out.k _ hmem
     have HIN:=Lib.hid (H5.out _ hmem)
     obtain⟨b3,off3,ta,tcap,hbe,hb3l,d1,dn⟩:=HCR.out k (by rw[HLA.out];exact hlt)
     have HCLR:=HCR
     subst hbe
     have HD1:Hid (∀W,Below wo.heap.size wo W→W.cell? ⟨b3,off3+k,none⟩=some (.slice ta ((cs ++ ss).getD k []).length tcap)):=fun W hW=>(hW.cell (p:=⟨b3,off3+k,none⟩) hb3l).trans d1
     have HDN:=Lib.hid dn
     have HOK:Hid (m≤k→(Conf ((cs ++ ss).take k) (negs ((cs ++ ss).getD k []))↔OkAt cs ss (k - m))):=fun h=>by
      unfold OkAt
      rw[HM1.out,show m+(k - m)=k by omega,←getD_app (cs:=cs) (ss:=ss) (i:=k - m) (by rw[HM2.out];omega),HM1.out,show m+(k - m)=k by omega]
     have HCX:Hid (Ctx n0 ((cs ++ ss).take k) (negs ((cs ++ ss).getD k []))):=⟨⟨fun c hc=>H5.out c (List.mem_of_mem_take hc),negs_in HIN.out⟩,by omega,by rw[List.length_take];omega,fun c hc=>by have:=HF.out.k c (List.mem_of_mem_take hc);omega⟩
     have HFO:=Lib.hid (fun(W:World) (hb:Below wo.heap.size wo W) (a3:Option Addr) (cap3:Nat) (hn5:Nums W.heap.size W a3 (negs ((cs ++ ss).getD k [])))=>
      rfollow_any HCX.out (some ⟨b3,off3,none⟩) k cap5 a3 ((cs ++ ss).getD k []).length cap3 W (by rw[List.length_take,HLA.out];omega) (((HCR.out.below hb).mono hb.size).take k) (negs_len _) (by omega) hn5)
     have HZ:Hid (∀z':Bool,((((cs ++ ss).getD k []).length=0∧z'=true)∨(((cs ++ ss).getD k []).length≠0∧z'=z))→(z'=true↔∃q,q<k+1∧((cs ++ ss).getD q []).length=0)):=fun z' h=>by
      rcases h with ⟨h1,rfl⟩ | ⟨h1,rfl⟩
      ·exact⟨fun _=>⟨k,by omega,h1⟩,fun _=>rfl⟩
      ·refine hz.out.trans ⟨fun⟨q,h2,h3⟩=>⟨q,by omega,h3⟩,fun⟨q,h2,h3⟩=>⟨q, ?_,h3⟩⟩
       rcases Nat.lt_or_ge q k with h | h
       ·exact h
       ·obtain rfl:q=k:=by omega
        exact absurd h3 h1
     clear hmem dn
     generalize (cs ++ ss).getD k []=c at hcl HIN d1 HD1 HDN HOK HCX HFO HZ
     obtain⟨z',hz',HZ'⟩:∃z':Bool,((c.length=0∧z'=true)∨(c.length≠0∧z'=z))∧Hid (z'=true↔∃q,q<k+1∧((cs ++ ss).getD q []).length=0):=by
      by_cases h:c.length=0
      ·exact⟨true,.inl ⟨h,rfl⟩,HZ.out _ (.inl ⟨h,rfl⟩)⟩
      ·exact⟨z,.inr ⟨h,rfl⟩,HZ.out _ (.inr ⟨h,rfl⟩)⟩
     clear HZ hz
     by_cases hkm:k<m
     ·have hkmi:(k:Int)<(m:Int):=by omega
      have hok2:Hid (∀j,m+j<k+1→OkAt cs ss j):=fun j hj=>absurd hj (by omega)
      rcases hz' with ⟨hcz,rfl⟩ | ⟨hcz,rfl⟩
      ·rw[hcz]at d1
       clear hok HCX HFO HOK HDN HIN
       go_wp2_with fail
       go_roundw
       case rel=>exact⟨k+1,true,by omega,rfl,by go_num,HZ',hok2,hbr⟩
       case measure=>simp[intOf];omega
      ·have hczi:((c.length:Int) == 0)=false:=beq_eq_false_iff_ne.2 (by omega)
       clear hok HCX HFO HOK HDN HIN
       go_wp2_with fail
       go_roundw
       case rel=>exact⟨k+1,z',by omega,rfl,by go_num,HZ',hok2,hbr⟩
       case measure=>simp[intOf];omega
     ·have hkmi:¬(k:Int)<(m:Int):=by omega
      have HOKC:=Lib.hid (HOK.out (by omega))
      have HRT:Hid (¬Conf ((cs ++ ss).take k) (negs c)→∀W,Below w.heap.size w W→RRupEnd n0 cs ss w (.returned (.tuple #[.int .i64 9,.int .i64 ((k:Int) - (m:Int))])) W):=fun hn W hb=>by
       have:=RupIs.step (n:=n0) (k - m) HC1.out HC2.out (by rw[HM2.out];omega) (fun j hj=>hok.out j (by omega)) (fun h=>hn (HOKC.out.2 h))
       rw[show((k - m:Nat):Int)=(k:Int) - (m:Int) by omega]at this
       exact⟨_,_,rfl,this,hb⟩
      have HNX:Hid (Conf ((cs ++ ss).take k) (negs c)→∀j,m+j<k+1→OkAt cs ss j):=fun hc j hj=>by
       by_cases e:m+j=k
       ·have:=HOKC.out.1 hc;rwa [show k - m=j by omega]at this
       ·exact hok.out j (by omega)
      have hwk:IntKind.i64.wrap ((k:Int) - (m:Int))=(k:Int) - (m:Int):=IntWalk.i64_in _ (by omega)
      clear hok HOK HOKC
      have HCZ:Hid (((c.length:Int) == 0)=true∧z'=true∨((c.length:Int) == 0)=false∧z'=z):=by
       show _∨_
       rcases hz' with ⟨h,h2⟩ | ⟨h,h2⟩
       ·exact .inl ⟨by simp[h],h2⟩
       ·exact .inr ⟨beq_eq_false_iff_ne.2 (by omega),h2⟩
      clear hz'
      rcases HCZ.out with ⟨hcz,rfl⟩ | ⟨hcz,rfl⟩
      all_goals
       clear HCZ
       go_wp2_with fail
       go_loopw [12,13] (fun nt i wr=>∃r:Nat,r≤c.length∧i= .int .i64 r∧Hid (IRow wo.heap.size (negs (c.take r)) nt wr)∧Hid (Below wo.heap.size wo wr)) (fun _ i _=>c.length - (intOf i).toNat)
       case atStart=>exact⟨0,Nat.zero_le _,rfl,IRow.nil _ _,Below.refl _ _⟩
       case round=>
        obtain⟨r,hr,rfl,hir,hb4⟩:=hrel
        have e0:=HD1.out _ hb4.out
        by_cases hltr:r<c.length
        ·obtain⟨b5,off5,rfl,h5l,f2⟩:=HDN.out r hltr
         have f2:=(hb4.out.cell (p:=⟨b5,off5+r,none⟩) h5l).trans f2
         have hin:=HIN.out (c.getD r 0) (getD_mem0 hltr)
         have hwn:IntKind.i64.wrap (-(c.getD r 0))= -(c.getD r 0):=IntWalk.i64_in _ (by unfold inR at hin;omega)
         have HDR:=Lib.hid (negs_snoc c r hltr)
         have hln:Hid ((negs (c.take r)).length=r):=by show _=_;rw[negs_len,List.length_take];omega
         have hltri:(r:Int)<(c.length:Int):=by omega
         clear hin
         generalize c.getD r 0=y at f2 HDR hwn
         have HAL:Hid (Below wr.heap.size wr (wr.alloc (.cells #[.int .i64 (-y)] 3))):=(Below.refl _ wr).alloc (Nat.le_refl _) _
         have HRW:Hid ((wr.alloc (.cells #[.int .i64 (-y)] 3)).ownsRow wo.heap.size 3 1 u12 (negs (c.take r)).length ((negs (c.take r)).map (Value.int .i64))):=hir.out.below HAL.out
         have NEWS:=Lib.hid (World.news_of_block (cs:= #[.int .i64 (-y)]) (t:=3) (fr:=(0,0)) (heap_alloc_new wr _))
         have HB5:Hid (Below wo.heap.size wo (wr.alloc (.cells #[.int .i64 (-y)] 3))):=hb4.out.trans (HAL.out.mono hb4.out.size)
         have HBZ:Hid (wo.heap.size≤(wr.alloc (.cells #[.int .i64 (-y)] 3)).heap.size):=HB5.out.size
         clear hb4
         generalize negs (c.take r)=l9 at HDR hln HRW hir
         go_wp2_with (at_builtin;refine wpList_append_lies _ rfl _ _ 23 rfl wo.heap.size 3 i1 _ 1 8 Tryz.underlying23 hi1 hy0 hy1 hy2 rfl (by omega) u12 l9.length (l9.map (Value.int .i64)) rfl HRW.out ⟨wr.heap.size,0,none⟩ 1 1 [.int .i64 (-y)] rfl rfl NEWS.out (by simp[Value.oneCell']) (by omega) (by have:=hln.out;unfold maxLen;omega) (by have:=hln.out;omega) HBZ.out (wr.heap.size+1) (by simp) ?_)
         intro gg cap6 w6 hown6 hgrow6 hat6 hlt6
         have RN:Hid (IRow wo.heap.size (negs (c.take (r+1))) (.slice (some ⟨gg,0,none⟩) (l9.length+1) cap6) w6):=by
          show IRow _ _ _ _
          rw[←HDR.out];exact IRow.snoc hown6
         have BN:Hid (Below wo.heap.size wo w6):=HB5.out.grown hgrow6 HBZ.out (fun g hg=>(World.ownsRow.lt HRW.out g hg).1)
         clear hown6 hgrow6 hat6 hlt6 HRW NEWS HBZ HB5 HAL HDR hir
         go_wp2_with fail
         go_roundw
         case rel=>exact⟨r+1,by omega,by go_num,RN,BN⟩
         case measure=>simp[intOf];omega
        ·obtain rfl:r=c.length:=by omega
         obtain⟨a3,cap3,rfl,hl3⟩:=hir.out.lies
         rw[List.take_length]at hl3
         rw[List.take_length,negs_len]
         have HN:=Lib.hid (hl3.nums (fun b hb=>hb.2))
         have hs1:¬((k:Int)<0):=by omega
         have hs2:k≤cap5:=by omega
         clear hir hl3 HIN HDN
         go_wp2_with fail
         refine(HFO.out wr hb4.out a3 cap3 HN.out).mono ?_
         rintro e w5 ⟨hb5,v,b,A,rfl,hfi,_,_⟩
         have HIF:=Lib.hid hfi.iff
         have B5:=Lib.hid (BR.out.trans ((hb4.out.trans (hb5.mono hb4.out.size)).mono BR.out.size))
         have hb5:Hid (Below w3.heap.size w3 w5):=hbr.out.trans ((hb4.out.trans (hb5.mono hb4.out.size)).mono hbr.out.size)
         clear hfi HFO HN hb4
         cases b with
         | false=>
           have HE:=Lib.hid (HRT.out (fun h=>by have:=HIF.out.2 h;cases this) w5 B5.out)
           clear HRT HNX HIF
           go_wp2_with fail
           go_ret2
           exact HE.out
         | true=>
           have HOK2:Hid (∀j,m+j<k+1→OkAt cs ss j):=HNX.out (HIF.out.1 rfl)
           clear HRT HNX HIF
           go_wp2_with fail
           go_roundw
           case rel=>exact⟨k+1,_,by omega,rfl,by go_num,(by first | exact HZ' | exact⟨fun _=>HZ'.out.1 trivial,fun _=>rfl⟩),HOK2,hb5⟩
           case measure=>simp[intOf];omega
    ·obtain rfl:k=m+m2:=by omega
     have HOKA:Hid (∀j,j<ss.length→OkAt cs ss j):=fun j hj=>hok.out j (by rw[HM2.out]at hj;omega)
     cases z with
     | false=>
       have HNE:Hid (RRupEnd n0 cs ss w (.returned (.tuple #[.int .i64 8,.int .i64 (-1)])) wo):=⟨_,_,rfl,.opn HC1.out HC2.out HOKA.out (nil_not (fun q hq he=>by
        have:=hz.out.2 ⟨q,by rw[HLA.out]at hq;exact hq,he⟩;cases this)),BR.out⟩
       clear hz hok HOKA
       go_wp2_with fail
       go_ret2
       exact HNE.out
     | true=>
       have HNE:Hid (RRupEnd n0 cs ss w (.returned (.tuple #[.int .i64 0,.int .i64 (-1)])) wo):=by
        obtain⟨q,hq,he⟩:=hz.out.1 rfl
        exact⟨_,_,rfl,.yes HC1.out HC2.out HOKA.out (nil_mem (by rw[HLA.out];exact hq) he),BR.out⟩
       clear hz hok HOKA
       go_wp2_with fail
       go_ret2
       exact HNE.out
  ·have HR:Hid (∀W,Below w.heap.size w W→RRupEnd n cs ss w (.returned (.tuple #[.int .i64 (chkK n (cs ++ ss)),.int .i64 (-1)])) W):=fun W hb=>⟨_,_,rfl,.two c1 c2,hb⟩
   have hbne:(chkK n (cs ++ ss) != 0)=true:=by simp[c2]
   clear h1 h2 hf big hm1 hm2 c1
   generalize chkK n (cs ++ ss)=x at HCA HR hbne c2
   go_enter Tryz.func39,Tryz.ntmps39
   go_wp2_with fail
   refine HCK.out.mono ?_
   rintro e w1 ⟨rfl,rfl⟩
   go_wp2_with (at_builtin;first | refine Lib.wpList_append_run _ rfl _ _ _ _ rfl _ _ rfl rfl _ _ hr2 ?_ | refine Lib.wpList_append_run _ rfl _ _ _ _ rfl _ _ rfl rfl _ _ hr3 ?_)
   refine(HCA.out _ _ _ HCL.out).mono ?_
   rintro e w4 ⟨rfl,rfl⟩
   go_wp2_with fail
   go_ret2
   exact HR.out _ B3.out
 ·have HR:Hid (RRupEnd n cs ss w (.returned (.tuple #[.int .i64 (chkK n cs),.int .i64 (-1)])) w):=⟨_,_,rfl,.one c1,Below.refl _ _⟩
  have hbne:(chkK n cs != 0)=true:=by simp[c1]
  clear h1 h2 hf big hm1 hm2
  generalize chkK n cs=x at HCK HR hbne c1
  go_enter Tryz.func39,Tryz.ntmps39
  go_wp2_with fail
  refine HCK.out.mono ?_
  rintro e w1 ⟨rfl,rfl⟩
  go_wp2_with fail
  go_ret2
  exact HR.out
end Prp
namespace Prp
open Go.RowKit
theorem ErrIs.below {B:Nat}{x at':Int}{er:Value}{w w':World}(h:ErrIs B x at' er w)(hb:Below w.heap.size w w'):ErrIs B x at' er w':=
 ⟨h.1,fun h0=>by
   obtain⟨g,e,hg,hlt,h1,h2⟩:=h.2 h0
   exact⟨g,e,hg,Nat.lt_of_lt_of_le hlt hb.size,(hb.cell (p:=⟨g,0,none⟩) hlt).trans h1,(hb.cell (p:=⟨g,1,none⟩) hlt).trans h2⟩⟩
end Prp
end Go.Proofs.YtipahfcaplbifaaGreatDoor
