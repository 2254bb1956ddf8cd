/- Parts of a proof. -/
import Derived.Test.YtfinhpfjokpcfaaDoorQ09
import Derived.Test.YtfinhpfjokpcfaaDoorQ12
set_option linter.unusedVariables false
set_option linter.unusedSimpArgs false
set_option maxHeartbeats 60000000
set_option maxRecDepth 100000
namespace Go.Proofs.YtfinhpfjokpcfaaDoor
section
open Go.RowKit
def cmpV (k a b:Int):Bool:=if k=2 then a == b else if k=3 then !(a == b) else if k=4 then decide (a<b) else decide (a≤b)
theorem compare_any (k a b:Int)(w:World):ValAll 30 #[.int .i64 k,.int .i64 a,.int .i64 b] (.bool (cmpV k a b)) w:=fun W hW=>by
 clear hW
 unfold cmpV
 by_cases h2:k=2
 ·rw[if_pos h2]
  have t2:(k == 2)=true:=by rw[h2];rfl
  clear h2
  go_enter Tryd.func30,Tryd.ntmps30
  go_wp2_with fail
  go_ret
  exact⟨rfl,Below.refl _ _⟩
 ·rw[if_neg h2]
  have t2:(k == 2)=false:=beq_eq_false_iff_ne.2 h2
  by_cases h3:k=3
  ·rw[if_pos h3]
   have t3:(k == 3)=true:=by rw[h3];rfl
   clear h3 h2
   go_enter Tryd.func30,Tryd.ntmps30
   go_wp2_with fail
   go_ret
   exact⟨rfl,Below.refl _ _⟩
  ·rw[if_neg h3]
   have t3:(k == 3)=false:=beq_eq_false_iff_ne.2 h3
   by_cases h4:k=4
   ·rw[if_pos h4]
    have t4:(k == 4)=true:=by rw[h4];rfl
    clear h3 h2 h4
    go_enter Tryd.func30,Tryd.ntmps30
    go_wp2_with fail
    go_ret
    exact⟨rfl,Below.refl _ _⟩
   ·rw[if_neg h4]
    have t4:(k == 4)=false:=beq_eq_false_iff_ne.2 h4
    clear h3 h2 h4
    go_enter Tryd.func30,Tryd.ntmps30
    go_wp2_with fail
    go_ret
    exact⟨rfl,Below.refl _ _⟩
def truC (ρ:ByteArray→Int):Nat→CT→Bool×Bool
 | 0,_=>(false,false)
 | n+1,c=>
   if c.es.length=2 then(cmpV c.kind (valE ρ n (c.es.getD 0 default)).1 (valE ρ n (c.es.getD 1 default)).1,(valE ρ n (c.es.getD 0 default)).2 && (valE ρ n (c.es.getD 1 default)).2)
   else if c.kind=0 then(true,true)
   else if c.kind=1 then(false,true)
   else if(truC ρ n (c.ks.getD 0 default)).2=false then(false,false)
   else if c.kind=6 then(!(truC ρ n (c.ks.getD 0 default)).1,true)
   else if(truC ρ n (c.ks.getD 1 default)).2=false then(false,false)
   else if c.kind=7 then((truC ρ n (c.ks.getD 0 default)).1 && (truC ρ n (c.ks.getD 1 default)).1,true)
   else((truC ρ n (c.ks.getD 0 default)).1 || (truC ρ n (c.ks.getD 1 default)).1,true)
theorem truC_succ (ρ:ByteArray→Int)(n:Nat)(c:CT):truC ρ (n+1) c=if c.es.length=2 then(cmpV c.kind (valE ρ n (c.es.getD 0 default)).1 (valE ρ n (c.es.getD 1 default)).1,(valE ρ n (c.es.getD 0 default)).2 && (valE ρ n (c.es.getD 1 default)).2)
 else if c.kind=0 then(true,true)
 else if c.kind=1 then(false,true)
 else if(truC ρ n (c.ks.getD 0 default)).2=false then(false,false)
 else if c.kind=6 then(!(truC ρ n (c.ks.getD 0 default)).1,true)
 else if(truC ρ n (c.ks.getD 1 default)).2=false then(false,false)
 else if c.kind=7 then((truC ρ n (c.ks.getD 0 default)).1 && (truC ρ n (c.ks.getD 1 default)).1,true)
 else((truC ρ n (c.ks.getD 0 default)).1 || (truC ρ n (c.ks.getD 1 default)).1,true):=rfl
def TruIn (x:Bool×Bool)(w:World)(r:Ending)(w':World):Prop:=r= .returned (.tuple #[.bool x.1,.bool x.2])∧Below w.heap.size w w'
theorem sits_at {T:Type}{sh:Pak.Sh T}{S:Nat→Prop}{w:World}{b off:Nat}{xs:List T}(h:Pak.Sits sh S w (some ⟨b,off,none⟩) xs){i:Nat}(hi:i<xs.length):∃cs,(∀j v,cs[j]? =some v→w.cell? ((⟨b,off+i*sh.k,none⟩:Addr).add j)=some v)∧sh.rel S w cs xs[i]:=by
 obtain⟨b',off',cs,e,_,hc,hr⟩:=h.2 i hi
 injection e with e
 injection e with e1 e2 _
 subst e1 e2
 refine⟨cs,fun j v hv=> ?_,hr⟩
 rw[show(⟨b,off+i*sh.k,none⟩:Addr).add j=⟨b,off+i*sh.k+j,none⟩ by unfold Addr.add;split<;>simp_all]
 exact hc j v hv
theorem sits_some {T:Type}{sh:Pak.Sh T}{S:Nat→Prop}{w:World}{a:Option Addr}{xs:List T}(h:Pak.Sits sh S w a xs)(hp:0<xs.length):∃b off,a=some ⟨b,off,none⟩:=by
 obtain⟨b',off',cs,e,_,hc,hr⟩:=h.2 0 hp
 exact⟨b',off',e⟩
theorem hcond_cmp (k:Int)(cs0 cs1:List Value)(vs:Value)(b off cap:Nat)(a2:Option Addr)(m2 c2:Nat)(u0 u1:Int)(z0 z1:Bool)(w:World)(hl0:cs0.length=4)(hl1:cs1.length=4)(hb:b<w.heap.size)
 (hc0:∀i v,cs0[i]? =some v→w.cell? ((⟨b,off,none⟩:Addr).add i)=some v) (hc1:∀i v,cs1[i]? =some v→w.cell? ((⟨b,off+4,none⟩:Addr).add i)=some v)
 (x0:ValAll 14 #[.agg cs0.toArray,vs] (.tuple #[.int .i64 u0,.bool z0]) w) (x1:ValAll 14 #[.agg cs1.toArray,vs] (.tuple #[.int .i64 u1,.bool z1]) w):
 Calls Tryd.prog 18 #[.agg #[.int .i64 k,.slice (some ⟨b,off,none⟩) 2 cap,.slice a2 m2 c2],vs] w (TruIn (cmpV k u0 u1,z0 && z1) w):=by
 have HA:Hid (Below w.heap.size w (w.alloc (.cells #[.int .i64 k,.slice (some ⟨b,off,none⟩) 2 cap,.slice a2 m2 c2] 25))):=box_low
 have HB0:Hid (Below (w.alloc (.cells #[.int .i64 k,.slice (some ⟨b,off,none⟩) 2 cap,.slice a2 m2 c2] 25)).heap.size (w.alloc (.cells #[.int .i64 k,.slice (some ⟨b,off,none⟩) 2 cap,.slice a2 m2 c2] 25)) (w.alloc (.cells #[.int .i64 k,.slice (some ⟨b,off,none⟩) 2 cap,.slice a2 m2 c2] 25))):=Below.refl _ _
 have HC0:Hid (∀W,Below w.heap.size w W→∀i v,cs0[i]? =some v→W.cell? ((⟨b,off,none⟩:Addr).add i)=some v):=fun W hW i v hv=>by
  have:=hc0 i v hv
  rw[show(⟨b,off,none⟩:Addr).add i=⟨b,off+i,none⟩ by unfold Addr.add;split<;>simp_all]at this⊢
  exact(hW.cell (p:=⟨b,off+i,none⟩) hb).trans this
 have HC1:Hid (∀W,Below w.heap.size w W→∀i v,cs1[i]? =some v→W.cell? ((⟨b,off+4,none⟩:Addr).add i)=some v):=fun W hW i v hv=>by
  have:=hc1 i v hv
  rw[show(⟨b,off+4,none⟩:Addr).add i=⟨b,off+4+i,none⟩ by unfold Addr.add;split<;>simp_all]at this⊢
  exact(hW.cell (p:=⟨b,off+4+i,none⟩) hb).trans this
 have L0:=Lib.hid hl0
 have L1:=Lib.hid hl1
 have X0:=Lib.hid x0
 have X1:=Lib.hid x1
 have CM:=Lib.hid (fun W=>compare_any k u0 u1 W W (Below.refl _ _))
 have Q0:=Lib.hid (fun W (hb:Below (w.alloc (.cells #[.int .i64 k,.slice (some ⟨b,off,none⟩) 2 cap,.slice a2 m2 c2] 25)).heap.size (w.alloc (.cells #[.int .i64 k,.slice (some ⟨b,off,none⟩) 2 cap,.slice a2 m2 c2] 25)) W)=>box_at (cs:=[.int .i64 k,.slice (some ⟨b,off,none⟩) 2 cap,.slice a2 m2 c2]) (o:=0) rfl hb)
 have Q1:=Lib.hid (fun W (hb:Below (w.alloc (.cells #[.int .i64 k,.slice (some ⟨b,off,none⟩) 2 cap,.slice a2 m2 c2] 25)).heap.size (w.alloc (.cells #[.int .i64 k,.slice (some ⟨b,off,none⟩) 2 cap,.slice a2 m2 c2] 25)) W)=>box_at (cs:=[.int .i64 k,.slice (some ⟨b,off,none⟩) 2 cap,.slice a2 m2 c2]) (o:=1) rfl hb)
 clear hl0 hl1 hb hc0 hc1 x0 x1
 generalize cmpV k u0 u1=cm at*
 go_enter Tryd.func18,Tryd.ntmps18
 go_wp2_with (first | go_skip | (refine wpList_load_w (by kernel_rfl) 27 _ rfl ⟨b,off,none⟩ rfl cs0 _ (HC0.out _ HA.out) Tryd.underlying27 rfl (by rw[L0.out];kernel_rfl) ?_))
 refine(X0.out.at HA.out).mono ?_
 rintro r w1 ⟨rfl,hb⟩
 have H1:=Lib.hid (HB0.out.trans (hb.mono HB0.out.size))
 have W1:=Lib.hid (HA.out.trans (hb.mono HA.out.size))
 have q1:=Q1.out _ H1.out
 clear hb
 go_wp2_with (first | go_skip | (refine wpList_load_w (by kernel_rfl) 27 _ rfl ⟨b,off+4,none⟩ rfl cs1 _ (HC1.out _ W1.out) Tryd.underlying27 rfl (by rw[L1.out];kernel_rfl) ?_))
 refine(X1.out.at W1.out).mono ?_
 rintro r w2 ⟨rfl,hb⟩
 have H2:=Lib.hid (H1.out.trans (hb.mono H1.out.size))
 have W2:=Lib.hid (W1.out.trans (hb.mono W1.out.size))
 have q0:=Q0.out _ H2.out
 clear hb q1
 go_wp2_with fail
 refine(CM.out _).mono ?_
 rintro r w3 ⟨rfl,hb⟩
 have W3:=Lib.hid (W2.out.trans (hb.mono W2.out.size))
 clear hb
 cases z0 with
 | false=>
   go_wp2_with fail
   go_ret2
   exact⟨rfl,W3.out⟩
 | true=>
   go_wp2_with fail
   go_ret2
   exact⟨rfl,W3.out⟩
theorem truC_far {ρ:ByteArray→Int}{n:Nat}{c:CT}{m j:Nat}(he:c.es.length≠2)(hk:((c.kind=0∨c.kind=1)∧m=0)∨(c.kind=6∧m=1)∨(c.kind=7∧m=2)∨(c.kind=8∧m=2))(hj:j<m)(hp:∀q,q<j→(truC ρ n (c.ks.getD q default)).2=true)(h:(truC ρ n (c.ks.getD j default)).2=false):truC ρ (n+1) c=(false,false):=by
 have h0:c.kind≠0:=by omega
 have h1:c.kind≠1:=by omega
 have hj2:j=0∨j=1:=by omega
 rw[truC_succ,if_neg he,if_neg h0,if_neg h1]
 rcases hj2 with rfl | rfl
 ·rw[if_pos h]
 ·have h6:c.kind≠6:=by omega
  rw[if_neg (by rw[hp 0 (Nat.succ_pos _)];decide),if_neg h6,if_pos h]
def kidB (ρ:ByteArray→Int)(n:Nat)(c:CT)(j q:Nat):Bool:=if q<j then(truC ρ n (c.ks.getD q default)).1 else false
theorem hcond_kid (n:Nat)(ρ:ByteArray→Int)(e:CT)(vs:Value)(a1:Option Addr)(m1 cp1:Nat)(a:Option Addr)(m cap:Nat)(w:World)(hm1:e.es.length=m1)(he:m1≠2)(hm:e.ks.length=m)(hs:Pak.Sits (condSh n) (Pak.Lo w.heap.size) w a e.ks)
 (hk:((e.kind=0∨e.kind=1)∧m=0)∨(e.kind=6∧m=1)∨(e.kind=7∧m=2)∨(e.kind=8∧m=2))
 (hf:∀cs x W,x∈e.ks→Below w.heap.size w W→(condSh n).rel (Pak.Lo W.heap.size) W cs x→Calls Tryd.prog 18 #[.agg cs.toArray,vs] W (TruIn (truC ρ n x) W)):
 Calls Tryd.prog 18 #[.agg #[.int .i64 e.kind,.slice a1 m1 cp1,.slice a m cap],vs] w (TruIn (truC ρ (n+1) e) w):=by
 have HE:Hid (e.es.length≠2):=Lib.hid (by rw[hm1];exact he)
 have HK:=Lib.hid hk
 have HS:=Lib.hid hs
 have HF:=Lib.hid hf
 have HM:=Lib.hid hm
 have hm2:m≤2:=by omega
 have hmm:m≤9223372036854775807:=by omega
 have hmi:((m1:Int) == 2)=false:=by rw[Bool.eq_false_iff];simp only[ne_eq,beq_iff_eq];omega
 have HP:Hid (∀q,(h:q<e.ks.length)→e.ks.getD q default=e.ks[q]):=fun q h=>by
  rw[List.getD_eq_getElem?_getD,List.getElem?_eq_getElem h];rfl
 have HA:Hid (Below w.heap.size w (w.alloc (.cells #[.int .i64 e.kind,.slice a1 m1 cp1,.slice a m cap] 25))):=box_low
 have HQ:Hid (∀W,Below (w.alloc (.cells #[.int .i64 e.kind,.slice a1 m1 cp1,.slice a m cap] 25)).heap.size (w.alloc (.cells #[.int .i64 e.kind,.slice a1 m1 cp1,.slice a m cap] 25)) W→W.cell? ⟨w.heap.size,0,none⟩=some (.int .i64 e.kind)):=fun W hb=>
  box_at (cs:=[.int .i64 e.kind,.slice a1 m1 cp1,.slice a m cap]) rfl hb
 have hq2:((w.alloc (.cells #[.int .i64 e.kind,.slice a1 m1 cp1,.slice a m cap] 25)).alloc (.cells #[.bool false,.bool false] 86)).cell? ⟨w.heap.size,2,none⟩=some (.slice a m cap):=box_at (cs:=[.int .i64 e.kind,.slice a1 m1 cp1,.slice a m cap]) rfl box_low
 have HB1:Hid (Below (w.alloc (.cells #[.int .i64 e.kind,.slice a1 m1 cp1,.slice a m cap] 25)).heap.size (w.alloc (.cells #[.int .i64 e.kind,.slice a1 m1 cp1,.slice a m cap] 25)) ((w.alloc (.cells #[.int .i64 e.kind,.slice a1 m1 cp1,.slice a m cap] 25)).alloc (.cells #[.bool false,.bool false] 86))):=box_low
 have HK0:Hid (Kids2 (w.heap.size+1) (.bool (kidB ρ n e 0 0)) (.bool (kidB ρ n e 0 1)) ((w.alloc (.cells #[.int .i64 e.kind,.slice a1 m1 cp1,.slice a m cap] 25)).alloc (.cells #[.bool false,.bool false] 86))):=Lib.hid (by
  have hh:=heap_alloc_new (w.alloc (.cells #[.int .i64 e.kind,.slice a1 m1 cp1,.slice a m cap] 25)) (.cells #[.bool false,.bool false] 86)
  have hz:(w.alloc (.cells #[.int .i64 e.kind,.slice a1 m1 cp1,.slice a m cap] 25)).heap.size=w.heap.size+1:=by simp
  rw[hz]at hh
  exact⟨(cell_of_row _ _ _ _ _ _ hh).trans rfl,(cell_of_row _ _ _ _ _ _ hh).trans rfl,fun o=>frozen_new hh o⟩)
 clear hs hf hm hk hm1 he
 go_enter Tryd.func18,Tryd.ntmps18
 go_wp2_with fail
 go_loopw [4,50] (fun s i wr=>∃j:Nat,j≤m∧i= .int .i64 j∧s= .bool false∧Hid (∀q,q<j→(truC ρ n (e.ks.getD q default)).2=true)∧Hid (Kids2 (w.heap.size+1) (.bool (kidB ρ n e j 0)) (.bool (kidB ρ n e j 1)) wr)∧Hid (Below (w.alloc (.cells #[.int .i64 e.kind,.slice a1 m1 cp1,.slice a m cap] 25)).heap.size (w.alloc (.cells #[.int .i64 e.kind,.slice a1 m1 cp1,.slice a m cap] 25)) wr)) (fun _ i _=>m - (intOf i).toNat)
 case atStart=>exact⟨0,Nat.zero_le _,rfl,rfl,fun q h=>absurd h (Nat.not_lt_zero _),HK0,HB1⟩
 case round=>
  obtain⟨j,hj,rfl,rfl,hno,hkid,hb⟩:=hrel
  obtain⟨wo,rfl⟩:∃wo:World,wo=wr:=⟨_,rfl⟩
  have HWO:=Lib.hid (HA.out.trans (hb.out.mono HA.out.size))
  by_cases hlt:j<m
  ·have hlx:j<e.ks.length:=by rw[HM.out];exact hlt
   have hji:(j:Int)<(m:Int):=by omega
   obtain⟨b,off,cs,rfl,hbl,hc,hr⟩:=(HS.out.below HWO.out HWO.out.size).2 j hlx
   have hlen:=(condSh n).len hr
   have hone:=(condSh n).one hr
   rw[condSh_k]at hlen hc
   have HC0:Hid (∀i v,cs[i]? =some v→wo.cell? ((⟨b,off+j*3,none⟩:Addr).add i)=some v):=fun i v hv=>by
    rw[show(⟨b,off+j*3,none⟩:Addr).add i=⟨b,off+j*3+i,none⟩ by unfold Addr.add;split<;>simp_all]
    exact hc i v hv
   have hA:Below wo.heap.size wo (wo.alloc (.cells cs.toArray 25)):=box_low
   have HBK:=Lib.hid (hb.out.trans (hA.mono hb.out.size))
   have HWK:=Lib.hid (HWO.out.trans (hA.mono HWO.out.size))
   have HKA:=Lib.hid (hkid.out.below hA)
   have HC:=Lib.hid (HF.out _ e.ks[j] _ (List.getElem_mem hlx) HWK.out (rel_low hr hA))
   have HX:Hid (∀i v,cs[i]? =some v→(wo.alloc (.cells cs.toArray 25)).cell? ((⟨wo.heap.size,0,none⟩:Addr).add i)=some v):=box_part (o:=0) (fun i v h=>by rw[Nat.zero_add];exact h) (Below.refl _ _)
   have HL:=Lib.hid hlen
   have HO:=Lib.hid hone
   have HFAR:Hid ((truC ρ n e.ks[j]).2=false→truC ρ (n+1) e=(false,false)):=fun h=>truC_far HE.out HK.out hlt hno.out (by rw[HP.out j hlx];exact h)
   have HNX:Hid ((truC ρ n e.ks[j]).2=true→∀q,q<j+1→(truC ρ n (e.ks.getD q default)).2=true):=fun h q hq=>by
    by_cases e':q=j
    ·subst e';rw[HP.out q hlx];exact h
    ·exact hno.out q (by omega)
   have HVX:Hid ((truC ρ n (e.ks.getD j default)).1=(truC ρ n e.ks[j]).1):=Lib.hid (by rw[HP.out j hlx])
   clear hc hr hlen hone hA
   generalize truC ρ n e.ks[j]=y at HC HFAR HNX HVX
   obtain⟨yv,yn⟩:=y
   go_wp2_with (first | go_skip | (refine wpList_store_new (by kernel_rfl) 25 _ _ rfl _ rfl cs rfl (by rw[HL.out];kernel_rfl) (by rw[HL.out];rfl) HO.out ?_) | (refine wpList_load_w (by kernel_rfl) 25 _ rfl ⟨b,off+j*3,none⟩ rfl cs _ HC0.out Tryd.underlying25 rfl (by rw[HL.out];kernel_rfl) ?_) | (refine wpList_load_w (by kernel_rfl) 25 _ rfl ⟨wo.heap.size,0,none⟩ rfl cs _ HX.out Tryd.underlying25 rfl (by rw[HL.out];kernel_rfl) ?_))
   refine HC.out.mono ?_
   rintro r w2 ⟨rfl,hb2⟩
   have HB2:=Lib.hid (HBK.out.trans (hb2.mono HBK.out.size))
   have HK2:=Lib.hid (HKA.out.below hb2)
   have HZ:=Lib.hid (HA.out.trans (HB2.out.mono HA.out.size))
   clear hb2 HC HC0 HX
   dsimp only at HFAR HNX HVX⊢
   cases yn with
   | false=>
     have hres:=Lib.hid (HFAR.out rfl)
     clear HFAR HNX HVX
     go_wp2_with fail
     go_ret2
     exact⟨by rw[hres.out];rfl,HZ.out⟩
   | true=>
     have HN2:=Lib.hid (HNX.out rfl)
     obtain⟨k0,k1,kf⟩:=HK2.out
     have hj2:j=0∨j=1:=by omega
     rcases hj2 with rfl | rfl
     ·have HK3:Hid (Kids2 (w.heap.size+1) (.bool (kidB ρ n e (0+1) 0)) (.bool (kidB ρ n e (0+1) 1)) (w2.setCell ⟨w.heap.size+1,0,none⟩ (.bool yv))):=Lib.hid (by
       have h:=HK2.out.set0 (v:= .bool yv)
       have e1:kidB ρ n e (0+1) 0=yv:=by unfold kidB;rw[if_pos (by omega)];exact HVX.out
       have e2:kidB ρ n e (0+1) 1=kidB ρ n e 0 1:=by unfold kidB;rw[if_neg (by omega),if_neg (by omega)]
       rw[e1,e2];exact h)
      have HB3:=Lib.hid (HB2.out.setCell (p:=⟨w.heap.size+1,0,none⟩) (by simp) (.bool yv))
      have kf0:=kf 0
      clear HFAR HNX HVX HK2 kf
      go_wp2_with fail
      go_roundw
      case rel=>exact⟨0+1,by omega,by go_num,rfl,HN2,HK3,HB3⟩
      case measure=>simp[intOf];omega
     ·have HK3:Hid (Kids2 (w.heap.size+1) (.bool (kidB ρ n e (1+1) 0)) (.bool (kidB ρ n e (1+1) 1)) (w2.setCell ⟨w.heap.size+1,1,none⟩ (.bool yv))):=Lib.hid (by
       have h:=HK2.out.set1 (v:= .bool yv)
       have e1:kidB ρ n e (1+1) 1=yv:=by unfold kidB;rw[if_pos (by omega)];exact HVX.out
       have e2:kidB ρ n e (1+1) 0=kidB ρ n e 1 0:=by unfold kidB;rw[if_pos (by omega),if_pos (by omega)]
       rw[e1,e2];exact h)
      have HB3:=Lib.hid (HB2.out.setCell (p:=⟨w.heap.size+1,1,none⟩) (by simp) (.bool yv))
      have kf1:=kf 1
      clear HFAR HNX HVX HK2 kf
      go_wp2_with fail
      go_roundw
      case rel=>exact⟨1+1,by omega,by go_num,rfl,HN2,HK3,HB3⟩
      case measure=>simp[intOf];omega
  ·have hjm:j=m:=by omega
   subst hjm
   have q0:=HQ.out _ hb.out
   obtain⟨k0,k1,kf⟩:=hkid.out
   obtain⟨V,hV,hcase⟩:∃V:Bool,truC ρ (n+1) e=(V,true)∧((e.kind=0∧V=true)∨(e.kind=1∧V=false)∨(e.kind=6∧V= !kidB ρ n e j 0)∨(e.kind=7∧V=(kidB ρ n e j 0 && kidB ρ n e j 1))∨(e.kind=8∧V=(kidB ρ n e j 0 || kidB ρ n e j 1))):=by
    have hk:=HK.out
    rw[truC_succ,if_neg HE.out]
    rcases hk with ⟨h1 | h1,h2⟩ | ⟨h1,h2⟩ | ⟨h1,h2⟩ | ⟨h1,h2⟩
    ·exact⟨true,if_pos h1,.inl ⟨h1,rfl⟩⟩
    ·exact⟨false,by rw[if_neg (by omega),if_pos h1],.inr (.inl ⟨h1,rfl⟩)⟩
    ·subst h2
     refine⟨_, ?_,.inr (.inr (.inl ⟨h1,rfl⟩))⟩
     rw[show kidB ρ n e 1 0=(truC ρ n (e.ks.getD 0 default)).1 from if_pos (by decide),if_neg (by omega),if_neg (by omega),if_neg (by rw[hno.out 0 (by omega)];decide),if_pos h1]
    ·subst h2
     refine⟨_, ?_,.inr (.inr (.inr (.inl ⟨h1,rfl⟩)))⟩
     rw[show kidB ρ n e 2 0=(truC ρ n (e.ks.getD 0 default)).1 from if_pos (by decide),show kidB ρ n e 2 1=(truC ρ n (e.ks.getD 1 default)).1 from if_pos (by decide),if_neg (by omega),if_neg (by omega),if_neg (by rw[hno.out 0 (by omega)];decide),if_neg (by omega),if_neg (by rw[hno.out 1 (by omega)];decide),if_pos h1]
    ·subst h2
     refine⟨_, ?_,.inr (.inr (.inr (.inr ⟨h1,rfl⟩)))⟩
     rw[show kidB ρ n e 2 0=(truC ρ n (e.ks.getD 0 default)).1 from if_pos (by decide),show kidB ρ n e 2 1=(truC ρ n (e.ks.getD 1 default)).1 from if_pos (by decide),if_neg (by omega),if_neg (by omega),if_neg (by rw[hno.out 0 (by omega)];decide),if_neg (by omega),if_neg (by rw[hno.out 1 (by omega)];decide),if_neg (by omega)]
   have hEV:=Lib.hid hV
   clear hV hkid hno HK HM HF HS HP
   generalize kidB ρ n e j 0=u0 at*
   generalize kidB ρ n e j 1=u1 at*
   generalize e.kind=kd at*
   have HCASE:=Lib.hid hcase
   clear hcase
   go_upto_block 2 with fail
   go_cut [4] (fun s wr=>s= .bool V∧wo=wr)
   case first=>
    rcases HCASE.out with ⟨h1,h2⟩ | ⟨h1,h2⟩ | ⟨h1,h2⟩ | ⟨h1,h2⟩ | ⟨h1,h2⟩
    ·subst h2
     have t0:(kd == 0)=true:=by rw[h1];rfl
     have t6:(kd == 6)=false:=by rw[h1];rfl
     have t7:(kd == 7)=false:=by rw[h1];rfl
     have t8:(kd == 8)=false:=by rw[h1];rfl
     clear h1
     go_wp2_with fail
     go_meet
     case rel=>exact⟨rfl,rfl⟩
    ·subst h2
     have t0:(kd == 0)=false:=by rw[h1];rfl
     have t6:(kd == 6)=false:=by rw[h1];rfl
     have t7:(kd == 7)=false:=by rw[h1];rfl
     have t8:(kd == 8)=false:=by rw[h1];rfl
     clear h1
     go_wp2_with fail
     go_meet
     case rel=>exact⟨rfl,rfl⟩
    ·subst h2
     have t0:(kd == 0)=false:=by rw[h1];rfl
     have t6:(kd == 6)=true:=by rw[h1];rfl
     have t7:(kd == 7)=false:=by rw[h1];rfl
     have t8:(kd == 8)=false:=by rw[h1];rfl
     clear h1
     go_wp2_with fail
     go_meet
     case rel=>exact⟨rfl,rfl⟩
    ·subst h2
     have t0:(kd == 0)=false:=by rw[h1];rfl
     have t6:(kd == 6)=false:=by rw[h1];rfl
     have t7:(kd == 7)=true:=by rw[h1];rfl
     have t8:(kd == 8)=false:=by rw[h1];rfl
     clear h1
     cases u0 with
     | false=>
       go_wp2_with fail
       go_meet
       case rel=>exact⟨rfl,rfl⟩
     | true=>
       go_wp2_with fail
       go_meet
       case rel=>exact⟨rfl,rfl⟩
    ·subst h2
     have t0:(kd == 0)=false:=by rw[h1];rfl
     have t6:(kd == 6)=false:=by rw[h1];rfl
     have t7:(kd == 7)=false:=by rw[h1];rfl
     have t8:(kd == 8)=true:=by rw[h1];rfl
     clear h1
     cases u0 with
     | false=>
       go_wp2_with fail
       go_meet
       case rel=>exact⟨rfl,rfl⟩
     | true=>
       go_wp2_with fail
       go_meet
       case rel=>exact⟨rfl,rfl⟩
   case rest=>
    obtain⟨rfl,rfl⟩:=hcut
    go_wp2_with fail
    go_ret2
    exact⟨by rw[hEV.out];rfl,HWO.out⟩
theorem snC_parts {nm:ByteArray→Bool}{n:Nat}{c:CT}(h:snC nm (n+1) c=true):(c.es.length=2∧2≤c.kind∧c.kind≤5∨c.es.length=0∧(((c.kind=0∨c.kind=1)∧c.ks.length=0)∨(c.kind=6∧c.ks.length=1)∨(c.kind=7∧c.ks.length=2)∨(c.kind=8∧c.ks.length=2)))∧(∀x∈c.es,snE nm n x=true)∧∀x∈c.ks,snC nm n x=true:=by
 unfold snC at h
 split at h
 ·next h2=>
  simp only[Bool.and_eq_true,beq_iff_eq]at h
  obtain⟨⟨⟨h3,h4⟩,h5⟩,h6⟩:=h
  refine⟨?_,fun x hx=>List.all_eq_true.1 h5 x hx,fun x hx=>List.all_eq_true.1 h6 x hx⟩
  unfold esC at h3
  unfold ksC at h4
  split at h3
  ·next h7=>exact .inl ⟨h3,h7⟩
  ·next h7=>
   refine .inr ⟨h3, ?_⟩
   split at h4
   ·next h8=>exact .inr (.inl ⟨h8,h4⟩)
   ·next h8=>
    split at h4
    ·next h9=>rcases h9 with h9 | h9
              ·exact .inr (.inr (.inl ⟨h9,h4⟩))
              ·exact .inr (.inr (.inr ⟨h9,h4⟩))
    ·next h9=>exact .inl ⟨by omega,h4⟩
 ·cases h
theorem hcond_any (nm:ByteArray→Bool)(xs:List (ByteArray×Int))(av:Option Addr)(cv:Nat):∀(n:Nat) (c:CT) (cs:List Value) (w:World),snC nm n c=true→(condSh n).rel (Pak.Lo w.heap.size) w cs c→Pak.Sits varSh (Pak.Lo w.heap.size) w av xs→
 Calls Tryd.prog 18 #[.agg cs.toArray,.slice av xs.length cv] w (TruIn (truC (fun s=>varOf s xs) n c) w)
 | 0,_,_,_,_,h,_=>h.elim
 | n+1,c,cs,w,hs,h,hv=>by
   obtain⟨hk,hes,hks⟩:=snC_parts hs
   obtain⟨u,v,rfl,_,⟨a1,c1,rfl,hs1⟩,⟨a2,c2,rfl,hs2⟩⟩:=h
   rcases hk with ⟨he,hk⟩ | ⟨he,hk⟩
   ·obtain⟨b,off,rfl⟩:=sits_some hs1 (by omega)
    obtain⟨cs0,hc0,hr0⟩:=sits_at hs1 (i:=0) (by omega)
    obtain⟨cs1,hc1,hr1⟩:=sits_at hs1 (i:=1) (by omega)
    rw[exprSh_k]at hc0 hc1
    have hb:b<w.heap.size:=by
     obtain⟨b',off',cs,e,hb,_⟩:=hs1.2 0 (by omega)
     injection e with e
     injection e with e1 _ _
     rw[e1];exact hb
    have g0:c.es.getD 0 default=c.es[0]'(by omega):=by rw[List.getD_eq_getElem?_getD,List.getElem?_eq_getElem (by omega:0<c.es.length)];rfl
    have g1:c.es.getD 1 default=c.es[1]'(by omega):=by rw[List.getD_eq_getElem?_getD,List.getElem?_eq_getElem (by omega:1<c.es.length)];rfl
    rw[truC_succ,if_pos he,he,g0,g1]
    exact hcond_cmp c.kind cs0 cs1 _ b off c1 a2 _ c2 _ _ _ _ w (((exprSh n).len hr0).trans (exprSh_k n)) (((exprSh n).len hr1).trans (exprSh_k n)) hb (by simpa using hc0) (by simpa using hc1)
     (hexpr_all nm xs av cv n _ cs0 w (hes _ (List.getElem_mem _)) hr0 hv) (hexpr_all nm xs av cv n _ cs1 w (hes _ (List.getElem_mem _)) hr1 hv)
   ·exact hcond_kid n _ c _ a1 _ c1 a2 _ c2 w rfl (by omega) rfl hs2 hk (fun cs x W hx hb hr=>hcond_any nm xs av cv n x cs W (hks x hx) hr (hv.below hb hb.size))
end
section
open Go.RowKit
def SzEnd (k:Nat)(l:Int)(w:World)(r:Ending)(w':World):Prop:=∃x:Int,r= .returned (.int .i64 x)∧ -1≤x∧x≤l∧(0≤x→x+k≤l)∧Below w.heap.size w w'
theorem sizeE_box (n:Nat)(es:List ET)(a:Option Addr)(m cap:Nat)(l dd:Int)(w:World)(hm:es.length=m)(hd0:0≤dd)(hd1:dd≤300)(hl0: -1≤l)(hl1:l≤300)(hs:Pak.Sits (exprSh (n+1)) (Pak.Lo w.heap.size) w a es)
 (hk:∀(x:ET) (u:Option Addr) (c:Nat) (q:Int) (W:World),x∈es→1≤dd→ -1≤q→q≤300→Below w.heap.size w W→Pak.Sits (exprSh n) (Pak.Lo W.heap.size) W u x.ks→Calls Tryd.prog 16 #[.slice u x.ks.length c,.int .i64 q,.int .i64 (dd - 1)] W (SzEnd x.ks.length q W)):
 Calls Tryd.prog 16 #[.slice a m cap,.int .i64 l,.int .i64 dd] w (SzEnd m l w):=by
 have HS:=Lib.hid hs
 have HM:=Lib.hid hm
 have hmm:m≤9223372036854775807:=by rw[←hm];exact hs.1
 have HK:=Lib.hid hk
 have HD0:=Lib.hid hd0
 have HD1:=Lib.hid hd1
 have HL0:=Lib.hid hl0
 have HL1:=Lib.hid hl1
 clear hs hm hk hd0 hd1 hl0 hl1
 by_cases hz:dd=0
 ·have e0:(dd == 0)=true:=by rw[hz];rfl
  clear hz
  go_enter Tryd.func16,Tryd.ntmps16
  go_wp2_with fail
  go_ret
  exact⟨-1,rfl,by omega,HL0.out,by omega,Below.refl _ _⟩
 ·have e0:(dd == 0)=false:=beq_eq_false_iff_ne.2 hz
  have HD2:Hid (1≤dd):=Lib.hid (by have:=HD0.out;omega)
  have ed:IntKind.i64.wrap (dd - 1)=dd - 1:=IntWalk.i64_in _ (by have:=HD0.out;have:=HD1.out;omega)
  clear hz
  go_enter Tryd.func16,Tryd.ntmps16
  go_wp2_with fail
  go_loopw [1,7] (fun t i wr=>∃(j:Nat) (x:Int),j≤m∧t= .int .i64 x∧i= .int .i64 j∧Hid (-1≤x∧x≤l∧(0≤x→x+j≤l))∧Hid (Below w.heap.size w wr)) (fun _ i _=>m - (intOf i).toNat)
  case atStart=>exact⟨0,l,Nat.zero_le _,rfl,rfl,Lib.hid ⟨HL0.out,Int.le_refl _,fun _=>by omega⟩,Below.refl _ _⟩
  case round=>
   obtain⟨j,x,hj,rfl,rfl,hin,hbr⟩:=hrel
   by_cases hx:0≤x
   ·have g1:decide (x ≥ 0)=true:=decide_eq_true hx
    have g2:decide (0≤x)=true:=decide_eq_true hx
    have ex:IntKind.i64.wrap (x - 1)=x - 1:=IntWalk.i64_in _ (by have:=hin.out;have:=HL1.out;omega)
    have HX:=Lib.hid hx
    clear hx
    by_cases hlt:j<m
    ·have hlx:j<es.length:=by rw[HM.out];exact hlt
     obtain⟨b,off,cs,rfl,hbl,hc,hrl⟩:=HS.out.2 j hlx
     obtain⟨v,rfl,_,u,c,rfl,hsk⟩:=hrl
     have c2:=(hbr.out.cell (p:=⟨b,_,none⟩) hbl).trans (hc 2 _ rfl)
     have c3:=(hbr.out.cell (p:=⟨b,_,none⟩) hbl).trans (hc 3 _ rfl)
     rw[exprSh_k]at c2 c3
     have HC:=Lib.hid (fun q hq0 hq1=>HK.out es[j] u c q wr (List.getElem_mem hlx) HD2.out hq0 hq1 hbr.out (hsk.below hbr.out hbr.out.size))
     have hji:(j:Int)<(m:Int):=by omega
     clear hc hsk
     generalize es[j]=y at c2 c3 HC
     generalize y.ks.length=kl at c3 HC
     generalize y.name=nm at c2
     clear y
     by_cases hn:(200:Int)<(nm.size:Int)
     ·have d1:decide ((nm.size:Int) > 200)=true:=decide_eq_true hn
      have d2:decide ((200:Int)<(nm.size:Int))=true:=decide_eq_true hn
      have d3:200<nm.size:=by omega
      clear hn
      go_wp2_with fail
      go_ret
      exact⟨-1,rfl,by omega,HL0.out,by omega,hbr.out⟩
     ·have d1:decide ((nm.size:Int) > 200)=false:=decide_eq_false hn
      have d2:decide ((200:Int)<(nm.size:Int))=false:=decide_eq_false hn
      have d3:¬ 200<nm.size:=by omega
      clear hn
      go_wp2_with fail
      refine(HC.out (x - 1) (by have:=HX.out;omega) (by have:=hin.out;have:=HL1.out;omega)).mono ?_
      rintro r w3 ⟨x2,rfl,h1,h2,h3,hb⟩
      have HB3:=Lib.hid (hbr.out.trans (hb.mono hbr.out.size))
      have HN:Hid (-1≤x2∧x2≤l∧(0≤x2→x2+((j+1:Nat):Int)≤l)):=Lib.hid (by have:=hin.out;refine⟨h1,by omega,fun h=> ?_⟩;have:=h3 h;have:=this;have:=hin.out.2.2 HX.out;omega)
      clear h1 h2 h3 hb HC hin hbr
      go_wp2_with fail
      go_roundw
      case rel=>exact⟨j+1,x2,by omega,rfl,by go_num,HN,HB3⟩
      case measure=>simp[intOf];omega
    ·obtain rfl:j=m:=by omega
     have HE:Hid (SzEnd j l w (.returned (.int .i64 x)) wr):=Lib.hid ⟨x,rfl,hin.out.1,hin.out.2.1,hin.out.2.2,hbr.out⟩
     go_wp2_with fail
     go_ret
     exact HE.out
   ·have g1:decide (x ≥ 0)=false:=decide_eq_false hx
    have g2:decide (0≤x)=false:=decide_eq_false hx
    have HE:Hid (SzEnd m l w (.returned (.int .i64 x)) wr):=Lib.hid ⟨x,rfl,hin.out.1,hin.out.2.1,fun h=>absurd h hx,hbr.out⟩
    clear hx
    by_cases hlt:j<m
    ·have hji:(j:Int)<(m:Int):=by omega
     go_wp2_with fail
     go_ret
     exact HE.out
    ·obtain rfl:j=m:=by omega
     go_wp2_with fail
     go_ret
     exact HE.out
theorem sizeE_any:∀(n:Nat) (es:List ET) (a:Option Addr) (cap:Nat) (l dd:Int) (w:World),0≤dd→dd≤300→ -1≤l→l≤300→Pak.Sits (exprSh n) (Pak.Lo w.heap.size) w a es→
 Calls Tryd.prog 16 #[.slice a es.length cap,.int .i64 l,.int .i64 dd] w (SzEnd es.length l w)
 | 0,es,a,cap,l,dd,w,h1,h2,h3,h4,hs=>by
   have he:es=[]:=by
    cases es with
    | nil=>rfl
    | cons x xs=>
      obtain⟨_,_,_,_,_,_,hr⟩:=hs.2 0 (by simp)
      exact hr.elim
   subst he
   exact sizeE_box 0 [] a 0 cap l dd w rfl h1 h2 h3 h4 (Pak.Sits.nil _ _ _ _) fun x u c q W hx _ _ _ _ _=>absurd hx (by simp)
 | n+1,es,a,cap,l,dd,w,h1,h2,h3,h4,hs=>
   sizeE_box n es a es.length cap l dd w rfl h1 h2 h3 h4 hs fun x u c q W _ hd hq0 hq1 hW hsx=>
    sizeE_any n x.ks u c q (dd - 1) W (by omega) (by omega) hq0 hq1 hsx
end
section
open Go.RowKit
theorem sizeC_box (n:Nat)(es:List CT)(a:Option Addr)(m cap:Nat)(l dd:Int)(w:World)(hm:es.length=m)(hd0:0≤dd)(hd1:dd≤300)(hl0: -1≤l)(hl1:l≤300)(hs:Pak.Sits (condSh (n+1)) (Pak.Lo w.heap.size) w a es)
 (hk:∀(x:CT) (u:Option Addr) (c:Nat) (q:Int) (W:World),x∈es→1≤dd→ -1≤q→q≤300→Below w.heap.size w W→Pak.Sits (condSh n) (Pak.Lo W.heap.size) W u x.ks→Calls Tryd.prog 15 #[.slice u x.ks.length c,.int .i64 q,.int .i64 (dd - 1)] W (SzEnd x.ks.length q W)):
 Calls Tryd.prog 15 #[.slice a m cap,.int .i64 l,.int .i64 dd] w (SzEnd m l w):=by
 have HS:=Lib.hid hs
 have HM:=Lib.hid hm
 have hmm:m≤9223372036854775807:=by rw[←hm];exact hs.1
 have HK:=Lib.hid hk
 have HD0:=Lib.hid hd0
 have HD1:=Lib.hid hd1
 have HL0:=Lib.hid hl0
 have HL1:=Lib.hid hl1
 clear hs hm hk hd0 hd1 hl0 hl1
 by_cases hz:dd=0
 ·have e0:(dd == 0)=true:=by rw[hz];rfl
  clear hz
  go_enter Tryd.func15,Tryd.ntmps15
  go_wp2_with fail
  go_ret
  exact⟨-1,rfl,by omega,HL0.out,by omega,Below.refl _ _⟩
 ·have e0:(dd == 0)=false:=beq_eq_false_iff_ne.2 hz
  have HD2:Hid (1≤dd):=Lib.hid (by have:=HD0.out;omega)
  have ed:IntKind.i64.wrap (dd - 1)=dd - 1:=IntWalk.i64_in _ (by have:=HD0.out;have:=HD1.out;omega)
  clear hz
  go_enter Tryd.func15,Tryd.ntmps15
  go_wp2_with fail
  go_loopw [1,7] (fun t i wr=>∃(j:Nat) (x:Int),j≤m∧t= .int .i64 x∧i= .int .i64 j∧Hid (-1≤x∧x≤l∧(0≤x→x+j≤l))∧Hid (Below w.heap.size w wr)) (fun _ i _=>m - (intOf i).toNat)
  case atStart=>exact⟨0,l,Nat.zero_le _,rfl,rfl,Lib.hid ⟨HL0.out,Int.le_refl _,fun _=>by omega⟩,Below.refl _ _⟩
  case round=>
   obtain⟨j,x,hj,rfl,rfl,hin,hbr⟩:=hrel
   by_cases hx:0≤x
   ·have g1:decide (x ≥ 0)=true:=decide_eq_true hx
    have g2:decide (0≤x)=true:=decide_eq_true hx
    have ex:IntKind.i64.wrap (x - 1)=x - 1:=IntWalk.i64_in _ (by have:=hin.out;have:=HL1.out;omega)
    have HX:=Lib.hid hx
    clear hx
    by_cases hlt:j<m
    ·have hlx:j<es.length:=by rw[HM.out];exact hlt
     obtain⟨b,off,cs,rfl,hbl,hc,hrl⟩:=HS.out.2 j hlx
     obtain⟨v1,v2,rfl,_,⟨u1,d1,rfl,hs1⟩,⟨u2,d2,rfl,hs2⟩⟩:=hrl
     have HQ1:Hid (∀W,Below w.heap.size w W→W.cell? ⟨b,off+j*3+1,none⟩=some (.slice u1 es[j].es.length d1)):=Lib.hid fun W hW=>by
      have:=(hW.cell (p:=⟨b,_,none⟩) hbl).trans (hc 1 _ rfl)
      rwa [condSh_k]at this
     have HQ2:Hid (∀W,Below w.heap.size w W→W.cell? ⟨b,off+j*3+2,none⟩=some (.slice u2 es[j].ks.length d2)):=Lib.hid fun W hW=>by
      have:=(hW.cell (p:=⟨b,_,none⟩) hbl).trans (hc 2 _ rfl)
      rwa [condSh_k]at this
     have HC1:=Lib.hid (fun q W hq0 hq1 (hW:Below w.heap.size w W)=>sizeE_any n es[j].es u1 d1 q (dd - 1) W (by have:=HD2.out;omega) (by have:=HD1.out;omega) hq0 hq1 (hs1.below hW hW.size))
     have HC2:=Lib.hid (fun q W hq0 hq1 (hW:Below w.heap.size w W)=>HK.out es[j] u2 d2 q W (List.getElem_mem hlx) HD2.out hq0 hq1 hW (hs2.below hW hW.size))
     have hji:(j:Int)<(m:Int):=by omega
     have c1:=HQ1.out _ hbr.out
     clear hc hs1 hs2
     generalize es[j].es.length=n1 at*
     generalize es[j].ks.length=n2 at*
     go_wp2_with fail
     refine(HC1.out (x - 1) _ (by have:=HX.out;omega) (by have:=hin.out;have:=HL1.out;omega) hbr.out).mono ?_
     rintro r w3 ⟨x2,rfl,h1,h2,h3,hb⟩
     have HB3:=Lib.hid (hbr.out.trans (hb.mono hbr.out.size))
     have H12:=Lib.hid (And.intro h1 h2)
     clear h1 h2 h3 hb HC1 c1
     by_cases hx2:0≤x2
     ·have p1:decide (x2 ≥ 0)=true:=decide_eq_true hx2
      have p2:decide (0≤x2)=true:=decide_eq_true hx2
      have HX2:=Lib.hid hx2
      have c2:=HQ2.out _ HB3.out
      clear hx2
      go_wp2_with fail
      refine(HC2.out x2 _ H12.out.1 (by have:=H12.out;have:=hin.out;have:=HL1.out;omega) HB3.out).mono ?_
      rintro r w4 ⟨x3,rfl,h1,h2,h3,hb⟩
      have HB4:=Lib.hid (HB3.out.trans (hb.mono HB3.out.size))
      have HN:Hid (-1≤x3∧x3≤l∧(0≤x3→x3+((j+1:Nat):Int)≤l)):=Lib.hid (by have:=H12.out;have:=hin.out;refine⟨h1,by omega,fun h=> ?_⟩;have:=hin.out.2.2 HX.out;omega)
      clear h1 h2 h3 hb HC2 hin hbr c2
      go_wp2_with fail
      go_roundw
      case rel=>exact⟨j+1,x3,by omega,rfl,by go_num,HN,HB4⟩
      case measure=>simp[intOf];omega
     ·have p1:decide (x2 ≥ 0)=false:=decide_eq_false hx2
      have p2:decide (0≤x2)=false:=decide_eq_false hx2
      have HN:Hid (-1≤x2∧x2≤l∧(0≤x2→x2+((j+1:Nat):Int)≤l)):=Lib.hid (by have:=H12.out;have:=hin.out;exact⟨by omega,by omega,fun h=>absurd h hx2⟩)
      clear hx2 HC2 hin hbr
      go_wp2_with fail
      go_roundw
      case rel=>exact⟨j+1,x2,by omega,rfl,by go_num,HN,HB3⟩
      case measure=>simp[intOf];omega
    ·obtain rfl:j=m:=by omega
     have HE:Hid (SzEnd j l w (.returned (.int .i64 x)) wr):=Lib.hid ⟨x,rfl,hin.out.1,hin.out.2.1,hin.out.2.2,hbr.out⟩
     go_wp2_with fail
     go_ret
     exact HE.out
   ·have g1:decide (x ≥ 0)=false:=decide_eq_false hx
    have g2:decide (0≤x)=false:=decide_eq_false hx
    have HE:Hid (SzEnd m l w (.returned (.int .i64 x)) wr):=Lib.hid ⟨x,rfl,hin.out.1,hin.out.2.1,fun h=>absurd h hx,hbr.out⟩
    clear hx
    by_cases hlt:j<m
    ·have hji:(j:Int)<(m:Int):=by omega
     go_wp2_with fail
     go_ret
     exact HE.out
    ·obtain rfl:j=m:=by omega
     go_wp2_with fail
     go_ret
     exact HE.out
theorem sizeC_any:∀(n:Nat) (es:List CT) (a:Option Addr) (cap:Nat) (l dd:Int) (w:World),0≤dd→dd≤300→ -1≤l→l≤300→Pak.Sits (condSh n) (Pak.Lo w.heap.size) w a es→
 Calls Tryd.prog 15 #[.slice a es.length cap,.int .i64 l,.int .i64 dd] w (SzEnd es.length l w)
 | 0,es,a,cap,l,dd,w,h1,h2,h3,h4,hs=>by
   have he:es=[]:=by
    cases es with
    | nil=>rfl
    | cons x xs=>
      obtain⟨_,_,_,_,_,_,hr⟩:=hs.2 0 (by simp)
      exact hr.elim
   subst he
   exact sizeC_box 0 [] a 0 cap l dd w rfl h1 h2 h3 h4 (Pak.Sits.nil _ _ _ _) fun x u c q W hx _ _ _ _ _=>absurd hx (by simp)
 | n+1,es,a,cap,l,dd,w,h1,h2,h3,h4,hs=>
   sizeC_box n es a es.length cap l dd w rfl h1 h2 h3 h4 hs fun x u c q W _ hd hq0 hq1 hW hsx=>
    sizeC_any n x.ks u c q (dd - 1) W (by omega) (by omega) hq0 hq1 hsx
end
end Go.Proofs.YtfinhpfjokpcfaaDoor
