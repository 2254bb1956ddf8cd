/- Parts of a proof. -/
import Derived.Test.YtjbkhdbjdahbiaaGreatDoorV01
import Derived.Test.YtjbkhdbjdahbiaaGreatDoorV02
import Derived.Test.YtjbkhdbjdahbiaaGreatDoorQ08
import Derived.Test.YtjbkhdbjdahbiaaGreatDoorQ11
import Derived.Test.YtjbkhdbjdahbiaaGreatDoorQ13
import Derived.Test.YtjbkhdbjdahbiaaGreatDoorQ07
import Derived.Test.YtjbkhdbjdahbiaaGreatDoorQ17
import Derived.RegionTactic
import Derived.BigRegion
import Derived.Deep.RegionWith
import Derived.BigQuiet
import Derived.Deep.QuietTactic
import Derived.Lib.QuietBelow
import Derived.Deep.RegionLaw
set_option linter.unusedVariables false
set_option linter.unusedSimpArgs false
set_option maxHeartbeats 60000000
set_option maxRecDepth 100000
namespace Go.Proofs.YtjbkhdbjdahbiaaGreatDoor
section
open Go.RowKit
def cmpV (k a b:Int):Bool:=if k=2 then a == b else if k=3 then !(a == b) else if k=4 then decide (a<b) else decide (a≤b)
theorem compare_any (k a b:Int)(w:World):ValAll 69 #[.int .i64 k,.int .i64 a,.int .i64 b] (.bool (cmpV k a b)) w:=fun W hW=>by
 clear hW
 unfold cmpV
 by_cases h2:k=2
 ·rw[if_pos h2]
  have t2:(k == 2)=true:=by rw[h2];rfl
  clear h2
  go_enter Tryz.func69,Tryz.ntmps69
  go_wp2_with fail
  go_ret
  exact⟨rfl,Below.refl _ _⟩
 ·rw[if_neg h2]
  have t2:(k == 2)=false:=beq_eq_false_iff_ne.2 h2
  by_cases h3:k=3
  ·rw[if_pos h3]
   have t3:(k == 3)=true:=by rw[h3];rfl
   clear h3 h2
   go_enter Tryz.func69,Tryz.ntmps69
   go_wp2_with fail
   go_ret
   exact⟨rfl,Below.refl _ _⟩
  ·rw[if_neg h3]
   have t3:(k == 3)=false:=beq_eq_false_iff_ne.2 h3
   by_cases h4:k=4
   ·rw[if_pos h4]
    have t4:(k == 4)=true:=by rw[h4];rfl
    clear h3 h2 h4
    go_enter Tryz.func69,Tryz.ntmps69
    go_wp2_with fail
    go_ret
    exact⟨rfl,Below.refl _ _⟩
   ·rw[if_neg h4]
    have t4:(k == 4)=false:=beq_eq_false_iff_ne.2 h4
    clear h3 h2 h4
    go_enter Tryz.func69,Tryz.ntmps69
    go_wp2_with fail
    go_ret
    exact⟨rfl,Below.refl _ _⟩
def truC (ρ:ByteArray→Int):Nat→CT→Bool×Bool
 | 0,_=>(false,false)
 | n+1,c=>
   if c.es.length=2 then(cmpV c.kind (valE ρ n (c.es.getD 0 default)).1 (valE ρ n (c.es.getD 1 default)).1,(valE ρ n (c.es.getD 0 default)).2 && (valE ρ n (c.es.getD 1 default)).2)
   else if c.kind=0 then(true,true)
   else if c.kind=1 then(false,true)
   else if(truC ρ n (c.ks.getD 0 default)).2=false then(false,false)
   else if c.kind=6 then(!(truC ρ n (c.ks.getD 0 default)).1,true)
   else if(truC ρ n (c.ks.getD 1 default)).2=false then(false,false)
   else if c.kind=7 then((truC ρ n (c.ks.getD 0 default)).1 && (truC ρ n (c.ks.getD 1 default)).1,true)
   else((truC ρ n (c.ks.getD 0 default)).1 || (truC ρ n (c.ks.getD 1 default)).1,true)
theorem truC_succ (ρ:ByteArray→Int)(n:Nat)(c:CT):truC ρ (n+1) c=if c.es.length=2 then(cmpV c.kind (valE ρ n (c.es.getD 0 default)).1 (valE ρ n (c.es.getD 1 default)).1,(valE ρ n (c.es.getD 0 default)).2 && (valE ρ n (c.es.getD 1 default)).2)
 else if c.kind=0 then(true,true)
 else if c.kind=1 then(false,true)
 else if(truC ρ n (c.ks.getD 0 default)).2=false then(false,false)
 else if c.kind=6 then(!(truC ρ n (c.ks.getD 0 default)).1,true)
 else if(truC ρ n (c.ks.getD 1 default)).2=false then(false,false)
 else if c.kind=7 then((truC ρ n (c.ks.getD 0 default)).1 && (truC ρ n (c.ks.getD 1 default)).1,true)
 else((truC ρ n (c.ks.getD 0 default)).1 || (truC ρ n (c.ks.getD 1 default)).1,true):=rfl
def TruIn (x:Bool×Bool)(w:World)(r:Ending)(w':World):Prop:=r= .returned (.tuple #[.bool x.1,.bool x.2])∧Below w.heap.size w w'
theorem sits_at {T:Type}{sh:Pak.Sh T}{S:Nat→Prop}{w:World}{b off:Nat}{xs:List T}(h:Pak.Sits sh S w (some ⟨b,off,none⟩) xs){i:Nat}(hi:i<xs.length):∃cs,(∀j v,cs[j]? =some v→w.cell? ((⟨b,off+i*sh.k,none⟩:Addr).add j)=some v)∧sh.rel S w cs xs[i]:=by
 obtain⟨b',off',cs,e,_,hc,hr⟩:=h.2 i hi
 injection e with e
 injection e with e1 e2 _
 subst e1 e2
 refine⟨cs,fun j v hv=> ?_,hr⟩
 rw[show(⟨b,off+i*sh.k,none⟩:Addr).add j=⟨b,off+i*sh.k+j,none⟩ by unfold Addr.add;split<;>simp_all]
 exact hc j v hv
theorem sits_some {T:Type}{sh:Pak.Sh T}{S:Nat→Prop}{w:World}{a:Option Addr}{xs:List T}(h:Pak.Sits sh S w a xs)(hp:0<xs.length):∃b off,a=some ⟨b,off,none⟩:=by
 obtain⟨b',off',cs,e,_,hc,hr⟩:=h.2 0 hp
 exact⟨b',off',e⟩
theorem hcond_cmp (k:Int)(cs0 cs1:List Value)(vs:Value)(b off cap:Nat)(a2:Option Addr)(m2 c2:Nat)(u0 u1:Int)(z0 z1:Bool)(w:World)(hl0:cs0.length=4)(hl1:cs1.length=4)(hb:b<w.heap.size)
 (hc0:∀i v,cs0[i]? =some v→w.cell? ((⟨b,off,none⟩:Addr).add i)=some v) (hc1:∀i v,cs1[i]? =some v→w.cell? ((⟨b,off+4,none⟩:Addr).add i)=some v)
 (x0:ValAll 42 #[.agg cs0.toArray,vs] (.tuple #[.int .i64 u0,.bool z0]) w) (x1:ValAll 42 #[.agg cs1.toArray,vs] (.tuple #[.int .i64 u1,.bool z1]) w):
 Calls Tryz.prog 45 #[.agg #[.int .i64 k,.slice (some ⟨b,off,none⟩) 2 cap,.slice a2 m2 c2],vs] w (TruIn (cmpV k u0 u1,z0 && z1) w):=by
 have HA:Hid (Below w.heap.size w (w.alloc (.cells #[.int .i64 k,.slice (some ⟨b,off,none⟩) 2 cap,.slice a2 m2 c2] 52))):=box_low
 have HB0:Hid (Below (w.alloc (.cells #[.int .i64 k,.slice (some ⟨b,off,none⟩) 2 cap,.slice a2 m2 c2] 52)).heap.size (w.alloc (.cells #[.int .i64 k,.slice (some ⟨b,off,none⟩) 2 cap,.slice a2 m2 c2] 52)) (w.alloc (.cells #[.int .i64 k,.slice (some ⟨b,off,none⟩) 2 cap,.slice a2 m2 c2] 52))):=Below.refl _ _
 have HC0:Hid (∀W,Below w.heap.size w W→∀i v,cs0[i]? =some v→W.cell? ((⟨b,off,none⟩:Addr).add i)=some v):=fun W hW i v hv=>by
  have:=hc0 i v hv
  rw[show(⟨b,off,none⟩:Addr).add i=⟨b,off+i,none⟩ by unfold Addr.add;split<;>simp_all]at this⊢
  exact(hW.cell (p:=⟨b,off+i,none⟩) hb).trans this
 have HC1:Hid (∀W,Below w.heap.size w W→∀i v,cs1[i]? =some v→W.cell? ((⟨b,off+4,none⟩:Addr).add i)=some v):=fun W hW i v hv=>by
  have:=hc1 i v hv
  rw[show(⟨b,off+4,none⟩:Addr).add i=⟨b,off+4+i,none⟩ by unfold Addr.add;split<;>simp_all]at this⊢
  exact(hW.cell (p:=⟨b,off+4+i,none⟩) hb).trans this
 have L0:=Lib.hid hl0
 have L1:=Lib.hid hl1
 have X0:=Lib.hid x0
 have X1:=Lib.hid x1
 have CM:=Lib.hid (fun W=>compare_any k u0 u1 W W (Below.refl _ _))
 have Q0:=Lib.hid (fun W (hb:Below (w.alloc (.cells #[.int .i64 k,.slice (some ⟨b,off,none⟩) 2 cap,.slice a2 m2 c2] 52)).heap.size (w.alloc (.cells #[.int .i64 k,.slice (some ⟨b,off,none⟩) 2 cap,.slice a2 m2 c2] 52)) W)=>box_at (cs:=[.int .i64 k,.slice (some ⟨b,off,none⟩) 2 cap,.slice a2 m2 c2]) (o:=0) rfl hb)
 have Q1:=Lib.hid (fun W (hb:Below (w.alloc (.cells #[.int .i64 k,.slice (some ⟨b,off,none⟩) 2 cap,.slice a2 m2 c2] 52)).heap.size (w.alloc (.cells #[.int .i64 k,.slice (some ⟨b,off,none⟩) 2 cap,.slice a2 m2 c2] 52)) W)=>box_at (cs:=[.int .i64 k,.slice (some ⟨b,off,none⟩) 2 cap,.slice a2 m2 c2]) (o:=1) rfl hb)
 clear hl0 hl1 hb hc0 hc1 x0 x1
 generalize cmpV k u0 u1=cm at*
 go_enter Tryz.func45,Tryz.ntmps45
 go_wp2_with (first | go_skip | (refine wpList_load_w (by kernel_rfl) 49 _ rfl ⟨b,off,none⟩ rfl cs0 _ (HC0.out _ HA.out) Tryz.underlying49 rfl (by rw[L0.out];kernel_rfl) ?_))
 refine(X0.out.at HA.out).mono ?_
 rintro r w1 ⟨rfl,hb⟩
 have H1:=Lib.hid (HB0.out.trans (hb.mono HB0.out.size))
 have W1:=Lib.hid (HA.out.trans (hb.mono HA.out.size))
 have q1:=Q1.out _ H1.out
 clear hb
 go_wp2_with (first | go_skip | (refine wpList_load_w (by kernel_rfl) 49 _ rfl ⟨b,off+4,none⟩ rfl cs1 _ (HC1.out _ W1.out) Tryz.underlying49 rfl (by rw[L1.out];kernel_rfl) ?_))
 refine(X1.out.at W1.out).mono ?_
 rintro r w2 ⟨rfl,hb⟩
 have H2:=Lib.hid (H1.out.trans (hb.mono H1.out.size))
 have W2:=Lib.hid (W1.out.trans (hb.mono W1.out.size))
 have q0:=Q0.out _ H2.out
 clear hb q1
 go_wp2_with fail
 refine(CM.out _).mono ?_
 rintro r w3 ⟨rfl,hb⟩
 have W3:=Lib.hid (W2.out.trans (hb.mono W2.out.size))
 clear hb
 cases z0 with
 | false=>
   go_wp2_with fail
   go_ret2
   exact⟨rfl,W3.out⟩
 | true=>
   go_wp2_with fail
   go_ret2
   exact⟨rfl,W3.out⟩
theorem truC_far {ρ:ByteArray→Int}{n:Nat}{c:CT}{m j:Nat}(he:c.es.length≠2)(hk:((c.kind=0∨c.kind=1)∧m=0)∨(c.kind=6∧m=1)∨(c.kind=7∧m=2)∨(c.kind=8∧m=2))(hj:j<m)(hp:∀q,q<j→(truC ρ n (c.ks.getD q default)).2=true)(h:(truC ρ n (c.ks.getD j default)).2=false):truC ρ (n+1) c=(false,false):=by
 have h0:c.kind≠0:=by omega
 have h1:c.kind≠1:=by omega
 have hj2:j=0∨j=1:=by omega
 rw[truC_succ,if_neg he,if_neg h0,if_neg h1]
 rcases hj2 with rfl | rfl
 ·rw[if_pos h]
 ·have h6:c.kind≠6:=by omega
  rw[if_neg (by rw[hp 0 (Nat.succ_pos _)];decide),if_neg h6,if_pos h]
def kidB (ρ:ByteArray→Int)(n:Nat)(c:CT)(j q:Nat):Bool:=if q<j then(truC ρ n (c.ks.getD q default)).1 else false
theorem hcond_kid (n:Nat)(ρ:ByteArray→Int)(e:CT)(vs:Value)(a1:Option Addr)(m1 cp1:Nat)(a:Option Addr)(m cap:Nat)(w:World)(hm1:e.es.length=m1)(he:m1≠2)(hm:e.ks.length=m)(hs:Pak.Sits (condSh n) (Pak.Lo w.heap.size) w a e.ks)
 (hk:((e.kind=0∨e.kind=1)∧m=0)∨(e.kind=6∧m=1)∨(e.kind=7∧m=2)∨(e.kind=8∧m=2))
 (hf:∀cs x W,x∈e.ks→Below w.heap.size w W→(condSh n).rel (Pak.Lo W.heap.size) W cs x→Calls Tryz.prog 45 #[.agg cs.toArray,vs] W (TruIn (truC ρ n x) W)):
 Calls Tryz.prog 45 #[.agg #[.int .i64 e.kind,.slice a1 m1 cp1,.slice a m cap],vs] w (TruIn (truC ρ (n+1) e) w):=by
 have HE:Hid (e.es.length≠2):=Lib.hid (by rw[hm1];exact he)
 have HK:=Lib.hid hk
 have HS:=Lib.hid hs
 have HF:=Lib.hid hf
 have HM:=Lib.hid hm
 have hm2:m≤2:=by omega
 have hmm:m≤9223372036854775807:=by omega
 have hmi:((m1:Int) == 2)=false:=by rw[Bool.eq_false_iff];simp only[ne_eq,beq_iff_eq];omega
 have HP:Hid (∀q,(h:q<e.ks.length)→e.ks.getD q default=e.ks[q]):=fun q h=>by
  rw[List.getD_eq_getElem?_getD,List.getElem?_eq_getElem h];rfl
 have HA:Hid (Below w.heap.size w (w.alloc (.cells #[.int .i64 e.kind,.slice a1 m1 cp1,.slice a m cap] 52))):=box_low
 have HQ:Hid (∀W,Below (w.alloc (.cells #[.int .i64 e.kind,.slice a1 m1 cp1,.slice a m cap] 52)).heap.size (w.alloc (.cells #[.int .i64 e.kind,.slice a1 m1 cp1,.slice a m cap] 52)) W→W.cell? ⟨w.heap.size,0,none⟩=some (.int .i64 e.kind)):=fun W hb=>
  box_at (cs:=[.int .i64 e.kind,.slice a1 m1 cp1,.slice a m cap]) rfl hb
 have hq2:((w.alloc (.cells #[.int .i64 e.kind,.slice a1 m1 cp1,.slice a m cap] 52)).alloc (.cells #[.bool false,.bool false] 147)).cell? ⟨w.heap.size,2,none⟩=some (.slice a m cap):=box_at (cs:=[.int .i64 e.kind,.slice a1 m1 cp1,.slice a m cap]) rfl box_low
 have HB1:Hid (Below (w.alloc (.cells #[.int .i64 e.kind,.slice a1 m1 cp1,.slice a m cap] 52)).heap.size (w.alloc (.cells #[.int .i64 e.kind,.slice a1 m1 cp1,.slice a m cap] 52)) ((w.alloc (.cells #[.int .i64 e.kind,.slice a1 m1 cp1,.slice a m cap] 52)).alloc (.cells #[.bool false,.bool false] 147))):=box_low
 have HK0:Hid (Kids2 (w.heap.size+1) (.bool (kidB ρ n e 0 0)) (.bool (kidB ρ n e 0 1)) ((w.alloc (.cells #[.int .i64 e.kind,.slice a1 m1 cp1,.slice a m cap] 52)).alloc (.cells #[.bool false,.bool false] 147))):=Lib.hid (by
  have hh:=heap_alloc_new (w.alloc (.cells #[.int .i64 e.kind,.slice a1 m1 cp1,.slice a m cap] 52)) (.cells #[.bool false,.bool false] 147)
  have hz:(w.alloc (.cells #[.int .i64 e.kind,.slice a1 m1 cp1,.slice a m cap] 52)).heap.size=w.heap.size+1:=by simp
  rw[hz]at hh
  exact⟨(cell_of_row _ _ _ _ _ _ hh).trans rfl,(cell_of_row _ _ _ _ _ _ hh).trans rfl,fun o=>frozen_new hh o⟩)
 clear hs hf hm hk hm1 he
 go_enter Tryz.func45,Tryz.ntmps45
 go_wp2_with fail
 go_loopw [4,50] (fun s i wr=>∃j:Nat,j≤m∧i= .int .i64 j∧s= .bool false∧Hid (∀q,q<j→(truC ρ n (e.ks.getD q default)).2=true)∧Hid (Kids2 (w.heap.size+1) (.bool (kidB ρ n e j 0)) (.bool (kidB ρ n e j 1)) wr)∧Hid (Below (w.alloc (.cells #[.int .i64 e.kind,.slice a1 m1 cp1,.slice a m cap] 52)).heap.size (w.alloc (.cells #[.int .i64 e.kind,.slice a1 m1 cp1,.slice a m cap] 52)) wr)) (fun _ i _=>m - (intOf i).toNat)
 case atStart=>exact⟨0,Nat.zero_le _,rfl,rfl,fun q h=>absurd h (Nat.not_lt_zero _),HK0,HB1⟩
 case round=>
  obtain⟨j,hj,rfl,rfl,hno,hkid,hb⟩:=hrel
  obtain⟨wo,rfl⟩:∃wo:World,wo=wr:=⟨_,rfl⟩
  have HWO:=Lib.hid (HA.out.trans (hb.out.mono HA.out.size))
  by_cases hlt:j<m
  ·have hlx:j<e.ks.length:=by rw[HM.out];exact hlt
   have hji:(j:Int)<(m:Int):=by omega
   obtain⟨b,off,cs,rfl,hbl,hc,hr⟩:=(HS.out.below HWO.out HWO.out.size).2 j hlx
   have hlen:=(condSh n).len hr
   have hone:=(condSh n).one hr
   rw[condSh_k]at hlen hc
   have HC0:Hid (∀i v,cs[i]? =some v→wo.cell? ((⟨b,off+j*3,none⟩:Addr).add i)=some v):=fun i v hv=>by
    rw[show(⟨b,off+j*3,none⟩:Addr).add i=⟨b,off+j*3+i,none⟩ by unfold Addr.add;split<;>simp_all]
    exact hc i v hv
   have hA:Below wo.heap.size wo (wo.alloc (.cells cs.toArray 52)):=box_low
   have HBK:=Lib.hid (hb.out.trans (hA.mono hb.out.size))
   have HWK:=Lib.hid (HWO.out.trans (hA.mono HWO.out.size))
   have HKA:=Lib.hid (hkid.out.below hA)
   have HC:=Lib.hid (HF.out _ e.ks[j] _ (List.getElem_mem hlx) HWK.out (rel_low hr hA))
   have HX:Hid (∀i v,cs[i]? =some v→(wo.alloc (.cells cs.toArray 52)).cell? ((⟨wo.heap.size,0,none⟩:Addr).add i)=some v):=box_part (o:=0) (fun i v h=>by rw[Nat.zero_add];exact h) (Below.refl _ _)
   have HL:=Lib.hid hlen
   have HO:=Lib.hid hone
   have HFAR:Hid ((truC ρ n e.ks[j]).2=false→truC ρ (n+1) e=(false,false)):=fun h=>truC_far HE.out HK.out hlt hno.out (by rw[HP.out j hlx];exact h)
   have HNX:Hid ((truC ρ n e.ks[j]).2=true→∀q,q<j+1→(truC ρ n (e.ks.getD q default)).2=true):=fun h q hq=>by
    by_cases e':q=j
    ·subst e';rw[HP.out q hlx];exact h
    ·exact hno.out q (by omega)
   have HVX:Hid ((truC ρ n (e.ks.getD j default)).1=(truC ρ n e.ks[j]).1):=Lib.hid (by rw[HP.out j hlx])
   clear hc hr hlen hone hA
   generalize truC ρ n e.ks[j]=y at HC HFAR HNX HVX
   obtain⟨yv,yn⟩:=y
   go_wp2_with (first | go_skip | (refine wpList_store_new (by kernel_rfl) 52 _ _ rfl _ rfl cs rfl (by rw[HL.out];kernel_rfl) (by rw[HL.out];rfl) HO.out ?_) | (refine wpList_load_w (by kernel_rfl) 52 _ rfl ⟨b,off+j*3,none⟩ rfl cs _ HC0.out Tryz.underlying52 rfl (by rw[HL.out];kernel_rfl) ?_) | (refine wpList_load_w (by kernel_rfl) 52 _ rfl ⟨wo.heap.size,0,none⟩ rfl cs _ HX.out Tryz.underlying52 rfl (by rw[HL.out];kernel_rfl) ?_))
   refine HC.out.mono ?_
   rintro r w2 ⟨rfl,hb2⟩
   have HB2:=Lib.hid (HBK.out.trans (hb2.mono HBK.out.size))
   have HK2:=Lib.hid (HKA.out.below hb2)
   have HZ:=Lib.hid (HA.out.trans (HB2.out.mono HA.out.size))
   clear hb2 HC HC0 HX
   dsimp only at HFAR HNX HVX⊢
   cases yn with
   | false=>
     have hres:=Lib.hid (HFAR.out rfl)
     clear HFAR HNX HVX
     go_wp2_with fail
     go_ret2
     exact⟨by rw[hres.out];rfl,HZ.out⟩
   | true=>
     have HN2:=Lib.hid (HNX.out rfl)
     obtain⟨k0,k1,kf⟩:=HK2.out
     have hj2:j=0∨j=1:=by omega
     rcases hj2 with rfl | rfl
     ·have HK3:Hid (Kids2 (w.heap.size+1) (.bool (kidB ρ n e (0+1) 0)) (.bool (kidB ρ n e (0+1) 1)) (w2.setCell ⟨w.heap.size+1,0,none⟩ (.bool yv))):=Lib.hid (by
       have h:=HK2.out.set0 (v:= .bool yv)
       have e1:kidB ρ n e (0+1) 0=yv:=by unfold kidB;rw[if_pos (by omega)];exact HVX.out
       have e2:kidB ρ n e (0+1) 1=kidB ρ n e 0 1:=by unfold kidB;rw[if_neg (by omega),if_neg (by omega)]
       rw[e1,e2];exact h)
      have HB3:=Lib.hid (HB2.out.setCell (p:=⟨w.heap.size+1,0,none⟩) (by simp) (.bool yv))
      have kf0:=kf 0
      clear HFAR HNX HVX HK2 kf
      go_wp2_with fail
      go_roundw
      case rel=>exact⟨0+1,by omega,by go_num,rfl,HN2,HK3,HB3⟩
      case measure=>simp[intOf];omega
     ·have HK3:Hid (Kids2 (w.heap.size+1) (.bool (kidB ρ n e (1+1) 0)) (.bool (kidB ρ n e (1+1) 1)) (w2.setCell ⟨w.heap.size+1,1,none⟩ (.bool yv))):=Lib.hid (by
       have h:=HK2.out.set1 (v:= .bool yv)
       have e1:kidB ρ n e (1+1) 1=yv:=by unfold kidB;rw[if_pos (by omega)];exact HVX.out
       have e2:kidB ρ n e (1+1) 0=kidB ρ n e 1 0:=by unfold kidB;rw[if_pos (by omega),if_pos (by omega)]
       rw[e1,e2];exact h)
      have HB3:=Lib.hid (HB2.out.setCell (p:=⟨w.heap.size+1,1,none⟩) (by simp) (.bool yv))
      have kf1:=kf 1
      clear HFAR HNX HVX HK2 kf
      go_wp2_with fail
      go_roundw
      case rel=>exact⟨1+1,by omega,by go_num,rfl,HN2,HK3,HB3⟩
      case measure=>simp[intOf];omega
  ·have hjm:j=m:=by omega
   subst hjm
   have q0:=HQ.out _ hb.out
   obtain⟨k0,k1,kf⟩:=hkid.out
   obtain⟨V,hV,hcase⟩:∃V:Bool,truC ρ (n+1) e=(V,true)∧((e.kind=0∧V=true)∨(e.kind=1∧V=false)∨(e.kind=6∧V= !kidB ρ n e j 0)∨(e.kind=7∧V=(kidB ρ n e j 0 && kidB ρ n e j 1))∨(e.kind=8∧V=(kidB ρ n e j 0 || kidB ρ n e j 1))):=by
    have hk:=HK.out
    rw[truC_succ,if_neg HE.out]
    rcases hk with ⟨h1 | h1,h2⟩ | ⟨h1,h2⟩ | ⟨h1,h2⟩ | ⟨h1,h2⟩
    ·exact⟨true,if_pos h1,.inl ⟨h1,rfl⟩⟩
    ·exact⟨false,by rw[if_neg (by omega),if_pos h1],.inr (.inl ⟨h1,rfl⟩)⟩
    ·subst h2
     refine⟨_, ?_,.inr (.inr (.inl ⟨h1,rfl⟩))⟩
     rw[show kidB ρ n e 1 0=(truC ρ n (e.ks.getD 0 default)).1 from if_pos (by decide),if_neg (by omega),if_neg (by omega),if_neg (by rw[hno.out 0 (by omega)];decide),if_pos h1]
    ·subst h2
     refine⟨_, ?_,.inr (.inr (.inr (.inl ⟨h1,rfl⟩)))⟩
     rw[show kidB ρ n e 2 0=(truC ρ n (e.ks.getD 0 default)).1 from if_pos (by decide),show kidB ρ n e 2 1=(truC ρ n (e.ks.getD 1 default)).1 from if_pos (by decide),if_neg (by omega),if_neg (by omega),if_neg (by rw[hno.out 0 (by omega)];decide),if_neg (by omega),if_neg (by rw[hno.out 1 (by omega)];decide),if_pos h1]
    ·subst h2
     refine⟨_, ?_,.inr (.inr (.inr (.inr ⟨h1,rfl⟩)))⟩
     rw[show kidB ρ n e 2 0=(truC ρ n (e.ks.getD 0 default)).1 from if_pos (by decide),show kidB ρ n e 2 1=(truC ρ n (e.ks.getD 1 default)).1 from if_pos (by decide),if_neg (by omega),if_neg (by omega),if_neg (by rw[hno.out 0 (by omega)];decide),if_neg (by omega),if_neg (by rw[hno.out 1 (by omega)];decide),if_neg (by omega)]
   have hEV:=Lib.hid hV
   clear hV hkid hno HK HM HF HS HP
   generalize kidB ρ n e j 0=u0 at*
   generalize kidB ρ n e j 1=u1 at*
   generalize e.kind=kd at*
   have HCASE:=Lib.hid hcase
   clear hcase
   go_upto_block 2 with fail
   go_cut [4] (fun s wr=>s= .bool V∧wo=wr)
   case first=>
    rcases HCASE.out with ⟨h1,h2⟩ | ⟨h1,h2⟩ | ⟨h1,h2⟩ | ⟨h1,h2⟩ | ⟨h1,h2⟩
    ·subst h2
     have t0:(kd == 0)=true:=by rw[h1];rfl
     have t6:(kd == 6)=false:=by rw[h1];rfl
     have t7:(kd == 7)=false:=by rw[h1];rfl
     have t8:(kd == 8)=false:=by rw[h1];rfl
     clear h1
     go_wp2_with fail
     go_meet
     case rel=>exact⟨rfl,rfl⟩
    ·subst h2
     have t0:(kd == 0)=false:=by rw[h1];rfl
     have t6:(kd == 6)=false:=by rw[h1];rfl
     have t7:(kd == 7)=false:=by rw[h1];rfl
     have t8:(kd == 8)=false:=by rw[h1];rfl
     clear h1
     go_wp2_with fail
     go_meet
     case rel=>exact⟨rfl,rfl⟩
    ·subst h2
     have t0:(kd == 0)=false:=by rw[h1];rfl
     have t6:(kd == 6)=true:=by rw[h1];rfl
     have t7:(kd == 7)=false:=by rw[h1];rfl
     have t8:(kd == 8)=false:=by rw[h1];rfl
     clear h1
     go_wp2_with fail
     go_meet
     case rel=>exact⟨rfl,rfl⟩
    ·subst h2
     have t0:(kd == 0)=false:=by rw[h1];rfl
     have t6:(kd == 6)=false:=by rw[h1];rfl
     have t7:(kd == 7)=true:=by rw[h1];rfl
     have t8:(kd == 8)=false:=by rw[h1];rfl
     clear h1
     cases u0 with
     | false=>
       go_wp2_with fail
       go_meet
       case rel=>exact⟨rfl,rfl⟩
     | true=>
       go_wp2_with fail
       go_meet
       case rel=>exact⟨rfl,rfl⟩
    ·subst h2
     have t0:(kd == 0)=false:=by rw[h1];rfl
     have t6:(kd == 6)=false:=by rw[h1];rfl
     have t7:(kd == 7)=false:=by rw[h1];rfl
     have t8:(kd == 8)=true:=by rw[h1];rfl
     clear h1
     cases u0 with
     | false=>
       go_wp2_with fail
       go_meet
       case rel=>exact⟨rfl,rfl⟩
     | true=>
       go_wp2_with fail
       go_meet
       case rel=>exact⟨rfl,rfl⟩
   case rest=>
    obtain⟨rfl,rfl⟩:=hcut
    go_wp2_with fail
    go_ret2
    exact⟨by rw[hEV.out];rfl,HWO.out⟩
theorem snC_parts {nm:ByteArray→Bool}{n:Nat}{c:CT}(h:snC nm (n+1) c=true):(c.es.length=2∧2≤c.kind∧c.kind≤5∨c.es.length=0∧(((c.kind=0∨c.kind=1)∧c.ks.length=0)∨(c.kind=6∧c.ks.length=1)∨(c.kind=7∧c.ks.length=2)∨(c.kind=8∧c.ks.length=2)))∧(∀x∈c.es,snE nm n x=true)∧∀x∈c.ks,snC nm n x=true:=by
 unfold snC at h
 split at h
 ·next h2=>
  simp only[Bool.and_eq_true,beq_iff_eq]at h
  obtain⟨⟨⟨h3,h4⟩,h5⟩,h6⟩:=h
  refine⟨?_,fun x hx=>List.all_eq_true.1 h5 x hx,fun x hx=>List.all_eq_true.1 h6 x hx⟩
  unfold esC at h3
  unfold ksC at h4
  split at h3
  ·next h7=>exact .inl ⟨h3,h7⟩
  ·next h7=>
   refine .inr ⟨h3, ?_⟩
   split at h4
   ·next h8=>exact .inr (.inl ⟨h8,h4⟩)
   ·next h8=>
    split at h4
    ·next h9=>rcases h9 with h9 | h9
              ·exact .inr (.inr (.inl ⟨h9,h4⟩))
              ·exact .inr (.inr (.inr ⟨h9,h4⟩))
    ·next h9=>exact .inl ⟨by omega,h4⟩
 ·cases h
theorem hcond_any (nm:ByteArray→Bool)(xs:List (ByteArray×Int))(av:Option Addr)(cv:Nat):∀(n:Nat) (c:CT) (cs:List Value) (w:World),snC nm n c=true→(condSh n).rel (Pak.Lo w.heap.size) w cs c→Pak.Sits varSh (Pak.Lo w.heap.size) w av xs→
 Calls Tryz.prog 45 #[.agg cs.toArray,.slice av xs.length cv] w (TruIn (truC (fun s=>varOf s xs) n c) w)
 | 0,_,_,_,_,h,_=>h.elim
 | n+1,c,cs,w,hs,h,hv=>by
   obtain⟨hk,hes,hks⟩:=snC_parts hs
   obtain⟨u,v,rfl,_,⟨a1,c1,rfl,hs1⟩,⟨a2,c2,rfl,hs2⟩⟩:=h
   rcases hk with ⟨he,hk⟩ | ⟨he,hk⟩
   ·obtain⟨b,off,rfl⟩:=sits_some hs1 (by omega)
    obtain⟨cs0,hc0,hr0⟩:=sits_at hs1 (i:=0) (by omega)
    obtain⟨cs1,hc1,hr1⟩:=sits_at hs1 (i:=1) (by omega)
    rw[exprSh_k]at hc0 hc1
    have hb:b<w.heap.size:=by
     obtain⟨b',off',cs,e,hb,_⟩:=hs1.2 0 (by omega)
     injection e with e
     injection e with e1 _ _
     rw[e1];exact hb
    have g0:c.es.getD 0 default=c.es[0]'(by omega):=by rw[List.getD_eq_getElem?_getD,List.getElem?_eq_getElem (by omega:0<c.es.length)];rfl
    have g1:c.es.getD 1 default=c.es[1]'(by omega):=by rw[List.getD_eq_getElem?_getD,List.getElem?_eq_getElem (by omega:1<c.es.length)];rfl
    rw[truC_succ,if_pos he,he,g0,g1]
    exact hcond_cmp c.kind cs0 cs1 _ b off c1 a2 _ c2 _ _ _ _ w (((exprSh n).len hr0).trans (exprSh_k n)) (((exprSh n).len hr1).trans (exprSh_k n)) hb (by simpa using hc0) (by simpa using hc1)
     (hexpr_all nm xs av cv n _ cs0 w (hes _ (List.getElem_mem _)) hr0 hv) (hexpr_all nm xs av cv n _ cs1 w (hes _ (List.getElem_mem _)) hr1 hv)
   ·exact hcond_kid n _ c _ a1 _ c1 a2 _ c2 w rfl (by omega) rfl hs2 hk (fun cs x W hx hb hr=>hcond_any nm xs av cv n x cs W (hks x hx) hr (hv.below hb hb.size))
end
namespace Lf
open Go.RowKit
def vStep (b:Bool)(p q:Bool×Bool):Bool×Bool:=(if(q.1 != b)=true then !b else p.1,p.2 && q.2)
def vOf (zs:List Int):Nat→FT→Bool×Bool
 | 0,_=>(false,false)
 | n+1,f=>
   if f.kind=0 then(true,true)
   else if f.kind=1 then(false,true)
   else if f.kind=2∨f.kind=3 then
    if ∀i,i<f.t.length→near f.t zs i=true then(decide (sAt f.c f.t zs f.t.length=0) || (decide (sAt f.c f.t zs f.t.length<0) && decide (f.kind=2)),true) else(true,false)
   else if f.kind=4 then(!(vOf zs n (f.ks.getD 0 default)).1,(vOf zs n (f.ks.getD 0 default)).2)
   else(f.ks.map (vOf zs n)).foldl (vStep (f.kind == 5)) (f.kind == 5,true)
def vTo (zs:List Int)(n:Nat)(b:Bool)(ks:List FT)(k:Nat):Bool×Bool:=((ks.take k).map (vOf zs n)).foldl (vStep b) (b,true)
theorem vTo_succ (zs:List Int)(n:Nat)(b:Bool)(ks:List FT)(k:Nat)(h:k<ks.length):vTo zs n b ks (k+1)=vStep b (vTo zs n b ks k) (vOf zs n (ks.getD k default)):=by
 unfold vTo
 rw[List.take_succ_eq_append_getElem h,List.map_append,List.foldl_append]
 simp[List.getD_eq_getElem?_getD,h]
theorem ownF_form {f:FT}(h:ownF f=true)(hk:f.kind=2∨f.kind=3):snd f.c f.t=true:=by
 unfold ownF ownV at h
 rw[if_neg (by omega),if_pos hk]at h
 simp at h
 exact h.1
theorem ownF_not {f:FT}(h:ownF f=true)(hk:f.kind=4):f.ks.length=1:=by
 unfold ownF ownV at h
 rw[if_neg (by omega),if_neg (by omega),if_pos hk]at h
 simp at h
 omega
theorem ownF_kind {f:FT}(h:ownF f=true):f.kind=0∨f.kind=1∨(f.kind=2∨f.kind=3)∨f.kind=4∨f.kind=5∨f.kind=6:=by
 by_cases hk:f.kind=0∨f.kind=1∨(f.kind=2∨f.kind=3)∨f.kind=4∨f.kind=5∨f.kind=6
 ·exact hk
 ·unfold ownF ownV at h
  rw[if_neg (by omega),if_neg (by omega),if_neg (by omega),if_neg (by omega)]at h
  cases h
theorem sndF_split {n:Nat}{f:FT}(h:sndF (n+1) f=true):ownF f=true∧∀i,i<f.ks.length→sndF n (f.ks.getD i default)=true:=by
 have:(ownF f && decide (∀i,i<f.ks.length→sndF n (f.ks.getD i default)=true))=true:=h
 rw[Bool.and_eq_true]at this
 exact⟨this.1,of_decide_eq_true this.2⟩
def ValEnd (B:Nat)(p:Bool×Bool)(w:World)(e:Ending)(w':World):Prop:=e= .returned (.tuple #[.bool p.1,.bool p.2])∧Below B w w'
end Lf
namespace Lf
open Go.RowKit
theorem value_0 (n:Nat)(f:FT)(cs:List Value)(a2:Option Addr)(n2 cap2:Nat)(zs:List Int)(w:World)(IH:∀(f:FT) (cs:List Value) (a2:Option Addr) (n2 cap2:Nat) (zs:List Int) (w:World),FLies w.heap.size w n f cs→sndF n f=true→zs.length=n2→Nums w.heap.size w a2 zs→Calls Tryz.prog 47 #[.agg cs.toArray,.slice a2 n2 cap2] w (ValEnd w.heap.size (vOf zs n f) w))
 (h:FLies w.heap.size w (n+1) f cs) (hs:sndF (n+1) f=true) (hn2:zs.length=n2) (hz:Nums w.heap.size w a2 zs) (hk:f.kind=0):
 Calls Tryz.prog 47 #[.agg cs.toArray,.slice a2 n2 cap2] w (ValEnd w.heap.size (vOf zs (n+1) f) w):=by
 obtain⟨hown,hkids⟩:=sndF_split hs
 obtain⟨ta,tcap,ka,kcap,rfl,hlt,ht4,hk4,hks⟩:=h
 have B0:=Lib.hid (box_start w f.kind f.c ta ka f.t.length tcap f.ks.length kcap)
 have hv:vOf zs (n+1) f=(true,true):=by show(if f.kind=0 then _ else _)=_;rw[if_pos hk]
 rw[hv]
 rw[hk]at B0⊢
 generalize f.c=fc at B0
 generalize f.t.length=ft at B0
 generalize f.ks.length=len at B0
 clear IH hks hkids hlt hown hk hs hz hv hn2 hk4
 go_enter Tryz.func47,Tryz.ntmps47
 go_wp2_with fail
 refine bodyPost_ret (v:= .tuple #[.bool true,.bool true]) ?_ rfl ⟨rfl,B0.out.bel⟩
 simp[results,Tryz.results47,go_sem]
theorem value_1 (n:Nat)(f:FT)(cs:List Value)(a2:Option Addr)(n2 cap2:Nat)(zs:List Int)(w:World)(IH:∀(f:FT) (cs:List Value) (a2:Option Addr) (n2 cap2:Nat) (zs:List Int) (w:World),FLies w.heap.size w n f cs→sndF n f=true→zs.length=n2→Nums w.heap.size w a2 zs→Calls Tryz.prog 47 #[.agg cs.toArray,.slice a2 n2 cap2] w (ValEnd w.heap.size (vOf zs n f) w))
 (h:FLies w.heap.size w (n+1) f cs) (hs:sndF (n+1) f=true) (hn2:zs.length=n2) (hz:Nums w.heap.size w a2 zs) (hk:f.kind=1):
 Calls Tryz.prog 47 #[.agg cs.toArray,.slice a2 n2 cap2] w (ValEnd w.heap.size (vOf zs (n+1) f) w):=by
 obtain⟨hown,hkids⟩:=sndF_split hs
 obtain⟨ta,tcap,ka,kcap,rfl,hlt,ht4,hk4,hks⟩:=h
 have B0:=Lib.hid (box_start w f.kind f.c ta ka f.t.length tcap f.ks.length kcap)
 have hv:vOf zs (n+1) f=(false,true):=by show(if f.kind=0 then _ else if f.kind=1 then _ else _)=_;rw[if_neg (by omega),if_pos hk]
 rw[hv]
 rw[hk]at B0⊢
 generalize f.c=fc at B0
 generalize f.t.length=ft at B0
 generalize f.ks.length=len at B0
 clear IH hks hkids hlt hown hk hs hz hv hn2 hk4
 go_enter Tryz.func47,Tryz.ntmps47
 go_wp2_with fail
 refine bodyPost_ret (v:= .tuple #[.bool false,.bool true]) ?_ rfl ⟨rfl,B0.out.bel⟩
 simp[results,Tryz.results47,go_sem]
theorem value_2 (n:Nat)(f:FT)(cs:List Value)(a2:Option Addr)(n2 cap2:Nat)(zs:List Int)(w:World)(IH:∀(f:FT) (cs:List Value) (a2:Option Addr) (n2 cap2:Nat) (zs:List Int) (w:World),FLies w.heap.size w n f cs→sndF n f=true→zs.length=n2→Nums w.heap.size w a2 zs→Calls Tryz.prog 47 #[.agg cs.toArray,.slice a2 n2 cap2] w (ValEnd w.heap.size (vOf zs n f) w))
 (h:FLies w.heap.size w (n+1) f cs) (hs:sndF (n+1) f=true) (hn2:zs.length=n2) (hz:Nums w.heap.size w a2 zs) (hk:f.kind=2∨f.kind=3):
 Calls Tryz.prog 47 #[.agg cs.toArray,.slice a2 n2 cap2] w (ValEnd w.heap.size (vOf zs (n+1) f) w):=by
 obtain⟨hown,hkids⟩:=sndF_split hs
 obtain⟨ta,tcap,ka,kcap,rfl,hlt,ht4,hk4,hks⟩:=h
 have B0:=Lib.hid (box_start w f.kind f.c ta ka f.t.length tcap f.ks.length kcap)
 have hsn:=ownF_form hown hk
 have hv:vOf zs (n+1) f=if ∀i,i<f.t.length→near f.t zs i=true then(decide (sAt f.c f.t zs f.t.length=0) || (decide (sAt f.c f.t zs f.t.length<0) && decide (f.kind=2)),true) else(true,false):=by
  show(if f.kind=0 then _ else if f.kind=1 then _ else if f.kind=2∨f.kind=3 then _ else _)=_
  rw[if_neg (by omega),if_neg (by omega),if_pos hk]
 rw[hv]
 have en:=fun W=>Tryz.eqNil W
 have ei:=fun W=>Tryz.eqIfaceNil 1 W
 by_cases hnear:∀i,i<f.t.length→near f.t zs i=true
 ·rw[if_pos hnear]
  have hcv:=value_ok f.c ta f.t.length tcap f.t a2 n2 cap2 zs _ rfl hn2 ((hlt.below B0.out.bel).mono B0.out.bel.size) ((hz.below B0.out.bel).mono B0.out.bel.size) hsn hnear
  generalize sAt f.c f.t zs f.t.length=v at hcv
  generalize f.c=fc at B0 hcv
  generalize f.t.length=ft at B0 hcv
  generalize f.ks.length=len at B0 hcv
  generalize f.kind=fk at B0 hcv hk
  clear IH hks hkids hlt hown hs hz hv hn2 hk4 hsn hnear ei
  have hv3:v=0∨(decide (v<0)=true∧(v == 0)=false)∨(decide (v<0)=false∧(v == 0)=false):=by
   simp only[beq_eq_false_iff_ne,ne_eq,decide_eq_true_eq,decide_eq_false_iff_not];omega
  rcases hk with rfl | rfl<;>rcases hv3 with rfl | ⟨h1,h2⟩ | ⟨h1,h2⟩
  all_goals
   go_enter Tryz.func47,Tryz.ntmps47
   go_wp2_with fail
   refine hcv.mono ?_
   rintro e w1 ⟨rfl,hb1⟩
   have T1:=Lib.hid (B0.out.below hb1 B0.out.lt)
   obtain⟨l1,p0,_,_,_,_⟩:=T1.out
   clear hb1 hcv
   go_wp2_with fail
   go_quiet (fail)
   go_wp2
   refine bodyPost_ret ?_ rfl ⟨rfl,below_drewN T1.out.bel _⟩
   simp_all [results,Tryz.results47,go_sem]
 ·rw[if_neg hnear]
  have hcv:=value_far f.c ta f.t.length tcap f.t a2 n2 cap2 zs _ rfl hn2 ((hlt.below B0.out.bel).mono B0.out.bel.size) ((hz.below B0.out.bel).mono B0.out.bel.size) hsn hnear
  generalize f.c=fc at B0 hcv
  generalize f.t.length=ft at B0 hcv
  generalize f.ks.length=len at B0 hcv
  generalize f.kind=fk at B0 hcv hk
  clear IH hks hkids hlt hown hs hz hv hn2 hk4 hsn hnear en
  rcases hk with rfl | rfl
  all_goals
   go_enter Tryz.func47,Tryz.ntmps47
   go_wp2_with fail
   refine hcv.mono ?_
   rintro e w1 ⟨rfl,hb1⟩
   have T1:=Lib.hid (B0.out.below hb1 B0.out.lt)
   clear hb1 hcv
   go_wp2_with fail
   go_quiet (fail)
   go_wp2
   refine bodyPost_ret (v:= .tuple #[.bool true,.bool false]) ?_ rfl ⟨rfl,below_drewN T1.out.bel _⟩
   simp[results,Tryz.results47,go_sem]
theorem value_3 (n:Nat)(f:FT)(cs:List Value)(a2:Option Addr)(n2 cap2:Nat)(zs:List Int)(w:World)(IH:∀(f:FT) (cs:List Value) (a2:Option Addr) (n2 cap2:Nat) (zs:List Int) (w:World),FLies w.heap.size w n f cs→sndF n f=true→zs.length=n2→Nums w.heap.size w a2 zs→Calls Tryz.prog 47 #[.agg cs.toArray,.slice a2 n2 cap2] w (ValEnd w.heap.size (vOf zs n f) w))
 (h:FLies w.heap.size w (n+1) f cs) (hs:sndF (n+1) f=true) (hn2:zs.length=n2) (hz:Nums w.heap.size w a2 zs) (hk:f.kind=4):
 Calls Tryz.prog 47 #[.agg cs.toArray,.slice a2 n2 cap2] w (ValEnd w.heap.size (vOf zs (n+1) f) w):=by
 obtain⟨hown,hkids⟩:=sndF_split hs
 obtain⟨ta,tcap,ka,kcap,rfl,hlt,ht4,hk4,hks⟩:=h
 have B0:=Lib.hid (box_start w f.kind f.c ta ka f.t.length tcap f.ks.length kcap)
 have hlen:=ownF_not hown hk
 have hv:vOf zs (n+1) f=(!(vOf zs n (f.ks.getD 0 default)).1,(vOf zs n (f.ks.getD 0 default)).2):=by
  show(if f.kind=0 then _ else if f.kind=1 then _ else if f.kind=2∨f.kind=3 then _ else if f.kind=4 then _ else _)=_
  rw[if_neg (by omega),if_neg (by omega),if_neg (by omega),if_pos hk]
 rw[hv]
 obtain⟨b,off,c0,c1,c2,c3,rfl,hblt,g0,g1,g2,g3,hf⟩:=hks 0 (by omega)
 rw[←B0.out.bel.cell (p:=⟨b,_,none⟩) hblt]at g0 g1 g2 g3
 obtain⟨ck,cc,cta,ctn,ctcap,cka,ckn,ckcap,rfl,rfl,rfl,rfl⟩:=hf.form
 have hih:=IH (f.ks.getD 0 default) _ a2 n2 cap2 zs _ ((hf.below B0.out.bel).mono B0.out.bel.size) (hkids 0 (by omega)) hn2 ((hz.below B0.out.bel).mono B0.out.bel.size)
 simp only[Nat.zero_mul,Nat.add_zero]at g0 g1 g2 g3
 generalize vOf zs n (f.ks.getD 0 default)=p at hih
 obtain⟨o,u⟩:=p
 rw[hk]at B0 g0 g1 g2 g3 hih⊢
 rw[hlen]at B0 g0 g1 g2 g3 hih⊢
 generalize f.c=fc at B0 g0 g1 g2 g3 hih
 generalize f.t.length=ft at B0 g0 g1 g2 g3 hih
 clear IH hks hkids hlt hown hs hz hv hn2 hk4 hf hk hlen
 go_enter Tryz.func47,Tryz.ntmps47
 go_wp2_with fail
 refine hih.mono ?_
 rintro e w1 ⟨rfl,hb1⟩
 have T1:=Lib.hid (B0.out.below hb1 B0.out.lt)
 clear hb1 hih
 go_wp2_with fail
 refine bodyPost_ret (v:= .tuple #[.bool !o,.bool u]) ?_ rfl ⟨rfl,T1.out.bel⟩
 simp[results,Tryz.results47,go_sem]
end Lf
namespace Lf
open Go.RowKit
theorem value_5 (n:Nat)(f:FT)(cs:List Value)(a2:Option Addr)(n2 cap2:Nat)(zs:List Int)(w:World)(IH:∀(f:FT) (cs:List Value) (a2:Option Addr) (n2 cap2:Nat) (zs:List Int) (w:World),FLies w.heap.size w n f cs→sndF n f=true→zs.length=n2→Nums w.heap.size w a2 zs→Calls Tryz.prog 47 #[.agg cs.toArray,.slice a2 n2 cap2] w (ValEnd w.heap.size (vOf zs n f) w))
 (h:FLies w.heap.size w (n+1) f cs) (hs:sndF (n+1) f=true) (hn2:zs.length=n2) (hz:Nums w.heap.size w a2 zs) (hk:f.kind=6):
 Calls Tryz.prog 47 #[.agg cs.toArray,.slice a2 n2 cap2] w (ValEnd w.heap.size (vOf zs (n+1) f) w):=by
 obtain⟨hown,hkids⟩:=sndF_split hs
 obtain⟨ta,tcap,ka,kcap,rfl,hlt,ht4,hk4,hks⟩:=h
 have B0:=Lib.hid (box_start w f.kind f.c ta ka f.t.length tcap f.ks.length kcap)
 have hv:vOf zs (n+1) f=vTo zs n false f.ks f.ks.length:=by
  show(if f.kind=0 then _ else if f.kind=1 then _ else if f.kind=2∨f.kind=3 then _ else if f.kind=4 then _ else _)=_
  rw[if_neg (by omega),if_neg (by omega),if_neg (by omega),if_neg (by omega)]
  unfold vTo
  rw[List.take_length,show(f.kind == 5)=false from by rw[hk];rfl]
 have HST:=Lib.hid (vTo_succ zs n false f.ks)
 have HI:=Lib.hid IH
 have HK:=Lib.hid hks
 have HS:=Lib.hid hkids
 have HZ:=Lib.hid hz
 have HN2:=Lib.hid hn2
 rw[hv]
 have S0:Hid ((false,true)=vTo zs n false f.ks 0):=rfl
 generalize hr:vTo zs n false f.ks f.ks.length=r
 have HR:=Lib.hid hr
 rw[hk]at B0⊢
 clear IH hks hkids hlt hown hs hz hv hn2 hk hr
 generalize f.c=fc at B0
 generalize f.t.length=ft at B0
 generalize hl:f.ks.length=len at B0 HK hk4 HST HR HS
 clear hl
 go_enter Tryz.func47,Tryz.ntmps47
 go_wp2_with fail
 go_loopw [4,5,67] (fun s4 s5 i wr=>∃(k:Nat) (o u:Bool),k≤len∧i= .int .i64 k∧s4= .bool o∧s5= .bool u∧Hid ((o,u)=vTo zs n false f.ks k)∧Below w.heap.size w wr) (fun _ _ i _=>len - (intOf i).toNat)
 case atStart=>exact⟨0,false,true,Nat.zero_le _,rfl,rfl,rfl,S0,B0.out.bel⟩
 case round=>
  obtain⟨k,o,u,hk,rfl,rfl,rfl,hou,hb⟩:=hrel
  by_cases hlt:k<len
  ·obtain⟨b,off,c0,c1,c2,c3,rfl,hblt,g0,g1,g2,g3,hf⟩:=HK.out k hlt
   rw[←hb.cell (p:=⟨b,_,none⟩) hblt]at g0 g1 g2 g3
   obtain⟨ck,cc,cta,ctn,ctcap,cka,ckn,ckcap,rfl,rfl,rfl,rfl⟩:=hf.form
   have hb2:=hb.alloc hb.size (.cells #[.int .i64 ck,.int .i64 cc,.slice cta ctn ctcap,.slice cka ckn ckcap] 38)
   have hih:=HI.out (f.ks.getD k default) _ a2 n2 cap2 zs _ ((hf.below hb2).mono hb2.size) (HS.out k hlt) HN2.out ((HZ.out.below hb2).mono hb2.size)
   have hst:=HST.out k hlt
   rw[←hou.out]at hst
   generalize vOf zs n (f.ks.getD k default)=p at hih hst
   obtain⟨v,y⟩:=p
   have HO:=Lib.hid hst
   clear hf hst hou
   go_wp2_with fail
   refine hih.mono ?_
   rintro e w1 ⟨rfl,hb1⟩
   have HB1:=Lib.hid (hb2.trans (hb1.mono hb2.size))
   clear g0 g1 g2 g3 hih hb1 hb2
   cases u<;>cases v<;>cases y
   all_goals
    go_wp2_with fail
    go_roundw
    case rel=>exact⟨k+1,_,_,by omega,by go_num,rfl,rfl,(HO.out.trans (by cases o<;>rfl)).symm,HB1.out⟩
    case measure=>simp[intOf];omega
  ·have hr:r=(o,u):=by
    obtain rfl:k=len:=by omega
    rw[←HR.out,hou.out]
   subst hr
   clear hou
   go_wp2_with fail
   refine bodyPost_ret (v:= .tuple #[.bool o,.bool u]) ?_ rfl ⟨rfl,hb⟩
   simp[results,Tryz.results47,go_sem]
end Lf
namespace Lf
open Go.RowKit
theorem value_4 (n:Nat)(f:FT)(cs:List Value)(a2:Option Addr)(n2 cap2:Nat)(zs:List Int)(w:World)(IH:∀(f:FT) (cs:List Value) (a2:Option Addr) (n2 cap2:Nat) (zs:List Int) (w:World),FLies w.heap.size w n f cs→sndF n f=true→zs.length=n2→Nums w.heap.size w a2 zs→Calls Tryz.prog 47 #[.agg cs.toArray,.slice a2 n2 cap2] w (ValEnd w.heap.size (vOf zs n f) w))
 (h:FLies w.heap.size w (n+1) f cs) (hs:sndF (n+1) f=true) (hn2:zs.length=n2) (hz:Nums w.heap.size w a2 zs) (hk:f.kind=5):
 Calls Tryz.prog 47 #[.agg cs.toArray,.slice a2 n2 cap2] w (ValEnd w.heap.size (vOf zs (n+1) f) w):=by
 obtain⟨hown,hkids⟩:=sndF_split hs
 obtain⟨ta,tcap,ka,kcap,rfl,hlt,ht4,hk4,hks⟩:=h
 have B0:=Lib.hid (box_start w f.kind f.c ta ka f.t.length tcap f.ks.length kcap)
 have hv:vOf zs (n+1) f=vTo zs n true f.ks f.ks.length:=by
  show(if f.kind=0 then _ else if f.kind=1 then _ else if f.kind=2∨f.kind=3 then _ else if f.kind=4 then _ else _)=_
  rw[if_neg (by omega),if_neg (by omega),if_neg (by omega),if_neg (by omega)]
  unfold vTo
  rw[List.take_length,show(f.kind == 5)=true from by rw[hk];rfl]
 have HST:=Lib.hid (vTo_succ zs n true f.ks)
 have HI:=Lib.hid IH
 have HK:=Lib.hid hks
 have HS:=Lib.hid hkids
 have HZ:=Lib.hid hz
 have HN2:=Lib.hid hn2
 rw[hv]
 have S0:Hid ((true,true)=vTo zs n true f.ks 0):=rfl
 generalize hr:vTo zs n true f.ks f.ks.length=r
 have HR:=Lib.hid hr
 rw[hk]at B0⊢
 clear IH hks hkids hlt hown hs hz hv hn2 hk hr
 generalize f.c=fc at B0
 generalize f.t.length=ft at B0
 generalize hl:f.ks.length=len at B0 HK hk4 HST HR HS
 clear hl
 go_enter Tryz.func47,Tryz.ntmps47
 go_wp2_with fail
 go_loopw [4,5,67] (fun s4 s5 i wr=>∃(k:Nat) (o u:Bool),k≤len∧i= .int .i64 k∧s4= .bool o∧s5= .bool u∧Hid ((o,u)=vTo zs n true f.ks k)∧Below w.heap.size w wr) (fun _ _ i _=>len - (intOf i).toNat)
 case atStart=>exact⟨0,true,true,Nat.zero_le _,rfl,rfl,rfl,S0,B0.out.bel⟩
 case round=>
  obtain⟨k,o,u,hk,rfl,rfl,rfl,hou,hb⟩:=hrel
  by_cases hlt:k<len
  ·obtain⟨b,off,c0,c1,c2,c3,rfl,hblt,g0,g1,g2,g3,hf⟩:=HK.out k hlt
   rw[←hb.cell (p:=⟨b,_,none⟩) hblt]at g0 g1 g2 g3
   obtain⟨ck,cc,cta,ctn,ctcap,cka,ckn,ckcap,rfl,rfl,rfl,rfl⟩:=hf.form
   have hb2:=hb.alloc hb.size (.cells #[.int .i64 ck,.int .i64 cc,.slice cta ctn ctcap,.slice cka ckn ckcap] 38)
   have hih:=HI.out (f.ks.getD k default) _ a2 n2 cap2 zs _ ((hf.below hb2).mono hb2.size) (HS.out k hlt) HN2.out ((HZ.out.below hb2).mono hb2.size)
   have hst:=HST.out k hlt
   rw[←hou.out]at hst
   generalize vOf zs n (f.ks.getD k default)=p at hih hst
   obtain⟨v,y⟩:=p
   have HO:=Lib.hid hst
   clear hf hst hou
   go_wp2_with fail
   refine hih.mono ?_
   rintro e w1 ⟨rfl,hb1⟩
   have HB1:=Lib.hid (hb2.trans (hb1.mono hb2.size))
   clear g0 g1 g2 g3 hih hb1 hb2
   cases u<;>cases v<;>cases y
   all_goals
    go_wp2_with fail
    go_roundw
    case rel=>exact⟨k+1,_,_,by omega,by go_num,rfl,rfl,(HO.out.trans (by cases o<;>rfl)).symm,HB1.out⟩
    case measure=>simp[intOf];omega
  ·have hr:r=(o,u):=by
    obtain rfl:k=len:=by omega
    rw[←HR.out,hou.out]
   subst hr
   clear hou
   go_wp2_with fail
   refine bodyPost_ret (v:= .tuple #[.bool o,.bool u]) ?_ rfl ⟨rfl,hb⟩
   simp[results,Tryz.results47,go_sem]
end Lf
namespace Lf
open Go.RowKit
theorem value_any:∀(n:Nat) (f:FT) (cs:List Value) (a2:Option Addr) (n2 cap2:Nat) (zs:List Int) (w:World),FLies w.heap.size w n f cs→sndF n f=true→zs.length=n2→Nums w.heap.size w a2 zs→
 Calls Tryz.prog 47 #[.agg cs.toArray,.slice a2 n2 cap2] w (ValEnd w.heap.size (vOf zs n f) w)
 | 0,_,_,_,_,_,_,_,h,_,_,_=>h.elim
 | n+1,f,cs,a2,n2,cap2,zs,w,h,hs,hn2,hz=>by
   have IH:=value_any n
   rcases ownF_kind (sndF_split hs).1 with hk | hk | hk | hk | hk | hk
   ·exact value_0 n f cs a2 n2 cap2 zs w IH h hs hn2 hz hk
   ·exact value_1 n f cs a2 n2 cap2 zs w IH h hs hn2 hz hk
   ·exact value_2 n f cs a2 n2 cap2 zs w IH h hs hn2 hz hk
   ·exact value_3 n f cs a2 n2 cap2 zs w IH h hs hn2 hz hk
   ·exact value_4 n f cs a2 n2 cap2 zs w IH h hs hn2 hz hk
   ·exact value_5 n f cs a2 n2 cap2 zs w IH h hs hn2 hz hk
end Lf
section
open Go.RowKit
theorem slot_imp {T:Type}{sh sh':Pak.Sh T}{S:Nat→Prop}{w:World}{v:Value}{xs:List T}(hk:sh'.k=sh.k)(h:∀cs x,sh.rel S w cs x→sh'.rel S w cs x)(hs:Pak.Slot sh S w v xs):Pak.Slot sh' S w v xs:=by
 obtain⟨a,cap,e,h1,h2⟩:=hs
 refine⟨a,cap,e,h1,fun i hi=> ?_⟩
 obtain⟨b,off,cs,e,hb,hc,hr⟩:=h2 i hi
 exact⟨b,off,cs,e,hb,by rw[hk];exact hc,h cs _ hr⟩
theorem exprSh_up:∀(n:Nat) {S:Nat→Prop} {w:World} {cs:List Value} {e:ET},(exprSh n).rel S w cs e→(exprSh (n+1)).rel S w cs e
 | 0,_,_,_,_,h=>h.elim
 | n+1,S,w,cs,e,⟨v,h1,h2,h3⟩=>⟨v,h1,h2,slot_imp (by rw[exprSh_k,exprSh_k]) (fun cs x h=>exprSh_up n h) h3⟩
theorem condSh_up:∀(n:Nat) {S:Nat→Prop} {w:World} {cs:List Value} {e:CT},(condSh n).rel S w cs e→(condSh (n+1)).rel S w cs e
 | 0,_,_,_,_,h=>h.elim
 | n+1,S,w,cs,e,⟨u,v,h1,h2,h3,h4⟩=>⟨u,v,h1,h2,slot_imp (by rw[exprSh_k,exprSh_k]) (fun cs x h=>exprSh_up n h) h3,slot_imp (by rw[condSh_k,condSh_k]) (fun cs x h=>condSh_up n h) h4⟩
def sAst (c:CT):ST:= .mk ⟨8,⟨#[]⟩,⟨#[]⟩,⟨#[]⟩,zE,zE,c,zA,[],[],[]⟩ [] []
theorem sAst_rel {n:Nat}{S:Nat→Prop}{w:World}{cc:List Value}{c:CT}(h:(condSh (n+2)).rel S w cc c):(stmtSh (n+3)).rel S w ([.int .i64 8,.string ⟨#[]⟩,.string ⟨#[]⟩,.string ⟨#[]⟩] ++ (zEc ++ (zEc ++ (cc ++ (zAc ++ [.slice none 0 0,.slice none 0 0,.slice none 0 0,.slice none 0 0,.slice none 0 0]))))) (sAst c):=
 ⟨zEc,zEc,cc,zAc,_,_,_,_,_,rfl,⟨show(-9223372036854775808≤(8:Int)∧(8:Int)≤9223372036854775807) from⟨by decide,by decide⟩,Nat.zero_le _,Nat.zero_le _,Nat.zero_le _⟩,⟨zE_rel (n+1) S w,zE_rel (n+1) S w,h,zA_rel n S w⟩,⟨slot_nil _ _ _,slot_nil _ _ _,slot_nil _ _ _⟩,slot_nil _ _ _,slot_nil _ _ _⟩
theorem refused_box (x0:Value)(r:List Value)(k:Int)(w:World)(hlen:r.length=33)(hone:∀u∈r,u.oneCell'=true)
 (hck:∀W g,Below w.heap.size w W→W.heap[g]? =some (.cells (.string ⟨#[112]⟩ :: r).toArray 112 (0,0))→Calls Tryz.prog 65 #[.agg #[.slice (some ⟨g,0,none⟩) 1 1]] W (ErrIn k W)):
 Calls Tryz.prog 41 #[.agg (x0 :: r).toArray] w (SoundEnd (!(k == 0)) w):=by
 have HA1:Hid (Below w.heap.size w (w.alloc (.cells (.string ⟨#[112]⟩ :: r).toArray 112))):=box_low
 have HA2:Hid (Below w.heap.size w ((w.alloc (.cells (.string ⟨#[112]⟩ :: r).toArray 112)).alloc (.cells (.string ⟨#[112]⟩ :: r).toArray 112))):=Lib.hid (HA1.out.alloc (by simp) _)
 have HX:Hid (∀i v,(.string ⟨#[112]⟩ :: r:List Value)[i]? =some v→(w.alloc (.cells (.string ⟨#[112]⟩ :: r).toArray 112)).cell? ((⟨w.heap.size,0,none⟩:Addr).add i)=some v):=box_part (o:=0) (fun i v h=>by rw[Nat.zero_add];exact h) (Below.refl _ _)
 have HC:=Lib.hid (hck _ (w.heap.size+1) HA2.out (by have:=heap_alloc_new (w.alloc (.cells (.string ⟨#[112]⟩ :: r).toArray 112)) (.cells (.string ⟨#[112]⟩ :: r).toArray 112);rwa [show(w.alloc (.cells (.string ⟨#[112]⟩ :: r).toArray 112)).heap.size=w.heap.size+1 by simp]at this))
 have HL:Hid ((.string ⟨#[112]⟩ :: r:List Value).length=34):=Lib.hid (by simp[hlen])
 have n1:=fun W=>Tryz.neNil W
 have n2:=fun t v W=>Tryz.neIface t v W
 have hfold:List.foldl (fun(cs:Array Value) (x:Value×Nat)=>cs.setIfInBounds x.2 x.1) #[.string ⟨#[112]⟩,.slice none 0 0,.slice none 0 0,.int .i64 0,.int .i64 0,.slice none 0 0,.slice none 0 0,.int .i64 0,.int .i64 0,.string ⟨#[]⟩,.slice none 0 0,.int .i64 0,.int .i64 0,.string ⟨#[]⟩,.slice none 0 0,.string ⟨#[]⟩,.int .i64 0,.slice none 0 0,.int .i64 0,.int .i64 0,.slice none 0 0,.slice none 0 0,.int .i64 0,.int .i64 0,.string ⟨#[]⟩,.slice none 0 0,.int .i64 0,.int .i64 0,.string ⟨#[]⟩,.slice none 0 0,.string ⟨#[]⟩,.int .i64 0,.slice none 0 0,.slice none 0 0] (r.zipIdx 1)=(.string ⟨#[112]⟩ :: r).toArray:=fold_put r [.string ⟨#[112]⟩] ([.slice none 0 0,.slice none 0 0] ++ (zAc ++ (zAc ++ [.slice none 0 0]))) (by rw[hlen];rfl)
 clear hck
 go_enter Tryz.func41,Tryz.ntmps41
 go_wp2_with (first | go_skip | (refine wpList_load_w (by kernel_rfl) 112 _ rfl ⟨w.heap.size,0,none⟩ rfl (.string ⟨#[112]⟩ :: r) _ HX.out Tryz.underlying112 rfl (by rw[HL.out];kernel_rfl) ?_))
 refine HC.out.mono ?_
 rintro r2 w2 ⟨rfl,hb⟩
 have HB:=Lib.hid (HA2.out.trans (hb.mono HA2.out.size))
 clear hb HC
 by_cases hk:k=0
 ·have hv:erV k= .nilIface:=if_pos hk
  have hz:(k == 0)=true:=by rw[hk];rfl
  have HZ:=Lib.hid hz
  rw[hv]
  clear hv hz hk
  go_wp2_with fail
  go_ret
  exact⟨by rw[HZ.out];rfl,HB.out⟩
 ·have hv:erV k= .iface 89 (.int .i64 k):=if_neg hk
  have hz:(k == 0)=false:=beq_eq_false_iff_ne.2 hk
  have HZ:=Lib.hid hz
  rw[hv]
  clear hv hz hk
  go_wp2_with fail
  go_ret
  exact⟨by rw[HZ.out];rfl,HB.out⟩
end
namespace Lf
open Go.RowKit
theorem cc_snd {n:Nat}{f:FT}(h:cc n f=0):sndF n f=true:=by
 unfold cc ccV at h
 cases hb:sndF n f with
 | true=>rfl
 | false=>rw[hb]at h;split at h<;>(try split at h)<;>cases h
def fvN (zs:List Int)(n:Nat)(f:FT):Bool×Int:=if cc n f=0 then(if(vOf zs n f).2=true then((vOf zs n f).1,0) else(false,1)) else(false,cc n f)
theorem fvalue_any (n:Nat)(f:FT)(cs:List Value)(a2:Option Addr)(n2 cap2:Nat)(zs:List Int)(w:World)(h:FLies w.heap.size w n f cs)(hn2:zs.length=n2)(hz:Nums w.heap.size w a2 zs):
 Calls Tryz.prog 23 #[.agg cs.toArray,.slice a2 n2 cap2] w fun e w'=>e= .returned (.tuple #[.bool (fvN zs n f).1,codeV (fvN zs n f).2])∧Below w.heap.size w w':=by
 have FL:=fun W (hb:Below w.heap.size w W)=>(h.below hb).mono hb.size
 cases n with
 | zero=>exact h.elim
 | succ n=>
   obtain⟨ta,tcap,ka,kcap,rfl,_⟩:=h
   have hs:=Lib.hid (fun W hb=>fcheck_any (n+1) f _ W (FL W hb))
   have hv:=Lib.hid (fun(hc:cc (n+1) f=0) W (hb:Below w.heap.size w W)=>value_any (n+1) f _ a2 n2 cap2 zs W (FL W hb) (cc_snd hc) hn2 ((hz.below hb).mono hb.size))
   have T0:=Lib.hid (box_start w f.kind f.c ta ka f.t.length tcap f.ks.length kcap)
   unfold fvN
   clear FL hz hn2
   generalize vOf zs (n+1) f=p at hv
   generalize cc (n+1) f=k at hs hv
   obtain⟨o,u⟩:=p
   generalize f.kind=fk at T0 hs hv
   generalize f.c=fc at T0 hs hv
   generalize f.t.length=ft at T0 hs hv
   generalize f.ks.length=fl at T0 hs hv
   have n1:=fun W=>Tryz.neNil W
   have n2':=fun W=>Tryz.neCode k W
   by_cases hk:k=0
   ·subst hk
    have hv0:=Lib.hid (hv.out rfl)
    simp only[codeV,if_true]at hs
    clear hv n2'
    cases u with
    | true=>
      go_enter Tryz.func23,Tryz.ntmps23
      go_wp2_with fail
      refine(hs.out _ T0.out.bel).mono ?_
      rintro e w1 ⟨rfl,hb1⟩
      have T1:=Lib.hid (T0.out.below hb1 T0.out.lt)
      clear hb1
      obtain⟨l1,p0,p1,p2,p3,_⟩:=T1.out
      go_wp2_with fail
      refine(hv0.out _ T1.out.bel).mono ?_
      rintro e w2 ⟨rfl,hb2⟩
      have T2:=Lib.hid (T1.out.below hb2 T1.out.lt)
      clear hb2 l1 p0 p1 p2 p3
      go_wp2_with fail
      refine bodyPost_ret (v:= .tuple #[.bool o,.nilIface]) ?_ rfl ⟨by simp[codeV],T2.out.bel⟩
      simp[results,Tryz.results23,go_sem]
    | false=>
      go_enter Tryz.func23,Tryz.ntmps23
      go_wp2_with fail
      refine(hs.out _ T0.out.bel).mono ?_
      rintro e w1 ⟨rfl,hb1⟩
      have T1:=Lib.hid (T0.out.below hb1 T0.out.lt)
      clear hb1
      obtain⟨l1,p0,p1,p2,p3,_⟩:=T1.out
      go_wp2_with fail
      refine(hv0.out _ T1.out.bel).mono ?_
      rintro e w2 ⟨rfl,hb2⟩
      have T2:=Lib.hid (T1.out.below hb2 T1.out.lt)
      clear hb2 l1 p0 p1 p2 p3
      go_wp2_with fail
      refine bodyPost_ret (v:= .tuple #[.bool false,.iface 89 (.int .i64 1)]) ?_ rfl ⟨by simp[codeV],T2.out.bel⟩
      simp[results,Tryz.results23,go_sem]
   ·have e3:codeV k= .iface 89 (.int .i64 k):=by unfold codeV;rw[if_neg hk]
    rw[if_neg hk]
    show Calls _ _ _ _ fun e w'=>e= .returned (.tuple #[.bool false,codeV k])∧_
    rw[e3]at hs⊢
    clear hv e3 n1
    go_enter Tryz.func23,Tryz.ntmps23
    go_wp2_with fail
    refine(hs.out _ T0.out.bel).mono ?_
    rintro e w1 ⟨rfl,hb1⟩
    have T1:=Lib.hid (T0.out.below hb1 T0.out.lt)
    clear hb1
    go_wp2_with fail
    refine bodyPost_ret (v:= .tuple #[.bool false,.iface 89 (.int .i64 k)]) ?_ rfl ⟨rfl,T1.out.bel⟩
    simp[results,Tryz.results23,go_sem]
end Lf
section
open Go.RowKit
def evL (zs:List Int)(x:LT):Int:=x.1+Lf.evl zs x.2
theorem sAt_ev (zs:List Int)(c:Int)(l:List (Int×Int)):Lf.sAt c l zs l.length=c+Lf.evl zs l:=by
 rw[Lf.sAt_evl c l zs l.length (Nat.le_refl _),List.take_length]
theorem addS_ev {a b r:LT}{x y:Int}(zs:List Int)(h:addS x y a b=some r):evL zs r=x*evL zs a+y*evL zs b:=by
 unfold addS at h
 split at h
 ·injection h with h
  subst h
  unfold evL
  show x*a.1+y*b.1+Lf.evl zs (sumC (Lf.scale x a.2 ++ Lf.scale y b.2))=_
  rw[Lf.IsSum.evl (sumC_is _) zs,Lf.evl_append,Lf.evl_scale,Lf.evl_scale,Int.mul_add,Int.mul_add]
  omega
 ·cases h
theorem vOf_form (zs:List Int)(n:Nat)(k c:Int)(t:List (Int×Int))(hk:k=2∨k=3):Lf.vOf zs (n+1) (.mk k c t [])=if ∀i,i<t.length→Lf.near t zs i=true then(decide (c+Lf.evl zs t=0) || (decide (c+Lf.evl zs t<0) && decide (k=2)),true) else(true,false):=by
 rw[←sAt_ev]
 show(if k=0 then _ else if k=1 then _ else if k=2∨k=3 then _ else _)=_
 rw[if_neg (by omega),if_neg (by omega),if_pos hk]
 rfl
theorem vOf_not (zs:List Int)(n:Nat)(f:Lf.FT):Lf.vOf zs (n+1) (.mk 4 0 [] [f])=(!(Lf.vOf zs n f).1,(Lf.vOf zs n f).2):=rfl
theorem vOf_or (zs:List Int)(n:Nat)(f g:Lf.FT):Lf.vOf zs (n+1) (.mk 6 0 [] [f,g])=((Lf.vOf zs n f).1 || (Lf.vOf zs n g).1,(Lf.vOf zs n f).2 && (Lf.vOf zs n g).2):=by
 show Lf.vStep false (Lf.vStep false (false,true) (Lf.vOf zs n f)) (Lf.vOf zs n g)=_
 generalize Lf.vOf zs n f=p
 generalize Lf.vOf zs n g=q
 obtain⟨p1,p2⟩:=p
 obtain⟨q1,q2⟩:=q
 cases p1<;>cases q1<;>simp[Lf.vStep]
theorem eq_form {zs:List Int}{n:Nat}{k c:Int}{t:List (Int×Int)}(hk:k=2∨k=3)(h:(Lf.vOf zs (n+1) (.mk k c t [])).2=true):(Lf.vOf zs (n+1) (.mk k c t [])).1=(decide (evL zs (c,t)=0) || (decide (evL zs (c,t)<0) && decide (k=2))):=by
 rw[vOf_form zs n k c t hk]at h⊢
 split at h
 ·rename_i hn
  rw[if_pos hn]
  rfl
 ·cases h
end
end Go.Proofs.YtjbkhdbjdahbiaaGreatDoor
