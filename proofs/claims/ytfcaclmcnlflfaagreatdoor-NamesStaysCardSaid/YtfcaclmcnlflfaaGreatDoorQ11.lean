/- Parts of a proof. -/
import Derived.Test.YtfcaclmcnlflfaaGreatDoorQ03
import Derived.Test.YtfcaclmcnlflfaaGreatDoorQ06
import Derived.Test.YtfcaclmcnlflfaaGreatDoorQ10
import Derived.Laws.AppendOwnNone
import Derived.Deep.AppendLies
set_option linter.unusedVariables false
set_option linter.unusedSimpArgs false
set_option maxHeartbeats 60000000
set_option maxRecDepth 100000
namespace Go.Proofs.YtfcaclmcnlflfaaGreatDoor
section
open Go.RowKit
def shrB (k fn:Int):Bool:=(k == 2 || k == 3) && (decide (fn<1) || decide (64<fn))
def prA:Nat→AT→Bool
 | 0,_=>false
 | n+1,a=>shrB a.kind a.n || a.ks.any (prA n)
theorem prA_bad {n:Nat}{a:AT}(h:shrB a.kind a.n=true):prA (n+1) a=true:=by unfold prA;rw[h];rfl
theorem prA_ok {n:Nat}{a:AT}(h:shrB a.kind a.n=false):prA (n+1) a=a.ks.any (prA n):=by unfold prA;rw[h];rfl
theorem part16_box (n:Nat)(y:AT)(cs:List Value)(u:Option Addr)(c:Nat)(w:World)(hl:cs.length=15)(q0:cs[0]? =some (.int .i64 y.kind))(q13:cs[13]? =some (.int .i64 y.n))(q14:cs[14]? =some (.slice u y.ks.length c))(hks:Pak.Sits (assnSh n) (Pak.Lo w.heap.size) w u y.ks)
 (hk:∀(x:AT) (ca:List Value) (W:World),x∈y.ks→Below w.heap.size w W→(assnSh n).rel (Pak.Lo W.heap.size) W ca x→Calls Tryz.prog 22 #[.agg ca.toArray] W (SoundEnd (prA n x) W)):
 Calls Tryz.prog 22 #[.agg cs.toArray] w (SoundEnd (prA (n+1) y) w):=by
 have XB0:Hid (Bx w cs 44 (w.alloc (.cells cs.toArray 44))):=Lib.hid (Bx.start _ _ _)
 have HLW:Hid (∀W,Bx w cs 44 W→Below w.heap.size w W):=Lib.hid fun W hW=>hW.low (Below.refl _ _)
 have HK:=Lib.hid hk
 have HS:=Lib.hid hks
 have Q14:=Lib.hid q14
 have hmm:y.ks.length≤9223372036854775807:=hks.1
 have k0:=XB0.out.at (o:=0) q0
 have k13:=XB0.out.at (o:=13) q13
 have k14:=XB0.out.at (o:=14) q14
 clear hk hks q0 q13 q14 hl
 by_cases h2:y.kind=2
 ·have e2:(y.kind == 2)=true:=by simp[h2]
  by_cases n1:y.n<1
  ·have HZ:Hid (prA (n+1) y=true):=Lib.hid (prA_bad (by simp[shrB,h2,n1]))
   go_enter Tryz.func22,Tryz.ntmps22
   go_wp2_with fail
   go_ret
   exact⟨by rw[HZ.out];rfl,HLW.out _ XB0.out⟩
  ·by_cases n2:64<y.n
   ·have HZ:Hid (prA (n+1) y=true):=Lib.hid (prA_bad (by simp[shrB,h2,n2]))
    go_enter Tryz.func22,Tryz.ntmps22
    go_wp2_with fail
    go_ret
    exact⟨by rw[HZ.out];rfl,HLW.out _ XB0.out⟩
   ·have HZ:Hid (prA (n+1) y=y.ks.any (prA n)):=Lib.hid (prA_ok (by simp[shrB,h2,n1,n2]))
    go_enter Tryz.func22,Tryz.ntmps22
    go_wp2_with fail
    go_loopw [3] (fun i wr=>∃j:Nat,j≤y.ks.length∧i= .int .i64 j∧Hid (∀q (hq:q<y.ks.length),q<j→prA n y.ks[q]=false)∧Hid (Bx w cs 44 wr)) (fun i _=>y.ks.length - (intOf i).toNat)
    case atStart=>exact⟨0,Nat.zero_le _,rfl,fun q _ h=>absurd h (Nat.not_lt_zero _),XB0⟩
    case round=>
     clear k0 k13 k14
     obtain⟨j,hj,rfl,hno,hxb⟩:=hrel
     obtain⟨wo,rfl⟩:∃wo:World,wo=wr:=⟨_,rfl⟩
     have c14:=hxb.out.at (o:=14) Q14.out
     have HXB:=Lib.hid hxb.out
     have HB:=Lib.hid (HLW.out _ hxb.out)
     by_cases hlt:j<y.ks.length
     ·obtain⟨b,off,ca,rfl,hbl,hc,hr⟩:=(HS.out.below HB.out HB.out.size).2 j hlt
      rw[assnSh_k]at hc
      have HC0:Hid (∀i v,ca[i]? =some v→wo.cell? ((⟨b,off+j*15,none⟩:Addr).add i)=some v):=fun i v hv=>by
       rw[show(⟨b,off+j*15,none⟩:Addr).add i=⟨b,off+j*15+i,none⟩ by unfold Addr.add;split<;>simp_all]
       exact hc i v hv
      have HCL:=Lib.hid (((assnSh n).len hr).trans (assnSh_k _))
      have HO:=Lib.hid ((assnSh n).one hr)
      have hA:Below wo.heap.size wo wo:=Below.refl _ _
      have HC1:Hid (∀i v,ca[i]? =some v→(wo.alloc (.cells ca.toArray 44)).cell? ((⟨wo.heap.size,0,none⟩:Addr).add i)=some v):=box_part (o:=0) (fun i v h=>by rw[Nat.zero_add];exact h) (Below.refl _ _)
      have HXA:=Lib.hid (HXB.out.step hA)
      have F:=Lib.hid (HK.out y.ks[j] ca wo (List.getElem_mem hlt) (HLW.out _ HXA.out) (rel_low hr hA))
      have HT:Hid (prA n y.ks[j]=true→y.ks.any (prA n)=true):=Lib.hid fun h=>List.any_eq_true.2 ⟨_,List.getElem_mem hlt,h⟩
      have HN:Hid (prA n y.ks[j]=false→∀q (hq:q<y.ks.length),q<j+1→prA n y.ks[q]=false):=Lib.hid fun h q hq hlq=>by
       by_cases e:q=j
       ·subst e;exact h
       ·exact hno.out q hq (by omega)
      have hji:(j:Int)<(y.ks.length:Int):=by omega
      clear hc hr hxb hno hA
      generalize prA n y.ks[j]=z at F HT HN
      go_wp2_with (first | go_skip | (refine wpList_load_w (by kernel_rfl) 44 _ rfl ⟨b,off+j*15,none⟩ rfl ca _ HC0.out Tryz.underlying44 rfl (by rw[HCL.out];kernel_rfl) ?_))
      refine F.out.mono ?_
      rintro r w2 ⟨rfl,hb⟩
      have X2:=Lib.hid (HXA.out.step hb)
      clear hb F HC0 HC1 HO HCL c14
      cases z with
      | true=>
        have HY:=Lib.hid (HT.out rfl)
        go_wp2_with fail
        go_ret
        exact⟨by rw[HZ.out,HY.out];rfl,HLW.out _ X2.out⟩
      | false=>
        have HN2:=Lib.hid (HN.out rfl)
        clear HN HT
        go_wp2_with fail
        go_roundw
        case rel=>exact⟨j+1,by omega,by go_num,HN2,X2⟩
        case measure=>simp[intOf];omega
     ·obtain rfl:j=y.ks.length:=by omega
      have hji:¬(y.ks.length:Int)<(y.ks.length:Int):=by omega
      have HY:Hid (y.ks.any (prA n)=false):=Lib.hid (List.any_eq_false.2 fun x hx=>by
       obtain⟨q,hq,rfl⟩:=List.getElem_of_mem hx
       simpa using hno.out q hq hq)
      clear hxb hno
      go_wp2_with fail
      go_ret
      exact⟨by rw[HZ.out,HY.out];rfl,HB.out⟩
 ·have e2:(y.kind == 2)=false:=by simp[h2]
  by_cases h3:y.kind=3
  ·have e3:(y.kind == 3)=true:=by simp[h3]
   by_cases n1:y.n<1
   ·have HZ:Hid (prA (n+1) y=true):=Lib.hid (prA_bad (by simp[shrB,h3,n1]))
    go_enter Tryz.func22,Tryz.ntmps22
    go_wp2_with fail
    go_ret
    exact⟨by rw[HZ.out];rfl,HLW.out _ XB0.out⟩
   ·by_cases n2:64<y.n
    ·have HZ:Hid (prA (n+1) y=true):=Lib.hid (prA_bad (by simp[shrB,h3,n2]))
     go_enter Tryz.func22,Tryz.ntmps22
     go_wp2_with fail
     go_ret
     exact⟨by rw[HZ.out];rfl,HLW.out _ XB0.out⟩
    ·have HZ:Hid (prA (n+1) y=y.ks.any (prA n)):=Lib.hid (prA_ok (by simp[shrB,h3,n1,n2]))
     go_enter Tryz.func22,Tryz.ntmps22
     go_wp2_with fail
     go_loopw [3] (fun i wr=>∃j:Nat,j≤y.ks.length∧i= .int .i64 j∧Hid (∀q (hq:q<y.ks.length),q<j→prA n y.ks[q]=false)∧Hid (Bx w cs 44 wr)) (fun i _=>y.ks.length - (intOf i).toNat)
     case atStart=>exact⟨0,Nat.zero_le _,rfl,fun q _ h=>absurd h (Nat.not_lt_zero _),XB0⟩
     case round=>
      clear k0 k13 k14
      obtain⟨j,hj,rfl,hno,hxb⟩:=hrel
      obtain⟨wo,rfl⟩:∃wo:World,wo=wr:=⟨_,rfl⟩
      have c14:=hxb.out.at (o:=14) Q14.out
      have HXB:=Lib.hid hxb.out
      have HB:=Lib.hid (HLW.out _ hxb.out)
      by_cases hlt:j<y.ks.length
      ·obtain⟨b,off,ca,rfl,hbl,hc,hr⟩:=(HS.out.below HB.out HB.out.size).2 j hlt
       rw[assnSh_k]at hc
       have HC0:Hid (∀i v,ca[i]? =some v→wo.cell? ((⟨b,off+j*15,none⟩:Addr).add i)=some v):=fun i v hv=>by
        rw[show(⟨b,off+j*15,none⟩:Addr).add i=⟨b,off+j*15+i,none⟩ by unfold Addr.add;split<;>simp_all]
        exact hc i v hv
       have HCL:=Lib.hid (((assnSh n).len hr).trans (assnSh_k _))
       have HO:=Lib.hid ((assnSh n).one hr)
       have hA:Below wo.heap.size wo wo:=Below.refl _ _
       have HC1:Hid (∀i v,ca[i]? =some v→(wo.alloc (.cells ca.toArray 44)).cell? ((⟨wo.heap.size,0,none⟩:Addr).add i)=some v):=box_part (o:=0) (fun i v h=>by rw[Nat.zero_add];exact h) (Below.refl _ _)
       have HXA:=Lib.hid (HXB.out.step hA)
       have F:=Lib.hid (HK.out y.ks[j] ca wo (List.getElem_mem hlt) (HLW.out _ HXA.out) (rel_low hr hA))
       have HT:Hid (prA n y.ks[j]=true→y.ks.any (prA n)=true):=Lib.hid fun h=>List.any_eq_true.2 ⟨_,List.getElem_mem hlt,h⟩
       have HN:Hid (prA n y.ks[j]=false→∀q (hq:q<y.ks.length),q<j+1→prA n y.ks[q]=false):=Lib.hid fun h q hq hlq=>by
        by_cases e:q=j
        ·subst e;exact h
        ·exact hno.out q hq (by omega)
       have hji:(j:Int)<(y.ks.length:Int):=by omega
       clear hc hr hxb hno hA
       generalize prA n y.ks[j]=z at F HT HN
       go_wp2_with (first | go_skip | (refine wpList_load_w (by kernel_rfl) 44 _ rfl ⟨b,off+j*15,none⟩ rfl ca _ HC0.out Tryz.underlying44 rfl (by rw[HCL.out];kernel_rfl) ?_))
       refine F.out.mono ?_
       rintro r w2 ⟨rfl,hb⟩
       have X2:=Lib.hid (HXA.out.step hb)
       clear hb F HC0 HC1 HO HCL c14
       cases z with
       | true=>
         have HY:=Lib.hid (HT.out rfl)
         go_wp2_with fail
         go_ret
         exact⟨by rw[HZ.out,HY.out];rfl,HLW.out _ X2.out⟩
       | false=>
         have HN2:=Lib.hid (HN.out rfl)
         clear HN HT
         go_wp2_with fail
         go_roundw
         case rel=>exact⟨j+1,by omega,by go_num,HN2,X2⟩
         case measure=>simp[intOf];omega
      ·obtain rfl:j=y.ks.length:=by omega
       have hji:¬(y.ks.length:Int)<(y.ks.length:Int):=by omega
       have HY:Hid (y.ks.any (prA n)=false):=Lib.hid (List.any_eq_false.2 fun x hx=>by
        obtain⟨q,hq,rfl⟩:=List.getElem_of_mem hx
        simpa using hno.out q hq hq)
       clear hxb hno
       go_wp2_with fail
       go_ret
       exact⟨by rw[HZ.out,HY.out];rfl,HB.out⟩
  ·have e3:(y.kind == 3)=false:=by simp[h3]
   have HZ:Hid (prA (n+1) y=y.ks.any (prA n)):=Lib.hid (prA_ok (by simp[shrB,h2,h3]))
   go_enter Tryz.func22,Tryz.ntmps22
   go_wp2_with fail
   go_loopw [3] (fun i wr=>∃j:Nat,j≤y.ks.length∧i= .int .i64 j∧Hid (∀q (hq:q<y.ks.length),q<j→prA n y.ks[q]=false)∧Hid (Bx w cs 44 wr)) (fun i _=>y.ks.length - (intOf i).toNat)
   case atStart=>exact⟨0,Nat.zero_le _,rfl,fun q _ h=>absurd h (Nat.not_lt_zero _),XB0⟩
   case round=>
    clear k0 k13 k14
    obtain⟨j,hj,rfl,hno,hxb⟩:=hrel
    obtain⟨wo,rfl⟩:∃wo:World,wo=wr:=⟨_,rfl⟩
    have c14:=hxb.out.at (o:=14) Q14.out
    have HXB:=Lib.hid hxb.out
    have HB:=Lib.hid (HLW.out _ hxb.out)
    by_cases hlt:j<y.ks.length
    ·obtain⟨b,off,ca,rfl,hbl,hc,hr⟩:=(HS.out.below HB.out HB.out.size).2 j hlt
     rw[assnSh_k]at hc
     have HC0:Hid (∀i v,ca[i]? =some v→wo.cell? ((⟨b,off+j*15,none⟩:Addr).add i)=some v):=fun i v hv=>by
      rw[show(⟨b,off+j*15,none⟩:Addr).add i=⟨b,off+j*15+i,none⟩ by unfold Addr.add;split<;>simp_all]
      exact hc i v hv
     have HCL:=Lib.hid (((assnSh n).len hr).trans (assnSh_k _))
     have HO:=Lib.hid ((assnSh n).one hr)
     have hA:Below wo.heap.size wo wo:=Below.refl _ _
     have HC1:Hid (∀i v,ca[i]? =some v→(wo.alloc (.cells ca.toArray 44)).cell? ((⟨wo.heap.size,0,none⟩:Addr).add i)=some v):=box_part (o:=0) (fun i v h=>by rw[Nat.zero_add];exact h) (Below.refl _ _)
     have HXA:=Lib.hid (HXB.out.step hA)
     have F:=Lib.hid (HK.out y.ks[j] ca wo (List.getElem_mem hlt) (HLW.out _ HXA.out) (rel_low hr hA))
     have HT:Hid (prA n y.ks[j]=true→y.ks.any (prA n)=true):=Lib.hid fun h=>List.any_eq_true.2 ⟨_,List.getElem_mem hlt,h⟩
     have HN:Hid (prA n y.ks[j]=false→∀q (hq:q<y.ks.length),q<j+1→prA n y.ks[q]=false):=Lib.hid fun h q hq hlq=>by
      by_cases e:q=j
      ·subst e;exact h
      ·exact hno.out q hq (by omega)
     have hji:(j:Int)<(y.ks.length:Int):=by omega
     clear hc hr hxb hno hA
     generalize prA n y.ks[j]=z at F HT HN
     go_wp2_with (first | go_skip | (refine wpList_load_w (by kernel_rfl) 44 _ rfl ⟨b,off+j*15,none⟩ rfl ca _ HC0.out Tryz.underlying44 rfl (by rw[HCL.out];kernel_rfl) ?_))
     refine F.out.mono ?_
     rintro r w2 ⟨rfl,hb⟩
     have X2:=Lib.hid (HXA.out.step hb)
     clear hb F HC0 HC1 HO HCL c14
     cases z with
     | true=>
       have HY:=Lib.hid (HT.out rfl)
       go_wp2_with fail
       go_ret
       exact⟨by rw[HZ.out,HY.out];rfl,HLW.out _ X2.out⟩
     | false=>
       have HN2:=Lib.hid (HN.out rfl)
       clear HN HT
       go_wp2_with fail
       go_roundw
       case rel=>exact⟨j+1,by omega,by go_num,HN2,X2⟩
       case measure=>simp[intOf];omega
    ·obtain rfl:j=y.ks.length:=by omega
     have hji:¬(y.ks.length:Int)<(y.ks.length:Int):=by omega
     have HY:Hid (y.ks.any (prA n)=false):=Lib.hid (List.any_eq_false.2 fun x hx=>by
      obtain⟨q,hq,rfl⟩:=List.getElem_of_mem hx
      simpa using hno.out q hq hq)
     clear hxb hno
     go_wp2_with fail
     go_ret
     exact⟨by rw[HZ.out,HY.out];rfl,HB.out⟩
theorem part16_any:∀(n:Nat) (y:AT) (cs:List Value) (w:World),(assnSh n).rel (Pak.Lo w.heap.size) w cs y→Calls Tryz.prog 22 #[.agg cs.toArray] w (SoundEnd (prA n y) w)
 | 0,_,_,_,h=>h.elim
 | n+1,y,cs,w,h=>by
   have IH:=part16_any n
   obtain⟨k,a1,c1,a2,c2,a3,c3,a4,c4,a5,c5,hnk,rfl,_,_,_,_,hs⟩:=assn_form h
   rw[←hnk]at hs
   exact part16_box n y _ a5 c5 w rfl rfl rfl rfl hs (fun x ca W _ _ hr=>IH x ca W hr)
theorem shares16_box (n:Nat)(y:AT)(cs:List Value)(u:Option Addr)(c:Nat)(w:World)(hl:cs.length=15)(q0:cs[0]? =some (.int .i64 y.kind))(q13:cs[13]? =some (.int .i64 y.n))(q14:cs[14]? =some (.slice u y.ks.length c))(hks:Pak.Sits (assnSh n) (Pak.Lo w.heap.size) w u y.ks)
 (hk:∀(x:AT) (ca:List Value) (W:World),x∈y.ks→Below w.heap.size w W→(assnSh n).rel (Pak.Lo W.heap.size) W ca x→Calls Tryz.prog 43 #[.agg ca.toArray] W (SoundEnd (!(prA n x)) W)):
 Calls Tryz.prog 43 #[.agg cs.toArray] w (SoundEnd (!(prA (n+1) y)) w):=by
 have XB0:Hid (Bx w cs 44 (w.alloc (.cells cs.toArray 44))):=Lib.hid (Bx.start _ _ _)
 have HLW:Hid (∀W,Bx w cs 44 W→Below w.heap.size w W):=Lib.hid fun W hW=>hW.low (Below.refl _ _)
 have HK:=Lib.hid hk
 have HS:=Lib.hid hks
 have Q14:=Lib.hid q14
 have hmm:y.ks.length≤9223372036854775807:=hks.1
 have k0:=XB0.out.at (o:=0) q0
 have k13:=XB0.out.at (o:=13) q13
 have k14:=XB0.out.at (o:=14) q14
 clear hk hks q0 q13 q14 hl
 by_cases h2:y.kind=2
 ·have e2:(y.kind == 2)=true:=by simp[h2]
  by_cases n1:y.n<1
  ·have HZ:Hid (prA (n+1) y=true):=Lib.hid (prA_bad (by simp[shrB,h2,n1]))
   go_enter Tryz.func43,Tryz.ntmps43
   go_wp2_with fail
   go_ret
   exact⟨by rw[HZ.out];rfl,HLW.out _ XB0.out⟩
  ·by_cases n2:64<y.n
   ·have HZ:Hid (prA (n+1) y=true):=Lib.hid (prA_bad (by simp[shrB,h2,n2]))
    go_enter Tryz.func43,Tryz.ntmps43
    go_wp2_with fail
    go_ret
    exact⟨by rw[HZ.out];rfl,HLW.out _ XB0.out⟩
   ·have HZ:Hid (prA (n+1) y=y.ks.any (prA n)):=Lib.hid (prA_ok (by simp[shrB,h2,n1,n2]))
    go_enter Tryz.func43,Tryz.ntmps43
    go_wp2_with fail
    go_loopw [26] (fun i wr=>∃j:Nat,j≤y.ks.length∧i= .int .i64 j∧Hid (∀q (hq:q<y.ks.length),q<j→prA n y.ks[q]=false)∧Hid (Bx w cs 44 wr)) (fun i _=>y.ks.length - (intOf i).toNat)
    case atStart=>exact⟨0,Nat.zero_le _,rfl,fun q _ h=>absurd h (Nat.not_lt_zero _),XB0⟩
    case round=>
     clear k0 k13 k14
     obtain⟨j,hj,rfl,hno,hxb⟩:=hrel
     obtain⟨wo,rfl⟩:∃wo:World,wo=wr:=⟨_,rfl⟩
     have c14:=hxb.out.at (o:=14) Q14.out
     have HXB:=Lib.hid hxb.out
     have HB:=Lib.hid (HLW.out _ hxb.out)
     by_cases hlt:j<y.ks.length
     ·obtain⟨b,off,ca,rfl,hbl,hc,hr⟩:=(HS.out.below HB.out HB.out.size).2 j hlt
      rw[assnSh_k]at hc
      have HC0:Hid (∀i v,ca[i]? =some v→wo.cell? ((⟨b,off+j*15,none⟩:Addr).add i)=some v):=fun i v hv=>by
       rw[show(⟨b,off+j*15,none⟩:Addr).add i=⟨b,off+j*15+i,none⟩ by unfold Addr.add;split<;>simp_all]
       exact hc i v hv
      have HCL:=Lib.hid (((assnSh n).len hr).trans (assnSh_k _))
      have HO:=Lib.hid ((assnSh n).one hr)
      have hA:Below wo.heap.size wo (wo.alloc (.cells ca.toArray 44)):=box_low
      have HC1:Hid (∀i v,ca[i]? =some v→(wo.alloc (.cells ca.toArray 44)).cell? ((⟨wo.heap.size,0,none⟩:Addr).add i)=some v):=box_part (o:=0) (fun i v h=>by rw[Nat.zero_add];exact h) (Below.refl _ _)
      have HXA:=Lib.hid (HXB.out.step hA)
      have F:=Lib.hid (HK.out y.ks[j] ca (wo.alloc (.cells ca.toArray 44)) (List.getElem_mem hlt) (HLW.out _ HXA.out) (rel_low hr hA))
      have HT:Hid (prA n y.ks[j]=true→y.ks.any (prA n)=true):=Lib.hid fun h=>List.any_eq_true.2 ⟨_,List.getElem_mem hlt,h⟩
      have HN:Hid (prA n y.ks[j]=false→∀q (hq:q<y.ks.length),q<j+1→prA n y.ks[q]=false):=Lib.hid fun h q hq hlq=>by
       by_cases e:q=j
       ·subst e;exact h
       ·exact hno.out q hq (by omega)
      have hji:(j:Int)<(y.ks.length:Int):=by omega
      clear hc hr hxb hno hA
      generalize prA n y.ks[j]=z at F HT HN
      go_wp2_with (first | (refine wpList_store_new (by kernel_rfl) 44 _ _ rfl _ rfl ca rfl (by rw[HCL.out];kernel_rfl) (by rw[HCL.out];rfl) HO.out ?_) | (refine wpList_load_w (by kernel_rfl) 44 _ rfl ⟨b,off+j*15,none⟩ rfl ca _ HC0.out Tryz.underlying44 rfl (by rw[HCL.out];kernel_rfl) ?_) | (refine wpList_load_w (by kernel_rfl) 44 _ rfl ⟨wo.heap.size,0,none⟩ rfl ca _ HC1.out Tryz.underlying44 rfl (by rw[HCL.out];kernel_rfl) ?_))
      refine F.out.mono ?_
      rintro r w2 ⟨rfl,hb⟩
      have X2:=Lib.hid (HXA.out.step hb)
      clear hb F HC0 HC1 HO HCL c14
      cases z with
      | true=>
        have HY:=Lib.hid (HT.out rfl)
        go_wp2_with fail
        go_ret
        exact⟨by rw[HZ.out,HY.out];rfl,HLW.out _ X2.out⟩
      | false=>
        have HN2:=Lib.hid (HN.out rfl)
        clear HN HT
        go_wp2_with fail
        go_roundw
        case rel=>exact⟨j+1,by omega,by go_num,HN2,X2⟩
        case measure=>simp[intOf];omega
     ·obtain rfl:j=y.ks.length:=by omega
      have hji:¬(y.ks.length:Int)<(y.ks.length:Int):=by omega
      have HY:Hid (y.ks.any (prA n)=false):=Lib.hid (List.any_eq_false.2 fun x hx=>by
       obtain⟨q,hq,rfl⟩:=List.getElem_of_mem hx
       simpa using hno.out q hq hq)
      clear hxb hno
      go_wp2_with fail
      go_ret
      exact⟨by rw[HZ.out,HY.out];rfl,HB.out⟩
 ·have e2:(y.kind == 2)=false:=by simp[h2]
  by_cases h3:y.kind=3
  ·have e3:(y.kind == 3)=true:=by simp[h3]
   by_cases n1:y.n<1
   ·have HZ:Hid (prA (n+1) y=true):=Lib.hid (prA_bad (by simp[shrB,h3,n1]))
    go_enter Tryz.func43,Tryz.ntmps43
    go_wp2_with fail
    go_ret
    exact⟨by rw[HZ.out];rfl,HLW.out _ XB0.out⟩
   ·by_cases n2:64<y.n
    ·have HZ:Hid (prA (n+1) y=true):=Lib.hid (prA_bad (by simp[shrB,h3,n2]))
     go_enter Tryz.func43,Tryz.ntmps43
     go_wp2_with fail
     go_ret
     exact⟨by rw[HZ.out];rfl,HLW.out _ XB0.out⟩
    ·have HZ:Hid (prA (n+1) y=y.ks.any (prA n)):=Lib.hid (prA_ok (by simp[shrB,h3,n1,n2]))
     go_enter Tryz.func43,Tryz.ntmps43
     go_wp2_with fail
     go_loopw [26] (fun i wr=>∃j:Nat,j≤y.ks.length∧i= .int .i64 j∧Hid (∀q (hq:q<y.ks.length),q<j→prA n y.ks[q]=false)∧Hid (Bx w cs 44 wr)) (fun i _=>y.ks.length - (intOf i).toNat)
     case atStart=>exact⟨0,Nat.zero_le _,rfl,fun q _ h=>absurd h (Nat.not_lt_zero _),XB0⟩
     case round=>
      clear k0 k13 k14
      obtain⟨j,hj,rfl,hno,hxb⟩:=hrel
      obtain⟨wo,rfl⟩:∃wo:World,wo=wr:=⟨_,rfl⟩
      have c14:=hxb.out.at (o:=14) Q14.out
      have HXB:=Lib.hid hxb.out
      have HB:=Lib.hid (HLW.out _ hxb.out)
      by_cases hlt:j<y.ks.length
      ·obtain⟨b,off,ca,rfl,hbl,hc,hr⟩:=(HS.out.below HB.out HB.out.size).2 j hlt
       rw[assnSh_k]at hc
       have HC0:Hid (∀i v,ca[i]? =some v→wo.cell? ((⟨b,off+j*15,none⟩:Addr).add i)=some v):=fun i v hv=>by
        rw[show(⟨b,off+j*15,none⟩:Addr).add i=⟨b,off+j*15+i,none⟩ by unfold Addr.add;split<;>simp_all]
        exact hc i v hv
       have HCL:=Lib.hid (((assnSh n).len hr).trans (assnSh_k _))
       have HO:=Lib.hid ((assnSh n).one hr)
       have hA:Below wo.heap.size wo (wo.alloc (.cells ca.toArray 44)):=box_low
       have HC1:Hid (∀i v,ca[i]? =some v→(wo.alloc (.cells ca.toArray 44)).cell? ((⟨wo.heap.size,0,none⟩:Addr).add i)=some v):=box_part (o:=0) (fun i v h=>by rw[Nat.zero_add];exact h) (Below.refl _ _)
       have HXA:=Lib.hid (HXB.out.step hA)
       have F:=Lib.hid (HK.out y.ks[j] ca (wo.alloc (.cells ca.toArray 44)) (List.getElem_mem hlt) (HLW.out _ HXA.out) (rel_low hr hA))
       have HT:Hid (prA n y.ks[j]=true→y.ks.any (prA n)=true):=Lib.hid fun h=>List.any_eq_true.2 ⟨_,List.getElem_mem hlt,h⟩
       have HN:Hid (prA n y.ks[j]=false→∀q (hq:q<y.ks.length),q<j+1→prA n y.ks[q]=false):=Lib.hid fun h q hq hlq=>by
        by_cases e:q=j
        ·subst e;exact h
        ·exact hno.out q hq (by omega)
       have hji:(j:Int)<(y.ks.length:Int):=by omega
       clear hc hr hxb hno hA
       generalize prA n y.ks[j]=z at F HT HN
       go_wp2_with (first | (refine wpList_store_new (by kernel_rfl) 44 _ _ rfl _ rfl ca rfl (by rw[HCL.out];kernel_rfl) (by rw[HCL.out];rfl) HO.out ?_) | (refine wpList_load_w (by kernel_rfl) 44 _ rfl ⟨b,off+j*15,none⟩ rfl ca _ HC0.out Tryz.underlying44 rfl (by rw[HCL.out];kernel_rfl) ?_) | (refine wpList_load_w (by kernel_rfl) 44 _ rfl ⟨wo.heap.size,0,none⟩ rfl ca _ HC1.out Tryz.underlying44 rfl (by rw[HCL.out];kernel_rfl) ?_))
       refine F.out.mono ?_
       rintro r w2 ⟨rfl,hb⟩
       have X2:=Lib.hid (HXA.out.step hb)
       clear hb F HC0 HC1 HO HCL c14
       cases z with
       | true=>
         have HY:=Lib.hid (HT.out rfl)
         go_wp2_with fail
         go_ret
         exact⟨by rw[HZ.out,HY.out];rfl,HLW.out _ X2.out⟩
       | false=>
         have HN2:=Lib.hid (HN.out rfl)
         clear HN HT
         go_wp2_with fail
         go_roundw
         case rel=>exact⟨j+1,by omega,by go_num,HN2,X2⟩
         case measure=>simp[intOf];omega
      ·obtain rfl:j=y.ks.length:=by omega
       have hji:¬(y.ks.length:Int)<(y.ks.length:Int):=by omega
       have HY:Hid (y.ks.any (prA n)=false):=Lib.hid (List.any_eq_false.2 fun x hx=>by
        obtain⟨q,hq,rfl⟩:=List.getElem_of_mem hx
        simpa using hno.out q hq hq)
       clear hxb hno
       go_wp2_with fail
       go_ret
       exact⟨by rw[HZ.out,HY.out];rfl,HB.out⟩
  ·have e3:(y.kind == 3)=false:=by simp[h3]
   have HZ:Hid (prA (n+1) y=y.ks.any (prA n)):=Lib.hid (prA_ok (by simp[shrB,h2,h3]))
   go_enter Tryz.func43,Tryz.ntmps43
   go_wp2_with fail
   go_loopw [26] (fun i wr=>∃j:Nat,j≤y.ks.length∧i= .int .i64 j∧Hid (∀q (hq:q<y.ks.length),q<j→prA n y.ks[q]=false)∧Hid (Bx w cs 44 wr)) (fun i _=>y.ks.length - (intOf i).toNat)
   case atStart=>exact⟨0,Nat.zero_le _,rfl,fun q _ h=>absurd h (Nat.not_lt_zero _),XB0⟩
   case round=>
    clear k0 k13 k14
    obtain⟨j,hj,rfl,hno,hxb⟩:=hrel
    obtain⟨wo,rfl⟩:∃wo:World,wo=wr:=⟨_,rfl⟩
    have c14:=hxb.out.at (o:=14) Q14.out
    have HXB:=Lib.hid hxb.out
    have HB:=Lib.hid (HLW.out _ hxb.out)
    by_cases hlt:j<y.ks.length
    ·obtain⟨b,off,ca,rfl,hbl,hc,hr⟩:=(HS.out.below HB.out HB.out.size).2 j hlt
     rw[assnSh_k]at hc
     have HC0:Hid (∀i v,ca[i]? =some v→wo.cell? ((⟨b,off+j*15,none⟩:Addr).add i)=some v):=fun i v hv=>by
      rw[show(⟨b,off+j*15,none⟩:Addr).add i=⟨b,off+j*15+i,none⟩ by unfold Addr.add;split<;>simp_all]
      exact hc i v hv
     have HCL:=Lib.hid (((assnSh n).len hr).trans (assnSh_k _))
     have HO:=Lib.hid ((assnSh n).one hr)
     have hA:Below wo.heap.size wo (wo.alloc (.cells ca.toArray 44)):=box_low
     have HC1:Hid (∀i v,ca[i]? =some v→(wo.alloc (.cells ca.toArray 44)).cell? ((⟨wo.heap.size,0,none⟩:Addr).add i)=some v):=box_part (o:=0) (fun i v h=>by rw[Nat.zero_add];exact h) (Below.refl _ _)
     have HXA:=Lib.hid (HXB.out.step hA)
     have F:=Lib.hid (HK.out y.ks[j] ca (wo.alloc (.cells ca.toArray 44)) (List.getElem_mem hlt) (HLW.out _ HXA.out) (rel_low hr hA))
     have HT:Hid (prA n y.ks[j]=true→y.ks.any (prA n)=true):=Lib.hid fun h=>List.any_eq_true.2 ⟨_,List.getElem_mem hlt,h⟩
     have HN:Hid (prA n y.ks[j]=false→∀q (hq:q<y.ks.length),q<j+1→prA n y.ks[q]=false):=Lib.hid fun h q hq hlq=>by
      by_cases e:q=j
      ·subst e;exact h
      ·exact hno.out q hq (by omega)
     have hji:(j:Int)<(y.ks.length:Int):=by omega
     clear hc hr hxb hno hA
     generalize prA n y.ks[j]=z at F HT HN
     go_wp2_with (first | (refine wpList_store_new (by kernel_rfl) 44 _ _ rfl _ rfl ca rfl (by rw[HCL.out];kernel_rfl) (by rw[HCL.out];rfl) HO.out ?_) | (refine wpList_load_w (by kernel_rfl) 44 _ rfl ⟨b,off+j*15,none⟩ rfl ca _ HC0.out Tryz.underlying44 rfl (by rw[HCL.out];kernel_rfl) ?_) | (refine wpList_load_w (by kernel_rfl) 44 _ rfl ⟨wo.heap.size,0,none⟩ rfl ca _ HC1.out Tryz.underlying44 rfl (by rw[HCL.out];kernel_rfl) ?_))
     refine F.out.mono ?_
     rintro r w2 ⟨rfl,hb⟩
     have X2:=Lib.hid (HXA.out.step hb)
     clear hb F HC0 HC1 HO HCL c14
     cases z with
     | true=>
       have HY:=Lib.hid (HT.out rfl)
       go_wp2_with fail
       go_ret
       exact⟨by rw[HZ.out,HY.out];rfl,HLW.out _ X2.out⟩
     | false=>
       have HN2:=Lib.hid (HN.out rfl)
       clear HN HT
       go_wp2_with fail
       go_roundw
       case rel=>exact⟨j+1,by omega,by go_num,HN2,X2⟩
       case measure=>simp[intOf];omega
    ·obtain rfl:j=y.ks.length:=by omega
     have hji:¬(y.ks.length:Int)<(y.ks.length:Int):=by omega
     have HY:Hid (y.ks.any (prA n)=false):=Lib.hid (List.any_eq_false.2 fun x hx=>by
      obtain⟨q,hq,rfl⟩:=List.getElem_of_mem hx
      simpa using hno.out q hq hq)
     clear hxb hno
     go_wp2_with fail
     go_ret
     exact⟨by rw[HZ.out,HY.out];rfl,HB.out⟩
theorem shares16_any:∀(n:Nat) (y:AT) (cs:List Value) (w:World),(assnSh n).rel (Pak.Lo w.heap.size) w cs y→Calls Tryz.prog 43 #[.agg cs.toArray] w (SoundEnd (!(prA n y)) w)
 | 0,_,_,_,h=>h.elim
 | n+1,y,cs,w,h=>by
   have IH:=shares16_any n
   obtain⟨k,a1,c1,a2,c2,a3,c3,a4,c4,a5,c5,hnk,rfl,_,_,_,_,hs⟩:=assn_form h
   rw[←hnk]at hs
   exact shares16_box n y _ a5 c5 w rfl rfl rfl rfl hs (fun x ca W _ _ hr=>IH x ca W hr)
end
section
open Go.RowKit
def evT (p:Nat→ST→Bool):Nat→ST→Bool
 | 0,_=>true
 | n+1,s=>p (n+1) s && s.body.all (evT p n) && s.els.all (evT p n)
def evs (p:Nat→ST→Bool)(n:Nat)(l:List ST):Bool:=l.all (evT p n)
theorem every_box0 (n g:Nat)(p:ST→Bool)(q:ST→Bool)(a:Option Addr)(m cap:Nat)(xs:List ST)(w:World)(eg:∀args w,(callFunc g args).run Tryz.prog w= .ok (.enter g args) w)(hm:xs.length=m)(hs:Pak.Sits (stmtSh (n+1)) (Pak.Lo w.heap.size) w a xs)
 (hf:∀cs x W,x∈xs→Below w.heap.size w W→(stmtSh (n+1)).rel (Pak.Lo W.heap.size) W cs x→Calls Tryz.prog g #[.agg cs.toArray] W (SoundEnd (p x) W))
 (hk:∀(x:ST) (t:List ST) (u:Option Addr) (c:Nat) (W:World),x∈xs→t=x.body∨t=x.els→Below w.heap.size w W→Pak.Sits (stmtSh n) (Pak.Lo W.heap.size) W u t→Calls Tryz.prog 40 #[.slice u t.length c,.func (.func g) #[] #[]] W (SoundEnd (t.all q) W)):
 Calls Tryz.prog 40 #[.slice a m cap,.func (.func g) #[] #[]] w (SoundEnd (xs.all (fun x=>p x && x.body.all q && x.els.all q)) w):=by
 have HS:=Lib.hid hs
 have HF:=Lib.hid hf
 have HK:=Lib.hid hk
 have HM:=Lib.hid hm
 have hmm:m≤9223372036854775807:=by rw[←hm];exact hs.1
 have HHIT:Hid (∀j,(h:j<xs.length)→(p xs[j] && xs[j].body.all q && xs[j].els.all q)=false→xs.all (fun x=>p x && x.body.all q && x.els.all q)=false):=fun j h e=>all_hit h e
 have HMISS:Hid ((∀j,(h:j<xs.length)→(p xs[j] && xs[j].body.all q && xs[j].els.all q)=true)→xs.all (fun x=>p x && x.body.all q && x.els.all q)=true):=fun h=>all_miss h
 clear hs hf hm hk
 generalize xs.all (fun x=>p x && x.body.all q && x.els.all q)=r at HHIT HMISS
 go_enter Tryz.func40,Tryz.ntmps40
 go_wp2_with fail
 go_loopw [9] (fun i wr=>∃j:Nat,j≤m∧i= .int .i64 j∧Hid (∀t,(h:t<xs.length)→t<j→(p xs[t] && xs[t].body.all q && xs[t].els.all q)=true)∧Hid (Below w.heap.size w wr)) (fun i _=>m - (intOf i).toNat)
 case atStart=>exact⟨0,Nat.zero_le _,rfl,fun q _ h=>absurd h (Nat.not_lt_zero _),Below.refl _ _⟩
 case round=>
  obtain⟨j,hj,rfl,hno,hb⟩:=hrel
  obtain⟨wo,rfl⟩:∃wo:World,wo=wr:=⟨_,rfl⟩
  by_cases hlt:j<m
  ·have hlx:j<xs.length:=by rw[HM.out];exact hlt
   have hji:(j:Int)<(m:Int):=by omega
   obtain⟨b,off,cs,rfl,hbl,hc,hr⟩:=(HS.out.below hb.out hb.out.size).2 j hlx
   have hlen:=(stmtSh (n+1)).len hr
   have hone:=(stmtSh (n+1)).one hr
   rw[stmtSh_k]at hlen hc
   have HC0:Hid (∀i v,cs[i]? =some v→wo.cell? ((⟨b,off+j*35,none⟩:Addr).add i)=some v):=fun i v hv=>by
    rw[show(⟨b,off+j*35,none⟩:Addr).add i=⟨b,off+j*35+i,none⟩ by unfold Addr.add;split<;>simp_all]
    exact hc i v hv
   obtain⟨ce,cv,cc,ca,u1,y2,y3',u4,u5,c1,c2,c3,c4,c5,H⟩:=stmt_is hr
   have X0:=Lib.hid (Bx.start wo cs 47)
   have HLW:Hid (∀W,Bx wo cs 47 W→Below w.heap.size w W):=Lib.hid fun W hW=>hW.low hb.out
   have HC:=Lib.hid (HF.out _ xs[j] _ (List.getElem_mem hlx) (HLW.out _ X0.out) (rel_low hr box_low))
   have HX:Hid (∀i v,cs[i]? =some v→(wo.alloc (.cells cs.toArray 47)).cell? ((⟨wo.heap.size,0,none⟩:Addr).add i)=some v):=box_part (o:=0) (fun i v h=>by rw[Nat.zero_add];exact h) (Below.refl _ _)
   have HL:=Lib.hid hlen
   have HO:=Lib.hid hone
   have HWB:Hid (∀W,Bx wo cs 47 W→Below wo.heap.size wo W):=Lib.hid fun W hW=>hW.low (Below.refl _ _)
   have F1:=Lib.hid (fun W (hW:Bx wo cs 47 W)=>HK.out xs[j] xs[j].body u4 c4 W (List.getElem_mem hlx) (.inl rfl) (HLW.out W hW) (H.rbody.below (HWB.out W hW) (HWB.out W hW).size))
   have F2:=Lib.hid (fun W (hW:Bx wo cs 47 W)=>HK.out xs[j] xs[j].els u5 c5 W (List.getElem_mem hlx) (.inr rfl) (HLW.out W hW) (H.rels.below (HWB.out W hW) (HWB.out W hW).size))
   have Q33:=Lib.hid H.body
   have Q34:=Lib.hid H.els
   have HH:=Lib.hid (HHIT.out j hlx)
   have HN:Hid ((p xs[j] && xs[j].body.all q && xs[j].els.all q)=true→∀t,(h:t<xs.length)→t<j+1→(p xs[t] && xs[t].body.all q && xs[t].els.all q)=true):=fun h t ht hlq=>by
    by_cases e:t=j
    ·subst e;exact h
    ·exact hno.out t ht (by omega)
   clear hc hr hlen hone H hno hb
   generalize p xs[j]=z0 at HC HH HN
   generalize xs[j].body.all q=z1 at F1 HH HN
   generalize xs[j].els.all q=z2 at F2 HH HN
   generalize xs[j].body.length=L1 at*
   generalize xs[j].els.length=L2 at*
   go_wp2_with (first | go_skip | (refine wpList_store_new (by kernel_rfl) 47 _ _ rfl _ rfl cs rfl (by rw[HL.out];kernel_rfl) (by rw[HL.out];rfl) HO.out ?_) | (refine wpList_load_w (by kernel_rfl) 47 _ rfl ⟨b,off+j*35,none⟩ rfl cs _ HC0.out Tryz.underlying47 rfl (by rw[HL.out];kernel_rfl) ?_) | (refine wpList_load_w (by kernel_rfl) 47 _ rfl ⟨wo.heap.size,0,none⟩ rfl cs _ HX.out Tryz.underlying47 rfl (by rw[HL.out];kernel_rfl) ?_))
   refine HC.out.mono ?_
   rintro e w2 ⟨rfl,hb2⟩
   have X2:=Lib.hid (X0.out.step hb2)
   clear hb2 HC HC0 HX X0
   cases z0 with
   | false=>
     obtain rfl:=HH.out rfl
     clear HH HN
     go_wp2_with fail
     go_ret
     exact⟨rfl,HLW.out _ X2.out⟩
   | true=>
   have G1:=Lib.hid (F1.out _ X2.out)
   have k33:=X2.out.at (o:=33) Q33.out
   clear F1
   go_wp2_with fail
   refine G1.out.mono ?_
   rintro e w3 ⟨rfl,hb2⟩
   have X3:=Lib.hid (X2.out.step hb2)
   clear hb2 G1 k33
   cases z1 with
   | false=>
     obtain rfl:=HH.out rfl
     clear HH HN
     go_wp2_with fail
     go_ret
     exact⟨rfl,HLW.out _ X3.out⟩
   | true=>
   have G2:=Lib.hid (F2.out _ X3.out)
   have k34:=X3.out.at (o:=34) Q34.out
   clear F2
   go_wp2_with fail
   refine G2.out.mono ?_
   rintro e w4 ⟨rfl,hb2⟩
   have X4:=Lib.hid (X3.out.step hb2)
   clear hb2 G2 k34
   cases z2 with
   | false=>
     obtain rfl:=HH.out rfl
     clear HH HN
     go_wp2_with fail
     go_ret
     exact⟨rfl,HLW.out _ X4.out⟩
   | true=>
   have HN2:=Lib.hid (HN.out rfl)
   have HB4:=Lib.hid (HLW.out _ X4.out)
   clear HH HN
   go_wp2_with fail
   go_roundw
   case rel=>exact⟨j+1,by omega,by go_num,HN2,HB4⟩
   case measure=>simp[intOf];omega
  ·obtain rfl:j=m:=by omega
   have hji:¬(j:Int)<(j:Int):=by omega
   obtain rfl:=HMISS.out (fun q hq=>hno.out q hq (by rw[HM.out]at hq;exact hq))
   go_wp2_with fail
   go_ret
   exact⟨rfl,hb.out⟩
theorem every_any0 (g:Nat)(p:Nat→ST→Bool)(eg:∀args w,(callFunc g args).run Tryz.prog w= .ok (.enter g args) w):∀(n:Nat) (l:List ST) (a:Option Addr) (cap:Nat) (w:World),
 (∀k s cs W,Below w.heap.size w W→(stmtSh k).rel (Pak.Lo W.heap.size) W cs s→Calls Tryz.prog g #[.agg cs.toArray] W (SoundEnd (p k s) W))→Pak.Sits (stmtSh n) (Pak.Lo w.heap.size) w a l→BoolAll 40 #[.slice a l.length cap,.func (.func g) #[] #[]] (evs p n l) w
 | 0,l,a,cap,w,hp,hs=>fun W hW=>by
   have he:l=[]:=by
    cases l with
    | nil=>rfl
    | cons x xs=>
      obtain⟨_,_,_,_,_,_,hr⟩:=hs.2 0 (by simp)
      exact hr.elim
   subst he
   have h:=every_box0 0 g (fun _=>true) (fun _=>true) a 0 cap [] W eg rfl (Pak.Sits.nil _ _ _ _) (fun cs x W hx=>absurd hx (by simp)) (fun x t u c W hx=>absurd hx (by simp))
   simpa [evs,evT]using h
 | n+1,l,a,cap,w,hp,hs=>fun W hW=>
   every_box0 n g (p (n+1)) (evT p n) a l.length cap l W eg rfl (hs.below hW hW.size) (fun cs x V hx hV hr=>hp (n+1) x cs V (hW.trans (hV.mono hW.size)) hr) fun x t u c V hx ht hV hst=>every_any0 g p eg n t u c V (fun k s cs Y hY hr=>hp k s cs Y ((hW.trans (hV.mono hW.size)).trans (hY.mono (Nat.le_trans hW.size hV.size))) hr) hst V (Below.refl _ _)
theorem every_box1 (n g:Nat)(y1:Value)(p:ST→Bool)(q:ST→Bool)(a:Option Addr)(m cap:Nat)(xs:List ST)(w:World)(eg:∀args w,(callFunc g args).run Tryz.prog w= .ok (.enter g args) w)(hm:xs.length=m)(hs:Pak.Sits (stmtSh (n+1)) (Pak.Lo w.heap.size) w a xs)
 (hf:∀cs x W,x∈xs→Below w.heap.size w W→(stmtSh (n+1)).rel (Pak.Lo W.heap.size) W cs x→Calls Tryz.prog g #[.agg cs.toArray,y1] W (SoundEnd (p x) W))
 (hk:∀(x:ST) (t:List ST) (u:Option Addr) (c:Nat) (W:World),x∈xs→t=x.body∨t=x.els→Below w.heap.size w W→Pak.Sits (stmtSh n) (Pak.Lo W.heap.size) W u t→Calls Tryz.prog 40 #[.slice u t.length c,.func (.func g) #[] #[y1]] W (SoundEnd (t.all q) W)):
 Calls Tryz.prog 40 #[.slice a m cap,.func (.func g) #[] #[y1]] w (SoundEnd (xs.all (fun x=>p x && x.body.all q && x.els.all q)) w):=by
 have HS:=Lib.hid hs
 have HF:=Lib.hid hf
 have HK:=Lib.hid hk
 have HM:=Lib.hid hm
 have hmm:m≤9223372036854775807:=by rw[←hm];exact hs.1
 have HHIT:Hid (∀j,(h:j<xs.length)→(p xs[j] && xs[j].body.all q && xs[j].els.all q)=false→xs.all (fun x=>p x && x.body.all q && x.els.all q)=false):=fun j h e=>all_hit h e
 have HMISS:Hid ((∀j,(h:j<xs.length)→(p xs[j] && xs[j].body.all q && xs[j].els.all q)=true)→xs.all (fun x=>p x && x.body.all q && x.els.all q)=true):=fun h=>all_miss h
 clear hs hf hm hk
 generalize xs.all (fun x=>p x && x.body.all q && x.els.all q)=r at HHIT HMISS
 go_enter Tryz.func40,Tryz.ntmps40
 go_wp2_with fail
 go_loopw [9] (fun i wr=>∃j:Nat,j≤m∧i= .int .i64 j∧Hid (∀t,(h:t<xs.length)→t<j→(p xs[t] && xs[t].body.all q && xs[t].els.all q)=true)∧Hid (Below w.heap.size w wr)) (fun i _=>m - (intOf i).toNat)
 case atStart=>exact⟨0,Nat.zero_le _,rfl,fun q _ h=>absurd h (Nat.not_lt_zero _),Below.refl _ _⟩
 case round=>
  obtain⟨j,hj,rfl,hno,hb⟩:=hrel
  obtain⟨wo,rfl⟩:∃wo:World,wo=wr:=⟨_,rfl⟩
  by_cases hlt:j<m
  ·have hlx:j<xs.length:=by rw[HM.out];exact hlt
   have hji:(j:Int)<(m:Int):=by omega
   obtain⟨b,off,cs,rfl,hbl,hc,hr⟩:=(HS.out.below hb.out hb.out.size).2 j hlx
   have hlen:=(stmtSh (n+1)).len hr
   have hone:=(stmtSh (n+1)).one hr
   rw[stmtSh_k]at hlen hc
   have HC0:Hid (∀i v,cs[i]? =some v→wo.cell? ((⟨b,off+j*35,none⟩:Addr).add i)=some v):=fun i v hv=>by
    rw[show(⟨b,off+j*35,none⟩:Addr).add i=⟨b,off+j*35+i,none⟩ by unfold Addr.add;split<;>simp_all]
    exact hc i v hv
   obtain⟨ce,cv,cc,ca,u1,y2,y3',u4,u5,c1,c2,c3,c4,c5,H⟩:=stmt_is hr
   have X0:=Lib.hid (Bx.start wo cs 47)
   have HLW:Hid (∀W,Bx wo cs 47 W→Below w.heap.size w W):=Lib.hid fun W hW=>hW.low hb.out
   have HC:=Lib.hid (HF.out _ xs[j] _ (List.getElem_mem hlx) (HLW.out _ X0.out) (rel_low hr box_low))
   have HX:Hid (∀i v,cs[i]? =some v→(wo.alloc (.cells cs.toArray 47)).cell? ((⟨wo.heap.size,0,none⟩:Addr).add i)=some v):=box_part (o:=0) (fun i v h=>by rw[Nat.zero_add];exact h) (Below.refl _ _)
   have HL:=Lib.hid hlen
   have HO:=Lib.hid hone
   have HWB:Hid (∀W,Bx wo cs 47 W→Below wo.heap.size wo W):=Lib.hid fun W hW=>hW.low (Below.refl _ _)
   have F1:=Lib.hid (fun W (hW:Bx wo cs 47 W)=>HK.out xs[j] xs[j].body u4 c4 W (List.getElem_mem hlx) (.inl rfl) (HLW.out W hW) (H.rbody.below (HWB.out W hW) (HWB.out W hW).size))
   have F2:=Lib.hid (fun W (hW:Bx wo cs 47 W)=>HK.out xs[j] xs[j].els u5 c5 W (List.getElem_mem hlx) (.inr rfl) (HLW.out W hW) (H.rels.below (HWB.out W hW) (HWB.out W hW).size))
   have Q33:=Lib.hid H.body
   have Q34:=Lib.hid H.els
   have HH:=Lib.hid (HHIT.out j hlx)
   have HN:Hid ((p xs[j] && xs[j].body.all q && xs[j].els.all q)=true→∀t,(h:t<xs.length)→t<j+1→(p xs[t] && xs[t].body.all q && xs[t].els.all q)=true):=fun h t ht hlq=>by
    by_cases e:t=j
    ·subst e;exact h
    ·exact hno.out t ht (by omega)
   clear hc hr hlen hone H hno hb
   generalize p xs[j]=z0 at HC HH HN
   generalize xs[j].body.all q=z1 at F1 HH HN
   generalize xs[j].els.all q=z2 at F2 HH HN
   generalize xs[j].body.length=L1 at*
   generalize xs[j].els.length=L2 at*
   go_wp2_with (first | go_skip | (refine wpList_store_new (by kernel_rfl) 47 _ _ rfl _ rfl cs rfl (by rw[HL.out];kernel_rfl) (by rw[HL.out];rfl) HO.out ?_) | (refine wpList_load_w (by kernel_rfl) 47 _ rfl ⟨b,off+j*35,none⟩ rfl cs _ HC0.out Tryz.underlying47 rfl (by rw[HL.out];kernel_rfl) ?_) | (refine wpList_load_w (by kernel_rfl) 47 _ rfl ⟨wo.heap.size,0,none⟩ rfl cs _ HX.out Tryz.underlying47 rfl (by rw[HL.out];kernel_rfl) ?_))
   refine HC.out.mono ?_
   rintro e w2 ⟨rfl,hb2⟩
   have X2:=Lib.hid (X0.out.step hb2)
   clear hb2 HC HC0 HX X0
   cases z0 with
   | false=>
     obtain rfl:=HH.out rfl
     clear HH HN
     go_wp2_with fail
     go_ret
     exact⟨rfl,HLW.out _ X2.out⟩
   | true=>
   have G1:=Lib.hid (F1.out _ X2.out)
   have k33:=X2.out.at (o:=33) Q33.out
   clear F1
   go_wp2_with fail
   refine G1.out.mono ?_
   rintro e w3 ⟨rfl,hb2⟩
   have X3:=Lib.hid (X2.out.step hb2)
   clear hb2 G1 k33
   cases z1 with
   | false=>
     obtain rfl:=HH.out rfl
     clear HH HN
     go_wp2_with fail
     go_ret
     exact⟨rfl,HLW.out _ X3.out⟩
   | true=>
   have G2:=Lib.hid (F2.out _ X3.out)
   have k34:=X3.out.at (o:=34) Q34.out
   clear F2
   go_wp2_with fail
   refine G2.out.mono ?_
   rintro e w4 ⟨rfl,hb2⟩
   have X4:=Lib.hid (X3.out.step hb2)
   clear hb2 G2 k34
   cases z2 with
   | false=>
     obtain rfl:=HH.out rfl
     clear HH HN
     go_wp2_with fail
     go_ret
     exact⟨rfl,HLW.out _ X4.out⟩
   | true=>
   have HN2:=Lib.hid (HN.out rfl)
   have HB4:=Lib.hid (HLW.out _ X4.out)
   clear HH HN
   go_wp2_with fail
   go_roundw
   case rel=>exact⟨j+1,by omega,by go_num,HN2,HB4⟩
   case measure=>simp[intOf];omega
  ·obtain rfl:j=m:=by omega
   have hji:¬(j:Int)<(j:Int):=by omega
   obtain rfl:=HMISS.out (fun q hq=>hno.out q hq (by rw[HM.out]at hq;exact hq))
   go_wp2_with fail
   go_ret
   exact⟨rfl,hb.out⟩
theorem every_any1 (g:Nat)(y1:Value)(p:Nat→ST→Bool)(eg:∀args w,(callFunc g args).run Tryz.prog w= .ok (.enter g args) w):∀(n:Nat) (l:List ST) (a:Option Addr) (cap:Nat) (w:World),
 (∀k s cs W,Below w.heap.size w W→(stmtSh k).rel (Pak.Lo W.heap.size) W cs s→Calls Tryz.prog g #[.agg cs.toArray,y1] W (SoundEnd (p k s) W))→Pak.Sits (stmtSh n) (Pak.Lo w.heap.size) w a l→BoolAll 40 #[.slice a l.length cap,.func (.func g) #[] #[y1]] (evs p n l) w
 | 0,l,a,cap,w,hp,hs=>fun W hW=>by
   have he:l=[]:=by
    cases l with
    | nil=>rfl
    | cons x xs=>
      obtain⟨_,_,_,_,_,_,hr⟩:=hs.2 0 (by simp)
      exact hr.elim
   subst he
   have h:=every_box1 0 g y1 (fun _=>true) (fun _=>true) a 0 cap [] W eg rfl (Pak.Sits.nil _ _ _ _) (fun cs x W hx=>absurd hx (by simp)) (fun x t u c W hx=>absurd hx (by simp))
   simpa [evs,evT]using h
 | n+1,l,a,cap,w,hp,hs=>fun W hW=>
   every_box1 n g y1 (p (n+1)) (evT p n) a l.length cap l W eg rfl (hs.below hW hW.size) (fun cs x V hx hV hr=>hp (n+1) x cs V (hW.trans (hV.mono hW.size)) hr) fun x t u c V hx ht hV hst=>every_any1 g y1 p eg n t u c V (fun k s cs Y hY hr=>hp k s cs Y ((hW.trans (hV.mono hW.size)).trans (hY.mono (Nat.le_trans hW.size hV.size))) hr) hst V (Below.refl _ _)
theorem every_box3 (n g:Nat)(y1 y2 y3:Value)(p:ST→Bool)(q:ST→Bool)(a:Option Addr)(m cap:Nat)(xs:List ST)(w:World)(eg:∀args w,(callFunc g args).run Tryz.prog w= .ok (.enter g args) w)(hm:xs.length=m)(hs:Pak.Sits (stmtSh (n+1)) (Pak.Lo w.heap.size) w a xs)
 (hf:∀cs x W,x∈xs→Below w.heap.size w W→(stmtSh (n+1)).rel (Pak.Lo W.heap.size) W cs x→Calls Tryz.prog g #[.agg cs.toArray,y1,y2,y3] W (SoundEnd (p x) W))
 (hk:∀(x:ST) (t:List ST) (u:Option Addr) (c:Nat) (W:World),x∈xs→t=x.body∨t=x.els→Below w.heap.size w W→Pak.Sits (stmtSh n) (Pak.Lo W.heap.size) W u t→Calls Tryz.prog 40 #[.slice u t.length c,.func (.func g) #[] #[y1,y2,y3]] W (SoundEnd (t.all q) W)):
 Calls Tryz.prog 40 #[.slice a m cap,.func (.func g) #[] #[y1,y2,y3]] w (SoundEnd (xs.all (fun x=>p x && x.body.all q && x.els.all q)) w):=by
 have HS:=Lib.hid hs
 have HF:=Lib.hid hf
 have HK:=Lib.hid hk
 have HM:=Lib.hid hm
 have hmm:m≤9223372036854775807:=by rw[←hm];exact hs.1
 have HHIT:Hid (∀j,(h:j<xs.length)→(p xs[j] && xs[j].body.all q && xs[j].els.all q)=false→xs.all (fun x=>p x && x.body.all q && x.els.all q)=false):=fun j h e=>all_hit h e
 have HMISS:Hid ((∀j,(h:j<xs.length)→(p xs[j] && xs[j].body.all q && xs[j].els.all q)=true)→xs.all (fun x=>p x && x.body.all q && x.els.all q)=true):=fun h=>all_miss h
 clear hs hf hm hk
 generalize xs.all (fun x=>p x && x.body.all q && x.els.all q)=r at HHIT HMISS
 go_enter Tryz.func40,Tryz.ntmps40
 go_wp2_with fail
 go_loopw [9] (fun i wr=>∃j:Nat,j≤m∧i= .int .i64 j∧Hid (∀t,(h:t<xs.length)→t<j→(p xs[t] && xs[t].body.all q && xs[t].els.all q)=true)∧Hid (Below w.heap.size w wr)) (fun i _=>m - (intOf i).toNat)
 case atStart=>exact⟨0,Nat.zero_le _,rfl,fun q _ h=>absurd h (Nat.not_lt_zero _),Below.refl _ _⟩
 case round=>
  obtain⟨j,hj,rfl,hno,hb⟩:=hrel
  obtain⟨wo,rfl⟩:∃wo:World,wo=wr:=⟨_,rfl⟩
  by_cases hlt:j<m
  ·have hlx:j<xs.length:=by rw[HM.out];exact hlt
   have hji:(j:Int)<(m:Int):=by omega
   obtain⟨b,off,cs,rfl,hbl,hc,hr⟩:=(HS.out.below hb.out hb.out.size).2 j hlx
   have hlen:=(stmtSh (n+1)).len hr
   have hone:=(stmtSh (n+1)).one hr
   rw[stmtSh_k]at hlen hc
   have HC0:Hid (∀i v,cs[i]? =some v→wo.cell? ((⟨b,off+j*35,none⟩:Addr).add i)=some v):=fun i v hv=>by
    rw[show(⟨b,off+j*35,none⟩:Addr).add i=⟨b,off+j*35+i,none⟩ by unfold Addr.add;split<;>simp_all]
    exact hc i v hv
   obtain⟨ce,cv,cc,ca,u1,y2,y3',u4,u5,c1,c2,c3,c4,c5,H⟩:=stmt_is hr
   have X0:=Lib.hid (Bx.start wo cs 47)
   have HLW:Hid (∀W,Bx wo cs 47 W→Below w.heap.size w W):=Lib.hid fun W hW=>hW.low hb.out
   have HC:=Lib.hid (HF.out _ xs[j] _ (List.getElem_mem hlx) (HLW.out _ X0.out) (rel_low hr box_low))
   have HX:Hid (∀i v,cs[i]? =some v→(wo.alloc (.cells cs.toArray 47)).cell? ((⟨wo.heap.size,0,none⟩:Addr).add i)=some v):=box_part (o:=0) (fun i v h=>by rw[Nat.zero_add];exact h) (Below.refl _ _)
   have HL:=Lib.hid hlen
   have HO:=Lib.hid hone
   have HWB:Hid (∀W,Bx wo cs 47 W→Below wo.heap.size wo W):=Lib.hid fun W hW=>hW.low (Below.refl _ _)
   have F1:=Lib.hid (fun W (hW:Bx wo cs 47 W)=>HK.out xs[j] xs[j].body u4 c4 W (List.getElem_mem hlx) (.inl rfl) (HLW.out W hW) (H.rbody.below (HWB.out W hW) (HWB.out W hW).size))
   have F2:=Lib.hid (fun W (hW:Bx wo cs 47 W)=>HK.out xs[j] xs[j].els u5 c5 W (List.getElem_mem hlx) (.inr rfl) (HLW.out W hW) (H.rels.below (HWB.out W hW) (HWB.out W hW).size))
   have Q33:=Lib.hid H.body
   have Q34:=Lib.hid H.els
   have HH:=Lib.hid (HHIT.out j hlx)
   have HN:Hid ((p xs[j] && xs[j].body.all q && xs[j].els.all q)=true→∀t,(h:t<xs.length)→t<j+1→(p xs[t] && xs[t].body.all q && xs[t].els.all q)=true):=fun h t ht hlq=>by
    by_cases e:t=j
    ·subst e;exact h
    ·exact hno.out t ht (by omega)
   clear hc hr hlen hone H hno hb
   generalize p xs[j]=z0 at HC HH HN
   generalize xs[j].body.all q=z1 at F1 HH HN
   generalize xs[j].els.all q=z2 at F2 HH HN
   generalize xs[j].body.length=L1 at*
   generalize xs[j].els.length=L2 at*
   go_wp2_with (first | go_skip | (refine wpList_store_new (by kernel_rfl) 47 _ _ rfl _ rfl cs rfl (by rw[HL.out];kernel_rfl) (by rw[HL.out];rfl) HO.out ?_) | (refine wpList_load_w (by kernel_rfl) 47 _ rfl ⟨b,off+j*35,none⟩ rfl cs _ HC0.out Tryz.underlying47 rfl (by rw[HL.out];kernel_rfl) ?_) | (refine wpList_load_w (by kernel_rfl) 47 _ rfl ⟨wo.heap.size,0,none⟩ rfl cs _ HX.out Tryz.underlying47 rfl (by rw[HL.out];kernel_rfl) ?_))
   refine HC.out.mono ?_
   rintro e w2 ⟨rfl,hb2⟩
   have X2:=Lib.hid (X0.out.step hb2)
   clear hb2 HC HC0 HX X0
   cases z0 with
   | false=>
     obtain rfl:=HH.out rfl
     clear HH HN
     go_wp2_with fail
     go_ret
     exact⟨rfl,HLW.out _ X2.out⟩
   | true=>
   have G1:=Lib.hid (F1.out _ X2.out)
   have k33:=X2.out.at (o:=33) Q33.out
   clear F1
   go_wp2_with fail
   refine G1.out.mono ?_
   rintro e w3 ⟨rfl,hb2⟩
   have X3:=Lib.hid (X2.out.step hb2)
   clear hb2 G1 k33
   cases z1 with
   | false=>
     obtain rfl:=HH.out rfl
     clear HH HN
     go_wp2_with fail
     go_ret
     exact⟨rfl,HLW.out _ X3.out⟩
   | true=>
   have G2:=Lib.hid (F2.out _ X3.out)
   have k34:=X3.out.at (o:=34) Q34.out
   clear F2
   go_wp2_with fail
   refine G2.out.mono ?_
   rintro e w4 ⟨rfl,hb2⟩
   have X4:=Lib.hid (X3.out.step hb2)
   clear hb2 G2 k34
   cases z2 with
   | false=>
     obtain rfl:=HH.out rfl
     clear HH HN
     go_wp2_with fail
     go_ret
     exact⟨rfl,HLW.out _ X4.out⟩
   | true=>
   have HN2:=Lib.hid (HN.out rfl)
   have HB4:=Lib.hid (HLW.out _ X4.out)
   clear HH HN
   go_wp2_with fail
   go_roundw
   case rel=>exact⟨j+1,by omega,by go_num,HN2,HB4⟩
   case measure=>simp[intOf];omega
  ·obtain rfl:j=m:=by omega
   have hji:¬(j:Int)<(j:Int):=by omega
   obtain rfl:=HMISS.out (fun q hq=>hno.out q hq (by rw[HM.out]at hq;exact hq))
   go_wp2_with fail
   go_ret
   exact⟨rfl,hb.out⟩
theorem every_any3 (g:Nat)(y1 y2 y3:Value)(p:Nat→ST→Bool)(eg:∀args w,(callFunc g args).run Tryz.prog w= .ok (.enter g args) w):∀(n:Nat) (l:List ST) (a:Option Addr) (cap:Nat) (w:World),
 (∀k s cs W,Below w.heap.size w W→(stmtSh k).rel (Pak.Lo W.heap.size) W cs s→Calls Tryz.prog g #[.agg cs.toArray,y1,y2,y3] W (SoundEnd (p k s) W))→Pak.Sits (stmtSh n) (Pak.Lo w.heap.size) w a l→BoolAll 40 #[.slice a l.length cap,.func (.func g) #[] #[y1,y2,y3]] (evs p n l) w
 | 0,l,a,cap,w,hp,hs=>fun W hW=>by
   have he:l=[]:=by
    cases l with
    | nil=>rfl
    | cons x xs=>
      obtain⟨_,_,_,_,_,_,hr⟩:=hs.2 0 (by simp)
      exact hr.elim
   subst he
   have h:=every_box3 0 g y1 y2 y3 (fun _=>true) (fun _=>true) a 0 cap [] W eg rfl (Pak.Sits.nil _ _ _ _) (fun cs x W hx=>absurd hx (by simp)) (fun x t u c W hx=>absurd hx (by simp))
   simpa [evs,evT]using h
 | n+1,l,a,cap,w,hp,hs=>fun W hW=>
   every_box3 n g y1 y2 y3 (p (n+1)) (evT p n) a l.length cap l W eg rfl (hs.below hW hW.size) (fun cs x V hx hV hr=>hp (n+1) x cs V (hW.trans (hV.mono hW.size)) hr) fun x t u c V hx ht hV hst=>every_any3 g y1 y2 y3 p eg n t u c V (fun k s cs Y hY hr=>hp k s cs Y ((hW.trans (hV.mono hW.size)).trans (hY.mono (Nat.le_trans hW.size hV.size))) hr) hst V (Below.refl _ _)
end
section
open Go.RowKit
theorem Tryz.infoStrN:(Tryz.prog.info? 9).map (fun i=>(i.zero,i.size,i.bytes))=some (some (.string ⟨#[]⟩),1,16):=by kernel_rfl
def StrRow (B:Nat)(xs:List ByteArray)(v:Value)(w:World):Prop:=OwnL strSh 9 B xs v w∧(xs=[]→v= .slice none 0 0)
theorem StrRow.nil (B:Nat)(w:World):StrRow B [] (.slice none 0 0) w:=⟨OwnL.nil _ _ _ _,fun _=>rfl⟩
theorem StrRow.below {B:Nat}{xs:List ByteArray}{v:Value}{w w':World}(h:StrRow B xs v w)(hb:Below w.heap.size w w'):StrRow B xs v w':=⟨h.1.below hb,h.2⟩
theorem flat_strs:∀ys:List ByteArray,(ys.map (fun s=>[Value.string s])).flatten=ys.map Value.string
 | []=>rfl
 | x :: r=>by rw[List.map_cons,List.flatten_cons,flat_strs r];rfl
theorem run_cat_str {w:World}(B:Nat)(xs ys:List ByteArray)(v y:Value)(h:StrRow B xs v w)(hB:B≤w.heap.size)(hy:Pak.Slot strSh (Pak.Lo w.heap.size) w y ys)(hy0:ys=[]→y= .slice none 0 0)(hsz:xs.length+ys.length≤1000000):
 ∃v' w',(∀ty,(Builtin.append_ #[38,38] ty #[v,y]).run Tryz.prog w= .ok v' w')∧StrRow B (xs ++ ys) v' w'∧Below B w w':=by
 obtain⟨i0,hi,hz0,hz1,hz2⟩:=info_parts Tryz.infoStrN
 obtain⟨css,c1,c2,c3⟩:=h.1.row
 by_cases h0:ys=[]
 ·rw[hy0 h0,h0,List.append_nil]
  exact⟨v,w,fun ty=>run_append_owned_none w B 38 ty 9 i0 1 Tryz.underlying38 hi v xs.length css.flatten c2,h,Below.refl _ _⟩
 ·obtain⟨a,cap,rfl,hs⟩:=hy
  have hpos:0<ys.length:=List.length_pos_iff.2 h0
  obtain⟨b,off,_,rfl,hbl,_,_⟩:=hs.2 0 hpos
  have hat:∀j (hj:j<ys.length),w.cell? ⟨b,off+j,none⟩=some (.string ys[j])∧ys[j].size≤maxLen:=fun j hj=>by
   obtain⟨b2,off2,cs,e,_,hc,rfl,hl⟩:=hs.2 j hj
   injection e with e
   injection e with e1 e2 e3
   subst e1 e2
   have:=hc 0 _ rfl
   rw[show strSh.k=1 from rfl,Nat.mul_one,Nat.add_zero]at this
   exact⟨this,hl⟩
  have hnews:∀j u,(ys.map Value.string)[j]? =some u→w.cell? ((⟨b,off,none⟩:Addr).add j)=some u:=fun j u hu=>by
   obtain⟨hj,rfl⟩:=List.getElem?_eq_some_iff.1 hu
   rw[show(⟨b,off,none⟩:Addr).add j=⟨b,off+j,none⟩ by unfold Addr.add;split<;>simp_all,List.getElem_map]
   exact(hat j (by simpa using hj)).1
  have h1:∀u∈ys.map Value.string,u.oneCell'=true:=fun u hu=>by
   obtain⟨s,_,rfl⟩:=List.mem_map.1 hu
   rfl
  have hvb:∀g,v.ownBlock=some g→B≤g:=fun g e=>(World.ownsRow.lt c2 g e).1
  obtain⟨g,cap',w',hr,h2,h3,h4,h5⟩:=run_append_lies (P:=Tryz.prog) w 38 38 B 9 i0 _ 1 16 Tryz.underlying38 hi hz0 hz1 hz2 rfl (by decide) v xs.length css.flatten c2 ⟨b,off,none⟩ ys.length cap (ys.map Value.string) (by simp) hnews h1 hpos (by unfold maxLen;omega) (by omega) hB _ rfl
  refine⟨_,w',fun ty=>hr,⟨⟨css ++ ys.map (fun s=>[Value.string s]),by simp[c1], ?_,fun i hi hi2=> ?_⟩,fun e=>absurd (List.append_eq_nil_iff.1 e).2 h0⟩,(Below.refl B w).grown h3 hB hvb⟩
  ·rw[List.flatten_append,List.length_append]
   rw[flat_strs]
   exact h2
  ·by_cases hlt:i<xs.length
   ·rw[List.getElem_append_left (by omega),List.getElem_append_left hlt]
    exact⟨(c3 i hlt (by omega)).1,(c3 i hlt (by omega)).2⟩
   ·have hiy:i - xs.length<ys.length:=by rw[List.length_append]at hi;omega
    rw[List.getElem_append_right (by omega),List.getElem_append_right (by omega),List.getElem_map]
    have e:i - css.length=i - xs.length:=by omega
    exact⟨by simp only[e],(hat _ hiy).2⟩
end
end Go.Proofs.YtfcaclmcnlflfaaGreatDoor
