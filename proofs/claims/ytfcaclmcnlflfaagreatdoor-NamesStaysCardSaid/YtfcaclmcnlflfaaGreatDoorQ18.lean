/- Parts of a proof. -/
import Derived.Test.YtfcaclmcnlflfaaGreatDoorQ17
import Derived.Deep.CutBlock
import Derived.Deep.CutRange
import Derived.Deep.DeepCutAuto
set_option linter.unusedVariables false
set_option linter.unusedSimpArgs false
set_option maxHeartbeats 60000000
set_option maxRecDepth 100000
namespace Go.Proofs.YtfcaclmcnlflfaaGreatDoor
section
open Go.RowKit
theorem all_take {T:Type}{p:T→Bool}{xs:List T}{j:Nat}(h:j<xs.length):(xs.take (j+1)).all p=((xs.take j).all p && p xs[j]):=by
 rw[List.take_succ_eq_append_getElem h,List.all_append];simp
theorem all_false_of_take {T:Type}{p:T→Bool}{xs:List T}{j:Nat}(h:(xs.take j).all p=false):xs.all p=false:=by
 rw[←List.take_append_drop j xs,List.all_append,h];rfl
theorem rcond_0 (n:Nat)(p:CT→Bool)(a1 a2:Option Addr)(m1 c1 m2 c2:Nat)(ys:List CT)(z1:Bool)(w:World)(hm:ys.length=m2)(hs:Pak.Sits (condSh n) (Pak.Lo w.heap.size) w a2 ys)
 (hf:∀cs x W,Below w.heap.size w W→(condSh n).rel (Pak.Lo W.heap.size) W cs x→Calls Tryz.prog 91 #[.agg cs.toArray] W (SoundEnd (p x) W)) (hx:BoolAll 124 #[.slice a1 m1 c1] z1 w):
 Calls Tryz.prog 91 #[.agg #[.int .i64 0,.slice a1 m1 c1,.slice a2 m2 c2]] w (SoundEnd ((m1 == 0 && m2 == 0) && ys.all p && z1) w):=by
 have HA:Hid (Below w.heap.size w (w.alloc (.cells #[.int .i64 0,.slice a1 m1 c1,.slice a2 m2 c2] 41))):=box_low
 have HS:=Lib.hid hs
 have HF:=Lib.hid hf
 have HM:=Lib.hid hm
 have hmm:m2≤9223372036854775807:=by rw[←hm];exact hs.1
 have X:=Lib.hid hx
 have HC1:Hid (∀W,Below (w.alloc (.cells #[.int .i64 0,.slice a1 m1 c1,.slice a2 m2 c2] 41)).heap.size (w.alloc (.cells #[.int .i64 0,.slice a1 m1 c1,.slice a2 m2 c2] 41)) W→W.cell? ⟨w.heap.size,1,none⟩=some (.slice a1 m1 c1)):=fun W hb=>box_at (cs:=[.int .i64 0,.slice a1 m1 c1,.slice a2 m2 c2]) rfl hb
 have HC2:Hid (∀W,Below (w.alloc (.cells #[.int .i64 0,.slice a1 m1 c1,.slice a2 m2 c2] 41)).heap.size (w.alloc (.cells #[.int .i64 0,.slice a1 m1 c1,.slice a2 m2 c2] 41)) W→W.cell? ⟨w.heap.size,2,none⟩=some (.slice a2 m2 c2)):=fun W hb=>box_at (cs:=[.int .i64 0,.slice a1 m1 c1,.slice a2 m2 c2]) rfl hb
 clear hs hf hm hx
 go_enter Tryz.func91,Tryz.ntmps91
 go_upto_block 0 with fail
 go_cut [3] (fun s wr=>s= .bool (m1 == 0 && m2 == 0)∧(w.alloc (.cells #[.int .i64 0,.slice a1 m1 c1,.slice a2 m2 c2] 41))=wr)
 case first=>
  by_cases h1:m1=0
  ·have h1i:((m1:Int) == 0)=true:=by rw[h1];rfl
   by_cases h2:m2=0
   ·have h2i:((m2:Int) == 0)=true:=by rw[h2];rfl
    have hr:Hid ((m1 == 0 && m2 == 0)=true):=Lib.hid (by rw[h1,h2];rfl)
    clear h1 h2
    go_wp2_with fail
    go_meet
    case rel=>exact⟨by rw[hr.out],rfl⟩
   ·have h2i:((m2:Int) == 0)=false:=by rw[Bool.eq_false_iff];simp only[ne_eq,beq_iff_eq];omega
    have hr:Hid ((m1 == 0 && m2 == 0)=false):=Lib.hid (by rw[beq_eq_false_iff_ne.2 h2,Bool.and_false])
    clear h1 h2
    go_wp2_with fail
    go_meet
    case rel=>exact⟨by rw[hr.out],rfl⟩
  ·have h1i:((m1:Int) == 0)=false:=by rw[Bool.eq_false_iff];simp only[ne_eq,beq_iff_eq];omega
   have hr:Hid ((m1 == 0 && m2 == 0)=false):=Lib.hid (by rw[beq_eq_false_iff_ne.2 h1];rfl)
   clear h1
   go_wp2_with fail
   go_meet
   case rel=>exact⟨by rw[hr.out],rfl⟩
 case rest=>
 obtain⟨rfl,rfl⟩:=hcut
 generalize (m1 == 0 && m2 == 0)=ok0 at*
 go_wp2_with fail
 go_loopw [3,4] (fun s i wr=>∃(j:Nat) (z:Bool),j≤m2∧i= .int .i64 j∧s= .bool z∧Hid (z=(ok0 && (ys.take j).all p))∧Hid (Below (w.alloc (.cells #[.int .i64 0,.slice a1 m1 c1,.slice a2 m2 c2] 41)).heap.size (w.alloc (.cells #[.int .i64 0,.slice a1 m1 c1,.slice a2 m2 c2] 41)) wr)) (fun _ i _=>m2 - (intOf i).toNat)
 case atStart=>exact⟨0,ok0,Nat.zero_le _,rfl,rfl,Lib.hid (by simp),Below.refl _ _⟩
 case round=>
  obtain⟨j,z,hj,rfl,rfl,hz,hb⟩:=hrel
  obtain⟨wo,rfl⟩:∃wo:World,wo=wr:=⟨_,rfl⟩
  have HWO:=Lib.hid (HA.out.trans (hb.out.mono HA.out.size))
  have k1:=HC1.out _ hb.out
  have k2:=HC2.out _ hb.out
  cases z with
  | false=>
    have hr:Hid ((ok0 && ys.all p && z1)=false):=Lib.hid (by
     have h:=hz.out.symm
     rcases Bool.and_eq_false_iff.1 h with h | h
     ·first | rw[h] | skip
      rfl
     ·rw[all_false_of_take h];simp)
    by_cases hlt:j<m2
    ·have hji:decide ((j:Int)<(m2:Int))=true:=decide_eq_true (by omega)
     go_wp2_with fail
     go_ret
     exact⟨by rw[hr.out];rfl,HWO.out⟩
    ·have hji:decide (j<m2)=false:=decide_eq_false hlt
     go_wp2_with fail
     go_ret
     exact⟨by rw[hr.out];rfl,HWO.out⟩
  | true=>
    by_cases hlt:j<m2
    ·have hlx:j<ys.length:=by rw[HM.out];exact hlt
     have hji:(j:Int)<(m2:Int):=by omega
     obtain⟨b,off,cs,rfl,hbl,hc,hr⟩:=(HS.out.below HWO.out HWO.out.size).2 j hlx
     have hlen:=(condSh n).len hr
     rw[condSh_k n]at hlen hc
     have HC0:Hid (∀i v,cs[i]? =some v→wo.cell? ((⟨b,off+j*3,none⟩:Addr).add i)=some v):=fun i v hv=>by
      rw[show(⟨b,off+j*3,none⟩:Addr).add i=⟨b,off+j*3+i,none⟩ by unfold Addr.add;split<;>simp_all]
      exact hc i v hv
     have HC:=Lib.hid (HF.out _ ys[j] _ HWO.out hr)
     have HL:=Lib.hid hlen
     have HN:Hid (p ys[j]=(ok0 && (ys.take (j+1)).all p)):=Lib.hid (by
      have h:=hz.out
      rw[all_take hlx,←Bool.and_assoc,←h];simp)
     clear hc hr hlen hz
     generalize p ys[j]=y at HC HN
     go_wp2_with (refine wpList_load_w rfl 41 _ rfl ⟨b,off+j*3,none⟩ rfl cs _ HC0.out Tryz.underlying41 rfl (by rw[HL.out];kernel_rfl) ?_)
     refine HC.out.mono ?_
     rintro e w2 ⟨rfl,hb2⟩
     have HB2:=Lib.hid (hb.out.trans (hb2.mono hb.out.size))
     clear hb2 HC HC0
     go_wp2_with fail
     go_roundw
     case rel=>exact⟨j+1,y,by omega,by go_num,rfl,HN,HB2⟩
     case measure=>simp[intOf];omega
    ·have hr:Hid ((ok0 && ys.all p && z1)=z1):=Lib.hid (by
      have h:=hz.out
      rw[show j=ys.length by rw[HM.out];omega,List.take_length]at h
      rw[←h];rfl)
     obtain rfl:j=m2:=by omega
     clear hz
     go_wp2_with fail
     refine(X.out.at HWO.out).mono ?_
     rintro e w2 ⟨rfl,hb2⟩
     have HB2:=Lib.hid (HWO.out.trans (hb2.mono HWO.out.size))
     clear hb2
     go_wp2_with fail
     go_ret
     exact⟨by rw[hr.out];rfl,HB2.out⟩
theorem rcond_1 (n:Nat)(p:CT→Bool)(a1 a2:Option Addr)(m1 c1 m2 c2:Nat)(ys:List CT)(z1:Bool)(w:World)(hm:ys.length=m2)(hs:Pak.Sits (condSh n) (Pak.Lo w.heap.size) w a2 ys)
 (hf:∀cs x W,Below w.heap.size w W→(condSh n).rel (Pak.Lo W.heap.size) W cs x→Calls Tryz.prog 91 #[.agg cs.toArray] W (SoundEnd (p x) W)) (hx:BoolAll 124 #[.slice a1 m1 c1] z1 w):
 Calls Tryz.prog 91 #[.agg #[.int .i64 1,.slice a1 m1 c1,.slice a2 m2 c2]] w (SoundEnd ((m1 == 0 && m2 == 0) && ys.all p && z1) w):=by
 have HA:Hid (Below w.heap.size w (w.alloc (.cells #[.int .i64 1,.slice a1 m1 c1,.slice a2 m2 c2] 41))):=box_low
 have HS:=Lib.hid hs
 have HF:=Lib.hid hf
 have HM:=Lib.hid hm
 have hmm:m2≤9223372036854775807:=by rw[←hm];exact hs.1
 have X:=Lib.hid hx
 have HC1:Hid (∀W,Below (w.alloc (.cells #[.int .i64 1,.slice a1 m1 c1,.slice a2 m2 c2] 41)).heap.size (w.alloc (.cells #[.int .i64 1,.slice a1 m1 c1,.slice a2 m2 c2] 41)) W→W.cell? ⟨w.heap.size,1,none⟩=some (.slice a1 m1 c1)):=fun W hb=>box_at (cs:=[.int .i64 1,.slice a1 m1 c1,.slice a2 m2 c2]) rfl hb
 have HC2:Hid (∀W,Below (w.alloc (.cells #[.int .i64 1,.slice a1 m1 c1,.slice a2 m2 c2] 41)).heap.size (w.alloc (.cells #[.int .i64 1,.slice a1 m1 c1,.slice a2 m2 c2] 41)) W→W.cell? ⟨w.heap.size,2,none⟩=some (.slice a2 m2 c2)):=fun W hb=>box_at (cs:=[.int .i64 1,.slice a1 m1 c1,.slice a2 m2 c2]) rfl hb
 clear hs hf hm hx
 go_enter Tryz.func91,Tryz.ntmps91
 go_upto_block 0 with fail
 go_cut [3] (fun s wr=>s= .bool (m1 == 0 && m2 == 0)∧(w.alloc (.cells #[.int .i64 1,.slice a1 m1 c1,.slice a2 m2 c2] 41))=wr)
 case first=>
  by_cases h1:m1=0
  ·have h1i:((m1:Int) == 0)=true:=by rw[h1];rfl
   by_cases h2:m2=0
   ·have h2i:((m2:Int) == 0)=true:=by rw[h2];rfl
    have hr:Hid ((m1 == 0 && m2 == 0)=true):=Lib.hid (by rw[h1,h2];rfl)
    clear h1 h2
    go_wp2_with fail
    go_meet
    case rel=>exact⟨by rw[hr.out],rfl⟩
   ·have h2i:((m2:Int) == 0)=false:=by rw[Bool.eq_false_iff];simp only[ne_eq,beq_iff_eq];omega
    have hr:Hid ((m1 == 0 && m2 == 0)=false):=Lib.hid (by rw[beq_eq_false_iff_ne.2 h2,Bool.and_false])
    clear h1 h2
    go_wp2_with fail
    go_meet
    case rel=>exact⟨by rw[hr.out],rfl⟩
  ·have h1i:((m1:Int) == 0)=false:=by rw[Bool.eq_false_iff];simp only[ne_eq,beq_iff_eq];omega
   have hr:Hid ((m1 == 0 && m2 == 0)=false):=Lib.hid (by rw[beq_eq_false_iff_ne.2 h1];rfl)
   clear h1
   go_wp2_with fail
   go_meet
   case rel=>exact⟨by rw[hr.out],rfl⟩
 case rest=>
 obtain⟨rfl,rfl⟩:=hcut
 generalize (m1 == 0 && m2 == 0)=ok0 at*
 go_wp2_with fail
 go_loopw [3,4] (fun s i wr=>∃(j:Nat) (z:Bool),j≤m2∧i= .int .i64 j∧s= .bool z∧Hid (z=(ok0 && (ys.take j).all p))∧Hid (Below (w.alloc (.cells #[.int .i64 1,.slice a1 m1 c1,.slice a2 m2 c2] 41)).heap.size (w.alloc (.cells #[.int .i64 1,.slice a1 m1 c1,.slice a2 m2 c2] 41)) wr)) (fun _ i _=>m2 - (intOf i).toNat)
 case atStart=>exact⟨0,ok0,Nat.zero_le _,rfl,rfl,Lib.hid (by simp),Below.refl _ _⟩
 case round=>
  obtain⟨j,z,hj,rfl,rfl,hz,hb⟩:=hrel
  obtain⟨wo,rfl⟩:∃wo:World,wo=wr:=⟨_,rfl⟩
  have HWO:=Lib.hid (HA.out.trans (hb.out.mono HA.out.size))
  have k1:=HC1.out _ hb.out
  have k2:=HC2.out _ hb.out
  cases z with
  | false=>
    have hr:Hid ((ok0 && ys.all p && z1)=false):=Lib.hid (by
     have h:=hz.out.symm
     rcases Bool.and_eq_false_iff.1 h with h | h
     ·first | rw[h] | skip
      rfl
     ·rw[all_false_of_take h];simp)
    by_cases hlt:j<m2
    ·have hji:decide ((j:Int)<(m2:Int))=true:=decide_eq_true (by omega)
     go_wp2_with fail
     go_ret
     exact⟨by rw[hr.out];rfl,HWO.out⟩
    ·have hji:decide (j<m2)=false:=decide_eq_false hlt
     go_wp2_with fail
     go_ret
     exact⟨by rw[hr.out];rfl,HWO.out⟩
  | true=>
    by_cases hlt:j<m2
    ·have hlx:j<ys.length:=by rw[HM.out];exact hlt
     have hji:(j:Int)<(m2:Int):=by omega
     obtain⟨b,off,cs,rfl,hbl,hc,hr⟩:=(HS.out.below HWO.out HWO.out.size).2 j hlx
     have hlen:=(condSh n).len hr
     rw[condSh_k n]at hlen hc
     have HC0:Hid (∀i v,cs[i]? =some v→wo.cell? ((⟨b,off+j*3,none⟩:Addr).add i)=some v):=fun i v hv=>by
      rw[show(⟨b,off+j*3,none⟩:Addr).add i=⟨b,off+j*3+i,none⟩ by unfold Addr.add;split<;>simp_all]
      exact hc i v hv
     have HC:=Lib.hid (HF.out _ ys[j] _ HWO.out hr)
     have HL:=Lib.hid hlen
     have HN:Hid (p ys[j]=(ok0 && (ys.take (j+1)).all p)):=Lib.hid (by
      have h:=hz.out
      rw[all_take hlx,←Bool.and_assoc,←h];simp)
     clear hc hr hlen hz
     generalize p ys[j]=y at HC HN
     go_wp2_with (refine wpList_load_w rfl 41 _ rfl ⟨b,off+j*3,none⟩ rfl cs _ HC0.out Tryz.underlying41 rfl (by rw[HL.out];kernel_rfl) ?_)
     refine HC.out.mono ?_
     rintro e w2 ⟨rfl,hb2⟩
     have HB2:=Lib.hid (hb.out.trans (hb2.mono hb.out.size))
     clear hb2 HC HC0
     go_wp2_with fail
     go_roundw
     case rel=>exact⟨j+1,y,by omega,by go_num,rfl,HN,HB2⟩
     case measure=>simp[intOf];omega
    ·have hr:Hid ((ok0 && ys.all p && z1)=z1):=Lib.hid (by
      have h:=hz.out
      rw[show j=ys.length by rw[HM.out];omega,List.take_length]at h
      rw[←h];rfl)
     obtain rfl:j=m2:=by omega
     clear hz
     go_wp2_with fail
     refine(X.out.at HWO.out).mono ?_
     rintro e w2 ⟨rfl,hb2⟩
     have HB2:=Lib.hid (HWO.out.trans (hb2.mono HWO.out.size))
     clear hb2
     go_wp2_with fail
     go_ret
     exact⟨by rw[hr.out];rfl,HB2.out⟩
theorem rcond_2 (n:Nat)(p:CT→Bool)(a1 a2:Option Addr)(m1 c1 m2 c2:Nat)(ys:List CT)(z1:Bool)(w:World)(hm:ys.length=m2)(hs:Pak.Sits (condSh n) (Pak.Lo w.heap.size) w a2 ys)
 (hf:∀cs x W,Below w.heap.size w W→(condSh n).rel (Pak.Lo W.heap.size) W cs x→Calls Tryz.prog 91 #[.agg cs.toArray] W (SoundEnd (p x) W)) (hx:BoolAll 124 #[.slice a1 m1 c1] z1 w):
 Calls Tryz.prog 91 #[.agg #[.int .i64 2,.slice a1 m1 c1,.slice a2 m2 c2]] w (SoundEnd ((m1 == 2 && m2 == 0) && ys.all p && z1) w):=by
 have HA:Hid (Below w.heap.size w (w.alloc (.cells #[.int .i64 2,.slice a1 m1 c1,.slice a2 m2 c2] 41))):=box_low
 have HS:=Lib.hid hs
 have HF:=Lib.hid hf
 have HM:=Lib.hid hm
 have hmm:m2≤9223372036854775807:=by rw[←hm];exact hs.1
 have X:=Lib.hid hx
 have HC1:Hid (∀W,Below (w.alloc (.cells #[.int .i64 2,.slice a1 m1 c1,.slice a2 m2 c2] 41)).heap.size (w.alloc (.cells #[.int .i64 2,.slice a1 m1 c1,.slice a2 m2 c2] 41)) W→W.cell? ⟨w.heap.size,1,none⟩=some (.slice a1 m1 c1)):=fun W hb=>box_at (cs:=[.int .i64 2,.slice a1 m1 c1,.slice a2 m2 c2]) rfl hb
 have HC2:Hid (∀W,Below (w.alloc (.cells #[.int .i64 2,.slice a1 m1 c1,.slice a2 m2 c2] 41)).heap.size (w.alloc (.cells #[.int .i64 2,.slice a1 m1 c1,.slice a2 m2 c2] 41)) W→W.cell? ⟨w.heap.size,2,none⟩=some (.slice a2 m2 c2)):=fun W hb=>box_at (cs:=[.int .i64 2,.slice a1 m1 c1,.slice a2 m2 c2]) rfl hb
 clear hs hf hm hx
 go_enter Tryz.func91,Tryz.ntmps91
 go_upto_block 0 with fail
 go_cut [3] (fun s wr=>s= .bool (m1 == 2 && m2 == 0)∧(w.alloc (.cells #[.int .i64 2,.slice a1 m1 c1,.slice a2 m2 c2] 41))=wr)
 case first=>
  by_cases h1:m1=2
  ·have h1i:((m1:Int) == 2)=true:=by rw[h1];rfl
   by_cases h2:m2=0
   ·have h2i:((m2:Int) == 0)=true:=by rw[h2];rfl
    have hr:Hid ((m1 == 2 && m2 == 0)=true):=Lib.hid (by rw[h1,h2];rfl)
    clear h1 h2
    go_wp2_with fail
    go_meet
    case rel=>exact⟨by rw[hr.out],rfl⟩
   ·have h2i:((m2:Int) == 0)=false:=by rw[Bool.eq_false_iff];simp only[ne_eq,beq_iff_eq];omega
    have hr:Hid ((m1 == 2 && m2 == 0)=false):=Lib.hid (by rw[beq_eq_false_iff_ne.2 h2,Bool.and_false])
    clear h1 h2
    go_wp2_with fail
    go_meet
    case rel=>exact⟨by rw[hr.out],rfl⟩
  ·have h1i:((m1:Int) == 2)=false:=by rw[Bool.eq_false_iff];simp only[ne_eq,beq_iff_eq];omega
   have hr:Hid ((m1 == 2 && m2 == 0)=false):=Lib.hid (by rw[beq_eq_false_iff_ne.2 h1];rfl)
   clear h1
   go_wp2_with fail
   go_meet
   case rel=>exact⟨by rw[hr.out],rfl⟩
 case rest=>
 obtain⟨rfl,rfl⟩:=hcut
 generalize (m1 == 2 && m2 == 0)=ok0 at*
 go_wp2_with fail
 go_loopw [3,4] (fun s i wr=>∃(j:Nat) (z:Bool),j≤m2∧i= .int .i64 j∧s= .bool z∧Hid (z=(ok0 && (ys.take j).all p))∧Hid (Below (w.alloc (.cells #[.int .i64 2,.slice a1 m1 c1,.slice a2 m2 c2] 41)).heap.size (w.alloc (.cells #[.int .i64 2,.slice a1 m1 c1,.slice a2 m2 c2] 41)) wr)) (fun _ i _=>m2 - (intOf i).toNat)
 case atStart=>exact⟨0,ok0,Nat.zero_le _,rfl,rfl,Lib.hid (by simp),Below.refl _ _⟩
 case round=>
  obtain⟨j,z,hj,rfl,rfl,hz,hb⟩:=hrel
  obtain⟨wo,rfl⟩:∃wo:World,wo=wr:=⟨_,rfl⟩
  have HWO:=Lib.hid (HA.out.trans (hb.out.mono HA.out.size))
  have k1:=HC1.out _ hb.out
  have k2:=HC2.out _ hb.out
  cases z with
  | false=>
    have hr:Hid ((ok0 && ys.all p && z1)=false):=Lib.hid (by
     have h:=hz.out.symm
     rcases Bool.and_eq_false_iff.1 h with h | h
     ·first | rw[h] | skip
      rfl
     ·rw[all_false_of_take h];simp)
    by_cases hlt:j<m2
    ·have hji:decide ((j:Int)<(m2:Int))=true:=decide_eq_true (by omega)
     go_wp2_with fail
     go_ret
     exact⟨by rw[hr.out];rfl,HWO.out⟩
    ·have hji:decide (j<m2)=false:=decide_eq_false hlt
     go_wp2_with fail
     go_ret
     exact⟨by rw[hr.out];rfl,HWO.out⟩
  | true=>
    by_cases hlt:j<m2
    ·have hlx:j<ys.length:=by rw[HM.out];exact hlt
     have hji:(j:Int)<(m2:Int):=by omega
     obtain⟨b,off,cs,rfl,hbl,hc,hr⟩:=(HS.out.below HWO.out HWO.out.size).2 j hlx
     have hlen:=(condSh n).len hr
     rw[condSh_k n]at hlen hc
     have HC0:Hid (∀i v,cs[i]? =some v→wo.cell? ((⟨b,off+j*3,none⟩:Addr).add i)=some v):=fun i v hv=>by
      rw[show(⟨b,off+j*3,none⟩:Addr).add i=⟨b,off+j*3+i,none⟩ by unfold Addr.add;split<;>simp_all]
      exact hc i v hv
     have HC:=Lib.hid (HF.out _ ys[j] _ HWO.out hr)
     have HL:=Lib.hid hlen
     have HN:Hid (p ys[j]=(ok0 && (ys.take (j+1)).all p)):=Lib.hid (by
      have h:=hz.out
      rw[all_take hlx,←Bool.and_assoc,←h];simp)
     clear hc hr hlen hz
     generalize p ys[j]=y at HC HN
     go_wp2_with (refine wpList_load_w rfl 41 _ rfl ⟨b,off+j*3,none⟩ rfl cs _ HC0.out Tryz.underlying41 rfl (by rw[HL.out];kernel_rfl) ?_)
     refine HC.out.mono ?_
     rintro e w2 ⟨rfl,hb2⟩
     have HB2:=Lib.hid (hb.out.trans (hb2.mono hb.out.size))
     clear hb2 HC HC0
     go_wp2_with fail
     go_roundw
     case rel=>exact⟨j+1,y,by omega,by go_num,rfl,HN,HB2⟩
     case measure=>simp[intOf];omega
    ·have hr:Hid ((ok0 && ys.all p && z1)=z1):=Lib.hid (by
      have h:=hz.out
      rw[show j=ys.length by rw[HM.out];omega,List.take_length]at h
      rw[←h];rfl)
     obtain rfl:j=m2:=by omega
     clear hz
     go_wp2_with fail
     refine(X.out.at HWO.out).mono ?_
     rintro e w2 ⟨rfl,hb2⟩
     have HB2:=Lib.hid (HWO.out.trans (hb2.mono HWO.out.size))
     clear hb2
     go_wp2_with fail
     go_ret
     exact⟨by rw[hr.out];rfl,HB2.out⟩
theorem rcond_3 (n:Nat)(p:CT→Bool)(a1 a2:Option Addr)(m1 c1 m2 c2:Nat)(ys:List CT)(z1:Bool)(w:World)(hm:ys.length=m2)(hs:Pak.Sits (condSh n) (Pak.Lo w.heap.size) w a2 ys)
 (hf:∀cs x W,Below w.heap.size w W→(condSh n).rel (Pak.Lo W.heap.size) W cs x→Calls Tryz.prog 91 #[.agg cs.toArray] W (SoundEnd (p x) W)) (hx:BoolAll 124 #[.slice a1 m1 c1] z1 w):
 Calls Tryz.prog 91 #[.agg #[.int .i64 3,.slice a1 m1 c1,.slice a2 m2 c2]] w (SoundEnd ((m1 == 2 && m2 == 0) && ys.all p && z1) w):=by
 have HA:Hid (Below w.heap.size w (w.alloc (.cells #[.int .i64 3,.slice a1 m1 c1,.slice a2 m2 c2] 41))):=box_low
 have HS:=Lib.hid hs
 have HF:=Lib.hid hf
 have HM:=Lib.hid hm
 have hmm:m2≤9223372036854775807:=by rw[←hm];exact hs.1
 have X:=Lib.hid hx
 have HC1:Hid (∀W,Below (w.alloc (.cells #[.int .i64 3,.slice a1 m1 c1,.slice a2 m2 c2] 41)).heap.size (w.alloc (.cells #[.int .i64 3,.slice a1 m1 c1,.slice a2 m2 c2] 41)) W→W.cell? ⟨w.heap.size,1,none⟩=some (.slice a1 m1 c1)):=fun W hb=>box_at (cs:=[.int .i64 3,.slice a1 m1 c1,.slice a2 m2 c2]) rfl hb
 have HC2:Hid (∀W,Below (w.alloc (.cells #[.int .i64 3,.slice a1 m1 c1,.slice a2 m2 c2] 41)).heap.size (w.alloc (.cells #[.int .i64 3,.slice a1 m1 c1,.slice a2 m2 c2] 41)) W→W.cell? ⟨w.heap.size,2,none⟩=some (.slice a2 m2 c2)):=fun W hb=>box_at (cs:=[.int .i64 3,.slice a1 m1 c1,.slice a2 m2 c2]) rfl hb
 clear hs hf hm hx
 go_enter Tryz.func91,Tryz.ntmps91
 go_upto_block 0 with fail
 go_cut [3] (fun s wr=>s= .bool (m1 == 2 && m2 == 0)∧(w.alloc (.cells #[.int .i64 3,.slice a1 m1 c1,.slice a2 m2 c2] 41))=wr)
 case first=>
  by_cases h1:m1=2
  ·have h1i:((m1:Int) == 2)=true:=by rw[h1];rfl
   by_cases h2:m2=0
   ·have h2i:((m2:Int) == 0)=true:=by rw[h2];rfl
    have hr:Hid ((m1 == 2 && m2 == 0)=true):=Lib.hid (by rw[h1,h2];rfl)
    clear h1 h2
    go_wp2_with fail
    go_meet
    case rel=>exact⟨by rw[hr.out],rfl⟩
   ·have h2i:((m2:Int) == 0)=false:=by rw[Bool.eq_false_iff];simp only[ne_eq,beq_iff_eq];omega
    have hr:Hid ((m1 == 2 && m2 == 0)=false):=Lib.hid (by rw[beq_eq_false_iff_ne.2 h2,Bool.and_false])
    clear h1 h2
    go_wp2_with fail
    go_meet
    case rel=>exact⟨by rw[hr.out],rfl⟩
  ·have h1i:((m1:Int) == 2)=false:=by rw[Bool.eq_false_iff];simp only[ne_eq,beq_iff_eq];omega
   have hr:Hid ((m1 == 2 && m2 == 0)=false):=Lib.hid (by rw[beq_eq_false_iff_ne.2 h1];rfl)
   clear h1
   go_wp2_with fail
   go_meet
   case rel=>exact⟨by rw[hr.out],rfl⟩
 case rest=>
 obtain⟨rfl,rfl⟩:=hcut
 generalize (m1 == 2 && m2 == 0)=ok0 at*
 go_wp2_with fail
 go_loopw [3,4] (fun s i wr=>∃(j:Nat) (z:Bool),j≤m2∧i= .int .i64 j∧s= .bool z∧Hid (z=(ok0 && (ys.take j).all p))∧Hid (Below (w.alloc (.cells #[.int .i64 3,.slice a1 m1 c1,.slice a2 m2 c2] 41)).heap.size (w.alloc (.cells #[.int .i64 3,.slice a1 m1 c1,.slice a2 m2 c2] 41)) wr)) (fun _ i _=>m2 - (intOf i).toNat)
 case atStart=>exact⟨0,ok0,Nat.zero_le _,rfl,rfl,Lib.hid (by simp),Below.refl _ _⟩
 case round=>
  obtain⟨j,z,hj,rfl,rfl,hz,hb⟩:=hrel
  obtain⟨wo,rfl⟩:∃wo:World,wo=wr:=⟨_,rfl⟩
  have HWO:=Lib.hid (HA.out.trans (hb.out.mono HA.out.size))
  have k1:=HC1.out _ hb.out
  have k2:=HC2.out _ hb.out
  cases z with
  | false=>
    have hr:Hid ((ok0 && ys.all p && z1)=false):=Lib.hid (by
     have h:=hz.out.symm
     rcases Bool.and_eq_false_iff.1 h with h | h
     ·first | rw[h] | skip
      rfl
     ·rw[all_false_of_take h];simp)
    by_cases hlt:j<m2
    ·have hji:decide ((j:Int)<(m2:Int))=true:=decide_eq_true (by omega)
     go_wp2_with fail
     go_ret
     exact⟨by rw[hr.out];rfl,HWO.out⟩
    ·have hji:decide (j<m2)=false:=decide_eq_false hlt
     go_wp2_with fail
     go_ret
     exact⟨by rw[hr.out];rfl,HWO.out⟩
  | true=>
    by_cases hlt:j<m2
    ·have hlx:j<ys.length:=by rw[HM.out];exact hlt
     have hji:(j:Int)<(m2:Int):=by omega
     obtain⟨b,off,cs,rfl,hbl,hc,hr⟩:=(HS.out.below HWO.out HWO.out.size).2 j hlx
     have hlen:=(condSh n).len hr
     rw[condSh_k n]at hlen hc
     have HC0:Hid (∀i v,cs[i]? =some v→wo.cell? ((⟨b,off+j*3,none⟩:Addr).add i)=some v):=fun i v hv=>by
      rw[show(⟨b,off+j*3,none⟩:Addr).add i=⟨b,off+j*3+i,none⟩ by unfold Addr.add;split<;>simp_all]
      exact hc i v hv
     have HC:=Lib.hid (HF.out _ ys[j] _ HWO.out hr)
     have HL:=Lib.hid hlen
     have HN:Hid (p ys[j]=(ok0 && (ys.take (j+1)).all p)):=Lib.hid (by
      have h:=hz.out
      rw[all_take hlx,←Bool.and_assoc,←h];simp)
     clear hc hr hlen hz
     generalize p ys[j]=y at HC HN
     go_wp2_with (refine wpList_load_w rfl 41 _ rfl ⟨b,off+j*3,none⟩ rfl cs _ HC0.out Tryz.underlying41 rfl (by rw[HL.out];kernel_rfl) ?_)
     refine HC.out.mono ?_
     rintro e w2 ⟨rfl,hb2⟩
     have HB2:=Lib.hid (hb.out.trans (hb2.mono hb.out.size))
     clear hb2 HC HC0
     go_wp2_with fail
     go_roundw
     case rel=>exact⟨j+1,y,by omega,by go_num,rfl,HN,HB2⟩
     case measure=>simp[intOf];omega
    ·have hr:Hid ((ok0 && ys.all p && z1)=z1):=Lib.hid (by
      have h:=hz.out
      rw[show j=ys.length by rw[HM.out];omega,List.take_length]at h
      rw[←h];rfl)
     obtain rfl:j=m2:=by omega
     clear hz
     go_wp2_with fail
     refine(X.out.at HWO.out).mono ?_
     rintro e w2 ⟨rfl,hb2⟩
     have HB2:=Lib.hid (HWO.out.trans (hb2.mono HWO.out.size))
     clear hb2
     go_wp2_with fail
     go_ret
     exact⟨by rw[hr.out];rfl,HB2.out⟩
theorem rcond_4 (n:Nat)(p:CT→Bool)(a1 a2:Option Addr)(m1 c1 m2 c2:Nat)(ys:List CT)(z1:Bool)(w:World)(hm:ys.length=m2)(hs:Pak.Sits (condSh n) (Pak.Lo w.heap.size) w a2 ys)
 (hf:∀cs x W,Below w.heap.size w W→(condSh n).rel (Pak.Lo W.heap.size) W cs x→Calls Tryz.prog 91 #[.agg cs.toArray] W (SoundEnd (p x) W)) (hx:BoolAll 124 #[.slice a1 m1 c1] z1 w):
 Calls Tryz.prog 91 #[.agg #[.int .i64 4,.slice a1 m1 c1,.slice a2 m2 c2]] w (SoundEnd ((m1 == 2 && m2 == 0) && ys.all p && z1) w):=by
 have HA:Hid (Below w.heap.size w (w.alloc (.cells #[.int .i64 4,.slice a1 m1 c1,.slice a2 m2 c2] 41))):=box_low
 have HS:=Lib.hid hs
 have HF:=Lib.hid hf
 have HM:=Lib.hid hm
 have hmm:m2≤9223372036854775807:=by rw[←hm];exact hs.1
 have X:=Lib.hid hx
 have HC1:Hid (∀W,Below (w.alloc (.cells #[.int .i64 4,.slice a1 m1 c1,.slice a2 m2 c2] 41)).heap.size (w.alloc (.cells #[.int .i64 4,.slice a1 m1 c1,.slice a2 m2 c2] 41)) W→W.cell? ⟨w.heap.size,1,none⟩=some (.slice a1 m1 c1)):=fun W hb=>box_at (cs:=[.int .i64 4,.slice a1 m1 c1,.slice a2 m2 c2]) rfl hb
 have HC2:Hid (∀W,Below (w.alloc (.cells #[.int .i64 4,.slice a1 m1 c1,.slice a2 m2 c2] 41)).heap.size (w.alloc (.cells #[.int .i64 4,.slice a1 m1 c1,.slice a2 m2 c2] 41)) W→W.cell? ⟨w.heap.size,2,none⟩=some (.slice a2 m2 c2)):=fun W hb=>box_at (cs:=[.int .i64 4,.slice a1 m1 c1,.slice a2 m2 c2]) rfl hb
 clear hs hf hm hx
 go_enter Tryz.func91,Tryz.ntmps91
 go_upto_block 0 with fail
 go_cut [3] (fun s wr=>s= .bool (m1 == 2 && m2 == 0)∧(w.alloc (.cells #[.int .i64 4,.slice a1 m1 c1,.slice a2 m2 c2] 41))=wr)
 case first=>
  by_cases h1:m1=2
  ·have h1i:((m1:Int) == 2)=true:=by rw[h1];rfl
   by_cases h2:m2=0
   ·have h2i:((m2:Int) == 0)=true:=by rw[h2];rfl
    have hr:Hid ((m1 == 2 && m2 == 0)=true):=Lib.hid (by rw[h1,h2];rfl)
    clear h1 h2
    go_wp2_with fail
    go_meet
    case rel=>exact⟨by rw[hr.out],rfl⟩
   ·have h2i:((m2:Int) == 0)=false:=by rw[Bool.eq_false_iff];simp only[ne_eq,beq_iff_eq];omega
    have hr:Hid ((m1 == 2 && m2 == 0)=false):=Lib.hid (by rw[beq_eq_false_iff_ne.2 h2,Bool.and_false])
    clear h1 h2
    go_wp2_with fail
    go_meet
    case rel=>exact⟨by rw[hr.out],rfl⟩
  ·have h1i:((m1:Int) == 2)=false:=by rw[Bool.eq_false_iff];simp only[ne_eq,beq_iff_eq];omega
   have hr:Hid ((m1 == 2 && m2 == 0)=false):=Lib.hid (by rw[beq_eq_false_iff_ne.2 h1];rfl)
   clear h1
   go_wp2_with fail
   go_meet
   case rel=>exact⟨by rw[hr.out],rfl⟩
 case rest=>
 obtain⟨rfl,rfl⟩:=hcut
 generalize (m1 == 2 && m2 == 0)=ok0 at*
 go_wp2_with fail
 go_loopw [3,4] (fun s i wr=>∃(j:Nat) (z:Bool),j≤m2∧i= .int .i64 j∧s= .bool z∧Hid (z=(ok0 && (ys.take j).all p))∧Hid (Below (w.alloc (.cells #[.int .i64 4,.slice a1 m1 c1,.slice a2 m2 c2] 41)).heap.size (w.alloc (.cells #[.int .i64 4,.slice a1 m1 c1,.slice a2 m2 c2] 41)) wr)) (fun _ i _=>m2 - (intOf i).toNat)
 case atStart=>exact⟨0,ok0,Nat.zero_le _,rfl,rfl,Lib.hid (by simp),Below.refl _ _⟩
 case round=>
  obtain⟨j,z,hj,rfl,rfl,hz,hb⟩:=hrel
  obtain⟨wo,rfl⟩:∃wo:World,wo=wr:=⟨_,rfl⟩
  have HWO:=Lib.hid (HA.out.trans (hb.out.mono HA.out.size))
  have k1:=HC1.out _ hb.out
  have k2:=HC2.out _ hb.out
  cases z with
  | false=>
    have hr:Hid ((ok0 && ys.all p && z1)=false):=Lib.hid (by
     have h:=hz.out.symm
     rcases Bool.and_eq_false_iff.1 h with h | h
     ·first | rw[h] | skip
      rfl
     ·rw[all_false_of_take h];simp)
    by_cases hlt:j<m2
    ·have hji:decide ((j:Int)<(m2:Int))=true:=decide_eq_true (by omega)
     go_wp2_with fail
     go_ret
     exact⟨by rw[hr.out];rfl,HWO.out⟩
    ·have hji:decide (j<m2)=false:=decide_eq_false hlt
     go_wp2_with fail
     go_ret
     exact⟨by rw[hr.out];rfl,HWO.out⟩
  | true=>
    by_cases hlt:j<m2
    ·have hlx:j<ys.length:=by rw[HM.out];exact hlt
     have hji:(j:Int)<(m2:Int):=by omega
     obtain⟨b,off,cs,rfl,hbl,hc,hr⟩:=(HS.out.below HWO.out HWO.out.size).2 j hlx
     have hlen:=(condSh n).len hr
     rw[condSh_k n]at hlen hc
     have HC0:Hid (∀i v,cs[i]? =some v→wo.cell? ((⟨b,off+j*3,none⟩:Addr).add i)=some v):=fun i v hv=>by
      rw[show(⟨b,off+j*3,none⟩:Addr).add i=⟨b,off+j*3+i,none⟩ by unfold Addr.add;split<;>simp_all]
      exact hc i v hv
     have HC:=Lib.hid (HF.out _ ys[j] _ HWO.out hr)
     have HL:=Lib.hid hlen
     have HN:Hid (p ys[j]=(ok0 && (ys.take (j+1)).all p)):=Lib.hid (by
      have h:=hz.out
      rw[all_take hlx,←Bool.and_assoc,←h];simp)
     clear hc hr hlen hz
     generalize p ys[j]=y at HC HN
     go_wp2_with (refine wpList_load_w rfl 41 _ rfl ⟨b,off+j*3,none⟩ rfl cs _ HC0.out Tryz.underlying41 rfl (by rw[HL.out];kernel_rfl) ?_)
     refine HC.out.mono ?_
     rintro e w2 ⟨rfl,hb2⟩
     have HB2:=Lib.hid (hb.out.trans (hb2.mono hb.out.size))
     clear hb2 HC HC0
     go_wp2_with fail
     go_roundw
     case rel=>exact⟨j+1,y,by omega,by go_num,rfl,HN,HB2⟩
     case measure=>simp[intOf];omega
    ·have hr:Hid ((ok0 && ys.all p && z1)=z1):=Lib.hid (by
      have h:=hz.out
      rw[show j=ys.length by rw[HM.out];omega,List.take_length]at h
      rw[←h];rfl)
     obtain rfl:j=m2:=by omega
     clear hz
     go_wp2_with fail
     refine(X.out.at HWO.out).mono ?_
     rintro e w2 ⟨rfl,hb2⟩
     have HB2:=Lib.hid (HWO.out.trans (hb2.mono HWO.out.size))
     clear hb2
     go_wp2_with fail
     go_ret
     exact⟨by rw[hr.out];rfl,HB2.out⟩
theorem rcond_5 (n:Nat)(p:CT→Bool)(a1 a2:Option Addr)(m1 c1 m2 c2:Nat)(ys:List CT)(z1:Bool)(w:World)(hm:ys.length=m2)(hs:Pak.Sits (condSh n) (Pak.Lo w.heap.size) w a2 ys)
 (hf:∀cs x W,Below w.heap.size w W→(condSh n).rel (Pak.Lo W.heap.size) W cs x→Calls Tryz.prog 91 #[.agg cs.toArray] W (SoundEnd (p x) W)) (hx:BoolAll 124 #[.slice a1 m1 c1] z1 w):
 Calls Tryz.prog 91 #[.agg #[.int .i64 5,.slice a1 m1 c1,.slice a2 m2 c2]] w (SoundEnd ((m1 == 2 && m2 == 0) && ys.all p && z1) w):=by
 have HA:Hid (Below w.heap.size w (w.alloc (.cells #[.int .i64 5,.slice a1 m1 c1,.slice a2 m2 c2] 41))):=box_low
 have HS:=Lib.hid hs
 have HF:=Lib.hid hf
 have HM:=Lib.hid hm
 have hmm:m2≤9223372036854775807:=by rw[←hm];exact hs.1
 have X:=Lib.hid hx
 have HC1:Hid (∀W,Below (w.alloc (.cells #[.int .i64 5,.slice a1 m1 c1,.slice a2 m2 c2] 41)).heap.size (w.alloc (.cells #[.int .i64 5,.slice a1 m1 c1,.slice a2 m2 c2] 41)) W→W.cell? ⟨w.heap.size,1,none⟩=some (.slice a1 m1 c1)):=fun W hb=>box_at (cs:=[.int .i64 5,.slice a1 m1 c1,.slice a2 m2 c2]) rfl hb
 have HC2:Hid (∀W,Below (w.alloc (.cells #[.int .i64 5,.slice a1 m1 c1,.slice a2 m2 c2] 41)).heap.size (w.alloc (.cells #[.int .i64 5,.slice a1 m1 c1,.slice a2 m2 c2] 41)) W→W.cell? ⟨w.heap.size,2,none⟩=some (.slice a2 m2 c2)):=fun W hb=>box_at (cs:=[.int .i64 5,.slice a1 m1 c1,.slice a2 m2 c2]) rfl hb
 clear hs hf hm hx
 go_enter Tryz.func91,Tryz.ntmps91
 go_upto_block 0 with fail
 go_cut [3] (fun s wr=>s= .bool (m1 == 2 && m2 == 0)∧(w.alloc (.cells #[.int .i64 5,.slice a1 m1 c1,.slice a2 m2 c2] 41))=wr)
 case first=>
  by_cases h1:m1=2
  ·have h1i:((m1:Int) == 2)=true:=by rw[h1];rfl
   by_cases h2:m2=0
   ·have h2i:((m2:Int) == 0)=true:=by rw[h2];rfl
    have hr:Hid ((m1 == 2 && m2 == 0)=true):=Lib.hid (by rw[h1,h2];rfl)
    clear h1 h2
    go_wp2_with fail
    go_meet
    case rel=>exact⟨by rw[hr.out],rfl⟩
   ·have h2i:((m2:Int) == 0)=false:=by rw[Bool.eq_false_iff];simp only[ne_eq,beq_iff_eq];omega
    have hr:Hid ((m1 == 2 && m2 == 0)=false):=Lib.hid (by rw[beq_eq_false_iff_ne.2 h2,Bool.and_false])
    clear h1 h2
    go_wp2_with fail
    go_meet
    case rel=>exact⟨by rw[hr.out],rfl⟩
  ·have h1i:((m1:Int) == 2)=false:=by rw[Bool.eq_false_iff];simp only[ne_eq,beq_iff_eq];omega
   have hr:Hid ((m1 == 2 && m2 == 0)=false):=Lib.hid (by rw[beq_eq_false_iff_ne.2 h1];rfl)
   clear h1
   go_wp2_with fail
   go_meet
   case rel=>exact⟨by rw[hr.out],rfl⟩
 case rest=>
 obtain⟨rfl,rfl⟩:=hcut
 generalize (m1 == 2 && m2 == 0)=ok0 at*
 go_wp2_with fail
 go_loopw [3,4] (fun s i wr=>∃(j:Nat) (z:Bool),j≤m2∧i= .int .i64 j∧s= .bool z∧Hid (z=(ok0 && (ys.take j).all p))∧Hid (Below (w.alloc (.cells #[.int .i64 5,.slice a1 m1 c1,.slice a2 m2 c2] 41)).heap.size (w.alloc (.cells #[.int .i64 5,.slice a1 m1 c1,.slice a2 m2 c2] 41)) wr)) (fun _ i _=>m2 - (intOf i).toNat)
 case atStart=>exact⟨0,ok0,Nat.zero_le _,rfl,rfl,Lib.hid (by simp),Below.refl _ _⟩
 case round=>
  obtain⟨j,z,hj,rfl,rfl,hz,hb⟩:=hrel
  obtain⟨wo,rfl⟩:∃wo:World,wo=wr:=⟨_,rfl⟩
  have HWO:=Lib.hid (HA.out.trans (hb.out.mono HA.out.size))
  have k1:=HC1.out _ hb.out
  have k2:=HC2.out _ hb.out
  cases z with
  | false=>
    have hr:Hid ((ok0 && ys.all p && z1)=false):=Lib.hid (by
     have h:=hz.out.symm
     rcases Bool.and_eq_false_iff.1 h with h | h
     ·first | rw[h] | skip
      rfl
     ·rw[all_false_of_take h];simp)
    by_cases hlt:j<m2
    ·have hji:decide ((j:Int)<(m2:Int))=true:=decide_eq_true (by omega)
     go_wp2_with fail
     go_ret
     exact⟨by rw[hr.out];rfl,HWO.out⟩
    ·have hji:decide (j<m2)=false:=decide_eq_false hlt
     go_wp2_with fail
     go_ret
     exact⟨by rw[hr.out];rfl,HWO.out⟩
  | true=>
    by_cases hlt:j<m2
    ·have hlx:j<ys.length:=by rw[HM.out];exact hlt
     have hji:(j:Int)<(m2:Int):=by omega
     obtain⟨b,off,cs,rfl,hbl,hc,hr⟩:=(HS.out.below HWO.out HWO.out.size).2 j hlx
     have hlen:=(condSh n).len hr
     rw[condSh_k n]at hlen hc
     have HC0:Hid (∀i v,cs[i]? =some v→wo.cell? ((⟨b,off+j*3,none⟩:Addr).add i)=some v):=fun i v hv=>by
      rw[show(⟨b,off+j*3,none⟩:Addr).add i=⟨b,off+j*3+i,none⟩ by unfold Addr.add;split<;>simp_all]
      exact hc i v hv
     have HC:=Lib.hid (HF.out _ ys[j] _ HWO.out hr)
     have HL:=Lib.hid hlen
     have HN:Hid (p ys[j]=(ok0 && (ys.take (j+1)).all p)):=Lib.hid (by
      have h:=hz.out
      rw[all_take hlx,←Bool.and_assoc,←h];simp)
     clear hc hr hlen hz
     generalize p ys[j]=y at HC HN
     go_wp2_with (refine wpList_load_w rfl 41 _ rfl ⟨b,off+j*3,none⟩ rfl cs _ HC0.out Tryz.underlying41 rfl (by rw[HL.out];kernel_rfl) ?_)
     refine HC.out.mono ?_
     rintro e w2 ⟨rfl,hb2⟩
     have HB2:=Lib.hid (hb.out.trans (hb2.mono hb.out.size))
     clear hb2 HC HC0
     go_wp2_with fail
     go_roundw
     case rel=>exact⟨j+1,y,by omega,by go_num,rfl,HN,HB2⟩
     case measure=>simp[intOf];omega
    ·have hr:Hid ((ok0 && ys.all p && z1)=z1):=Lib.hid (by
      have h:=hz.out
      rw[show j=ys.length by rw[HM.out];omega,List.take_length]at h
      rw[←h];rfl)
     obtain rfl:j=m2:=by omega
     clear hz
     go_wp2_with fail
     refine(X.out.at HWO.out).mono ?_
     rintro e w2 ⟨rfl,hb2⟩
     have HB2:=Lib.hid (HWO.out.trans (hb2.mono HWO.out.size))
     clear hb2
     go_wp2_with fail
     go_ret
     exact⟨by rw[hr.out];rfl,HB2.out⟩
theorem rcond_6 (n:Nat)(p:CT→Bool)(a1 a2:Option Addr)(m1 c1 m2 c2:Nat)(ys:List CT)(z1:Bool)(w:World)(hm:ys.length=m2)(hs:Pak.Sits (condSh n) (Pak.Lo w.heap.size) w a2 ys)
 (hf:∀cs x W,Below w.heap.size w W→(condSh n).rel (Pak.Lo W.heap.size) W cs x→Calls Tryz.prog 91 #[.agg cs.toArray] W (SoundEnd (p x) W)) (hx:BoolAll 124 #[.slice a1 m1 c1] z1 w):
 Calls Tryz.prog 91 #[.agg #[.int .i64 6,.slice a1 m1 c1,.slice a2 m2 c2]] w (SoundEnd ((m1 == 0 && m2 == 1) && ys.all p && z1) w):=by
 have HA:Hid (Below w.heap.size w (w.alloc (.cells #[.int .i64 6,.slice a1 m1 c1,.slice a2 m2 c2] 41))):=box_low
 have HS:=Lib.hid hs
 have HF:=Lib.hid hf
 have HM:=Lib.hid hm
 have hmm:m2≤9223372036854775807:=by rw[←hm];exact hs.1
 have X:=Lib.hid hx
 have HC1:Hid (∀W,Below (w.alloc (.cells #[.int .i64 6,.slice a1 m1 c1,.slice a2 m2 c2] 41)).heap.size (w.alloc (.cells #[.int .i64 6,.slice a1 m1 c1,.slice a2 m2 c2] 41)) W→W.cell? ⟨w.heap.size,1,none⟩=some (.slice a1 m1 c1)):=fun W hb=>box_at (cs:=[.int .i64 6,.slice a1 m1 c1,.slice a2 m2 c2]) rfl hb
 have HC2:Hid (∀W,Below (w.alloc (.cells #[.int .i64 6,.slice a1 m1 c1,.slice a2 m2 c2] 41)).heap.size (w.alloc (.cells #[.int .i64 6,.slice a1 m1 c1,.slice a2 m2 c2] 41)) W→W.cell? ⟨w.heap.size,2,none⟩=some (.slice a2 m2 c2)):=fun W hb=>box_at (cs:=[.int .i64 6,.slice a1 m1 c1,.slice a2 m2 c2]) rfl hb
 clear hs hf hm hx
 go_enter Tryz.func91,Tryz.ntmps91
 go_upto_block 0 with fail
 go_cut [3] (fun s wr=>s= .bool (m1 == 0 && m2 == 1)∧(w.alloc (.cells #[.int .i64 6,.slice a1 m1 c1,.slice a2 m2 c2] 41))=wr)
 case first=>
  by_cases h1:m1=0
  ·have h1i:((m1:Int) == 0)=true:=by rw[h1];rfl
   by_cases h2:m2=1
   ·have h2i:((m2:Int) == 1)=true:=by rw[h2];rfl
    have hr:Hid ((m1 == 0 && m2 == 1)=true):=Lib.hid (by rw[h1,h2];rfl)
    clear h1 h2
    go_wp2_with fail
    go_meet
    case rel=>exact⟨by rw[hr.out],rfl⟩
   ·have h2i:((m2:Int) == 1)=false:=by rw[Bool.eq_false_iff];simp only[ne_eq,beq_iff_eq];omega
    have hr:Hid ((m1 == 0 && m2 == 1)=false):=Lib.hid (by rw[beq_eq_false_iff_ne.2 h2,Bool.and_false])
    clear h1 h2
    go_wp2_with fail
    go_meet
    case rel=>exact⟨by rw[hr.out],rfl⟩
  ·have h1i:((m1:Int) == 0)=false:=by rw[Bool.eq_false_iff];simp only[ne_eq,beq_iff_eq];omega
   have hr:Hid ((m1 == 0 && m2 == 1)=false):=Lib.hid (by rw[beq_eq_false_iff_ne.2 h1];rfl)
   clear h1
   go_wp2_with fail
   go_meet
   case rel=>exact⟨by rw[hr.out],rfl⟩
 case rest=>
 obtain⟨rfl,rfl⟩:=hcut
 generalize (m1 == 0 && m2 == 1)=ok0 at*
 go_wp2_with fail
 go_loopw [3,4] (fun s i wr=>∃(j:Nat) (z:Bool),j≤m2∧i= .int .i64 j∧s= .bool z∧Hid (z=(ok0 && (ys.take j).all p))∧Hid (Below (w.alloc (.cells #[.int .i64 6,.slice a1 m1 c1,.slice a2 m2 c2] 41)).heap.size (w.alloc (.cells #[.int .i64 6,.slice a1 m1 c1,.slice a2 m2 c2] 41)) wr)) (fun _ i _=>m2 - (intOf i).toNat)
 case atStart=>exact⟨0,ok0,Nat.zero_le _,rfl,rfl,Lib.hid (by simp),Below.refl _ _⟩
 case round=>
  obtain⟨j,z,hj,rfl,rfl,hz,hb⟩:=hrel
  obtain⟨wo,rfl⟩:∃wo:World,wo=wr:=⟨_,rfl⟩
  have HWO:=Lib.hid (HA.out.trans (hb.out.mono HA.out.size))
  have k1:=HC1.out _ hb.out
  have k2:=HC2.out _ hb.out
  cases z with
  | false=>
    have hr:Hid ((ok0 && ys.all p && z1)=false):=Lib.hid (by
     have h:=hz.out.symm
     rcases Bool.and_eq_false_iff.1 h with h | h
     ·first | rw[h] | skip
      rfl
     ·rw[all_false_of_take h];simp)
    by_cases hlt:j<m2
    ·have hji:decide ((j:Int)<(m2:Int))=true:=decide_eq_true (by omega)
     go_wp2_with fail
     go_ret
     exact⟨by rw[hr.out];rfl,HWO.out⟩
    ·have hji:decide (j<m2)=false:=decide_eq_false hlt
     go_wp2_with fail
     go_ret
     exact⟨by rw[hr.out];rfl,HWO.out⟩
  | true=>
    by_cases hlt:j<m2
    ·have hlx:j<ys.length:=by rw[HM.out];exact hlt
     have hji:(j:Int)<(m2:Int):=by omega
     obtain⟨b,off,cs,rfl,hbl,hc,hr⟩:=(HS.out.below HWO.out HWO.out.size).2 j hlx
     have hlen:=(condSh n).len hr
     rw[condSh_k n]at hlen hc
     have HC0:Hid (∀i v,cs[i]? =some v→wo.cell? ((⟨b,off+j*3,none⟩:Addr).add i)=some v):=fun i v hv=>by
      rw[show(⟨b,off+j*3,none⟩:Addr).add i=⟨b,off+j*3+i,none⟩ by unfold Addr.add;split<;>simp_all]
      exact hc i v hv
     have HC:=Lib.hid (HF.out _ ys[j] _ HWO.out hr)
     have HL:=Lib.hid hlen
     have HN:Hid (p ys[j]=(ok0 && (ys.take (j+1)).all p)):=Lib.hid (by
      have h:=hz.out
      rw[all_take hlx,←Bool.and_assoc,←h];simp)
     clear hc hr hlen hz
     generalize p ys[j]=y at HC HN
     go_wp2_with (refine wpList_load_w rfl 41 _ rfl ⟨b,off+j*3,none⟩ rfl cs _ HC0.out Tryz.underlying41 rfl (by rw[HL.out];kernel_rfl) ?_)
     refine HC.out.mono ?_
     rintro e w2 ⟨rfl,hb2⟩
     have HB2:=Lib.hid (hb.out.trans (hb2.mono hb.out.size))
     clear hb2 HC HC0
     go_wp2_with fail
     go_roundw
     case rel=>exact⟨j+1,y,by omega,by go_num,rfl,HN,HB2⟩
     case measure=>simp[intOf];omega
    ·have hr:Hid ((ok0 && ys.all p && z1)=z1):=Lib.hid (by
      have h:=hz.out
      rw[show j=ys.length by rw[HM.out];omega,List.take_length]at h
      rw[←h];rfl)
     obtain rfl:j=m2:=by omega
     clear hz
     go_wp2_with fail
     refine(X.out.at HWO.out).mono ?_
     rintro e w2 ⟨rfl,hb2⟩
     have HB2:=Lib.hid (HWO.out.trans (hb2.mono HWO.out.size))
     clear hb2
     go_wp2_with fail
     go_ret
     exact⟨by rw[hr.out];rfl,HB2.out⟩
theorem rcond_7 (n:Nat)(p:CT→Bool)(a1 a2:Option Addr)(m1 c1 m2 c2:Nat)(ys:List CT)(z1:Bool)(w:World)(hm:ys.length=m2)(hs:Pak.Sits (condSh n) (Pak.Lo w.heap.size) w a2 ys)
 (hf:∀cs x W,Below w.heap.size w W→(condSh n).rel (Pak.Lo W.heap.size) W cs x→Calls Tryz.prog 91 #[.agg cs.toArray] W (SoundEnd (p x) W)) (hx:BoolAll 124 #[.slice a1 m1 c1] z1 w):
 Calls Tryz.prog 91 #[.agg #[.int .i64 7,.slice a1 m1 c1,.slice a2 m2 c2]] w (SoundEnd ((m1 == 0 && m2 == 2) && ys.all p && z1) w):=by
 have HA:Hid (Below w.heap.size w (w.alloc (.cells #[.int .i64 7,.slice a1 m1 c1,.slice a2 m2 c2] 41))):=box_low
 have HS:=Lib.hid hs
 have HF:=Lib.hid hf
 have HM:=Lib.hid hm
 have hmm:m2≤9223372036854775807:=by rw[←hm];exact hs.1
 have X:=Lib.hid hx
 have HC1:Hid (∀W,Below (w.alloc (.cells #[.int .i64 7,.slice a1 m1 c1,.slice a2 m2 c2] 41)).heap.size (w.alloc (.cells #[.int .i64 7,.slice a1 m1 c1,.slice a2 m2 c2] 41)) W→W.cell? ⟨w.heap.size,1,none⟩=some (.slice a1 m1 c1)):=fun W hb=>box_at (cs:=[.int .i64 7,.slice a1 m1 c1,.slice a2 m2 c2]) rfl hb
 have HC2:Hid (∀W,Below (w.alloc (.cells #[.int .i64 7,.slice a1 m1 c1,.slice a2 m2 c2] 41)).heap.size (w.alloc (.cells #[.int .i64 7,.slice a1 m1 c1,.slice a2 m2 c2] 41)) W→W.cell? ⟨w.heap.size,2,none⟩=some (.slice a2 m2 c2)):=fun W hb=>box_at (cs:=[.int .i64 7,.slice a1 m1 c1,.slice a2 m2 c2]) rfl hb
 clear hs hf hm hx
 go_enter Tryz.func91,Tryz.ntmps91
 go_upto_block 0 with fail
 go_cut [3] (fun s wr=>s= .bool (m1 == 0 && m2 == 2)∧(w.alloc (.cells #[.int .i64 7,.slice a1 m1 c1,.slice a2 m2 c2] 41))=wr)
 case first=>
  by_cases h1:m1=0
  ·have h1i:((m1:Int) == 0)=true:=by rw[h1];rfl
   by_cases h2:m2=2
   ·have h2i:((m2:Int) == 2)=true:=by rw[h2];rfl
    have hr:Hid ((m1 == 0 && m2 == 2)=true):=Lib.hid (by rw[h1,h2];rfl)
    clear h1 h2
    go_wp2_with fail
    go_meet
    case rel=>exact⟨by rw[hr.out],rfl⟩
   ·have h2i:((m2:Int) == 2)=false:=by rw[Bool.eq_false_iff];simp only[ne_eq,beq_iff_eq];omega
    have hr:Hid ((m1 == 0 && m2 == 2)=false):=Lib.hid (by rw[beq_eq_false_iff_ne.2 h2,Bool.and_false])
    clear h1 h2
    go_wp2_with fail
    go_meet
    case rel=>exact⟨by rw[hr.out],rfl⟩
  ·have h1i:((m1:Int) == 0)=false:=by rw[Bool.eq_false_iff];simp only[ne_eq,beq_iff_eq];omega
   have hr:Hid ((m1 == 0 && m2 == 2)=false):=Lib.hid (by rw[beq_eq_false_iff_ne.2 h1];rfl)
   clear h1
   go_wp2_with fail
   go_meet
   case rel=>exact⟨by rw[hr.out],rfl⟩
 case rest=>
 obtain⟨rfl,rfl⟩:=hcut
 generalize (m1 == 0 && m2 == 2)=ok0 at*
 go_wp2_with fail
 go_loopw [3,4] (fun s i wr=>∃(j:Nat) (z:Bool),j≤m2∧i= .int .i64 j∧s= .bool z∧Hid (z=(ok0 && (ys.take j).all p))∧Hid (Below (w.alloc (.cells #[.int .i64 7,.slice a1 m1 c1,.slice a2 m2 c2] 41)).heap.size (w.alloc (.cells #[.int .i64 7,.slice a1 m1 c1,.slice a2 m2 c2] 41)) wr)) (fun _ i _=>m2 - (intOf i).toNat)
 case atStart=>exact⟨0,ok0,Nat.zero_le _,rfl,rfl,Lib.hid (by simp),Below.refl _ _⟩
 case round=>
  obtain⟨j,z,hj,rfl,rfl,hz,hb⟩:=hrel
  obtain⟨wo,rfl⟩:∃wo:World,wo=wr:=⟨_,rfl⟩
  have HWO:=Lib.hid (HA.out.trans (hb.out.mono HA.out.size))
  have k1:=HC1.out _ hb.out
  have k2:=HC2.out _ hb.out
  cases z with
  | false=>
    have hr:Hid ((ok0 && ys.all p && z1)=false):=Lib.hid (by
     have h:=hz.out.symm
     rcases Bool.and_eq_false_iff.1 h with h | h
     ·first | rw[h] | skip
      rfl
     ·rw[all_false_of_take h];simp)
    by_cases hlt:j<m2
    ·have hji:decide ((j:Int)<(m2:Int))=true:=decide_eq_true (by omega)
     go_wp2_with fail
     go_ret
     exact⟨by rw[hr.out];rfl,HWO.out⟩
    ·have hji:decide (j<m2)=false:=decide_eq_false hlt
     go_wp2_with fail
     go_ret
     exact⟨by rw[hr.out];rfl,HWO.out⟩
  | true=>
    by_cases hlt:j<m2
    ·have hlx:j<ys.length:=by rw[HM.out];exact hlt
     have hji:(j:Int)<(m2:Int):=by omega
     obtain⟨b,off,cs,rfl,hbl,hc,hr⟩:=(HS.out.below HWO.out HWO.out.size).2 j hlx
     have hlen:=(condSh n).len hr
     rw[condSh_k n]at hlen hc
     have HC0:Hid (∀i v,cs[i]? =some v→wo.cell? ((⟨b,off+j*3,none⟩:Addr).add i)=some v):=fun i v hv=>by
      rw[show(⟨b,off+j*3,none⟩:Addr).add i=⟨b,off+j*3+i,none⟩ by unfold Addr.add;split<;>simp_all]
      exact hc i v hv
     have HC:=Lib.hid (HF.out _ ys[j] _ HWO.out hr)
     have HL:=Lib.hid hlen
     have HN:Hid (p ys[j]=(ok0 && (ys.take (j+1)).all p)):=Lib.hid (by
      have h:=hz.out
      rw[all_take hlx,←Bool.and_assoc,←h];simp)
     clear hc hr hlen hz
     generalize p ys[j]=y at HC HN
     go_wp2_with (refine wpList_load_w rfl 41 _ rfl ⟨b,off+j*3,none⟩ rfl cs _ HC0.out Tryz.underlying41 rfl (by rw[HL.out];kernel_rfl) ?_)
     refine HC.out.mono ?_
     rintro e w2 ⟨rfl,hb2⟩
     have HB2:=Lib.hid (hb.out.trans (hb2.mono hb.out.size))
     clear hb2 HC HC0
     go_wp2_with fail
     go_roundw
     case rel=>exact⟨j+1,y,by omega,by go_num,rfl,HN,HB2⟩
     case measure=>simp[intOf];omega
    ·have hr:Hid ((ok0 && ys.all p && z1)=z1):=Lib.hid (by
      have h:=hz.out
      rw[show j=ys.length by rw[HM.out];omega,List.take_length]at h
      rw[←h];rfl)
     obtain rfl:j=m2:=by omega
     clear hz
     go_wp2_with fail
     refine(X.out.at HWO.out).mono ?_
     rintro e w2 ⟨rfl,hb2⟩
     have HB2:=Lib.hid (HWO.out.trans (hb2.mono HWO.out.size))
     clear hb2
     go_wp2_with fail
     go_ret
     exact⟨by rw[hr.out];rfl,HB2.out⟩
theorem rcond_8 (n:Nat)(p:CT→Bool)(a1 a2:Option Addr)(m1 c1 m2 c2:Nat)(ys:List CT)(z1:Bool)(w:World)(hm:ys.length=m2)(hs:Pak.Sits (condSh n) (Pak.Lo w.heap.size) w a2 ys)
 (hf:∀cs x W,Below w.heap.size w W→(condSh n).rel (Pak.Lo W.heap.size) W cs x→Calls Tryz.prog 91 #[.agg cs.toArray] W (SoundEnd (p x) W)) (hx:BoolAll 124 #[.slice a1 m1 c1] z1 w):
 Calls Tryz.prog 91 #[.agg #[.int .i64 8,.slice a1 m1 c1,.slice a2 m2 c2]] w (SoundEnd ((m1 == 0 && m2 == 2) && ys.all p && z1) w):=by
 have HA:Hid (Below w.heap.size w (w.alloc (.cells #[.int .i64 8,.slice a1 m1 c1,.slice a2 m2 c2] 41))):=box_low
 have HS:=Lib.hid hs
 have HF:=Lib.hid hf
 have HM:=Lib.hid hm
 have hmm:m2≤9223372036854775807:=by rw[←hm];exact hs.1
 have X:=Lib.hid hx
 have HC1:Hid (∀W,Below (w.alloc (.cells #[.int .i64 8,.slice a1 m1 c1,.slice a2 m2 c2] 41)).heap.size (w.alloc (.cells #[.int .i64 8,.slice a1 m1 c1,.slice a2 m2 c2] 41)) W→W.cell? ⟨w.heap.size,1,none⟩=some (.slice a1 m1 c1)):=fun W hb=>box_at (cs:=[.int .i64 8,.slice a1 m1 c1,.slice a2 m2 c2]) rfl hb
 have HC2:Hid (∀W,Below (w.alloc (.cells #[.int .i64 8,.slice a1 m1 c1,.slice a2 m2 c2] 41)).heap.size (w.alloc (.cells #[.int .i64 8,.slice a1 m1 c1,.slice a2 m2 c2] 41)) W→W.cell? ⟨w.heap.size,2,none⟩=some (.slice a2 m2 c2)):=fun W hb=>box_at (cs:=[.int .i64 8,.slice a1 m1 c1,.slice a2 m2 c2]) rfl hb
 clear hs hf hm hx
 go_enter Tryz.func91,Tryz.ntmps91
 go_upto_block 0 with fail
 go_cut [3] (fun s wr=>s= .bool (m1 == 0 && m2 == 2)∧(w.alloc (.cells #[.int .i64 8,.slice a1 m1 c1,.slice a2 m2 c2] 41))=wr)
 case first=>
  by_cases h1:m1=0
  ·have h1i:((m1:Int) == 0)=true:=by rw[h1];rfl
   by_cases h2:m2=2
   ·have h2i:((m2:Int) == 2)=true:=by rw[h2];rfl
    have hr:Hid ((m1 == 0 && m2 == 2)=true):=Lib.hid (by rw[h1,h2];rfl)
    clear h1 h2
    go_wp2_with fail
    go_meet
    case rel=>exact⟨by rw[hr.out],rfl⟩
   ·have h2i:((m2:Int) == 2)=false:=by rw[Bool.eq_false_iff];simp only[ne_eq,beq_iff_eq];omega
    have hr:Hid ((m1 == 0 && m2 == 2)=false):=Lib.hid (by rw[beq_eq_false_iff_ne.2 h2,Bool.and_false])
    clear h1 h2
    go_wp2_with fail
    go_meet
    case rel=>exact⟨by rw[hr.out],rfl⟩
  ·have h1i:((m1:Int) == 0)=false:=by rw[Bool.eq_false_iff];simp only[ne_eq,beq_iff_eq];omega
   have hr:Hid ((m1 == 0 && m2 == 2)=false):=Lib.hid (by rw[beq_eq_false_iff_ne.2 h1];rfl)
   clear h1
   go_wp2_with fail
   go_meet
   case rel=>exact⟨by rw[hr.out],rfl⟩
 case rest=>
 obtain⟨rfl,rfl⟩:=hcut
 generalize (m1 == 0 && m2 == 2)=ok0 at*
 go_wp2_with fail
 go_loopw [3,4] (fun s i wr=>∃(j:Nat) (z:Bool),j≤m2∧i= .int .i64 j∧s= .bool z∧Hid (z=(ok0 && (ys.take j).all p))∧Hid (Below (w.alloc (.cells #[.int .i64 8,.slice a1 m1 c1,.slice a2 m2 c2] 41)).heap.size (w.alloc (.cells #[.int .i64 8,.slice a1 m1 c1,.slice a2 m2 c2] 41)) wr)) (fun _ i _=>m2 - (intOf i).toNat)
 case atStart=>exact⟨0,ok0,Nat.zero_le _,rfl,rfl,Lib.hid (by simp),Below.refl _ _⟩
 case round=>
  obtain⟨j,z,hj,rfl,rfl,hz,hb⟩:=hrel
  obtain⟨wo,rfl⟩:∃wo:World,wo=wr:=⟨_,rfl⟩
  have HWO:=Lib.hid (HA.out.trans (hb.out.mono HA.out.size))
  have k1:=HC1.out _ hb.out
  have k2:=HC2.out _ hb.out
  cases z with
  | false=>
    have hr:Hid ((ok0 && ys.all p && z1)=false):=Lib.hid (by
     have h:=hz.out.symm
     rcases Bool.and_eq_false_iff.1 h with h | h
     ·first | rw[h] | skip
      rfl
     ·rw[all_false_of_take h];simp)
    by_cases hlt:j<m2
    ·have hji:decide ((j:Int)<(m2:Int))=true:=decide_eq_true (by omega)
     go_wp2_with fail
     go_ret
     exact⟨by rw[hr.out];rfl,HWO.out⟩
    ·have hji:decide (j<m2)=false:=decide_eq_false hlt
     go_wp2_with fail
     go_ret
     exact⟨by rw[hr.out];rfl,HWO.out⟩
  | true=>
    by_cases hlt:j<m2
    ·have hlx:j<ys.length:=by rw[HM.out];exact hlt
     have hji:(j:Int)<(m2:Int):=by omega
     obtain⟨b,off,cs,rfl,hbl,hc,hr⟩:=(HS.out.below HWO.out HWO.out.size).2 j hlx
     have hlen:=(condSh n).len hr
     rw[condSh_k n]at hlen hc
     have HC0:Hid (∀i v,cs[i]? =some v→wo.cell? ((⟨b,off+j*3,none⟩:Addr).add i)=some v):=fun i v hv=>by
      rw[show(⟨b,off+j*3,none⟩:Addr).add i=⟨b,off+j*3+i,none⟩ by unfold Addr.add;split<;>simp_all]
      exact hc i v hv
     have HC:=Lib.hid (HF.out _ ys[j] _ HWO.out hr)
     have HL:=Lib.hid hlen
     have HN:Hid (p ys[j]=(ok0 && (ys.take (j+1)).all p)):=Lib.hid (by
      have h:=hz.out
      rw[all_take hlx,←Bool.and_assoc,←h];simp)
     clear hc hr hlen hz
     generalize p ys[j]=y at HC HN
     go_wp2_with (refine wpList_load_w rfl 41 _ rfl ⟨b,off+j*3,none⟩ rfl cs _ HC0.out Tryz.underlying41 rfl (by rw[HL.out];kernel_rfl) ?_)
     refine HC.out.mono ?_
     rintro e w2 ⟨rfl,hb2⟩
     have HB2:=Lib.hid (hb.out.trans (hb2.mono hb.out.size))
     clear hb2 HC HC0
     go_wp2_with fail
     go_roundw
     case rel=>exact⟨j+1,y,by omega,by go_num,rfl,HN,HB2⟩
     case measure=>simp[intOf];omega
    ·have hr:Hid ((ok0 && ys.all p && z1)=z1):=Lib.hid (by
      have h:=hz.out
      rw[show j=ys.length by rw[HM.out];omega,List.take_length]at h
      rw[←h];rfl)
     obtain rfl:j=m2:=by omega
     clear hz
     go_wp2_with fail
     refine(X.out.at HWO.out).mono ?_
     rintro e w2 ⟨rfl,hb2⟩
     have HB2:=Lib.hid (HWO.out.trans (hb2.mono HWO.out.size))
     clear hb2
     go_wp2_with fail
     go_ret
     exact⟨by rw[hr.out];rfl,HB2.out⟩
theorem rcond_x (k:Int)(n:Nat)(p:CT→Bool)(a1 a2:Option Addr)(m1 c1 m2 c2:Nat)(ys:List CT)(z1:Bool)(w:World)(hm:ys.length=m2)(hs:Pak.Sits (condSh n) (Pak.Lo w.heap.size) w a2 ys)
 (hf:∀cs x W,Below w.heap.size w W→(condSh n).rel (Pak.Lo W.heap.size) W cs x→Calls Tryz.prog 91 #[.agg cs.toArray] W (SoundEnd (p x) W)) (hx:BoolAll 124 #[.slice a1 m1 c1] z1 w) (hk:¬(0≤k∧k≤8)):
 Calls Tryz.prog 91 #[.agg #[.int .i64 k,.slice a1 m1 c1,.slice a2 m2 c2]] w (SoundEnd (false && ys.all p && z1) w):=by
 have HA:Hid (Below w.heap.size w (w.alloc (.cells #[.int .i64 k,.slice a1 m1 c1,.slice a2 m2 c2] 41))):=box_low
 have HS:=Lib.hid hs
 have HF:=Lib.hid hf
 have HM:=Lib.hid hm
 have hmm:m2≤9223372036854775807:=by rw[←hm];exact hs.1
 have X:=Lib.hid hx
 have HC1:Hid (∀W,Below (w.alloc (.cells #[.int .i64 k,.slice a1 m1 c1,.slice a2 m2 c2] 41)).heap.size (w.alloc (.cells #[.int .i64 k,.slice a1 m1 c1,.slice a2 m2 c2] 41)) W→W.cell? ⟨w.heap.size,1,none⟩=some (.slice a1 m1 c1)):=fun W hb=>box_at (cs:=[.int .i64 k,.slice a1 m1 c1,.slice a2 m2 c2]) rfl hb
 have HC2:Hid (∀W,Below (w.alloc (.cells #[.int .i64 k,.slice a1 m1 c1,.slice a2 m2 c2] 41)).heap.size (w.alloc (.cells #[.int .i64 k,.slice a1 m1 c1,.slice a2 m2 c2] 41)) W→W.cell? ⟨w.heap.size,2,none⟩=some (.slice a2 m2 c2)):=fun W hb=>box_at (cs:=[.int .i64 k,.slice a1 m1 c1,.slice a2 m2 c2]) rfl hb
 clear hs hf hm hx
 have e0:(k == 0)=false:=by simp;omega
 have e1:(k == 1)=false:=by simp;omega
 have e2:(k == 2)=false:=by simp;omega
 have e3:(k == 3)=false:=by simp;omega
 have e4:(k == 4)=false:=by simp;omega
 have e5:(k == 5)=false:=by simp;omega
 have e6:(k == 6)=false:=by simp;omega
 have e7:(k == 7)=false:=by simp;omega
 have e8:(k == 8)=false:=by simp;omega
 clear hk
 go_enter Tryz.func91,Tryz.ntmps91
 go_wp2_with fail
 go_loopw [3,4] (fun s i wr=>∃(j:Nat) (z:Bool),j≤m2∧i= .int .i64 j∧s= .bool z∧Hid (z=(false && (ys.take j).all p))∧Hid (Below (w.alloc (.cells #[.int .i64 k,.slice a1 m1 c1,.slice a2 m2 c2] 41)).heap.size (w.alloc (.cells #[.int .i64 k,.slice a1 m1 c1,.slice a2 m2 c2] 41)) wr)) (fun _ i _=>m2 - (intOf i).toNat)
 case atStart=>exact⟨0,false,Nat.zero_le _,rfl,rfl,Lib.hid (by simp),Below.refl _ _⟩
 case round=>
  obtain⟨j,z,hj,rfl,rfl,hz,hb⟩:=hrel
  obtain⟨wo,rfl⟩:∃wo:World,wo=wr:=⟨_,rfl⟩
  have HWO:=Lib.hid (HA.out.trans (hb.out.mono HA.out.size))
  have k1:=HC1.out _ hb.out
  have k2:=HC2.out _ hb.out
  cases z with
  | false=>
    have hr:Hid ((false && ys.all p && z1)=false):=Lib.hid (by
     have h:=hz.out.symm
     rcases Bool.and_eq_false_iff.1 h with h | h
     ·rfl
     ·rw[all_false_of_take h];simp)
    by_cases hlt:j<m2
    ·have hji:decide ((j:Int)<(m2:Int))=true:=decide_eq_true (by omega)
     go_wp2_with fail
     go_ret
     exact⟨by rw[hr.out];rfl,HWO.out⟩
    ·have hji:decide (j<m2)=false:=decide_eq_false hlt
     go_wp2_with fail
     go_ret
     exact⟨by rw[hr.out];rfl,HWO.out⟩
  | true=>exact absurd hz.out (by simp)
theorem rcond_any {nm:ByteArray→Bool}(hN:∀s w,s.size≤maxLen→BoolAll 47 #[.string s] (nm s) w):∀(n:Nat) (c:CT) (cs:List Value) (w:World),(condSh n).rel (Pak.Lo w.heap.size) w cs c→
 Calls Tryz.prog 91 #[.agg cs.toArray] w (SoundEnd (snC nm n c) w)
 | 0,_,_,_,h=>h.elim
 | n+1,c,cs,w,h=>by
   obtain⟨u,v,rfl,_,⟨a1,c1,rfl,hs1⟩,⟨a2,c2,rfl,hs2⟩⟩:=h
   have hx:=rexprs_any hN n a1 c1 c.es w hs1
   have hf:∀cs x W,Below w.heap.size w W→(condSh n).rel (Pak.Lo W.heap.size) W cs x→Calls Tryz.prog 91 #[.agg cs.toArray] W (SoundEnd (snC nm n x) W):=fun cs x W _ hr=>rcond_any hN n x cs W hr
   unfold snC
   by_cases h2:0≤c.kind∧c.kind≤8
   ·rw[if_pos h2]
    have hsw:∀x y z u:Bool,(x && y && z && u)=(x && y && u && z):=by intro x y z u;cases x<;>cases y<;>cases z<;>cases u<;>rfl
    rw[hsw]
    have hk:c.kind=0∨c.kind=1∨c.kind=2∨c.kind=3∨c.kind=4∨c.kind=5∨c.kind=6∨c.kind=7∨c.kind=8:=by omega
    rcases hk with hk | hk | hk | hk | hk | hk | hk | hk | hk
    ·rw[hk]
     exact rcond_0 n _ a1 a2 _ c1 _ c2 c.ks _ w rfl hs2 hf hx
    ·rw[hk]
     exact rcond_1 n _ a1 a2 _ c1 _ c2 c.ks _ w rfl hs2 hf hx
    ·rw[hk]
     exact rcond_2 n _ a1 a2 _ c1 _ c2 c.ks _ w rfl hs2 hf hx
    ·rw[hk]
     exact rcond_3 n _ a1 a2 _ c1 _ c2 c.ks _ w rfl hs2 hf hx
    ·rw[hk]
     exact rcond_4 n _ a1 a2 _ c1 _ c2 c.ks _ w rfl hs2 hf hx
    ·rw[hk]
     exact rcond_5 n _ a1 a2 _ c1 _ c2 c.ks _ w rfl hs2 hf hx
    ·rw[hk]
     exact rcond_6 n _ a1 a2 _ c1 _ c2 c.ks _ w rfl hs2 hf hx
    ·rw[hk]
     exact rcond_7 n _ a1 a2 _ c1 _ c2 c.ks _ w rfl hs2 hf hx
    ·rw[hk]
     exact rcond_8 n _ a1 a2 _ c1 _ c2 c.ks _ w rfl hs2 hf hx
   ·rw[if_neg h2]
    exact rcond_x c.kind n _ a1 a2 _ c1 _ c2 c.ks _ w rfl hs2 hf hx h2
end
end Go.Proofs.YtfcaclmcnlflfaaGreatDoor
