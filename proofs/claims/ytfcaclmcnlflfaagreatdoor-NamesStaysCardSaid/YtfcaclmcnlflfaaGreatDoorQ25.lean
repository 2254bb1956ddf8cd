/- Parts of a proof. -/
import Derived.Test.YtfcaclmcnlflfaaGreatDoorQ16
import Derived.Test.YtfcaclmcnlflfaaGreatDoorQ18
import Derived.Test.YtfcaclmcnlflfaaGreatDoorQ19
import Derived.Test.YtfcaclmcnlflfaaGreatDoorQ20
set_option linter.unusedVariables false
set_option linter.unusedSimpArgs false
set_option maxHeartbeats 60000000
set_option maxRecDepth 100000
namespace Go.Proofs.YtfcaclmcnlflfaaGreatDoor
section
open Go.RowKit
theorem rassn_2 (n:Nat)(p:AT→Bool)(cs cc ce cv:List Value)(fs:ByteArray)(fn:Int)(a:Option Addr)(m c:Nat)(ys:List AT)(zC zE zV xe zn xc xv:Bool)(w:World)(hm:ys.length=m)(hs:Pak.Sits (assnSh n) (Pak.Lo w.heap.size) w a ys)
 (q0:cs[0]? =some (.int .i64 2)) (p1:Part cs 1 cc) (p2:Part cs 4 ce) (p3:Part cs 8 cv) (q12:cs[12]? =some (.string fs)) (q13:cs[13]? =some (.int .i64 fn)) (q14:cs[14]? =some (.slice a m c)) (l1:cc.length=3) (l2:ce.length=4) (l3:cv.length=4)
 (hf:∀cs x W,Below w.heap.size w W→(assnSh n).rel (Pak.Lo W.heap.size) W cs x→Calls Tryz.prog 49 #[.agg cs.toArray] W (SoundEnd (p x) W))
 (x1:BoolAll 88 #[.agg cc.toArray] (!zC) w) (x2:BoolAll 89 #[.agg ce.toArray] (!zE) w) (x3:BoolAll 89 #[.agg cv.toArray] (!zV) w) (x4:BoolAll 90 #[.agg ce.toArray] xe w) (x5:BoolAll 47 #[.string fs] zn w) (x6:BoolAll 91 #[.agg cc.toArray] xc w) (x7:BoolAll 90 #[.agg cv.toArray] xv w)
 (b4 pl:Bool) (hb4:(zE && fs.toList.isEmpty && fn == 0)=b4) (hpl:(decide (0≤fn) && decide (fn≤1073741824) && xe && zn)=pl):
 Calls Tryz.prog 49 #[.agg cs.toArray] w (SoundEnd ((zC && zV && (m == 0) && pl) && ys.all p) w):=by
 have HA:Hid (Below w.heap.size w (w.alloc (.cells cs.toArray 44))):=box_low
 have HB0:Hid (Below (w.alloc (.cells cs.toArray 44)).heap.size (w.alloc (.cells cs.toArray 44)) (w.alloc (.cells cs.toArray 44))):=Below.refl _ _
 have HS:=Lib.hid hs
 have HF:=Lib.hid hf
 have HM:=Lib.hid hm
 have hmm:m≤9223372036854775807:=by rw[←hm];exact hs.1
 have HB4:=Lib.hid hb4
 have HPL:=Lib.hid hpl
 have X1:=Lib.hid (x1.up HA.out)
 have X2:=Lib.hid (x2.up HA.out)
 have X3:=Lib.hid (x3.up HA.out)
 have X4:=Lib.hid (x4.up HA.out)
 have X5:=Lib.hid (x5.up HA.out)
 have X6:=Lib.hid (x6.up HA.out)
 have X7:=Lib.hid (x7.up HA.out)
 have P1:=Lib.hid (fun W (hb:Below (w.alloc (.cells cs.toArray 44)).heap.size (w.alloc (.cells cs.toArray 44)) W)=>box_part p1 hb)
 have L1:=Lib.hid l1
 have P2:=Lib.hid (fun W (hb:Below (w.alloc (.cells cs.toArray 44)).heap.size (w.alloc (.cells cs.toArray 44)) W)=>box_part p2 hb)
 have L2:=Lib.hid l2
 have P3:=Lib.hid (fun W (hb:Below (w.alloc (.cells cs.toArray 44)).heap.size (w.alloc (.cells cs.toArray 44)) W)=>box_part p3 hb)
 have L3:=Lib.hid l3
 have Q0:=Lib.hid (fun W (hb:Below (w.alloc (.cells cs.toArray 44)).heap.size (w.alloc (.cells cs.toArray 44)) W)=>box_at q0 hb)
 have Q12:=Lib.hid (fun W (hb:Below (w.alloc (.cells cs.toArray 44)).heap.size (w.alloc (.cells cs.toArray 44)) W)=>box_at q12 hb)
 have Q13:=Lib.hid (fun W (hb:Below (w.alloc (.cells cs.toArray 44)).heap.size (w.alloc (.cells cs.toArray 44)) W)=>box_at q13 hb)
 have Q14:=Lib.hid (fun W (hb:Below (w.alloc (.cells cs.toArray 44)).heap.size (w.alloc (.cells cs.toArray 44)) W)=>box_at q14 hb)
 clear hs hf hm hb4 hpl x1 x2 x3 x4 x5 x6 x7 p1 p2 p3 l1 l2 l3 q0 q12 q13 q14
 go_enter Tryz.func49,Tryz.ntmps49
 go_wp2_with (refine wpList_load_w rfl 41 _ rfl ⟨w.heap.size,1,none⟩ rfl cc _ (P1.out _ HB0.out) Tryz.underlying41 rfl (by rw[L1.out];kernel_rfl) ?_)
 refine(X1.out.at HB0.out).mono ?_
 rintro r w1 ⟨rfl,hb⟩
 have H1:=Lib.hid (HB0.out.trans (hb.mono HB0.out.size))
 clear hb
 go_upto_region 2 with (fail)
 go_cut [4] (fun s wr=>s= .bool b4∧Hid (Below (w.alloc (.cells cs.toArray 44)).heap.size (w.alloc (.cells cs.toArray 44)) wr))
 case first=>
  go_wp2_with (refine wpList_load_w rfl 37 _ rfl ⟨w.heap.size,4,none⟩ rfl ce _ (P2.out _ H1.out) Tryz.underlying37 rfl (by rw[L2.out];kernel_rfl) ?_)
  refine(X2.out.at H1.out).mono ?_
  rintro r w2 ⟨rfl,hb⟩
  have H2:=Lib.hid (H1.out.trans (hb.mono H1.out.size))
  clear hb
  cases zE with
  | false=>
    have hr:Hid (b4=false):=Lib.hid (by rw[←HB4.out];rfl)
    go_wp2_with fail
    go_meet
    case rel=>exact⟨by rw[hr.out],H2⟩
  | true=>
    have k12:=Q12.out _ H2.out
    have k13:=Q13.out _ H2.out
    by_cases hs:fs.toList=[]
    ·have hse:fs.toList.isEmpty=true:=by simp[hs]
     by_cases h1:fn=0
     ·have h1b:(fn == 0)=true:=by simp[h1]
      have hr:Hid (b4=true):=Lib.hid (by rw[←HB4.out,hse,h1b];rfl)
      clear h1
      go_wp2_with fail
      go_meet
      case rel=>exact⟨by rw[hr.out],H2⟩
     ·have h1b:(fn == 0)=false:=by simp[h1]
      have hr:Hid (b4=false):=Lib.hid (by rw[←HB4.out,hse,h1b];rfl)
      go_wp2_with fail
      go_meet
      case rel=>exact⟨by rw[hr.out],H2⟩
    ·have hse:fs.toList.isEmpty=false:=by simp[hs]
     have hsf:(fs.toList == [])=false:=by simp[hs]
     have hr:Hid (b4=false):=Lib.hid (by rw[←HB4.out,hse];rfl)
     go_wp2_with fail
     go_meet
     case rel=>exact⟨by rw[hr.out],H2⟩
 case rest=>
 obtain⟨rfl,H2⟩:=hcut
 have Hc:=Lib.hid (HA.out.trans (H2.out.mono HA.out.size))
 go_wp2_with (refine wpList_load_w rfl 37 _ rfl ⟨w.heap.size,8,none⟩ rfl cv _ (P3.out _ H2.out) Tryz.underlying37 rfl (by rw[L3.out];kernel_rfl) ?_)
 refine(X3.out.at H2.out).mono ?_
 rintro r w3 ⟨rfl,hb⟩
 have H3:=Lib.hid (H2.out.trans (hb.mono H2.out.size))
 clear hb
 go_upto_region 4 with (fail)
 go_cut [6] (fun s wr=>s= .bool pl∧Hid (Below (w.alloc (.cells cs.toArray 44)).heap.size (w.alloc (.cells cs.toArray 44)) wr))
 case first=>
  have k12:=Q12.out _ H3.out
  have k13:=Q13.out _ H3.out
  by_cases h1:0≤fn
  ·by_cases h2:fn≤1073741824
   ·have hr:Hid (pl=(xe && zn)):=Lib.hid (by rw[←HPL.out,decide_eq_true h1,decide_eq_true h2];rfl)
    go_wp2_with (refine wpList_load_w rfl 37 _ rfl ⟨w.heap.size,4,none⟩ rfl ce _ (P2.out _ H3.out) Tryz.underlying37 rfl (by rw[L2.out];kernel_rfl) ?_)
    refine(X4.out.at H3.out).mono ?_
    rintro r w4 ⟨rfl,hb⟩
    have H4:=Lib.hid (H3.out.trans (hb.mono H3.out.size))
    clear hb
    clear k12 k13
    have k12:=Q12.out _ H4.out
    cases xe with
    | false=>
      go_wp2_with fail
      go_meet
      case rel=>exact⟨by rw[hr.out];rfl,H4⟩
    | true=>
      go_wp2_with fail
      refine(X5.out.at H4.out).mono ?_
      rintro r w5 ⟨rfl,hb⟩
      have H5:=Lib.hid (H4.out.trans (hb.mono H4.out.size))
      clear hb
      go_wp2_with fail
      go_meet
      case rel=>exact⟨by rw[hr.out];rfl,H5⟩
   ·have h3:decide (fn≤1073741824)=false:=decide_eq_false h2
    have hr:Hid (pl=false):=Lib.hid (by rw[←HPL.out,h3];simp)
    go_wp2_with fail
    go_meet
    case rel=>exact⟨by rw[hr.out],H3⟩
  ·have h3:decide (0≤fn)=false:=decide_eq_false h1
   have hr:Hid (pl=false):=Lib.hid (by rw[←HPL.out,h3];simp)
   go_wp2_with fail
   go_meet
   case rel=>exact⟨by rw[hr.out],H3⟩
 case rest=>
 obtain⟨rfl,H5⟩:=hcut
 have k14:=Q14.out _ H5.out
 have k0:=Q0.out _ H5.out
 go_upto_block 0 with fail
 go_cut [8] (fun s wr=>s= .bool (zC && zV && (m == 0) && pl)∧Hid (Below (w.alloc (.cells cs.toArray 44)).heap.size (w.alloc (.cells cs.toArray 44)) wr))
 case first=>
  cases zC with
  | false=>
    go_wp2_with fail
    go_meet
    case rel=>exact⟨by simp,H5⟩
  | true=>
    cases zV with
    | false=>
      go_wp2_with fail
      go_meet
      case rel=>exact⟨by simp,H5⟩
    | true=>
      by_cases hmv:m=0
      ·have hmq:(m == 0)=true:=by rw[hmv];rfl
       have hmi:((m:Int) == 0)=true:=by rw[hmv];rfl
       clear hmv
       cases pl with
       | false=>
         go_wp2_with fail
         go_meet
         case rel=>exact⟨by simp[hmq],H5⟩
       | true=>
         go_wp2_with fail
         go_meet
         case rel=>exact⟨by simp[hmq],H5⟩
      ·have hmq:(m == 0)=false:=beq_eq_false_iff_ne.2 hmv
       have hmi:((m:Int) == 0)=false:=by rw[Bool.eq_false_iff];simp only[ne_eq,beq_iff_eq];omega
       clear hmv
       go_wp2_with fail
       go_meet
       case rel=>exact⟨by simp[hmq],H5⟩
 case rest=>
 obtain⟨rfl,H7⟩:=hcut
 generalize (zC && zV && (m == 0) && pl)=ok0 at*
 go_wp2_with fail
 go_loopw [8,9] (fun s i wr=>∃(j:Nat) (z:Bool),j≤m∧i= .int .i64 j∧s= .bool z∧Hid (z=(ok0 && (ys.take j).all p))∧Hid (Below (w.alloc (.cells cs.toArray 44)).heap.size (w.alloc (.cells cs.toArray 44)) wr)) (fun _ i _=>m - (intOf i).toNat)
 case atStart=>exact⟨0,ok0,Nat.zero_le _,rfl,rfl,Lib.hid (by simp),H7.out⟩
 case round=>
  obtain⟨j,z,hj,rfl,rfl,hz,hb⟩:=hrel
  obtain⟨wo,rfl⟩:∃wo:World,wo=wr:=⟨_,rfl⟩
  have HWO:=Lib.hid (HA.out.trans (hb.out.mono HA.out.size))
  have k15:=Q14.out _ hb.out
  cases z with
  | false=>
    have hr:Hid ((ok0 && ys.all p)=false):=Lib.hid (by
     have h:=hz.out.symm
     rcases Bool.and_eq_false_iff.1 h with h | h
     ·first | rw[h] | skip
      rfl
     ·rw[all_false_of_take h];simp)
    by_cases hlt:j<m
    ·have hji:decide ((j:Int)<(m:Int))=true:=decide_eq_true (by omega)
     go_wp2_with fail
     go_ret
     exact⟨by rw[hr.out];rfl,HWO.out⟩
    ·have hji:decide (j<m)=false:=decide_eq_false hlt
     go_wp2_with fail
     go_ret
     exact⟨by rw[hr.out];rfl,HWO.out⟩
  | true=>
    by_cases hlt:j<m
    ·have hlx:j<ys.length:=by rw[HM.out];exact hlt
     have hji:(j:Int)<(m:Int):=by omega
     obtain⟨b,off,cs',e',hbl,hc,hr⟩:=(HS.out.below HWO.out HWO.out.size).2 j hlx
     subst e'
     have hlen:=(assnSh n).len hr
     rw[assnSh_k n]at hlen hc
     have HC0:Hid (∀i v,cs'[i]? =some v→wo.cell? ((⟨b,off+j*15,none⟩:Addr).add i)=some v):=fun i v hv=>by
      rw[show(⟨b,off+j*15,none⟩:Addr).add i=⟨b,off+j*15+i,none⟩ by unfold Addr.add;split<;>simp_all]
      exact hc i v hv
     have HC:=Lib.hid (HF.out _ ys[j] _ HWO.out hr)
     have HL:=Lib.hid hlen
     have HN:Hid (p ys[j]=(ok0 && (ys.take (j+1)).all p)):=Lib.hid (by
      have h:=hz.out
      rw[all_take hlx,←Bool.and_assoc,←h];simp)
     clear hc hr hlen hz
     generalize p ys[j]=y at HC HN
     go_wp2_with (refine wpList_load_w rfl 44 _ rfl ⟨b,off+j*15,none⟩ rfl cs' _ HC0.out Tryz.underlying44 rfl (by rw[HL.out];kernel_rfl) ?_)
     refine HC.out.mono ?_
     rintro e w8 ⟨rfl,hb2⟩
     have HB2:=Lib.hid (hb.out.trans (hb2.mono hb.out.size))
     clear hb2 HC HC0
     go_wp2_with fail
     go_roundw
     case rel=>exact⟨j+1,y,by omega,by go_num,rfl,HN,HB2⟩
     case measure=>simp[intOf];omega
    ·have hr:Hid ((ok0 && ys.all p)=true):=Lib.hid (by
      have h:=hz.out
      rw[show j=ys.length by rw[HM.out];omega,List.take_length]at h
      exact h.symm)
     obtain rfl:j=m:=by omega
     clear hz
     go_wp2_with fail
     go_ret
     exact⟨by rw[hr.out];rfl,HWO.out⟩
theorem rassn_3 (n:Nat)(p:AT→Bool)(cs cc ce cv:List Value)(fs:ByteArray)(fn:Int)(a:Option Addr)(m c:Nat)(ys:List AT)(zC zE zV xe zn xc xv:Bool)(w:World)(hm:ys.length=m)(hs:Pak.Sits (assnSh n) (Pak.Lo w.heap.size) w a ys)
 (q0:cs[0]? =some (.int .i64 3)) (p1:Part cs 1 cc) (p2:Part cs 4 ce) (p3:Part cs 8 cv) (q12:cs[12]? =some (.string fs)) (q13:cs[13]? =some (.int .i64 fn)) (q14:cs[14]? =some (.slice a m c)) (l1:cc.length=3) (l2:ce.length=4) (l3:cv.length=4)
 (hf:∀cs x W,Below w.heap.size w W→(assnSh n).rel (Pak.Lo W.heap.size) W cs x→Calls Tryz.prog 49 #[.agg cs.toArray] W (SoundEnd (p x) W))
 (x1:BoolAll 88 #[.agg cc.toArray] (!zC) w) (x2:BoolAll 89 #[.agg ce.toArray] (!zE) w) (x3:BoolAll 89 #[.agg cv.toArray] (!zV) w) (x4:BoolAll 90 #[.agg ce.toArray] xe w) (x5:BoolAll 47 #[.string fs] zn w) (x6:BoolAll 91 #[.agg cc.toArray] xc w) (x7:BoolAll 90 #[.agg cv.toArray] xv w)
 (b4 pl:Bool) (hb4:(zE && fs.toList.isEmpty && fn == 0)=b4) (hpl:(decide (0≤fn) && decide (fn≤1073741824) && xe && zn)=pl):
 Calls Tryz.prog 49 #[.agg cs.toArray] w (SoundEnd ((zC && (m == 0) && pl && xv) && ys.all p) w):=by
 have HA:Hid (Below w.heap.size w (w.alloc (.cells cs.toArray 44))):=box_low
 have HB0:Hid (Below (w.alloc (.cells cs.toArray 44)).heap.size (w.alloc (.cells cs.toArray 44)) (w.alloc (.cells cs.toArray 44))):=Below.refl _ _
 have HS:=Lib.hid hs
 have HF:=Lib.hid hf
 have HM:=Lib.hid hm
 have hmm:m≤9223372036854775807:=by rw[←hm];exact hs.1
 have HB4:=Lib.hid hb4
 have HPL:=Lib.hid hpl
 have X1:=Lib.hid (x1.up HA.out)
 have X2:=Lib.hid (x2.up HA.out)
 have X3:=Lib.hid (x3.up HA.out)
 have X4:=Lib.hid (x4.up HA.out)
 have X5:=Lib.hid (x5.up HA.out)
 have X6:=Lib.hid (x6.up HA.out)
 have X7:=Lib.hid (x7.up HA.out)
 have P1:=Lib.hid (fun W (hb:Below (w.alloc (.cells cs.toArray 44)).heap.size (w.alloc (.cells cs.toArray 44)) W)=>box_part p1 hb)
 have L1:=Lib.hid l1
 have P2:=Lib.hid (fun W (hb:Below (w.alloc (.cells cs.toArray 44)).heap.size (w.alloc (.cells cs.toArray 44)) W)=>box_part p2 hb)
 have L2:=Lib.hid l2
 have P3:=Lib.hid (fun W (hb:Below (w.alloc (.cells cs.toArray 44)).heap.size (w.alloc (.cells cs.toArray 44)) W)=>box_part p3 hb)
 have L3:=Lib.hid l3
 have Q0:=Lib.hid (fun W (hb:Below (w.alloc (.cells cs.toArray 44)).heap.size (w.alloc (.cells cs.toArray 44)) W)=>box_at q0 hb)
 have Q12:=Lib.hid (fun W (hb:Below (w.alloc (.cells cs.toArray 44)).heap.size (w.alloc (.cells cs.toArray 44)) W)=>box_at q12 hb)
 have Q13:=Lib.hid (fun W (hb:Below (w.alloc (.cells cs.toArray 44)).heap.size (w.alloc (.cells cs.toArray 44)) W)=>box_at q13 hb)
 have Q14:=Lib.hid (fun W (hb:Below (w.alloc (.cells cs.toArray 44)).heap.size (w.alloc (.cells cs.toArray 44)) W)=>box_at q14 hb)
 clear hs hf hm hb4 hpl x1 x2 x3 x4 x5 x6 x7 p1 p2 p3 l1 l2 l3 q0 q12 q13 q14
 go_enter Tryz.func49,Tryz.ntmps49
 go_wp2_with (refine wpList_load_w rfl 41 _ rfl ⟨w.heap.size,1,none⟩ rfl cc _ (P1.out _ HB0.out) Tryz.underlying41 rfl (by rw[L1.out];kernel_rfl) ?_)
 refine(X1.out.at HB0.out).mono ?_
 rintro r w1 ⟨rfl,hb⟩
 have H1:=Lib.hid (HB0.out.trans (hb.mono HB0.out.size))
 clear hb
 go_upto_region 2 with (fail)
 go_cut [4] (fun s wr=>s= .bool b4∧Hid (Below (w.alloc (.cells cs.toArray 44)).heap.size (w.alloc (.cells cs.toArray 44)) wr))
 case first=>
  go_wp2_with (refine wpList_load_w rfl 37 _ rfl ⟨w.heap.size,4,none⟩ rfl ce _ (P2.out _ H1.out) Tryz.underlying37 rfl (by rw[L2.out];kernel_rfl) ?_)
  refine(X2.out.at H1.out).mono ?_
  rintro r w2 ⟨rfl,hb⟩
  have H2:=Lib.hid (H1.out.trans (hb.mono H1.out.size))
  clear hb
  cases zE with
  | false=>
    have hr:Hid (b4=false):=Lib.hid (by rw[←HB4.out];rfl)
    go_wp2_with fail
    go_meet
    case rel=>exact⟨by rw[hr.out],H2⟩
  | true=>
    have k12:=Q12.out _ H2.out
    have k13:=Q13.out _ H2.out
    by_cases hs:fs.toList=[]
    ·have hse:fs.toList.isEmpty=true:=by simp[hs]
     by_cases h1:fn=0
     ·have h1b:(fn == 0)=true:=by simp[h1]
      have hr:Hid (b4=true):=Lib.hid (by rw[←HB4.out,hse,h1b];rfl)
      clear h1
      go_wp2_with fail
      go_meet
      case rel=>exact⟨by rw[hr.out],H2⟩
     ·have h1b:(fn == 0)=false:=by simp[h1]
      have hr:Hid (b4=false):=Lib.hid (by rw[←HB4.out,hse,h1b];rfl)
      go_wp2_with fail
      go_meet
      case rel=>exact⟨by rw[hr.out],H2⟩
    ·have hse:fs.toList.isEmpty=false:=by simp[hs]
     have hsf:(fs.toList == [])=false:=by simp[hs]
     have hr:Hid (b4=false):=Lib.hid (by rw[←HB4.out,hse];rfl)
     go_wp2_with fail
     go_meet
     case rel=>exact⟨by rw[hr.out],H2⟩
 case rest=>
 obtain⟨rfl,H2⟩:=hcut
 have Hc:=Lib.hid (HA.out.trans (H2.out.mono HA.out.size))
 go_wp2_with (refine wpList_load_w rfl 37 _ rfl ⟨w.heap.size,8,none⟩ rfl cv _ (P3.out _ H2.out) Tryz.underlying37 rfl (by rw[L3.out];kernel_rfl) ?_)
 refine(X3.out.at H2.out).mono ?_
 rintro r w3 ⟨rfl,hb⟩
 have H3:=Lib.hid (H2.out.trans (hb.mono H2.out.size))
 clear hb
 go_upto_region 4 with (fail)
 go_cut [6] (fun s wr=>s= .bool pl∧Hid (Below (w.alloc (.cells cs.toArray 44)).heap.size (w.alloc (.cells cs.toArray 44)) wr))
 case first=>
  have k12:=Q12.out _ H3.out
  have k13:=Q13.out _ H3.out
  by_cases h1:0≤fn
  ·by_cases h2:fn≤1073741824
   ·have hr:Hid (pl=(xe && zn)):=Lib.hid (by rw[←HPL.out,decide_eq_true h1,decide_eq_true h2];rfl)
    go_wp2_with (refine wpList_load_w rfl 37 _ rfl ⟨w.heap.size,4,none⟩ rfl ce _ (P2.out _ H3.out) Tryz.underlying37 rfl (by rw[L2.out];kernel_rfl) ?_)
    refine(X4.out.at H3.out).mono ?_
    rintro r w4 ⟨rfl,hb⟩
    have H4:=Lib.hid (H3.out.trans (hb.mono H3.out.size))
    clear hb
    clear k12 k13
    have k12:=Q12.out _ H4.out
    cases xe with
    | false=>
      go_wp2_with fail
      go_meet
      case rel=>exact⟨by rw[hr.out];rfl,H4⟩
    | true=>
      go_wp2_with fail
      refine(X5.out.at H4.out).mono ?_
      rintro r w5 ⟨rfl,hb⟩
      have H5:=Lib.hid (H4.out.trans (hb.mono H4.out.size))
      clear hb
      go_wp2_with fail
      go_meet
      case rel=>exact⟨by rw[hr.out];rfl,H5⟩
   ·have h3:decide (fn≤1073741824)=false:=decide_eq_false h2
    have hr:Hid (pl=false):=Lib.hid (by rw[←HPL.out,h3];simp)
    go_wp2_with fail
    go_meet
    case rel=>exact⟨by rw[hr.out],H3⟩
  ·have h3:decide (0≤fn)=false:=decide_eq_false h1
   have hr:Hid (pl=false):=Lib.hid (by rw[←HPL.out,h3];simp)
   go_wp2_with fail
   go_meet
   case rel=>exact⟨by rw[hr.out],H3⟩
 case rest=>
 obtain⟨rfl,H5⟩:=hcut
 have k14:=Q14.out _ H5.out
 have k0:=Q0.out _ H5.out
 go_upto_block 0 with fail
 go_cut [8] (fun s wr=>s= .bool (zC && (m == 0) && pl && xv)∧Hid (Below (w.alloc (.cells cs.toArray 44)).heap.size (w.alloc (.cells cs.toArray 44)) wr))
 case first=>
  cases zC with
  | false=>
    go_wp2_with fail
    go_meet
    case rel=>exact⟨by simp,H5⟩
  | true=>
    by_cases hmv:m=0
    ·have hmq:(m == 0)=true:=by rw[hmv];rfl
     have hmi:((m:Int) == 0)=true:=by rw[hmv];rfl
     clear hmv
     cases pl with
     | false=>
       go_wp2_with fail
       go_meet
       case rel=>exact⟨by simp[hmq],H5⟩
     | true=>
       go_wp2_with (refine wpList_load_w rfl 37 _ rfl ⟨w.heap.size,8,none⟩ rfl cv _ (P3.out _ H5.out) Tryz.underlying37 rfl (by rw[L3.out];kernel_rfl) ?_)
       refine(X7.out.at H5.out).mono ?_
       rintro r w6 ⟨rfl,hb⟩
       have H6:=Lib.hid (H5.out.trans (hb.mono H5.out.size))
       clear hb
       go_wp2_with fail
       go_meet
       case rel=>exact⟨by simp[hmq],H6⟩
    ·have hmq:(m == 0)=false:=beq_eq_false_iff_ne.2 hmv
     have hmi:((m:Int) == 0)=false:=by rw[Bool.eq_false_iff];simp only[ne_eq,beq_iff_eq];omega
     clear hmv
     go_wp2_with fail
     go_meet
     case rel=>exact⟨by simp[hmq],H5⟩
 case rest=>
 obtain⟨rfl,H7⟩:=hcut
 generalize (zC && (m == 0) && pl && xv)=ok0 at*
 go_wp2_with fail
 go_loopw [8,9] (fun s i wr=>∃(j:Nat) (z:Bool),j≤m∧i= .int .i64 j∧s= .bool z∧Hid (z=(ok0 && (ys.take j).all p))∧Hid (Below (w.alloc (.cells cs.toArray 44)).heap.size (w.alloc (.cells cs.toArray 44)) wr)) (fun _ i _=>m - (intOf i).toNat)
 case atStart=>exact⟨0,ok0,Nat.zero_le _,rfl,rfl,Lib.hid (by simp),H7.out⟩
 case round=>
  obtain⟨j,z,hj,rfl,rfl,hz,hb⟩:=hrel
  obtain⟨wo,rfl⟩:∃wo:World,wo=wr:=⟨_,rfl⟩
  have HWO:=Lib.hid (HA.out.trans (hb.out.mono HA.out.size))
  have k15:=Q14.out _ hb.out
  cases z with
  | false=>
    have hr:Hid ((ok0 && ys.all p)=false):=Lib.hid (by
     have h:=hz.out.symm
     rcases Bool.and_eq_false_iff.1 h with h | h
     ·first | rw[h] | skip
      rfl
     ·rw[all_false_of_take h];simp)
    by_cases hlt:j<m
    ·have hji:decide ((j:Int)<(m:Int))=true:=decide_eq_true (by omega)
     go_wp2_with fail
     go_ret
     exact⟨by rw[hr.out];rfl,HWO.out⟩
    ·have hji:decide (j<m)=false:=decide_eq_false hlt
     go_wp2_with fail
     go_ret
     exact⟨by rw[hr.out];rfl,HWO.out⟩
  | true=>
    by_cases hlt:j<m
    ·have hlx:j<ys.length:=by rw[HM.out];exact hlt
     have hji:(j:Int)<(m:Int):=by omega
     obtain⟨b,off,cs',e',hbl,hc,hr⟩:=(HS.out.below HWO.out HWO.out.size).2 j hlx
     subst e'
     have hlen:=(assnSh n).len hr
     rw[assnSh_k n]at hlen hc
     have HC0:Hid (∀i v,cs'[i]? =some v→wo.cell? ((⟨b,off+j*15,none⟩:Addr).add i)=some v):=fun i v hv=>by
      rw[show(⟨b,off+j*15,none⟩:Addr).add i=⟨b,off+j*15+i,none⟩ by unfold Addr.add;split<;>simp_all]
      exact hc i v hv
     have HC:=Lib.hid (HF.out _ ys[j] _ HWO.out hr)
     have HL:=Lib.hid hlen
     have HN:Hid (p ys[j]=(ok0 && (ys.take (j+1)).all p)):=Lib.hid (by
      have h:=hz.out
      rw[all_take hlx,←Bool.and_assoc,←h];simp)
     clear hc hr hlen hz
     generalize p ys[j]=y at HC HN
     go_wp2_with (refine wpList_load_w rfl 44 _ rfl ⟨b,off+j*15,none⟩ rfl cs' _ HC0.out Tryz.underlying44 rfl (by rw[HL.out];kernel_rfl) ?_)
     refine HC.out.mono ?_
     rintro e w8 ⟨rfl,hb2⟩
     have HB2:=Lib.hid (hb.out.trans (hb2.mono hb.out.size))
     clear hb2 HC HC0
     go_wp2_with fail
     go_roundw
     case rel=>exact⟨j+1,y,by omega,by go_num,rfl,HN,HB2⟩
     case measure=>simp[intOf];omega
    ·have hr:Hid ((ok0 && ys.all p)=true):=Lib.hid (by
      have h:=hz.out
      rw[show j=ys.length by rw[HM.out];omega,List.take_length]at h
      exact h.symm)
     obtain rfl:j=m:=by omega
     clear hz
     go_wp2_with fail
     go_ret
     exact⟨by rw[hr.out];rfl,HWO.out⟩
end
section
open Go.RowKit
def dupTo (l:List ByteArray):Nat→Bool
 | 0=>false
 | k+1=>dupTo l k || (match l[k]? with | some x=>hasW x (l.take k) | none=>false)
theorem dupTo_snoc {l:List ByteArray}{k:Nat}(h:k<l.length):dupTo l (k+1)=(dupTo l k || hasW l[k] (l.take k)):=by
 conv=>lhs;unfold dupTo
 rw[List.getElem?_eq_getElem h]
theorem dupTo_twi (l:List ByteArray):dupTo l l.length=twiB l:=by
 have key:∀k,k≤l.length→(dupTo l k=true↔∃j,∃h:j<l.length,j<k∧0<cntN l[j] (l.take j)):=fun k=>by
  induction k with
  | zero=>intro _;constructor
          ·intro h;cases h
          ·rintro⟨j,_,h,_⟩;omega
  | succ k ih=>
    intro hk
    rw[dupTo_snoc (by omega),Bool.or_eq_true,ih (by omega),cntN_has]
    constructor
    ·rintro(⟨j,h1,h2,h3⟩ | h)
     ·exact⟨j,h1,by omega,h3⟩
     ·exact⟨k,by omega,by omega,h⟩
    ·rintro⟨j,h1,h2,h3⟩
     by_cases e:j=k
     ·subst e;exact .inr h3
     ·exact .inl ⟨j,h1,by omega,h3⟩
 cases ht:twiB l with
 | true=>
   rw[key _ (Nat.le_refl _)]
   apply Classical.byContradiction
   intro hno
   have h0:twiB l=false:=twiB_miss fun j hj=>by
    rcases Nat.eq_zero_or_pos (cntN l[j] (l.take j))with h | h
    ·exact h
    ·exact absurd ⟨j,hj,hj,h⟩ hno
   rw[h0]at ht;cases ht
 | false=>
   cases hd:dupTo l l.length with
   | false=>rfl
   | true=>
     obtain⟨j,h1,_,h3⟩:=(key _ (Nat.le_refl _)).1 hd
     rw[twiB_hit h1 h3]at ht;cases ht
theorem evs_not (p:Nat→ST→Bool):∀(n:Nat) (l:List ST),(!evs p n l)=ans (fun k s=> !p k s) n l:=by
 have key:∀(n:Nat) (s:ST),(!evT p n s)=anT (fun k s=> !p k s) n s:=fun n=>by
  induction n with
  | zero=>intro s;rfl
  | succ n ih=>
    intro s
    have e:∀l:List ST,(!l.all (evT p n))=l.any (anT (fun k s=> !p k s) n):=fun l=>by
     rw[List.not_all_eq_any_not]
     congr 1
     funext x
     exact ih x
    unfold evT anT
    rw[Bool.not_and,Bool.not_and,e,e,Bool.or_assoc]
 intro n l
 unfold evs ans
 rw[List.not_all_eq_any_not]
 congr 1
 funext x
 exact key n x
theorem ans_or (p q:Nat→ST→Bool):∀(n:Nat) (l:List ST),ans (fun k s=>p k s || q k s) n l=(ans p n l || ans q n l):=by
 have any_or:∀ {T:Type} (f g:T→Bool) (l:List T),l.any (fun x=>f x || g x)=(l.any f || l.any g):=fun f g l=>by
  induction l with
  | nil=>rfl
  | cons x r ih=>rw[List.any_cons,ih,List.any_cons,List.any_cons];cases f x<;>cases g x<;>cases r.any f<;>cases r.any g<;>rfl
 have key:∀(n:Nat) (s:ST),anT (fun k s=>p k s || q k s) n s=(anT p n s || anT q n s):=fun n=>by
  induction n with
  | zero=>intro s;rfl
  | succ n ih=>
    intro s
    have e:∀l:List ST,l.any (anT (fun k s=>p k s || q k s) n)=(l.any (anT p n) || l.any (anT q n)):=fun l=>by
     rw[←any_or]
     congr 1
     funext x
     exact ih x
    unfold anT
    rw[e,e]
    cases p (n+1) s<;>cases q (n+1) s<;>cases s.body.any (anT p n)<;>cases s.body.any (anT q n)<;>cases s.els.any (anT p n)<;>cases s.els.any (anT q n)<;>rfl
 intro n l
 unfold ans
 rw[←any_or]
 congr 1
 funext x
 exact key n x
theorem ans_congr {p p' q:Nat→ST→Bool}(h:∀k s,q (k+1) s=false→p (k+1) s=p' (k+1) s):∀(n:Nat) (l:List ST),ans q n l=false→ans p n l=ans p' n l:=by
 have key:∀(n:Nat) (s:ST),anT q n s=false→anT p n s=anT p' n s:=fun n=>by
  induction n with
  | zero=>intro s _;rfl
  | succ n ih=>
    intro s hq
    unfold anT at hq
    rw[Bool.or_eq_false_iff,Bool.or_eq_false_iff]at hq
    have e:∀l:List ST,l.any (anT q n)=false→l.any (anT p n)=l.any (anT p' n):=fun l hl=>by
     rw[List.any_eq_false]at hl
     induction l with
     | nil=>rfl
     | cons x r ihr=>
       rw[List.any_cons,List.any_cons,ih x (by simpa using hl x (by simp)),ihr (fun y hy=>hl y (by simp[hy]))]
    unfold anT
    rw[h n s hq.1,e _ hq.2.1,e _ hq.2.2]
 intro n l hl
 unfold ans at*
 rw[List.any_eq_false]at hl
 induction l with
 | nil=>rfl
 | cons x r ihr=>rw[List.any_cons,List.any_cons,key n x (by simpa using hl x (by simp)),ihr (fun y hy=>hl y (by simp[hy]))]
theorem empty_of {s:ByteArray}(h:s.toList.isEmpty=true):s=⟨#[]⟩:=by
 rw[Lib.toList_data]at h
 cases s with
 | mk d=>
   have:d= #[]:=by
    rw[List.isEmpty_iff]at h
    exact Array.toList_inj.1 (by simpa using h)
   rw[this]
theorem hasW_iff {s:ByteArray}{l:List ByteArray}:hasW s l=true↔s∈l:=by
 unfold hasW
 rw[List.any_eq_true]
 constructor
 ·rintro⟨x,hx,h⟩
  rw[of_decide_eq_true h]at hx;exact hx
 ·intro h
  exact⟨s,h,by simp⟩
theorem adS_any (f:ByteArray→Bool)(h0:f ⟨#[]⟩=false)(s:ByteArray)(o:List ByteArray):(adS s o).any f=(o.any f || f s):=by
 unfold adS
 by_cases h:(s.toList.isEmpty || hasW s o)=true
 ·rw[if_pos h]
  rw[Bool.or_eq_true]at h
  rcases h with h | h
  ·rw[empty_of h,h0,Bool.or_false]
  ·cases hf:f s with
   | false=>rw[Bool.or_false]
   | true=>rw[Bool.or_true];exact List.any_eq_true.2 ⟨s,hasW_iff.1 h,hf⟩
 ·rw[if_neg h,List.any_append]
  simp
theorem asgs_any (f:ByteArray→Bool)(h0:f ⟨#[]⟩=false):∀(n:Nat) (l:List ST) (o:List ByteArray),(asgs n l o).any f=(o.any f || ans (fun _ s=>f s.p.name) n l):=by
 have key:∀(n:Nat) (s:ST) (o:List ByteArray),(asg n s o).any f=(o.any f || anT (fun _ s=>f s.p.name) n s):=fun n=>by
  induction n with
  | zero=>intro s o;unfold asg anT;rw[Bool.or_false]
  | succ n ih=>
    intro s o
    have e:∀(l:List ST) (o:List ByteArray),(asgs n l o).any f=(o.any f || l.any (anT (fun _ s=>f s.p.name) n)):=fun l=>by
     induction l with
     | nil=>intro o;unfold asgs;simp
     | cons x r ihr=>
       intro o
       have:asgs n (x :: r) o=asgs n r (asg n x o):=rfl
       rw[this,ihr,ih,List.any_cons,Bool.or_assoc]
    rw[asg_succ,e,e,adS_any f h0]
    unfold anT
    simp only[Bool.or_assoc]
 intro n l
 unfold ans
 induction l with
 | nil=>intro o;unfold asgs;simp
 | cons x r ihr=>
   intro o
   have:asgs n (x :: r) o=asgs n r (asg n x o):=rfl
   rw[this,ihr,key,List.any_cons,Bool.or_assoc]
def docC (n:Nat)(qs:List QT)(q:QT)(again:Bool):Int:=
 if((again || hasW resW (q.params ++ q.ghosts)) || dupTo (q.params ++ q.ghosts) (q.params ++ q.ghosts).length)=true then 13
 else if(((ans (stN qs q.ghosts) n q.body || (asgs n q.body []).any (fun x=>hasW x (q.params ++ q.ghosts))) || (vrAs n [q.pre]).any (fun x=> !hasW x (q.params ++ q.ghosts))) || (vrAs n [q.post]).any (fun x=> !hasW x (q.params ++ q.ghosts) && !decide (x=resW)))=true then 12
 else if ans (stC qs) n q.body=true then 14
 else if((ans stP n q.body || prA n q.pre) || prA n q.post)=true then 1
 else 0
theorem hasB_64:∀k,k<10→k≠7→hasB k 64=false:=by decide
theorem snA_0 {nm:ByteArray→Bool}{n:Nat}{a:AT}(h:noA nm n a=true):prA n a=false:=by
 unfold noA at h
 rw[Bool.and_eq_true,beq_iff_eq]at h
 cases n with
 | zero=>rfl
 | succ n=>
   have h2:=h.2
   unfold snA at h2
   rw[h.1,if_pos (by decide)]at h2
   simp only[Bool.and_eq_true,beq_iff_eq]at h2
   have h3:a.ks=[]:=List.eq_nil_of_length_eq_zero (h2.1.trans rfl)
   unfold prA
   rw[h3]
   simp[shrB,h.1]
theorem snS_pr {nm:ByteArray→Bool}:∀(n:Nat) (s:ST),snS nm n s=true→anT (fun k s=>match k with | 0=>false | k+1=> !(s.p.kind == 7) && prA k s.p.a) n s=false:=fun n=>by
 induction n with
 | zero=>intro s h;rfl
 | succ n ih=>
   intro s h
   unfold snS at h
   split at h
   next hk=>
    simp only[Bool.and_eq_true]at h
    have kids:∀(c:Bool) (l:List ST),(bif c then l.all (snS nm n) else l.length == 0)=true→l.any (anT (fun k s=>match k with | 0=>false | k+1=> !(s.p.kind == 7) && prA k s.p.a) n)=false:=fun c l hl=>by
     rw[List.any_eq_false]
     intro x hx
     cases c with
     | true=>
       have:=ih x (List.all_eq_true.1 (by simpa using hl) x hx)
       simpa using this
     | false=>
       have:l=[]:=List.eq_nil_of_length_eq_zero (by simpa using hl)
       rw[this]at hx;cases hx
    unfold anT
    rw[kids _ _ h.1.2,kids _ _ h.2,Bool.or_false,Bool.or_false]
    show(!(s.p.kind == 7) && prA n s.p.a)=false
    by_cases h7:s.p.kind=7
    ·rw[h7];rfl
    ·have h64:hasB s.p.kind.toNat 64=false:=hasB_64 _ (by omega) (by omega)
     have ha:=h.1.1.1.1.2
     rw[h64]at ha
     rw[snA_0 (by simpa using ha),Bool.and_false]
   next=>cases h
theorem list_any_not {T:Type}(f:T→Bool)(l:List T):l.any (fun x=> !f x)= !l.all f:=by
 rw[List.not_all_eq_any_not]
theorem vrAs_one (n:Nat)(a:AT):vrAs n [a]=vrA n a:=by simp[vrAs]
theorem doc_is_code {nm:ByteArray→Bool}(h0:nm ⟨#[]⟩=false)(n:Nat)(qs:List QT)(q:QT)(again:Bool)(hs:snQ nm n q=true):docC n qs q again=amC n qs q again:=by
 unfold snQ at hs
 simp only[Bool.and_eq_true,List.all_eq_true]at hs
 have hown:hasW ⟨#[]⟩ (q.params ++ q.ghosts)=false:=by
  cases h:hasW ⟨#[]⟩ (q.params ++ q.ghosts)with
  | false=>rfl
  | true=>
    have h2:=hasW_iff.1 h
    rw[List.mem_append]at h2
    rcases h2 with h2 | h2
    ·rw[hs.1.1.1.1.2 _ h2]at h0;cases h0
    ·rw[hs.1.1.1.2 _ h2]at h0;cases h0
 have hP:ans (fun k s=>match k with | 0=>false | k+1=> !(s.p.kind == 7) && prA k s.p.a) n q.body=false:=by
  unfold ans
  rw[List.any_eq_false]
  intro x hx
  rw[snS_pr n x (hs.2 x hx)]
  decide
 unfold docC amC
 rw[dupTo_twi]
 have e1:((again || hasW resW (q.params ++ q.ghosts)) || twiB (q.params ++ q.ghosts))=(again || twiB (q.params ++ q.ghosts) || hasW resW (q.params ++ q.ghosts)):=by
  cases again<;>cases hasW resW (q.params ++ q.ghosts)<;>cases twiB (q.params ++ q.ghosts)<;>rfl
 rw[e1]
 have hN:(((ans (stN qs q.ghosts) n q.body || (asgs n q.body []).any (fun x=>hasW x (q.params ++ q.ghosts))) || (vrAs n [q.pre]).any (fun x=> !hasW x (q.params ++ q.ghosts))) || (vrAs n [q.post]).any (fun x=> !hasW x (q.params ++ q.ghosts) && !decide (x=resW)))= !kwB n (q.params ++ q.ghosts) qs q:=by
  unfold kwB
  rw[Bool.not_and,Bool.not_and,evs_not,asgs_any _ hown,vrAs_one,vrAs_one]
  rw[show([]:List ByteArray).any (fun x=>hasW x (q.params ++ q.ghosts))=false from rfl,Bool.false_or]
  rw[←list_any_not,←list_any_not,←ans_or]
  congr 1
  ·congr 1
   unfold ans
   congr 1
   funext s
   have key:∀(n:Nat) (s:ST),anT (fun k s=>stN qs q.ghosts k s || hasW s.p.name (q.params ++ q.ghosts)) n s=anT (fun k s=> !knS (q.params ++ q.ghosts) qs q.ghosts k s) n s:=fun n=>by
    induction n with
    | zero=>intro s;rfl
    | succ n ih=>
      intro s
      unfold anT
      rw[show anT (fun k s=>stN qs q.ghosts k s || hasW s.p.name (q.params ++ q.ghosts)) n=anT (fun k s=> !knS (q.params ++ q.ghosts) qs q.ghosts k s) n from funext ih]
      congr 1
      show(((rdS n s).any (fun x=>hasW x q.ghosts) || (s.p.kind == 9 && !calB s.p.callee qs)) || hasW s.p.name (q.params ++ q.ghosts))= !((!hasW s.p.name (q.params ++ q.ghosts) && (calB s.p.callee qs || !(s.p.kind == 9))) && (rdS n s).all (fun x=> !hasW x q.ghosts))
      rw[Bool.not_and,←list_any_not]
      simp only[Bool.not_not]
      cases hasW s.p.name (q.params ++ q.ghosts)<;>cases calB s.p.callee qs<;>cases (s.p.kind == 9)<;>cases (rdS n s).any (fun x=>hasW x q.ghosts)<;>rfl
   exact key n s
  ·congr 1
   funext x
   cases hasW x (q.params ++ q.ghosts)<;>cases decide (x=resW)<;>rfl
 rw[hN]
 split
 ·rfl
 ·cases hk:kwB n (q.params ++ q.ghosts) qs q with
  | false=>simp
  | true=>
    rw[hk]at hN
    first | simp only[Bool.not_true,Bool.false_eq_true,if_false,Bool.true_eq_false] | skip
    have hst:ans (stN qs q.ghosts) n q.body=false:=by
     simp only[Bool.not_true,Bool.or_eq_false_iff]at hN
     exact hN.1.1.1
    have hC:ans (stC qs) n q.body= !evs (fun _ s=>cntB qs s) n q.body:=by
     rw[evs_not]
     refine ans_congr (q:=stN qs q.ghosts) (fun k s h=> ?_) n q.body hst
     have h2:((rdS k s).any (fun x=>hasW x q.ghosts) || (s.p.kind == 9 && !calB s.p.callee qs))=false:=h
     rw[Bool.or_eq_false_iff]at h2
     show(s.p.kind == 9 && (calB s.p.callee qs && !((calP s.p.callee qs == s.p.args.length) && (calG s.p.callee qs == s.p.ghosts.length))))= !(!(s.p.kind == 9) || (((s.p.args.length:Int) == (calP s.p.callee qs:Int)) && ((s.p.ghosts.length:Int) == (calG s.p.callee qs:Int))))
     have c1:((s.p.args.length:Int) == (calP s.p.callee qs:Int))=(calP s.p.callee qs == s.p.args.length):=by rw[Bool.eq_iff_iff];simp only[beq_iff_eq];omega
     have c2:((s.p.ghosts.length:Int) == (calG s.p.callee qs:Int))=(calG s.p.callee qs == s.p.ghosts.length):=by rw[Bool.eq_iff_iff];simp only[beq_iff_eq];omega
     rw[c1,c2]
     have h3:=h2.2
     revert h3
     cases calB s.p.callee qs<;>cases (s.p.kind == 9)<;>cases (calP s.p.callee qs == s.p.args.length)<;>cases (calG s.p.callee qs == s.p.ghosts.length)<;>simp
    have hS:ans stP n q.body= !evs shS n q.body:=by
     rw[evs_not]
     refine ans_congr (fun k s h=> ?_) n q.body hP
     have h2:(!(s.p.kind == 7) && prA k s.p.a)=false:=h
     show(s.p.kind == 7 && prA k s.p.a)= !(!prA k s.p.a)
     revert h2
     cases (s.p.kind == 7)<;>cases prA k s.p.a<;>simp
    rw[hC,hS]
    cases evs (fun _ s=>cntB qs s) n q.body<;>cases evs shS n q.body<;>cases prA n q.pre<;>cases prA n q.post<;>rfl
end
end Go.Proofs.YtfcaclmcnlflfaaGreatDoor
