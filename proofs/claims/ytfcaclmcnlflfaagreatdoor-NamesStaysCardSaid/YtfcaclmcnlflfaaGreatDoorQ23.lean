/- Parts of a proof. -/
import Derived.Test.YtfcaclmcnlflfaaGreatDoorQ18
set_option linter.unusedVariables false
set_option linter.unusedSimpArgs false
set_option maxHeartbeats 60000000
set_option maxRecDepth 100000
namespace Go.Proofs.YtfcaclmcnlflfaaGreatDoor
section
open Go.RowKit
theorem rassn_4 (n:Nat)(p:AT→Bool)(cs cc ce cv:List Value)(fs:ByteArray)(fn:Int)(a:Option Addr)(m c:Nat)(ys:List AT)(zC zE zV xe zn xc xv:Bool)(w:World)(hm:ys.length=m)(hs:Pak.Sits (assnSh n) (Pak.Lo w.heap.size) w a ys)
 (q0:cs[0]? =some (.int .i64 4)) (p1:Part cs 1 cc) (p2:Part cs 4 ce) (p3:Part cs 8 cv) (q12:cs[12]? =some (.string fs)) (q13:cs[13]? =some (.int .i64 fn)) (q14:cs[14]? =some (.slice a m c)) (l1:cc.length=3) (l2:ce.length=4) (l3:cv.length=4)
 (hf:∀cs x W,Below w.heap.size w W→(assnSh n).rel (Pak.Lo W.heap.size) W cs x→Calls Tryz.prog 49 #[.agg cs.toArray] W (SoundEnd (p x) W))
 (x1:BoolAll 88 #[.agg cc.toArray] (!zC) w) (x2:BoolAll 89 #[.agg ce.toArray] (!zE) w) (x3:BoolAll 89 #[.agg cv.toArray] (!zV) w) (x4:BoolAll 90 #[.agg ce.toArray] xe w) (x5:BoolAll 47 #[.string fs] zn w) (x6:BoolAll 91 #[.agg cc.toArray] xc w) (x7:BoolAll 90 #[.agg cv.toArray] xv w)
 (b4 pl:Bool) (hb4:(zE && fs.toList.isEmpty && fn == 0)=b4) (hpl:(decide (0≤fn) && decide (fn≤1073741824) && xe && zn)=pl):
 Calls Tryz.prog 49 #[.agg cs.toArray] w (SoundEnd ((zC && b4 && zV && (m == 2)) && ys.all p) w):=by
 have HA:Hid (Below w.heap.size w (w.alloc (.cells cs.toArray 44))):=box_low
 have HB0:Hid (Below (w.alloc (.cells cs.toArray 44)).heap.size (w.alloc (.cells cs.toArray 44)) (w.alloc (.cells cs.toArray 44))):=Below.refl _ _
 have HS:=Lib.hid hs
 have HF:=Lib.hid hf
 have HM:=Lib.hid hm
 have hmm:m≤9223372036854775807:=by rw[←hm];exact hs.1
 have HB4:=Lib.hid hb4
 have HPL:=Lib.hid hpl
 have X1:=Lib.hid (x1.up HA.out)
 have X2:=Lib.hid (x2.up HA.out)
 have X3:=Lib.hid (x3.up HA.out)
 have X4:=Lib.hid (x4.up HA.out)
 have X5:=Lib.hid (x5.up HA.out)
 have X6:=Lib.hid (x6.up HA.out)
 have X7:=Lib.hid (x7.up HA.out)
 have P1:=Lib.hid (fun W (hb:Below (w.alloc (.cells cs.toArray 44)).heap.size (w.alloc (.cells cs.toArray 44)) W)=>box_part p1 hb)
 have L1:=Lib.hid l1
 have P2:=Lib.hid (fun W (hb:Below (w.alloc (.cells cs.toArray 44)).heap.size (w.alloc (.cells cs.toArray 44)) W)=>box_part p2 hb)
 have L2:=Lib.hid l2
 have P3:=Lib.hid (fun W (hb:Below (w.alloc (.cells cs.toArray 44)).heap.size (w.alloc (.cells cs.toArray 44)) W)=>box_part p3 hb)
 have L3:=Lib.hid l3
 have Q0:=Lib.hid (fun W (hb:Below (w.alloc (.cells cs.toArray 44)).heap.size (w.alloc (.cells cs.toArray 44)) W)=>box_at q0 hb)
 have Q12:=Lib.hid (fun W (hb:Below (w.alloc (.cells cs.toArray 44)).heap.size (w.alloc (.cells cs.toArray 44)) W)=>box_at q12 hb)
 have Q13:=Lib.hid (fun W (hb:Below (w.alloc (.cells cs.toArray 44)).heap.size (w.alloc (.cells cs.toArray 44)) W)=>box_at q13 hb)
 have Q14:=Lib.hid (fun W (hb:Below (w.alloc (.cells cs.toArray 44)).heap.size (w.alloc (.cells cs.toArray 44)) W)=>box_at q14 hb)
 clear hs hf hm hb4 hpl x1 x2 x3 x4 x5 x6 x7 p1 p2 p3 l1 l2 l3 q0 q12 q13 q14
 go_enter Tryz.func49,Tryz.ntmps49
 go_wp2_with (refine wpList_load_w rfl 41 _ rfl ⟨w.heap.size,1,none⟩ rfl cc _ (P1.out _ HB0.out) Tryz.underlying41 rfl (by rw[L1.out];kernel_rfl) ?_)
 refine(X1.out.at HB0.out).mono ?_
 rintro r w1 ⟨rfl,hb⟩
 have H1:=Lib.hid (HB0.out.trans (hb.mono HB0.out.size))
 clear hb
 go_upto_region 2 with (fail)
 go_cut [4] (fun s wr=>s= .bool b4∧Hid (Below (w.alloc (.cells cs.toArray 44)).heap.size (w.alloc (.cells cs.toArray 44)) wr))
 case first=>
  go_wp2_with (refine wpList_load_w rfl 37 _ rfl ⟨w.heap.size,4,none⟩ rfl ce _ (P2.out _ H1.out) Tryz.underlying37 rfl (by rw[L2.out];kernel_rfl) ?_)
  refine(X2.out.at H1.out).mono ?_
  rintro r w2 ⟨rfl,hb⟩
  have H2:=Lib.hid (H1.out.trans (hb.mono H1.out.size))
  clear hb
  cases zE with
  | false=>
    have hr:Hid (b4=false):=Lib.hid (by rw[←HB4.out];rfl)
    go_wp2_with fail
    go_meet
    case rel=>exact⟨by rw[hr.out],H2⟩
  | true=>
    have k12:=Q12.out _ H2.out
    have k13:=Q13.out _ H2.out
    by_cases hs:fs.toList=[]
    ·have hse:fs.toList.isEmpty=true:=by simp[hs]
     by_cases h1:fn=0
     ·have h1b:(fn == 0)=true:=by simp[h1]
      have hr:Hid (b4=true):=Lib.hid (by rw[←HB4.out,hse,h1b];rfl)
      clear h1
      go_wp2_with fail
      go_meet
      case rel=>exact⟨by rw[hr.out],H2⟩
     ·have h1b:(fn == 0)=false:=by simp[h1]
      have hr:Hid (b4=false):=Lib.hid (by rw[←HB4.out,hse,h1b];rfl)
      go_wp2_with fail
      go_meet
      case rel=>exact⟨by rw[hr.out],H2⟩
    ·have hse:fs.toList.isEmpty=false:=by simp[hs]
     have hsf:(fs.toList == [])=false:=by simp[hs]
     have hr:Hid (b4=false):=Lib.hid (by rw[←HB4.out,hse];rfl)
     go_wp2_with fail
     go_meet
     case rel=>exact⟨by rw[hr.out],H2⟩
 case rest=>
 obtain⟨rfl,H2⟩:=hcut
 have Hc:=Lib.hid (HA.out.trans (H2.out.mono HA.out.size))
 go_wp2_with (refine wpList_load_w rfl 37 _ rfl ⟨w.heap.size,8,none⟩ rfl cv _ (P3.out _ H2.out) Tryz.underlying37 rfl (by rw[L3.out];kernel_rfl) ?_)
 refine(X3.out.at H2.out).mono ?_
 rintro r w3 ⟨rfl,hb⟩
 have H3:=Lib.hid (H2.out.trans (hb.mono H2.out.size))
 clear hb
 go_upto_region 4 with (fail)
 go_cut [6] (fun s wr=>s= .bool pl∧Hid (Below (w.alloc (.cells cs.toArray 44)).heap.size (w.alloc (.cells cs.toArray 44)) wr))
 case first=>
  have k12:=Q12.out _ H3.out
  have k13:=Q13.out _ H3.out
  by_cases h1:0≤fn
  ·by_cases h2:fn≤1073741824
   ·have hr:Hid (pl=(xe && zn)):=Lib.hid (by rw[←HPL.out,decide_eq_true h1,decide_eq_true h2];rfl)
    go_wp2_with (refine wpList_load_w rfl 37 _ rfl ⟨w.heap.size,4,none⟩ rfl ce _ (P2.out _ H3.out) Tryz.underlying37 rfl (by rw[L2.out];kernel_rfl) ?_)
    refine(X4.out.at H3.out).mono ?_
    rintro r w4 ⟨rfl,hb⟩
    have H4:=Lib.hid (H3.out.trans (hb.mono H3.out.size))
    clear hb
    clear k12 k13
    have k12:=Q12.out _ H4.out
    cases xe with
    | false=>
      go_wp2_with fail
      go_meet
      case rel=>exact⟨by rw[hr.out];rfl,H4⟩
    | true=>
      go_wp2_with fail
      refine(X5.out.at H4.out).mono ?_
      rintro r w5 ⟨rfl,hb⟩
      have H5:=Lib.hid (H4.out.trans (hb.mono H4.out.size))
      clear hb
      go_wp2_with fail
      go_meet
      case rel=>exact⟨by rw[hr.out];rfl,H5⟩
   ·have h3:decide (fn≤1073741824)=false:=decide_eq_false h2
    have hr:Hid (pl=false):=Lib.hid (by rw[←HPL.out,h3];simp)
    go_wp2_with fail
    go_meet
    case rel=>exact⟨by rw[hr.out],H3⟩
  ·have h3:decide (0≤fn)=false:=decide_eq_false h1
   have hr:Hid (pl=false):=Lib.hid (by rw[←HPL.out,h3];simp)
   go_wp2_with fail
   go_meet
   case rel=>exact⟨by rw[hr.out],H3⟩
 case rest=>
 obtain⟨rfl,H5⟩:=hcut
 have k14:=Q14.out _ H5.out
 have k0:=Q0.out _ H5.out
 go_upto_block 0 with fail
 go_cut [8] (fun s wr=>s= .bool (zC && b4 && zV && (m == 2))∧Hid (Below (w.alloc (.cells cs.toArray 44)).heap.size (w.alloc (.cells cs.toArray 44)) wr))
 case first=>
  cases zC with
  | false=>
    go_wp2_with fail
    go_meet
    case rel=>exact⟨by simp,H5⟩
  | true=>
    cases b4 with
    | false=>
      go_wp2_with fail
      go_meet
      case rel=>exact⟨by simp,H5⟩
    | true=>
      cases zV with
      | false=>
        go_wp2_with fail
        go_meet
        case rel=>exact⟨by simp,H5⟩
      | true=>
        by_cases hmv:m=2
        ·have hmq:(m == 2)=true:=by rw[hmv];rfl
         have hmi:((m:Int) == 2)=true:=by rw[hmv];rfl
         clear hmv
         go_wp2_with fail
         go_meet
         case rel=>exact⟨by simp[hmq],H5⟩
        ·have hmq:(m == 2)=false:=beq_eq_false_iff_ne.2 hmv
         have hmi:((m:Int) == 2)=false:=by rw[Bool.eq_false_iff];simp only[ne_eq,beq_iff_eq];omega
         clear hmv
         go_wp2_with fail
         go_meet
         case rel=>exact⟨by simp[hmq],H5⟩
 case rest=>
 obtain⟨rfl,H7⟩:=hcut
 generalize (zC && b4 && zV && (m == 2))=ok0 at*
 go_wp2_with fail
 go_loopw [8,9] (fun s i wr=>∃(j:Nat) (z:Bool),j≤m∧i= .int .i64 j∧s= .bool z∧Hid (z=(ok0 && (ys.take j).all p))∧Hid (Below (w.alloc (.cells cs.toArray 44)).heap.size (w.alloc (.cells cs.toArray 44)) wr)) (fun _ i _=>m - (intOf i).toNat)
 case atStart=>exact⟨0,ok0,Nat.zero_le _,rfl,rfl,Lib.hid (by simp),H7.out⟩
 case round=>
  obtain⟨j,z,hj,rfl,rfl,hz,hb⟩:=hrel
  obtain⟨wo,rfl⟩:∃wo:World,wo=wr:=⟨_,rfl⟩
  have HWO:=Lib.hid (HA.out.trans (hb.out.mono HA.out.size))
  have k15:=Q14.out _ hb.out
  cases z with
  | false=>
    have hr:Hid ((ok0 && ys.all p)=false):=Lib.hid (by
     have h:=hz.out.symm
     rcases Bool.and_eq_false_iff.1 h with h | h
     ·first | rw[h] | skip
      rfl
     ·rw[all_false_of_take h];simp)
    by_cases hlt:j<m
    ·have hji:decide ((j:Int)<(m:Int))=true:=decide_eq_true (by omega)
     go_wp2_with fail
     go_ret
     exact⟨by rw[hr.out];rfl,HWO.out⟩
    ·have hji:decide (j<m)=false:=decide_eq_false hlt
     go_wp2_with fail
     go_ret
     exact⟨by rw[hr.out];rfl,HWO.out⟩
  | true=>
    by_cases hlt:j<m
    ·have hlx:j<ys.length:=by rw[HM.out];exact hlt
     have hji:(j:Int)<(m:Int):=by omega
     obtain⟨b,off,cs',e',hbl,hc,hr⟩:=(HS.out.below HWO.out HWO.out.size).2 j hlx
     subst e'
     have hlen:=(assnSh n).len hr
     rw[assnSh_k n]at hlen hc
     have HC0:Hid (∀i v,cs'[i]? =some v→wo.cell? ((⟨b,off+j*15,none⟩:Addr).add i)=some v):=fun i v hv=>by
      rw[show(⟨b,off+j*15,none⟩:Addr).add i=⟨b,off+j*15+i,none⟩ by unfold Addr.add;split<;>simp_all]
      exact hc i v hv
     have HC:=Lib.hid (HF.out _ ys[j] _ HWO.out hr)
     have HL:=Lib.hid hlen
     have HN:Hid (p ys[j]=(ok0 && (ys.take (j+1)).all p)):=Lib.hid (by
      have h:=hz.out
      rw[all_take hlx,←Bool.and_assoc,←h];simp)
     clear hc hr hlen hz
     generalize p ys[j]=y at HC HN
     go_wp2_with (refine wpList_load_w rfl 44 _ rfl ⟨b,off+j*15,none⟩ rfl cs' _ HC0.out Tryz.underlying44 rfl (by rw[HL.out];kernel_rfl) ?_)
     refine HC.out.mono ?_
     rintro e w8 ⟨rfl,hb2⟩
     have HB2:=Lib.hid (hb.out.trans (hb2.mono hb.out.size))
     clear hb2 HC HC0
     go_wp2_with fail
     go_roundw
     case rel=>exact⟨j+1,y,by omega,by go_num,rfl,HN,HB2⟩
     case measure=>simp[intOf];omega
    ·have hr:Hid ((ok0 && ys.all p)=true):=Lib.hid (by
      have h:=hz.out
      rw[show j=ys.length by rw[HM.out];omega,List.take_length]at h
      exact h.symm)
     obtain rfl:j=m:=by omega
     clear hz
     go_wp2_with fail
     go_ret
     exact⟨by rw[hr.out];rfl,HWO.out⟩
theorem rassn_5 (n:Nat)(p:AT→Bool)(cs cc ce cv:List Value)(fs:ByteArray)(fn:Int)(a:Option Addr)(m c:Nat)(ys:List AT)(zC zE zV xe zn xc xv:Bool)(w:World)(hm:ys.length=m)(hs:Pak.Sits (assnSh n) (Pak.Lo w.heap.size) w a ys)
 (q0:cs[0]? =some (.int .i64 5)) (p1:Part cs 1 cc) (p2:Part cs 4 ce) (p3:Part cs 8 cv) (q12:cs[12]? =some (.string fs)) (q13:cs[13]? =some (.int .i64 fn)) (q14:cs[14]? =some (.slice a m c)) (l1:cc.length=3) (l2:ce.length=4) (l3:cv.length=4)
 (hf:∀cs x W,Below w.heap.size w W→(assnSh n).rel (Pak.Lo W.heap.size) W cs x→Calls Tryz.prog 49 #[.agg cs.toArray] W (SoundEnd (p x) W))
 (x1:BoolAll 88 #[.agg cc.toArray] (!zC) w) (x2:BoolAll 89 #[.agg ce.toArray] (!zE) w) (x3:BoolAll 89 #[.agg cv.toArray] (!zV) w) (x4:BoolAll 90 #[.agg ce.toArray] xe w) (x5:BoolAll 47 #[.string fs] zn w) (x6:BoolAll 91 #[.agg cc.toArray] xc w) (x7:BoolAll 90 #[.agg cv.toArray] xv w)
 (b4 pl:Bool) (hb4:(zE && fs.toList.isEmpty && fn == 0)=b4) (hpl:(decide (0≤fn) && decide (fn≤1073741824) && xe && zn)=pl):
 Calls Tryz.prog 49 #[.agg cs.toArray] w (SoundEnd ((b4 && zV && (m == 2) && xc) && ys.all p) w):=by
 have HA:Hid (Below w.heap.size w (w.alloc (.cells cs.toArray 44))):=box_low
 have HB0:Hid (Below (w.alloc (.cells cs.toArray 44)).heap.size (w.alloc (.cells cs.toArray 44)) (w.alloc (.cells cs.toArray 44))):=Below.refl _ _
 have HS:=Lib.hid hs
 have HF:=Lib.hid hf
 have HM:=Lib.hid hm
 have hmm:m≤9223372036854775807:=by rw[←hm];exact hs.1
 have HB4:=Lib.hid hb4
 have HPL:=Lib.hid hpl
 have X1:=Lib.hid (x1.up HA.out)
 have X2:=Lib.hid (x2.up HA.out)
 have X3:=Lib.hid (x3.up HA.out)
 have X4:=Lib.hid (x4.up HA.out)
 have X5:=Lib.hid (x5.up HA.out)
 have X6:=Lib.hid (x6.up HA.out)
 have X7:=Lib.hid (x7.up HA.out)
 have P1:=Lib.hid (fun W (hb:Below (w.alloc (.cells cs.toArray 44)).heap.size (w.alloc (.cells cs.toArray 44)) W)=>box_part p1 hb)
 have L1:=Lib.hid l1
 have P2:=Lib.hid (fun W (hb:Below (w.alloc (.cells cs.toArray 44)).heap.size (w.alloc (.cells cs.toArray 44)) W)=>box_part p2 hb)
 have L2:=Lib.hid l2
 have P3:=Lib.hid (fun W (hb:Below (w.alloc (.cells cs.toArray 44)).heap.size (w.alloc (.cells cs.toArray 44)) W)=>box_part p3 hb)
 have L3:=Lib.hid l3
 have Q0:=Lib.hid (fun W (hb:Below (w.alloc (.cells cs.toArray 44)).heap.size (w.alloc (.cells cs.toArray 44)) W)=>box_at q0 hb)
 have Q12:=Lib.hid (fun W (hb:Below (w.alloc (.cells cs.toArray 44)).heap.size (w.alloc (.cells cs.toArray 44)) W)=>box_at q12 hb)
 have Q13:=Lib.hid (fun W (hb:Below (w.alloc (.cells cs.toArray 44)).heap.size (w.alloc (.cells cs.toArray 44)) W)=>box_at q13 hb)
 have Q14:=Lib.hid (fun W (hb:Below (w.alloc (.cells cs.toArray 44)).heap.size (w.alloc (.cells cs.toArray 44)) W)=>box_at q14 hb)
 clear hs hf hm hb4 hpl x1 x2 x3 x4 x5 x6 x7 p1 p2 p3 l1 l2 l3 q0 q12 q13 q14
 go_enter Tryz.func49,Tryz.ntmps49
 go_wp2_with (refine wpList_load_w rfl 41 _ rfl ⟨w.heap.size,1,none⟩ rfl cc _ (P1.out _ HB0.out) Tryz.underlying41 rfl (by rw[L1.out];kernel_rfl) ?_)
 refine(X1.out.at HB0.out).mono ?_
 rintro r w1 ⟨rfl,hb⟩
 have H1:=Lib.hid (HB0.out.trans (hb.mono HB0.out.size))
 clear hb
 go_upto_region 2 with (fail)
 go_cut [4] (fun s wr=>s= .bool b4∧Hid (Below (w.alloc (.cells cs.toArray 44)).heap.size (w.alloc (.cells cs.toArray 44)) wr))
 case first=>
  go_wp2_with (refine wpList_load_w rfl 37 _ rfl ⟨w.heap.size,4,none⟩ rfl ce _ (P2.out _ H1.out) Tryz.underlying37 rfl (by rw[L2.out];kernel_rfl) ?_)
  refine(X2.out.at H1.out).mono ?_
  rintro r w2 ⟨rfl,hb⟩
  have H2:=Lib.hid (H1.out.trans (hb.mono H1.out.size))
  clear hb
  cases zE with
  | false=>
    have hr:Hid (b4=false):=Lib.hid (by rw[←HB4.out];rfl)
    go_wp2_with fail
    go_meet
    case rel=>exact⟨by rw[hr.out],H2⟩
  | true=>
    have k12:=Q12.out _ H2.out
    have k13:=Q13.out _ H2.out
    by_cases hs:fs.toList=[]
    ·have hse:fs.toList.isEmpty=true:=by simp[hs]
     by_cases h1:fn=0
     ·have h1b:(fn == 0)=true:=by simp[h1]
      have hr:Hid (b4=true):=Lib.hid (by rw[←HB4.out,hse,h1b];rfl)
      clear h1
      go_wp2_with fail
      go_meet
      case rel=>exact⟨by rw[hr.out],H2⟩
     ·have h1b:(fn == 0)=false:=by simp[h1]
      have hr:Hid (b4=false):=Lib.hid (by rw[←HB4.out,hse,h1b];rfl)
      go_wp2_with fail
      go_meet
      case rel=>exact⟨by rw[hr.out],H2⟩
    ·have hse:fs.toList.isEmpty=false:=by simp[hs]
     have hsf:(fs.toList == [])=false:=by simp[hs]
     have hr:Hid (b4=false):=Lib.hid (by rw[←HB4.out,hse];rfl)
     go_wp2_with fail
     go_meet
     case rel=>exact⟨by rw[hr.out],H2⟩
 case rest=>
 obtain⟨rfl,H2⟩:=hcut
 have Hc:=Lib.hid (HA.out.trans (H2.out.mono HA.out.size))
 go_wp2_with (refine wpList_load_w rfl 37 _ rfl ⟨w.heap.size,8,none⟩ rfl cv _ (P3.out _ H2.out) Tryz.underlying37 rfl (by rw[L3.out];kernel_rfl) ?_)
 refine(X3.out.at H2.out).mono ?_
 rintro r w3 ⟨rfl,hb⟩
 have H3:=Lib.hid (H2.out.trans (hb.mono H2.out.size))
 clear hb
 go_upto_region 4 with (fail)
 go_cut [6] (fun s wr=>s= .bool pl∧Hid (Below (w.alloc (.cells cs.toArray 44)).heap.size (w.alloc (.cells cs.toArray 44)) wr))
 case first=>
  have k12:=Q12.out _ H3.out
  have k13:=Q13.out _ H3.out
  by_cases h1:0≤fn
  ·by_cases h2:fn≤1073741824
   ·have hr:Hid (pl=(xe && zn)):=Lib.hid (by rw[←HPL.out,decide_eq_true h1,decide_eq_true h2];rfl)
    go_wp2_with (refine wpList_load_w rfl 37 _ rfl ⟨w.heap.size,4,none⟩ rfl ce _ (P2.out _ H3.out) Tryz.underlying37 rfl (by rw[L2.out];kernel_rfl) ?_)
    refine(X4.out.at H3.out).mono ?_
    rintro r w4 ⟨rfl,hb⟩
    have H4:=Lib.hid (H3.out.trans (hb.mono H3.out.size))
    clear hb
    clear k12 k13
    have k12:=Q12.out _ H4.out
    cases xe with
    | false=>
      go_wp2_with fail
      go_meet
      case rel=>exact⟨by rw[hr.out];rfl,H4⟩
    | true=>
      go_wp2_with fail
      refine(X5.out.at H4.out).mono ?_
      rintro r w5 ⟨rfl,hb⟩
      have H5:=Lib.hid (H4.out.trans (hb.mono H4.out.size))
      clear hb
      go_wp2_with fail
      go_meet
      case rel=>exact⟨by rw[hr.out];rfl,H5⟩
   ·have h3:decide (fn≤1073741824)=false:=decide_eq_false h2
    have hr:Hid (pl=false):=Lib.hid (by rw[←HPL.out,h3];simp)
    go_wp2_with fail
    go_meet
    case rel=>exact⟨by rw[hr.out],H3⟩
  ·have h3:decide (0≤fn)=false:=decide_eq_false h1
   have hr:Hid (pl=false):=Lib.hid (by rw[←HPL.out,h3];simp)
   go_wp2_with fail
   go_meet
   case rel=>exact⟨by rw[hr.out],H3⟩
 case rest=>
 obtain⟨rfl,H5⟩:=hcut
 have k14:=Q14.out _ H5.out
 have k0:=Q0.out _ H5.out
 go_upto_block 0 with fail
 go_cut [8] (fun s wr=>s= .bool (b4 && zV && (m == 2) && xc)∧Hid (Below (w.alloc (.cells cs.toArray 44)).heap.size (w.alloc (.cells cs.toArray 44)) wr))
 case first=>
  cases b4 with
  | false=>
    go_wp2_with fail
    go_meet
    case rel=>exact⟨by simp,H5⟩
  | true=>
    cases zV with
    | false=>
      go_wp2_with fail
      go_meet
      case rel=>exact⟨by simp,H5⟩
    | true=>
      by_cases hmv:m=2
      ·have hmq:(m == 2)=true:=by rw[hmv];rfl
       have hmi:((m:Int) == 2)=true:=by rw[hmv];rfl
       clear hmv
       go_wp2_with (refine wpList_load_w rfl 41 _ rfl ⟨w.heap.size,1,none⟩ rfl cc _ (P1.out _ H5.out) Tryz.underlying41 rfl (by rw[L1.out];kernel_rfl) ?_)
       refine(X6.out.at H5.out).mono ?_
       rintro r w6 ⟨rfl,hb⟩
       have H6:=Lib.hid (H5.out.trans (hb.mono H5.out.size))
       clear hb
       go_wp2_with fail
       go_meet
       case rel=>exact⟨by simp[hmq],H6⟩
      ·have hmq:(m == 2)=false:=beq_eq_false_iff_ne.2 hmv
       have hmi:((m:Int) == 2)=false:=by rw[Bool.eq_false_iff];simp only[ne_eq,beq_iff_eq];omega
       clear hmv
       go_wp2_with fail
       go_meet
       case rel=>exact⟨by simp[hmq],H5⟩
 case rest=>
 obtain⟨rfl,H7⟩:=hcut
 generalize (b4 && zV && (m == 2) && xc)=ok0 at*
 go_wp2_with fail
 go_loopw [8,9] (fun s i wr=>∃(j:Nat) (z:Bool),j≤m∧i= .int .i64 j∧s= .bool z∧Hid (z=(ok0 && (ys.take j).all p))∧Hid (Below (w.alloc (.cells cs.toArray 44)).heap.size (w.alloc (.cells cs.toArray 44)) wr)) (fun _ i _=>m - (intOf i).toNat)
 case atStart=>exact⟨0,ok0,Nat.zero_le _,rfl,rfl,Lib.hid (by simp),H7.out⟩
 case round=>
  obtain⟨j,z,hj,rfl,rfl,hz,hb⟩:=hrel
  obtain⟨wo,rfl⟩:∃wo:World,wo=wr:=⟨_,rfl⟩
  have HWO:=Lib.hid (HA.out.trans (hb.out.mono HA.out.size))
  have k15:=Q14.out _ hb.out
  cases z with
  | false=>
    have hr:Hid ((ok0 && ys.all p)=false):=Lib.hid (by
     have h:=hz.out.symm
     rcases Bool.and_eq_false_iff.1 h with h | h
     ·first | rw[h] | skip
      rfl
     ·rw[all_false_of_take h];simp)
    by_cases hlt:j<m
    ·have hji:decide ((j:Int)<(m:Int))=true:=decide_eq_true (by omega)
     go_wp2_with fail
     go_ret
     exact⟨by rw[hr.out];rfl,HWO.out⟩
    ·have hji:decide (j<m)=false:=decide_eq_false hlt
     go_wp2_with fail
     go_ret
     exact⟨by rw[hr.out];rfl,HWO.out⟩
  | true=>
    by_cases hlt:j<m
    ·have hlx:j<ys.length:=by rw[HM.out];exact hlt
     have hji:(j:Int)<(m:Int):=by omega
     obtain⟨b,off,cs',e',hbl,hc,hr⟩:=(HS.out.below HWO.out HWO.out.size).2 j hlx
     subst e'
     have hlen:=(assnSh n).len hr
     rw[assnSh_k n]at hlen hc
     have HC0:Hid (∀i v,cs'[i]? =some v→wo.cell? ((⟨b,off+j*15,none⟩:Addr).add i)=some v):=fun i v hv=>by
      rw[show(⟨b,off+j*15,none⟩:Addr).add i=⟨b,off+j*15+i,none⟩ by unfold Addr.add;split<;>simp_all]
      exact hc i v hv
     have HC:=Lib.hid (HF.out _ ys[j] _ HWO.out hr)
     have HL:=Lib.hid hlen
     have HN:Hid (p ys[j]=(ok0 && (ys.take (j+1)).all p)):=Lib.hid (by
      have h:=hz.out
      rw[all_take hlx,←Bool.and_assoc,←h];simp)
     clear hc hr hlen hz
     generalize p ys[j]=y at HC HN
     go_wp2_with (refine wpList_load_w rfl 44 _ rfl ⟨b,off+j*15,none⟩ rfl cs' _ HC0.out Tryz.underlying44 rfl (by rw[HL.out];kernel_rfl) ?_)
     refine HC.out.mono ?_
     rintro e w8 ⟨rfl,hb2⟩
     have HB2:=Lib.hid (hb.out.trans (hb2.mono hb.out.size))
     clear hb2 HC HC0
     go_wp2_with fail
     go_roundw
     case rel=>exact⟨j+1,y,by omega,by go_num,rfl,HN,HB2⟩
     case measure=>simp[intOf];omega
    ·have hr:Hid ((ok0 && ys.all p)=true):=Lib.hid (by
      have h:=hz.out
      rw[show j=ys.length by rw[HM.out];omega,List.take_length]at h
      exact h.symm)
     obtain rfl:j=m:=by omega
     clear hz
     go_wp2_with fail
     go_ret
     exact⟨by rw[hr.out];rfl,HWO.out⟩
theorem rassn_x (k:Int)(n:Nat)(p:AT→Bool)(cs cc ce cv:List Value)(fs:ByteArray)(fn:Int)(a:Option Addr)(m c:Nat)(ys:List AT)(zC zE zV xe zn xc xv:Bool)(w:World)(hm:ys.length=m)(hs:Pak.Sits (assnSh n) (Pak.Lo w.heap.size) w a ys)
 (q0:cs[0]? =some (.int .i64 k)) (p1:Part cs 1 cc) (p2:Part cs 4 ce) (p3:Part cs 8 cv) (q12:cs[12]? =some (.string fs)) (q13:cs[13]? =some (.int .i64 fn)) (q14:cs[14]? =some (.slice a m c)) (l1:cc.length=3) (l2:ce.length=4) (l3:cv.length=4)
 (hf:∀cs x W,Below w.heap.size w W→(assnSh n).rel (Pak.Lo W.heap.size) W cs x→Calls Tryz.prog 49 #[.agg cs.toArray] W (SoundEnd (p x) W))
 (x1:BoolAll 88 #[.agg cc.toArray] (!zC) w) (x2:BoolAll 89 #[.agg ce.toArray] (!zE) w) (x3:BoolAll 89 #[.agg cv.toArray] (!zV) w) (x4:BoolAll 90 #[.agg ce.toArray] xe w) (x5:BoolAll 47 #[.string fs] zn w) (x6:BoolAll 91 #[.agg cc.toArray] xc w) (x7:BoolAll 90 #[.agg cv.toArray] xv w) (hk:¬(0≤k∧k≤5))
 (b4 pl:Bool) (hb4:(zE && fs.toList.isEmpty && fn == 0)=b4) (hpl:(decide (0≤fn) && decide (fn≤1073741824) && xe && zn)=pl):
 Calls Tryz.prog 49 #[.agg cs.toArray] w (SoundEnd ((false) && ys.all p) w):=by
 have HA:Hid (Below w.heap.size w (w.alloc (.cells cs.toArray 44))):=box_low
 have HB0:Hid (Below (w.alloc (.cells cs.toArray 44)).heap.size (w.alloc (.cells cs.toArray 44)) (w.alloc (.cells cs.toArray 44))):=Below.refl _ _
 have HS:=Lib.hid hs
 have HF:=Lib.hid hf
 have HM:=Lib.hid hm
 have hmm:m≤9223372036854775807:=by rw[←hm];exact hs.1
 have HB4:=Lib.hid hb4
 have HPL:=Lib.hid hpl
 have X1:=Lib.hid (x1.up HA.out)
 have X2:=Lib.hid (x2.up HA.out)
 have X3:=Lib.hid (x3.up HA.out)
 have X4:=Lib.hid (x4.up HA.out)
 have X5:=Lib.hid (x5.up HA.out)
 have X6:=Lib.hid (x6.up HA.out)
 have X7:=Lib.hid (x7.up HA.out)
 have P1:=Lib.hid (fun W (hb:Below (w.alloc (.cells cs.toArray 44)).heap.size (w.alloc (.cells cs.toArray 44)) W)=>box_part p1 hb)
 have L1:=Lib.hid l1
 have P2:=Lib.hid (fun W (hb:Below (w.alloc (.cells cs.toArray 44)).heap.size (w.alloc (.cells cs.toArray 44)) W)=>box_part p2 hb)
 have L2:=Lib.hid l2
 have P3:=Lib.hid (fun W (hb:Below (w.alloc (.cells cs.toArray 44)).heap.size (w.alloc (.cells cs.toArray 44)) W)=>box_part p3 hb)
 have L3:=Lib.hid l3
 have Q0:=Lib.hid (fun W (hb:Below (w.alloc (.cells cs.toArray 44)).heap.size (w.alloc (.cells cs.toArray 44)) W)=>box_at q0 hb)
 have Q12:=Lib.hid (fun W (hb:Below (w.alloc (.cells cs.toArray 44)).heap.size (w.alloc (.cells cs.toArray 44)) W)=>box_at q12 hb)
 have Q13:=Lib.hid (fun W (hb:Below (w.alloc (.cells cs.toArray 44)).heap.size (w.alloc (.cells cs.toArray 44)) W)=>box_at q13 hb)
 have Q14:=Lib.hid (fun W (hb:Below (w.alloc (.cells cs.toArray 44)).heap.size (w.alloc (.cells cs.toArray 44)) W)=>box_at q14 hb)
 clear hs hf hm hb4 hpl x1 x2 x3 x4 x5 x6 x7 p1 p2 p3 l1 l2 l3 q0 q12 q13 q14
 have e0:(k == 0)=false:=by simp;omega
 have e1:(k == 1)=false:=by simp;omega
 have e2:(k == 2)=false:=by simp;omega
 have e3:(k == 3)=false:=by simp;omega
 have e4:(k == 4)=false:=by simp;omega
 have e5:(k == 5)=false:=by simp;omega
 clear hk
 go_enter Tryz.func49,Tryz.ntmps49
 go_wp2_with (refine wpList_load_w rfl 41 _ rfl ⟨w.heap.size,1,none⟩ rfl cc _ (P1.out _ HB0.out) Tryz.underlying41 rfl (by rw[L1.out];kernel_rfl) ?_)
 refine(X1.out.at HB0.out).mono ?_
 rintro r w1 ⟨rfl,hb⟩
 have H1:=Lib.hid (HB0.out.trans (hb.mono HB0.out.size))
 clear hb
 go_upto_region 2 with (fail)
 go_cut [4] (fun s wr=>s= .bool b4∧Hid (Below (w.alloc (.cells cs.toArray 44)).heap.size (w.alloc (.cells cs.toArray 44)) wr))
 case first=>
  go_wp2_with (refine wpList_load_w rfl 37 _ rfl ⟨w.heap.size,4,none⟩ rfl ce _ (P2.out _ H1.out) Tryz.underlying37 rfl (by rw[L2.out];kernel_rfl) ?_)
  refine(X2.out.at H1.out).mono ?_
  rintro r w2 ⟨rfl,hb⟩
  have H2:=Lib.hid (H1.out.trans (hb.mono H1.out.size))
  clear hb
  cases zE with
  | false=>
    have hr:Hid (b4=false):=Lib.hid (by rw[←HB4.out];rfl)
    go_wp2_with fail
    go_meet
    case rel=>exact⟨by rw[hr.out],H2⟩
  | true=>
    have k12:=Q12.out _ H2.out
    have k13:=Q13.out _ H2.out
    by_cases hs:fs.toList=[]
    ·have hse:fs.toList.isEmpty=true:=by simp[hs]
     by_cases h1:fn=0
     ·have h1b:(fn == 0)=true:=by simp[h1]
      have hr:Hid (b4=true):=Lib.hid (by rw[←HB4.out,hse,h1b];rfl)
      clear h1
      go_wp2_with fail
      go_meet
      case rel=>exact⟨by rw[hr.out],H2⟩
     ·have h1b:(fn == 0)=false:=by simp[h1]
      have hr:Hid (b4=false):=Lib.hid (by rw[←HB4.out,hse,h1b];rfl)
      go_wp2_with fail
      go_meet
      case rel=>exact⟨by rw[hr.out],H2⟩
    ·have hse:fs.toList.isEmpty=false:=by simp[hs]
     have hsf:(fs.toList == [])=false:=by simp[hs]
     have hr:Hid (b4=false):=Lib.hid (by rw[←HB4.out,hse];rfl)
     go_wp2_with fail
     go_meet
     case rel=>exact⟨by rw[hr.out],H2⟩
 case rest=>
 obtain⟨rfl,H2⟩:=hcut
 have Hc:=Lib.hid (HA.out.trans (H2.out.mono HA.out.size))
 go_wp2_with (refine wpList_load_w rfl 37 _ rfl ⟨w.heap.size,8,none⟩ rfl cv _ (P3.out _ H2.out) Tryz.underlying37 rfl (by rw[L3.out];kernel_rfl) ?_)
 refine(X3.out.at H2.out).mono ?_
 rintro r w3 ⟨rfl,hb⟩
 have H3:=Lib.hid (H2.out.trans (hb.mono H2.out.size))
 clear hb
 go_upto_region 4 with (fail)
 go_cut [6] (fun s wr=>s= .bool pl∧Hid (Below (w.alloc (.cells cs.toArray 44)).heap.size (w.alloc (.cells cs.toArray 44)) wr))
 case first=>
  have k12:=Q12.out _ H3.out
  have k13:=Q13.out _ H3.out
  by_cases h1:0≤fn
  ·by_cases h2:fn≤1073741824
   ·have hr:Hid (pl=(xe && zn)):=Lib.hid (by rw[←HPL.out,decide_eq_true h1,decide_eq_true h2];rfl)
    go_wp2_with (refine wpList_load_w rfl 37 _ rfl ⟨w.heap.size,4,none⟩ rfl ce _ (P2.out _ H3.out) Tryz.underlying37 rfl (by rw[L2.out];kernel_rfl) ?_)
    refine(X4.out.at H3.out).mono ?_
    rintro r w4 ⟨rfl,hb⟩
    have H4:=Lib.hid (H3.out.trans (hb.mono H3.out.size))
    clear hb
    clear k12 k13
    have k12:=Q12.out _ H4.out
    cases xe with
    | false=>
      go_wp2_with fail
      go_meet
      case rel=>exact⟨by rw[hr.out];rfl,H4⟩
    | true=>
      go_wp2_with fail
      refine(X5.out.at H4.out).mono ?_
      rintro r w5 ⟨rfl,hb⟩
      have H5:=Lib.hid (H4.out.trans (hb.mono H4.out.size))
      clear hb
      go_wp2_with fail
      go_meet
      case rel=>exact⟨by rw[hr.out];rfl,H5⟩
   ·have h3:decide (fn≤1073741824)=false:=decide_eq_false h2
    have hr:Hid (pl=false):=Lib.hid (by rw[←HPL.out,h3];simp)
    go_wp2_with fail
    go_meet
    case rel=>exact⟨by rw[hr.out],H3⟩
  ·have h3:decide (0≤fn)=false:=decide_eq_false h1
   have hr:Hid (pl=false):=Lib.hid (by rw[←HPL.out,h3];simp)
   go_wp2_with fail
   go_meet
   case rel=>exact⟨by rw[hr.out],H3⟩
 case rest=>
 obtain⟨rfl,H5⟩:=hcut
 have k14:=Q14.out _ H5.out
 have k0:=Q0.out _ H5.out
 have H7:=H5
 go_wp2_with fail
 go_loopw [8,9] (fun s i wr=>∃(j:Nat) (z:Bool),j≤m∧i= .int .i64 j∧s= .bool z∧Hid (z=(false && (ys.take j).all p))∧Hid (Below (w.alloc (.cells cs.toArray 44)).heap.size (w.alloc (.cells cs.toArray 44)) wr)) (fun _ i _=>m - (intOf i).toNat)
 case atStart=>exact⟨0,false,Nat.zero_le _,rfl,rfl,Lib.hid (by simp),H7.out⟩
 case round=>
  obtain⟨j,z,hj,rfl,rfl,hz,hb⟩:=hrel
  obtain⟨wo,rfl⟩:∃wo:World,wo=wr:=⟨_,rfl⟩
  have HWO:=Lib.hid (HA.out.trans (hb.out.mono HA.out.size))
  have k15:=Q14.out _ hb.out
  cases z with
  | false=>
    have hr:Hid ((false && ys.all p)=false):=Lib.hid (by
     have h:=hz.out.symm
     rcases Bool.and_eq_false_iff.1 h with h | h
     ·rfl
     ·rw[all_false_of_take h];simp)
    by_cases hlt:j<m
    ·have hji:decide ((j:Int)<(m:Int))=true:=decide_eq_true (by omega)
     go_wp2_with fail
     go_ret
     exact⟨by rw[hr.out];rfl,HWO.out⟩
    ·have hji:decide (j<m)=false:=decide_eq_false hlt
     go_wp2_with fail
     go_ret
     exact⟨by rw[hr.out];rfl,HWO.out⟩
  | true=>exact absurd hz.out (by simp)
end
end Go.Proofs.YtfcaclmcnlflfaaGreatDoor
