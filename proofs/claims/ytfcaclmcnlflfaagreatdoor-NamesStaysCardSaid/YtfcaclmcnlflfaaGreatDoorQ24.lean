/- Parts of a proof. -/
import Derived.Test.YtfcaclmcnlflfaaGreatDoorQ18
import Derived.Lib.Strings
set_option linter.unusedVariables false
set_option linter.unusedSimpArgs false
set_option maxHeartbeats 60000000
set_option maxRecDepth 100000
namespace Go.Proofs.YtfcaclmcnlflfaaGreatDoor
section
open Go.RowKit
theorem rstmt_8 (cs ce cv cc ca:List Value)(s1 s2 s3:ByteArray)(a1 a2 a3 a4 a5:Option Addr)(m1 m2 m3 m4 m5 c1 c2 c3 c4 c5:Nat)(n1 n2 n3 xe he xv hv xc hc xa ha y1 y2 y3 y4 y5:Bool)(w:World)
 (q0:cs[0]? =some (.int .i64 8)) (q1:cs[1]? =some (.string s1)) (q2:cs[2]? =some (.string s2)) (q3:cs[3]? =some (.string s3)) (q30:cs[30]? =some (.slice a1 m1 c1)) (q31:cs[31]? =some (.slice a2 m2 c2)) (q32:cs[32]? =some (.slice a3 m3 c3)) (q33:cs[33]? =some (.slice a4 m4 c4)) (q34:cs[34]? =some (.slice a5 m5 c5))
 (p1:Part cs 4 ce) (p2:Part cs 8 cv) (p3:Part cs 12 cc) (p4:Part cs 15 ca) (l1:ce.length=4) (l2:cv.length=4) (l3:cc.length=3) (l4:ca.length=15)
 (x1:BoolAll 47 #[.string s1] n1 w) (x2:BoolAll 47 #[.string s2] n2 w) (x3:BoolAll 47 #[.string s3] n3 w)
 (x4:BoolAll 90 #[.agg ce.toArray] xe w) (x5:BoolAll 89 #[.agg ce.toArray] he w) (x6:BoolAll 90 #[.agg cv.toArray] xv w) (x7:BoolAll 89 #[.agg cv.toArray] hv w)
 (x8:BoolAll 91 #[.agg cc.toArray] xc w) (x9:BoolAll 88 #[.agg cc.toArray] hc w) (x10:BoolAll 49 #[.agg ca.toArray] xa w) (x11:BoolAll 125 #[.agg ca.toArray] ha w)
 (x12:BoolAll 124 #[.slice a1 m1 c1] y1 w) (x13:BoolAll 124 #[.slice a2 m2 c2] y2 w) (x14:BoolAll 48 #[.slice a3 m3 c3] y3 w) (x15:BoolAll 50 #[.slice a4 m4 c4] y4 w) (x16:BoolAll 50 #[.slice a5 m5 c5] y5 w):
 Calls Tryz.prog 92 #[.agg cs.toArray] w (SoundEnd (s1.toList.isEmpty && (!he) && (!hv) && s2.toList.isEmpty && (m3 == 0) && xc && (!ha) && s3.toList.isEmpty && (m1 == 0) && (m2 == 0) && (m4 == 0) && (m5 == 0)) w):=by
 have HA:Hid (Below w.heap.size w (w.alloc (.cells cs.toArray 47))):=box_low
 have HB0:Hid (Below (w.alloc (.cells cs.toArray 47)).heap.size (w.alloc (.cells cs.toArray 47)) (w.alloc (.cells cs.toArray 47))):=Below.refl _ _
 have X1:=Lib.hid (x1.up HA.out)
 have X2:=Lib.hid (x2.up HA.out)
 have X3:=Lib.hid (x3.up HA.out)
 have X4:=Lib.hid (x4.up HA.out)
 have X5:=Lib.hid (x5.up HA.out)
 have X6:=Lib.hid (x6.up HA.out)
 have X7:=Lib.hid (x7.up HA.out)
 have X8:=Lib.hid (x8.up HA.out)
 have X9:=Lib.hid (x9.up HA.out)
 have X10:=Lib.hid (x10.up HA.out)
 have X11:=Lib.hid (x11.up HA.out)
 have X12:=Lib.hid (x12.up HA.out)
 have X13:=Lib.hid (x13.up HA.out)
 have X14:=Lib.hid (x14.up HA.out)
 have X15:=Lib.hid (x15.up HA.out)
 have X16:=Lib.hid (x16.up HA.out)
 have P1:=Lib.hid (fun W (hb:Below (w.alloc (.cells cs.toArray 47)).heap.size (w.alloc (.cells cs.toArray 47)) W)=>box_part p1 hb)
 have L1:=Lib.hid l1
 have P2:=Lib.hid (fun W (hb:Below (w.alloc (.cells cs.toArray 47)).heap.size (w.alloc (.cells cs.toArray 47)) W)=>box_part p2 hb)
 have L2:=Lib.hid l2
 have P3:=Lib.hid (fun W (hb:Below (w.alloc (.cells cs.toArray 47)).heap.size (w.alloc (.cells cs.toArray 47)) W)=>box_part p3 hb)
 have L3:=Lib.hid l3
 have P4:=Lib.hid (fun W (hb:Below (w.alloc (.cells cs.toArray 47)).heap.size (w.alloc (.cells cs.toArray 47)) W)=>box_part p4 hb)
 have L4:=Lib.hid l4
 have Q0:=Lib.hid (fun W (hb:Below (w.alloc (.cells cs.toArray 47)).heap.size (w.alloc (.cells cs.toArray 47)) W)=>box_at q0 hb)
 have Q1:=Lib.hid (fun W (hb:Below (w.alloc (.cells cs.toArray 47)).heap.size (w.alloc (.cells cs.toArray 47)) W)=>box_at q1 hb)
 have Q2:=Lib.hid (fun W (hb:Below (w.alloc (.cells cs.toArray 47)).heap.size (w.alloc (.cells cs.toArray 47)) W)=>box_at q2 hb)
 have Q3:=Lib.hid (fun W (hb:Below (w.alloc (.cells cs.toArray 47)).heap.size (w.alloc (.cells cs.toArray 47)) W)=>box_at q3 hb)
 have Q30:=Lib.hid (fun W (hb:Below (w.alloc (.cells cs.toArray 47)).heap.size (w.alloc (.cells cs.toArray 47)) W)=>box_at q30 hb)
 have Q31:=Lib.hid (fun W (hb:Below (w.alloc (.cells cs.toArray 47)).heap.size (w.alloc (.cells cs.toArray 47)) W)=>box_at q31 hb)
 have Q32:=Lib.hid (fun W (hb:Below (w.alloc (.cells cs.toArray 47)).heap.size (w.alloc (.cells cs.toArray 47)) W)=>box_at q32 hb)
 have Q33:=Lib.hid (fun W (hb:Below (w.alloc (.cells cs.toArray 47)).heap.size (w.alloc (.cells cs.toArray 47)) W)=>box_at q33 hb)
 have Q34:=Lib.hid (fun W (hb:Below (w.alloc (.cells cs.toArray 47)).heap.size (w.alloc (.cells cs.toArray 47)) W)=>box_at q34 hb)
 clear x1 x2 x3 x4 x5 x6 x7 x8 x9 x10 x11 x12 x13 x14 x15 x16 p1 p2 p3 p4 l1 l2 l3 l4 q0 q1 q2 q3 q30 q31 q32 q33 q34
 have HB1:Hid (Below (w.alloc (.cells cs.toArray 47)).heap.size (w.alloc (.cells cs.toArray 47)) ((w.alloc (.cells cs.toArray 47)).alloc (.cells #[.string ⟨#[]⟩,.string ⟨#[110,101]⟩,.string ⟨#[110,101,102]⟩,.string ⟨#[101,102,118]⟩,.string ⟨#[110,108]⟩,.string ⟨#[101,102]⟩,.string ⟨#[99,98,120]⟩,.string ⟨#[99,97,98]⟩,.string ⟨#[99]⟩,.string ⟨#[110,107]⟩] 9))):=(Below.refl _ _).alloc (Nat.le_refl _) _
 have k0:=Q0.out _ HB0.out
 have k0b:=Q0.out _ HB1.out
 go_enter Tryz.func92,Tryz.ntmps92
 go_wp2_with fail
 refine wp_loop_rounds 2 ?_
 rw[rounds_succ]
 go_wp2_with fail
 rw[rounds_succ]
 by_cases g_s1:s1.toList=[]
 ·have e_s1:s1.toList.isEmpty=true:=by simp[g_s1]
  have k1:=Q1.out _ HB1.out
  have k2:=Q2.out _ HB1.out
  have k3:=Q3.out _ HB1.out
  have k30:=Q30.out _ HB1.out
  have k31:=Q31.out _ HB1.out
  have k32:=Q32.out _ HB1.out
  have k33:=Q33.out _ HB1.out
  have k34:=Q34.out _ HB1.out
  go_wp2_with (first | go_skip | (refine wpList_load_w (by kernel_rfl) 37 _ rfl ⟨w.heap.size,4,none⟩ rfl ce _ (P1.out _ HB1.out) Tryz.underlying37 rfl (by rw[L1.out];kernel_rfl) ?_))
  refine(X5.out.at HB1.out).mono ?_
  rintro r w1 ⟨rfl,hb⟩
  have H1:=Lib.hid (HB1.out.trans (hb.mono HB1.out.size))
  clear hb
  clear k1 k2 k3 k30 k31 k32 k33 k34
  cases he with
  | true=>
    have k1:=Q1.out _ H1.out
    have k2:=Q2.out _ H1.out
    have k3:=Q3.out _ H1.out
    have k30:=Q30.out _ H1.out
    have k31:=Q31.out _ H1.out
    have k32:=Q32.out _ H1.out
    have k33:=Q33.out _ H1.out
    have k34:=Q34.out _ H1.out
    have HZ:=Lib.hid (HA.out.trans (H1.out.mono HA.out.size))
    go_wp2_with fail
    go_ret
    exact⟨by simp[e_s1],HZ.out⟩
  | false=>
  have k1:=Q1.out _ H1.out
  have k2:=Q2.out _ H1.out
  have k3:=Q3.out _ H1.out
  have k30:=Q30.out _ H1.out
  have k31:=Q31.out _ H1.out
  have k32:=Q32.out _ H1.out
  have k33:=Q33.out _ H1.out
  have k34:=Q34.out _ H1.out
  go_wp2_with (first | go_skip | (refine wpList_load_w (by kernel_rfl) 37 _ rfl ⟨w.heap.size,8,none⟩ rfl cv _ (P2.out _ H1.out) Tryz.underlying37 rfl (by rw[L2.out];kernel_rfl) ?_))
  refine(X7.out.at H1.out).mono ?_
  rintro r w2 ⟨rfl,hb⟩
  have H2:=Lib.hid (H1.out.trans (hb.mono H1.out.size))
  clear hb
  clear k1 k2 k3 k30 k31 k32 k33 k34
  cases hv with
  | true=>
    have k1:=Q1.out _ H2.out
    have k2:=Q2.out _ H2.out
    have k3:=Q3.out _ H2.out
    have k30:=Q30.out _ H2.out
    have k31:=Q31.out _ H2.out
    have k32:=Q32.out _ H2.out
    have k33:=Q33.out _ H2.out
    have k34:=Q34.out _ H2.out
    have HZ:=Lib.hid (HA.out.trans (H2.out.mono HA.out.size))
    go_wp2_with fail
    go_ret
    exact⟨by simp[e_s1],HZ.out⟩
  | false=>
  by_cases g_s2:s2.toList=[]
  ·have e_s2:s2.toList.isEmpty=true:=by simp[g_s2]
   by_cases g_m3:m3=0
   ·have e_m3:(m3 == 0)=true:=by rw[g_m3];rfl
    have e_m3i:((m3:Int) == 0)=true:=by rw[g_m3];rfl
    have e_m3j:((m3:Int) != 0)=false:=by rw[bne,e_m3i];rfl
    clear g_m3
    have k1:=Q1.out _ H2.out
    have k2:=Q2.out _ H2.out
    have k3:=Q3.out _ H2.out
    have k30:=Q30.out _ H2.out
    have k31:=Q31.out _ H2.out
    have k32:=Q32.out _ H2.out
    have k33:=Q33.out _ H2.out
    have k34:=Q34.out _ H2.out
    go_wp2_with (first | go_skip | (refine wpList_load_w (by kernel_rfl) 41 _ rfl ⟨w.heap.size,12,none⟩ rfl cc _ (P3.out _ H2.out) Tryz.underlying41 rfl (by rw[L3.out];kernel_rfl) ?_))
    refine(X8.out.at H2.out).mono ?_
    rintro r w3 ⟨rfl,hb⟩
    have H3:=Lib.hid (H2.out.trans (hb.mono H2.out.size))
    clear hb
    clear k1 k2 k3 k30 k31 k32 k33 k34
    cases xc with
    | false=>
      have k1:=Q1.out _ H3.out
      have k2:=Q2.out _ H3.out
      have k3:=Q3.out _ H3.out
      have k30:=Q30.out _ H3.out
      have k31:=Q31.out _ H3.out
      have k32:=Q32.out _ H3.out
      have k33:=Q33.out _ H3.out
      have k34:=Q34.out _ H3.out
      have HZ:=Lib.hid (HA.out.trans (H3.out.mono HA.out.size))
      go_wp2_with fail
      go_ret
      exact⟨by simp[e_s1,e_s2,e_m3],HZ.out⟩
    | true=>
    have k1:=Q1.out _ H3.out
    have k2:=Q2.out _ H3.out
    have k3:=Q3.out _ H3.out
    have k30:=Q30.out _ H3.out
    have k31:=Q31.out _ H3.out
    have k32:=Q32.out _ H3.out
    have k33:=Q33.out _ H3.out
    have k34:=Q34.out _ H3.out
    go_wp2_with (first | go_skip | (refine wpList_load_w (by kernel_rfl) 44 _ rfl ⟨w.heap.size,15,none⟩ rfl ca _ (P4.out _ H3.out) Tryz.underlying44 rfl (by rw[L4.out];kernel_rfl) ?_))
    refine(X11.out.at H3.out).mono ?_
    rintro r w4 ⟨rfl,hb⟩
    have H4:=Lib.hid (H3.out.trans (hb.mono H3.out.size))
    clear hb
    clear k1 k2 k3 k30 k31 k32 k33 k34
    cases ha with
    | true=>
      have k1:=Q1.out _ H4.out
      have k2:=Q2.out _ H4.out
      have k3:=Q3.out _ H4.out
      have k30:=Q30.out _ H4.out
      have k31:=Q31.out _ H4.out
      have k32:=Q32.out _ H4.out
      have k33:=Q33.out _ H4.out
      have k34:=Q34.out _ H4.out
      have HZ:=Lib.hid (HA.out.trans (H4.out.mono HA.out.size))
      go_wp2_with fail
      go_ret
      exact⟨by simp[e_s1,e_s2,e_m3],HZ.out⟩
    | false=>
    by_cases g_s3:s3.toList=[]
    ·have e_s3:s3.toList.isEmpty=true:=by simp[g_s3]
     by_cases g_m1:m1=0
     ·have e_m1:(m1 == 0)=true:=by rw[g_m1];rfl
      have e_m1i:((m1:Int) == 0)=true:=by rw[g_m1];rfl
      have e_m1j:((m1:Int) != 0)=false:=by rw[bne,e_m1i];rfl
      clear g_m1
      by_cases g_m2:m2=0
      ·have e_m2:(m2 == 0)=true:=by rw[g_m2];rfl
       have e_m2i:((m2:Int) == 0)=true:=by rw[g_m2];rfl
       have e_m2j:((m2:Int) != 0)=false:=by rw[bne,e_m2i];rfl
       clear g_m2
       by_cases g_m4:m4=0
       ·have e_m4:(m4 == 0)=true:=by rw[g_m4];rfl
        have e_m4i:((m4:Int) == 0)=true:=by rw[g_m4];rfl
        have e_m4j:((m4:Int) != 0)=false:=by rw[bne,e_m4i];rfl
        clear g_m4
        by_cases g_m5:m5=0
        ·have e_m5:(m5 == 0)=true:=by rw[g_m5];rfl
         have e_m5i:((m5:Int) == 0)=true:=by rw[g_m5];rfl
         have e_m5j:((m5:Int) != 0)=false:=by rw[bne,e_m5i];rfl
         clear g_m5
         have k1:=Q1.out _ H4.out
         have k2:=Q2.out _ H4.out
         have k3:=Q3.out _ H4.out
         have k30:=Q30.out _ H4.out
         have k31:=Q31.out _ H4.out
         have k32:=Q32.out _ H4.out
         have k33:=Q33.out _ H4.out
         have k34:=Q34.out _ H4.out
         have HZ:=Lib.hid (HA.out.trans (H4.out.mono HA.out.size))
         go_wp2_with fail
         go_ret
         exact⟨by simp[e_s1,e_s2,e_m3,e_s3,e_m1,e_m2,e_m4,e_m5],HZ.out⟩
        ·have e_m5:(m5 == 0)=false:=beq_eq_false_iff_ne.2 g_m5
         have e_m5i:((m5:Int) == 0)=false:=by rw[Bool.eq_false_iff];simp only[ne_eq,beq_iff_eq];omega
         have e_m5j:((m5:Int) != 0)=true:=by rw[bne,e_m5i];rfl
         clear g_m5
         have k1:=Q1.out _ H4.out
         have k2:=Q2.out _ H4.out
         have k3:=Q3.out _ H4.out
         have k30:=Q30.out _ H4.out
         have k31:=Q31.out _ H4.out
         have k32:=Q32.out _ H4.out
         have k33:=Q33.out _ H4.out
         have k34:=Q34.out _ H4.out
         have HZ:=Lib.hid (HA.out.trans (H4.out.mono HA.out.size))
         go_wp2_with fail
         go_ret
         exact⟨by simp[e_s1,e_s2,e_m3,e_s3,e_m1,e_m2,e_m4,e_m5],HZ.out⟩
       ·have e_m4:(m4 == 0)=false:=beq_eq_false_iff_ne.2 g_m4
        have e_m4i:((m4:Int) == 0)=false:=by rw[Bool.eq_false_iff];simp only[ne_eq,beq_iff_eq];omega
        have e_m4j:((m4:Int) != 0)=true:=by rw[bne,e_m4i];rfl
        clear g_m4
        have k1:=Q1.out _ H4.out
        have k2:=Q2.out _ H4.out
        have k3:=Q3.out _ H4.out
        have k30:=Q30.out _ H4.out
        have k31:=Q31.out _ H4.out
        have k32:=Q32.out _ H4.out
        have k33:=Q33.out _ H4.out
        have k34:=Q34.out _ H4.out
        have HZ:=Lib.hid (HA.out.trans (H4.out.mono HA.out.size))
        go_wp2_with fail
        go_ret
        exact⟨by simp[e_s1,e_s2,e_m3,e_s3,e_m1,e_m2,e_m4],HZ.out⟩
      ·have e_m2:(m2 == 0)=false:=beq_eq_false_iff_ne.2 g_m2
       have e_m2i:((m2:Int) == 0)=false:=by rw[Bool.eq_false_iff];simp only[ne_eq,beq_iff_eq];omega
       have e_m2j:((m2:Int) != 0)=true:=by rw[bne,e_m2i];rfl
       clear g_m2
       have k1:=Q1.out _ H4.out
       have k2:=Q2.out _ H4.out
       have k3:=Q3.out _ H4.out
       have k30:=Q30.out _ H4.out
       have k31:=Q31.out _ H4.out
       have k32:=Q32.out _ H4.out
       have k33:=Q33.out _ H4.out
       have k34:=Q34.out _ H4.out
       have HZ:=Lib.hid (HA.out.trans (H4.out.mono HA.out.size))
       go_wp2_with fail
       go_ret
       exact⟨by simp[e_s1,e_s2,e_m3,e_s3,e_m1,e_m2],HZ.out⟩
     ·have e_m1:(m1 == 0)=false:=beq_eq_false_iff_ne.2 g_m1
      have e_m1i:((m1:Int) == 0)=false:=by rw[Bool.eq_false_iff];simp only[ne_eq,beq_iff_eq];omega
      have e_m1j:((m1:Int) != 0)=true:=by rw[bne,e_m1i];rfl
      clear g_m1
      have k1:=Q1.out _ H4.out
      have k2:=Q2.out _ H4.out
      have k3:=Q3.out _ H4.out
      have k30:=Q30.out _ H4.out
      have k31:=Q31.out _ H4.out
      have k32:=Q32.out _ H4.out
      have k33:=Q33.out _ H4.out
      have k34:=Q34.out _ H4.out
      have HZ:=Lib.hid (HA.out.trans (H4.out.mono HA.out.size))
      go_wp2_with fail
      go_ret
      exact⟨by simp[e_s1,e_s2,e_m3,e_s3,e_m1],HZ.out⟩
    ·have e_s3:s3.toList.isEmpty=false:=by simp[g_s3]
     have e_s3f:(s3.toList == [])=false:=by simp[g_s3]
     have k1:=Q1.out _ H4.out
     have k2:=Q2.out _ H4.out
     have k3:=Q3.out _ H4.out
     have k30:=Q30.out _ H4.out
     have k31:=Q31.out _ H4.out
     have k32:=Q32.out _ H4.out
     have k33:=Q33.out _ H4.out
     have k34:=Q34.out _ H4.out
     have HZ:=Lib.hid (HA.out.trans (H4.out.mono HA.out.size))
     go_wp2_with fail
     go_ret
     exact⟨by simp[e_s1,e_s2,e_m3,e_s3],HZ.out⟩
   ·have e_m3:(m3 == 0)=false:=beq_eq_false_iff_ne.2 g_m3
    have e_m3i:((m3:Int) == 0)=false:=by rw[Bool.eq_false_iff];simp only[ne_eq,beq_iff_eq];omega
    have e_m3j:((m3:Int) != 0)=true:=by rw[bne,e_m3i];rfl
    clear g_m3
    have k1:=Q1.out _ H2.out
    have k2:=Q2.out _ H2.out
    have k3:=Q3.out _ H2.out
    have k30:=Q30.out _ H2.out
    have k31:=Q31.out _ H2.out
    have k32:=Q32.out _ H2.out
    have k33:=Q33.out _ H2.out
    have k34:=Q34.out _ H2.out
    have HZ:=Lib.hid (HA.out.trans (H2.out.mono HA.out.size))
    go_wp2_with fail
    go_ret
    exact⟨by simp[e_s1,e_s2,e_m3],HZ.out⟩
  ·have e_s2:s2.toList.isEmpty=false:=by simp[g_s2]
   have e_s2f:(s2.toList == [])=false:=by simp[g_s2]
   have k1:=Q1.out _ H2.out
   have k2:=Q2.out _ H2.out
   have k3:=Q3.out _ H2.out
   have k30:=Q30.out _ H2.out
   have k31:=Q31.out _ H2.out
   have k32:=Q32.out _ H2.out
   have k33:=Q33.out _ H2.out
   have k34:=Q34.out _ H2.out
   have HZ:=Lib.hid (HA.out.trans (H2.out.mono HA.out.size))
   go_wp2_with fail
   go_ret
   exact⟨by simp[e_s1,e_s2],HZ.out⟩
 ·have e_s1:s1.toList.isEmpty=false:=by simp[g_s1]
  have e_s1f:(s1.toList == [])=false:=by simp[g_s1]
  have k1:=Q1.out _ HB1.out
  have k2:=Q2.out _ HB1.out
  have k3:=Q3.out _ HB1.out
  have k30:=Q30.out _ HB1.out
  have k31:=Q31.out _ HB1.out
  have k32:=Q32.out _ HB1.out
  have k33:=Q33.out _ HB1.out
  have k34:=Q34.out _ HB1.out
  have HZ:=Lib.hid (HA.out.trans (HB1.out.mono HA.out.size))
  go_wp2_with fail
  go_ret
  exact⟨by simp[e_s1],HZ.out⟩
theorem rstmt_9 (cs ce cv cc ca:List Value)(s1 s2 s3:ByteArray)(a1 a2 a3 a4 a5:Option Addr)(m1 m2 m3 m4 m5 c1 c2 c3 c4 c5:Nat)(n1 n2 n3 xe he xv hv xc hc xa ha y1 y2 y3 y4 y5:Bool)(w:World)
 (q0:cs[0]? =some (.int .i64 9)) (q1:cs[1]? =some (.string s1)) (q2:cs[2]? =some (.string s2)) (q3:cs[3]? =some (.string s3)) (q30:cs[30]? =some (.slice a1 m1 c1)) (q31:cs[31]? =some (.slice a2 m2 c2)) (q32:cs[32]? =some (.slice a3 m3 c3)) (q33:cs[33]? =some (.slice a4 m4 c4)) (q34:cs[34]? =some (.slice a5 m5 c5))
 (p1:Part cs 4 ce) (p2:Part cs 8 cv) (p3:Part cs 12 cc) (p4:Part cs 15 ca) (l1:ce.length=4) (l2:cv.length=4) (l3:cc.length=3) (l4:ca.length=15)
 (x1:BoolAll 47 #[.string s1] n1 w) (x2:BoolAll 47 #[.string s2] n2 w) (x3:BoolAll 47 #[.string s3] n3 w)
 (x4:BoolAll 90 #[.agg ce.toArray] xe w) (x5:BoolAll 89 #[.agg ce.toArray] he w) (x6:BoolAll 90 #[.agg cv.toArray] xv w) (x7:BoolAll 89 #[.agg cv.toArray] hv w)
 (x8:BoolAll 91 #[.agg cc.toArray] xc w) (x9:BoolAll 88 #[.agg cc.toArray] hc w) (x10:BoolAll 49 #[.agg ca.toArray] xa w) (x11:BoolAll 125 #[.agg ca.toArray] ha w)
 (x12:BoolAll 124 #[.slice a1 m1 c1] y1 w) (x13:BoolAll 124 #[.slice a2 m2 c2] y2 w) (x14:BoolAll 48 #[.slice a3 m3 c3] y3 w) (x15:BoolAll 50 #[.slice a4 m4 c4] y4 w) (x16:BoolAll 50 #[.slice a5 m5 c5] y5 w):
 Calls Tryz.prog 92 #[.agg cs.toArray] w (SoundEnd ((s1.toList.isEmpty || n1) && (!he) && (!hv) && s2.toList.isEmpty && (m3 == 0) && (!hc) && (!ha) && n3 && y1 && y2 && (m4 == 0) && (m5 == 0)) w):=by
 have HA:Hid (Below w.heap.size w (w.alloc (.cells cs.toArray 47))):=box_low
 have HB0:Hid (Below (w.alloc (.cells cs.toArray 47)).heap.size (w.alloc (.cells cs.toArray 47)) (w.alloc (.cells cs.toArray 47))):=Below.refl _ _
 have X1:=Lib.hid (x1.up HA.out)
 have X2:=Lib.hid (x2.up HA.out)
 have X3:=Lib.hid (x3.up HA.out)
 have X4:=Lib.hid (x4.up HA.out)
 have X5:=Lib.hid (x5.up HA.out)
 have X6:=Lib.hid (x6.up HA.out)
 have X7:=Lib.hid (x7.up HA.out)
 have X8:=Lib.hid (x8.up HA.out)
 have X9:=Lib.hid (x9.up HA.out)
 have X10:=Lib.hid (x10.up HA.out)
 have X11:=Lib.hid (x11.up HA.out)
 have X12:=Lib.hid (x12.up HA.out)
 have X13:=Lib.hid (x13.up HA.out)
 have X14:=Lib.hid (x14.up HA.out)
 have X15:=Lib.hid (x15.up HA.out)
 have X16:=Lib.hid (x16.up HA.out)
 have P1:=Lib.hid (fun W (hb:Below (w.alloc (.cells cs.toArray 47)).heap.size (w.alloc (.cells cs.toArray 47)) W)=>box_part p1 hb)
 have L1:=Lib.hid l1
 have P2:=Lib.hid (fun W (hb:Below (w.alloc (.cells cs.toArray 47)).heap.size (w.alloc (.cells cs.toArray 47)) W)=>box_part p2 hb)
 have L2:=Lib.hid l2
 have P3:=Lib.hid (fun W (hb:Below (w.alloc (.cells cs.toArray 47)).heap.size (w.alloc (.cells cs.toArray 47)) W)=>box_part p3 hb)
 have L3:=Lib.hid l3
 have P4:=Lib.hid (fun W (hb:Below (w.alloc (.cells cs.toArray 47)).heap.size (w.alloc (.cells cs.toArray 47)) W)=>box_part p4 hb)
 have L4:=Lib.hid l4
 have Q0:=Lib.hid (fun W (hb:Below (w.alloc (.cells cs.toArray 47)).heap.size (w.alloc (.cells cs.toArray 47)) W)=>box_at q0 hb)
 have Q1:=Lib.hid (fun W (hb:Below (w.alloc (.cells cs.toArray 47)).heap.size (w.alloc (.cells cs.toArray 47)) W)=>box_at q1 hb)
 have Q2:=Lib.hid (fun W (hb:Below (w.alloc (.cells cs.toArray 47)).heap.size (w.alloc (.cells cs.toArray 47)) W)=>box_at q2 hb)
 have Q3:=Lib.hid (fun W (hb:Below (w.alloc (.cells cs.toArray 47)).heap.size (w.alloc (.cells cs.toArray 47)) W)=>box_at q3 hb)
 have Q30:=Lib.hid (fun W (hb:Below (w.alloc (.cells cs.toArray 47)).heap.size (w.alloc (.cells cs.toArray 47)) W)=>box_at q30 hb)
 have Q31:=Lib.hid (fun W (hb:Below (w.alloc (.cells cs.toArray 47)).heap.size (w.alloc (.cells cs.toArray 47)) W)=>box_at q31 hb)
 have Q32:=Lib.hid (fun W (hb:Below (w.alloc (.cells cs.toArray 47)).heap.size (w.alloc (.cells cs.toArray 47)) W)=>box_at q32 hb)
 have Q33:=Lib.hid (fun W (hb:Below (w.alloc (.cells cs.toArray 47)).heap.size (w.alloc (.cells cs.toArray 47)) W)=>box_at q33 hb)
 have Q34:=Lib.hid (fun W (hb:Below (w.alloc (.cells cs.toArray 47)).heap.size (w.alloc (.cells cs.toArray 47)) W)=>box_at q34 hb)
 clear x1 x2 x3 x4 x5 x6 x7 x8 x9 x10 x11 x12 x13 x14 x15 x16 p1 p2 p3 p4 l1 l2 l3 l4 q0 q1 q2 q3 q30 q31 q32 q33 q34
 have HB1:Hid (Below (w.alloc (.cells cs.toArray 47)).heap.size (w.alloc (.cells cs.toArray 47)) ((w.alloc (.cells cs.toArray 47)).alloc (.cells #[.string ⟨#[]⟩,.string ⟨#[110,101]⟩,.string ⟨#[110,101,102]⟩,.string ⟨#[101,102,118]⟩,.string ⟨#[110,108]⟩,.string ⟨#[101,102]⟩,.string ⟨#[99,98,120]⟩,.string ⟨#[99,97,98]⟩,.string ⟨#[99]⟩,.string ⟨#[110,107]⟩] 9))):=(Below.refl _ _).alloc (Nat.le_refl _) _
 have k0:=Q0.out _ HB0.out
 have k0b:=Q0.out _ HB1.out
 go_enter Tryz.func92,Tryz.ntmps92
 go_wp2_with fail
 refine wp_loop_rounds 3 ?_
 rw[rounds_succ]
 go_wp2_with fail
 rw[rounds_succ]
 go_wp2_with fail
 rw[rounds_succ]
 by_cases g_s1:s1.toList=[]
 ·have e_s1:s1.toList.isEmpty=true:=by simp[g_s1]
  have k1:=Q1.out _ HB1.out
  have k2:=Q2.out _ HB1.out
  have k3:=Q3.out _ HB1.out
  have k30:=Q30.out _ HB1.out
  have k31:=Q31.out _ HB1.out
  have k32:=Q32.out _ HB1.out
  have k33:=Q33.out _ HB1.out
  have k34:=Q34.out _ HB1.out
  go_wp2_with (first | go_skip | (refine wpList_load_w (by kernel_rfl) 37 _ rfl ⟨w.heap.size,4,none⟩ rfl ce _ (P1.out _ HB1.out) Tryz.underlying37 rfl (by rw[L1.out];kernel_rfl) ?_))
  refine(X5.out.at HB1.out).mono ?_
  rintro r w5 ⟨rfl,hb⟩
  have H5:=Lib.hid (HB1.out.trans (hb.mono HB1.out.size))
  clear hb
  clear k1 k2 k3 k30 k31 k32 k33 k34
  cases he with
  | true=>
    have k1:=Q1.out _ H5.out
    have k2:=Q2.out _ H5.out
    have k3:=Q3.out _ H5.out
    have k30:=Q30.out _ H5.out
    have k31:=Q31.out _ H5.out
    have k32:=Q32.out _ H5.out
    have k33:=Q33.out _ H5.out
    have k34:=Q34.out _ H5.out
    have HZ:=Lib.hid (HA.out.trans (H5.out.mono HA.out.size))
    go_wp2_with fail
    go_ret
    exact⟨by simp[e_s1],HZ.out⟩
  | false=>
  have k1:=Q1.out _ H5.out
  have k2:=Q2.out _ H5.out
  have k3:=Q3.out _ H5.out
  have k30:=Q30.out _ H5.out
  have k31:=Q31.out _ H5.out
  have k32:=Q32.out _ H5.out
  have k33:=Q33.out _ H5.out
  have k34:=Q34.out _ H5.out
  go_wp2_with (first | go_skip | (refine wpList_load_w (by kernel_rfl) 37 _ rfl ⟨w.heap.size,8,none⟩ rfl cv _ (P2.out _ H5.out) Tryz.underlying37 rfl (by rw[L2.out];kernel_rfl) ?_))
  refine(X7.out.at H5.out).mono ?_
  rintro r w6 ⟨rfl,hb⟩
  have H6:=Lib.hid (H5.out.trans (hb.mono H5.out.size))
  clear hb
  clear k1 k2 k3 k30 k31 k32 k33 k34
  cases hv with
  | true=>
    have k1:=Q1.out _ H6.out
    have k2:=Q2.out _ H6.out
    have k3:=Q3.out _ H6.out
    have k30:=Q30.out _ H6.out
    have k31:=Q31.out _ H6.out
    have k32:=Q32.out _ H6.out
    have k33:=Q33.out _ H6.out
    have k34:=Q34.out _ H6.out
    have HZ:=Lib.hid (HA.out.trans (H6.out.mono HA.out.size))
    go_wp2_with fail
    go_ret
    exact⟨by simp[e_s1],HZ.out⟩
  | false=>
  by_cases g_s2:s2.toList=[]
  ·have e_s2:s2.toList.isEmpty=true:=by simp[g_s2]
   by_cases g_m3:m3=0
   ·have e_m3:(m3 == 0)=true:=by rw[g_m3];rfl
    have e_m3i:((m3:Int) == 0)=true:=by rw[g_m3];rfl
    have e_m3j:((m3:Int) != 0)=false:=by rw[bne,e_m3i];rfl
    clear g_m3
    have k1:=Q1.out _ H6.out
    have k2:=Q2.out _ H6.out
    have k3:=Q3.out _ H6.out
    have k30:=Q30.out _ H6.out
    have k31:=Q31.out _ H6.out
    have k32:=Q32.out _ H6.out
    have k33:=Q33.out _ H6.out
    have k34:=Q34.out _ H6.out
    go_wp2_with (first | go_skip | (refine wpList_load_w (by kernel_rfl) 41 _ rfl ⟨w.heap.size,12,none⟩ rfl cc _ (P3.out _ H6.out) Tryz.underlying41 rfl (by rw[L3.out];kernel_rfl) ?_))
    refine(X9.out.at H6.out).mono ?_
    rintro r w7 ⟨rfl,hb⟩
    have H7:=Lib.hid (H6.out.trans (hb.mono H6.out.size))
    clear hb
    clear k1 k2 k3 k30 k31 k32 k33 k34
    cases hc with
    | true=>
      have k1:=Q1.out _ H7.out
      have k2:=Q2.out _ H7.out
      have k3:=Q3.out _ H7.out
      have k30:=Q30.out _ H7.out
      have k31:=Q31.out _ H7.out
      have k32:=Q32.out _ H7.out
      have k33:=Q33.out _ H7.out
      have k34:=Q34.out _ H7.out
      have HZ:=Lib.hid (HA.out.trans (H7.out.mono HA.out.size))
      go_wp2_with fail
      go_ret
      exact⟨by simp[e_s1,e_s2,e_m3],HZ.out⟩
    | false=>
    have k1:=Q1.out _ H7.out
    have k2:=Q2.out _ H7.out
    have k3:=Q3.out _ H7.out
    have k30:=Q30.out _ H7.out
    have k31:=Q31.out _ H7.out
    have k32:=Q32.out _ H7.out
    have k33:=Q33.out _ H7.out
    have k34:=Q34.out _ H7.out
    go_wp2_with (first | go_skip | (refine wpList_load_w (by kernel_rfl) 44 _ rfl ⟨w.heap.size,15,none⟩ rfl ca _ (P4.out _ H7.out) Tryz.underlying44 rfl (by rw[L4.out];kernel_rfl) ?_))
    refine(X11.out.at H7.out).mono ?_
    rintro r w8 ⟨rfl,hb⟩
    have H8:=Lib.hid (H7.out.trans (hb.mono H7.out.size))
    clear hb
    clear k1 k2 k3 k30 k31 k32 k33 k34
    cases ha with
    | true=>
      have k1:=Q1.out _ H8.out
      have k2:=Q2.out _ H8.out
      have k3:=Q3.out _ H8.out
      have k30:=Q30.out _ H8.out
      have k31:=Q31.out _ H8.out
      have k32:=Q32.out _ H8.out
      have k33:=Q33.out _ H8.out
      have k34:=Q34.out _ H8.out
      have HZ:=Lib.hid (HA.out.trans (H8.out.mono HA.out.size))
      go_wp2_with fail
      go_ret
      exact⟨by simp[e_s1,e_s2,e_m3],HZ.out⟩
    | false=>
    have k1:=Q1.out _ H8.out
    have k2:=Q2.out _ H8.out
    have k3:=Q3.out _ H8.out
    have k30:=Q30.out _ H8.out
    have k31:=Q31.out _ H8.out
    have k32:=Q32.out _ H8.out
    have k33:=Q33.out _ H8.out
    have k34:=Q34.out _ H8.out
    go_wp2_with fail
    refine(X3.out.at H8.out).mono ?_
    rintro r w9 ⟨rfl,hb⟩
    have H9:=Lib.hid (H8.out.trans (hb.mono H8.out.size))
    clear hb
    clear k1 k2 k3 k30 k31 k32 k33 k34
    cases n3 with
    | false=>
      have k1:=Q1.out _ H9.out
      have k2:=Q2.out _ H9.out
      have k3:=Q3.out _ H9.out
      have k30:=Q30.out _ H9.out
      have k31:=Q31.out _ H9.out
      have k32:=Q32.out _ H9.out
      have k33:=Q33.out _ H9.out
      have k34:=Q34.out _ H9.out
      have HZ:=Lib.hid (HA.out.trans (H9.out.mono HA.out.size))
      go_wp2_with fail
      go_ret
      exact⟨by simp[e_s1,e_s2,e_m3],HZ.out⟩
    | true=>
    have k1:=Q1.out _ H9.out
    have k2:=Q2.out _ H9.out
    have k3:=Q3.out _ H9.out
    have k30:=Q30.out _ H9.out
    have k31:=Q31.out _ H9.out
    have k32:=Q32.out _ H9.out
    have k33:=Q33.out _ H9.out
    have k34:=Q34.out _ H9.out
    go_wp2_with fail
    refine(X12.out.at H9.out).mono ?_
    rintro r w10 ⟨rfl,hb⟩
    have H10:=Lib.hid (H9.out.trans (hb.mono H9.out.size))
    clear hb
    clear k1 k2 k3 k30 k31 k32 k33 k34
    cases y1 with
    | false=>
      have k1:=Q1.out _ H10.out
      have k2:=Q2.out _ H10.out
      have k3:=Q3.out _ H10.out
      have k30:=Q30.out _ H10.out
      have k31:=Q31.out _ H10.out
      have k32:=Q32.out _ H10.out
      have k33:=Q33.out _ H10.out
      have k34:=Q34.out _ H10.out
      have HZ:=Lib.hid (HA.out.trans (H10.out.mono HA.out.size))
      go_wp2_with fail
      go_ret
      exact⟨by simp[e_s1,e_s2,e_m3],HZ.out⟩
    | true=>
    have k1:=Q1.out _ H10.out
    have k2:=Q2.out _ H10.out
    have k3:=Q3.out _ H10.out
    have k30:=Q30.out _ H10.out
    have k31:=Q31.out _ H10.out
    have k32:=Q32.out _ H10.out
    have k33:=Q33.out _ H10.out
    have k34:=Q34.out _ H10.out
    go_wp2_with fail
    refine(X13.out.at H10.out).mono ?_
    rintro r w11 ⟨rfl,hb⟩
    have H11:=Lib.hid (H10.out.trans (hb.mono H10.out.size))
    clear hb
    clear k1 k2 k3 k30 k31 k32 k33 k34
    cases y2 with
    | false=>
      have k1:=Q1.out _ H11.out
      have k2:=Q2.out _ H11.out
      have k3:=Q3.out _ H11.out
      have k30:=Q30.out _ H11.out
      have k31:=Q31.out _ H11.out
      have k32:=Q32.out _ H11.out
      have k33:=Q33.out _ H11.out
      have k34:=Q34.out _ H11.out
      have HZ:=Lib.hid (HA.out.trans (H11.out.mono HA.out.size))
      go_wp2_with fail
      go_ret
      exact⟨by simp[e_s1,e_s2,e_m3],HZ.out⟩
    | true=>
    by_cases g_m4:m4=0
    ·have e_m4:(m4 == 0)=true:=by rw[g_m4];rfl
     have e_m4i:((m4:Int) == 0)=true:=by rw[g_m4];rfl
     have e_m4j:((m4:Int) != 0)=false:=by rw[bne,e_m4i];rfl
     clear g_m4
     by_cases g_m5:m5=0
     ·have e_m5:(m5 == 0)=true:=by rw[g_m5];rfl
      have e_m5i:((m5:Int) == 0)=true:=by rw[g_m5];rfl
      have e_m5j:((m5:Int) != 0)=false:=by rw[bne,e_m5i];rfl
      clear g_m5
      have k1:=Q1.out _ H11.out
      have k2:=Q2.out _ H11.out
      have k3:=Q3.out _ H11.out
      have k30:=Q30.out _ H11.out
      have k31:=Q31.out _ H11.out
      have k32:=Q32.out _ H11.out
      have k33:=Q33.out _ H11.out
      have k34:=Q34.out _ H11.out
      have HZ:=Lib.hid (HA.out.trans (H11.out.mono HA.out.size))
      go_wp2_with fail
      go_ret
      exact⟨by simp[e_s1,e_s2,e_m3,e_m4,e_m5],HZ.out⟩
     ·have e_m5:(m5 == 0)=false:=beq_eq_false_iff_ne.2 g_m5
      have e_m5i:((m5:Int) == 0)=false:=by rw[Bool.eq_false_iff];simp only[ne_eq,beq_iff_eq];omega
      have e_m5j:((m5:Int) != 0)=true:=by rw[bne,e_m5i];rfl
      clear g_m5
      have k1:=Q1.out _ H11.out
      have k2:=Q2.out _ H11.out
      have k3:=Q3.out _ H11.out
      have k30:=Q30.out _ H11.out
      have k31:=Q31.out _ H11.out
      have k32:=Q32.out _ H11.out
      have k33:=Q33.out _ H11.out
      have k34:=Q34.out _ H11.out
      have HZ:=Lib.hid (HA.out.trans (H11.out.mono HA.out.size))
      go_wp2_with fail
      go_ret
      exact⟨by simp[e_s1,e_s2,e_m3,e_m4,e_m5],HZ.out⟩
    ·have e_m4:(m4 == 0)=false:=beq_eq_false_iff_ne.2 g_m4
     have e_m4i:((m4:Int) == 0)=false:=by rw[Bool.eq_false_iff];simp only[ne_eq,beq_iff_eq];omega
     have e_m4j:((m4:Int) != 0)=true:=by rw[bne,e_m4i];rfl
     clear g_m4
     have k1:=Q1.out _ H11.out
     have k2:=Q2.out _ H11.out
     have k3:=Q3.out _ H11.out
     have k30:=Q30.out _ H11.out
     have k31:=Q31.out _ H11.out
     have k32:=Q32.out _ H11.out
     have k33:=Q33.out _ H11.out
     have k34:=Q34.out _ H11.out
     have HZ:=Lib.hid (HA.out.trans (H11.out.mono HA.out.size))
     go_wp2_with fail
     go_ret
     exact⟨by simp[e_s1,e_s2,e_m3,e_m4],HZ.out⟩
   ·have e_m3:(m3 == 0)=false:=beq_eq_false_iff_ne.2 g_m3
    have e_m3i:((m3:Int) == 0)=false:=by rw[Bool.eq_false_iff];simp only[ne_eq,beq_iff_eq];omega
    have e_m3j:((m3:Int) != 0)=true:=by rw[bne,e_m3i];rfl
    clear g_m3
    have k1:=Q1.out _ H6.out
    have k2:=Q2.out _ H6.out
    have k3:=Q3.out _ H6.out
    have k30:=Q30.out _ H6.out
    have k31:=Q31.out _ H6.out
    have k32:=Q32.out _ H6.out
    have k33:=Q33.out _ H6.out
    have k34:=Q34.out _ H6.out
    have HZ:=Lib.hid (HA.out.trans (H6.out.mono HA.out.size))
    go_wp2_with fail
    go_ret
    exact⟨by simp[e_s1,e_s2,e_m3],HZ.out⟩
  ·have e_s2:s2.toList.isEmpty=false:=by simp[g_s2]
   have e_s2f:(s2.toList == [])=false:=by simp[g_s2]
   have k1:=Q1.out _ H6.out
   have k2:=Q2.out _ H6.out
   have k3:=Q3.out _ H6.out
   have k30:=Q30.out _ H6.out
   have k31:=Q31.out _ H6.out
   have k32:=Q32.out _ H6.out
   have k33:=Q33.out _ H6.out
   have k34:=Q34.out _ H6.out
   have HZ:=Lib.hid (HA.out.trans (H6.out.mono HA.out.size))
   go_wp2_with fail
   go_ret
   exact⟨by simp[e_s1,e_s2],HZ.out⟩
 ·have e_s1:s1.toList.isEmpty=false:=by simp[g_s1]
  have e_s1f:(s1.toList == [])=false:=by simp[g_s1]
  have k1:=Q1.out _ HB1.out
  have k2:=Q2.out _ HB1.out
  have k3:=Q3.out _ HB1.out
  have k30:=Q30.out _ HB1.out
  have k31:=Q31.out _ HB1.out
  have k32:=Q32.out _ HB1.out
  have k33:=Q33.out _ HB1.out
  have k34:=Q34.out _ HB1.out
  go_wp2_with fail
  refine(X1.out.at HB1.out).mono ?_
  rintro r w12 ⟨rfl,hb⟩
  have H12:=Lib.hid (HB1.out.trans (hb.mono HB1.out.size))
  clear hb
  clear k1 k2 k3 k30 k31 k32 k33 k34
  cases n1 with
  | false=>
    have k1:=Q1.out _ H12.out
    have k2:=Q2.out _ H12.out
    have k3:=Q3.out _ H12.out
    have k30:=Q30.out _ H12.out
    have k31:=Q31.out _ H12.out
    have k32:=Q32.out _ H12.out
    have k33:=Q33.out _ H12.out
    have k34:=Q34.out _ H12.out
    have HZ:=Lib.hid (HA.out.trans (H12.out.mono HA.out.size))
    go_wp2_with fail
    go_ret
    exact⟨by simp[e_s1],HZ.out⟩
  | true=>
  have k1:=Q1.out _ H12.out
  have k2:=Q2.out _ H12.out
  have k3:=Q3.out _ H12.out
  have k30:=Q30.out _ H12.out
  have k31:=Q31.out _ H12.out
  have k32:=Q32.out _ H12.out
  have k33:=Q33.out _ H12.out
  have k34:=Q34.out _ H12.out
  go_wp2_with (first | go_skip | (refine wpList_load_w (by kernel_rfl) 37 _ rfl ⟨w.heap.size,4,none⟩ rfl ce _ (P1.out _ H12.out) Tryz.underlying37 rfl (by rw[L1.out];kernel_rfl) ?_))
  refine(X5.out.at H12.out).mono ?_
  rintro r w13 ⟨rfl,hb⟩
  have H13:=Lib.hid (H12.out.trans (hb.mono H12.out.size))
  clear hb
  clear k1 k2 k3 k30 k31 k32 k33 k34
  cases he with
  | true=>
    have k1:=Q1.out _ H13.out
    have k2:=Q2.out _ H13.out
    have k3:=Q3.out _ H13.out
    have k30:=Q30.out _ H13.out
    have k31:=Q31.out _ H13.out
    have k32:=Q32.out _ H13.out
    have k33:=Q33.out _ H13.out
    have k34:=Q34.out _ H13.out
    have HZ:=Lib.hid (HA.out.trans (H13.out.mono HA.out.size))
    go_wp2_with fail
    go_ret
    exact⟨by simp[e_s1],HZ.out⟩
  | false=>
  have k1:=Q1.out _ H13.out
  have k2:=Q2.out _ H13.out
  have k3:=Q3.out _ H13.out
  have k30:=Q30.out _ H13.out
  have k31:=Q31.out _ H13.out
  have k32:=Q32.out _ H13.out
  have k33:=Q33.out _ H13.out
  have k34:=Q34.out _ H13.out
  go_wp2_with (first | go_skip | (refine wpList_load_w (by kernel_rfl) 37 _ rfl ⟨w.heap.size,8,none⟩ rfl cv _ (P2.out _ H13.out) Tryz.underlying37 rfl (by rw[L2.out];kernel_rfl) ?_))
  refine(X7.out.at H13.out).mono ?_
  rintro r w14 ⟨rfl,hb⟩
  have H14:=Lib.hid (H13.out.trans (hb.mono H13.out.size))
  clear hb
  clear k1 k2 k3 k30 k31 k32 k33 k34
  cases hv with
  | true=>
    have k1:=Q1.out _ H14.out
    have k2:=Q2.out _ H14.out
    have k3:=Q3.out _ H14.out
    have k30:=Q30.out _ H14.out
    have k31:=Q31.out _ H14.out
    have k32:=Q32.out _ H14.out
    have k33:=Q33.out _ H14.out
    have k34:=Q34.out _ H14.out
    have HZ:=Lib.hid (HA.out.trans (H14.out.mono HA.out.size))
    go_wp2_with fail
    go_ret
    exact⟨by simp[e_s1],HZ.out⟩
  | false=>
  by_cases g_s2:s2.toList=[]
  ·have e_s2:s2.toList.isEmpty=true:=by simp[g_s2]
   by_cases g_m3:m3=0
   ·have e_m3:(m3 == 0)=true:=by rw[g_m3];rfl
    have e_m3i:((m3:Int) == 0)=true:=by rw[g_m3];rfl
    have e_m3j:((m3:Int) != 0)=false:=by rw[bne,e_m3i];rfl
    clear g_m3
    have k1:=Q1.out _ H14.out
    have k2:=Q2.out _ H14.out
    have k3:=Q3.out _ H14.out
    have k30:=Q30.out _ H14.out
    have k31:=Q31.out _ H14.out
    have k32:=Q32.out _ H14.out
    have k33:=Q33.out _ H14.out
    have k34:=Q34.out _ H14.out
    go_wp2_with (first | go_skip | (refine wpList_load_w (by kernel_rfl) 41 _ rfl ⟨w.heap.size,12,none⟩ rfl cc _ (P3.out _ H14.out) Tryz.underlying41 rfl (by rw[L3.out];kernel_rfl) ?_))
    refine(X9.out.at H14.out).mono ?_
    rintro r w15 ⟨rfl,hb⟩
    have H15:=Lib.hid (H14.out.trans (hb.mono H14.out.size))
    clear hb
    clear k1 k2 k3 k30 k31 k32 k33 k34
    cases hc with
    | true=>
      have k1:=Q1.out _ H15.out
      have k2:=Q2.out _ H15.out
      have k3:=Q3.out _ H15.out
      have k30:=Q30.out _ H15.out
      have k31:=Q31.out _ H15.out
      have k32:=Q32.out _ H15.out
      have k33:=Q33.out _ H15.out
      have k34:=Q34.out _ H15.out
      have HZ:=Lib.hid (HA.out.trans (H15.out.mono HA.out.size))
      go_wp2_with fail
      go_ret
      exact⟨by simp[e_s1,e_s2,e_m3],HZ.out⟩
    | false=>
    have k1:=Q1.out _ H15.out
    have k2:=Q2.out _ H15.out
    have k3:=Q3.out _ H15.out
    have k30:=Q30.out _ H15.out
    have k31:=Q31.out _ H15.out
    have k32:=Q32.out _ H15.out
    have k33:=Q33.out _ H15.out
    have k34:=Q34.out _ H15.out
    go_wp2_with (first | go_skip | (refine wpList_load_w (by kernel_rfl) 44 _ rfl ⟨w.heap.size,15,none⟩ rfl ca _ (P4.out _ H15.out) Tryz.underlying44 rfl (by rw[L4.out];kernel_rfl) ?_))
    refine(X11.out.at H15.out).mono ?_
    rintro r w16 ⟨rfl,hb⟩
    have H16:=Lib.hid (H15.out.trans (hb.mono H15.out.size))
    clear hb
    clear k1 k2 k3 k30 k31 k32 k33 k34
    cases ha with
    | true=>
      have k1:=Q1.out _ H16.out
      have k2:=Q2.out _ H16.out
      have k3:=Q3.out _ H16.out
      have k30:=Q30.out _ H16.out
      have k31:=Q31.out _ H16.out
      have k32:=Q32.out _ H16.out
      have k33:=Q33.out _ H16.out
      have k34:=Q34.out _ H16.out
      have HZ:=Lib.hid (HA.out.trans (H16.out.mono HA.out.size))
      go_wp2_with fail
      go_ret
      exact⟨by simp[e_s1,e_s2,e_m3],HZ.out⟩
    | false=>
    have k1:=Q1.out _ H16.out
    have k2:=Q2.out _ H16.out
    have k3:=Q3.out _ H16.out
    have k30:=Q30.out _ H16.out
    have k31:=Q31.out _ H16.out
    have k32:=Q32.out _ H16.out
    have k33:=Q33.out _ H16.out
    have k34:=Q34.out _ H16.out
    go_wp2_with fail
    refine(X3.out.at H16.out).mono ?_
    rintro r w17 ⟨rfl,hb⟩
    have H17:=Lib.hid (H16.out.trans (hb.mono H16.out.size))
    clear hb
    clear k1 k2 k3 k30 k31 k32 k33 k34
    cases n3 with
    | false=>
      have k1:=Q1.out _ H17.out
      have k2:=Q2.out _ H17.out
      have k3:=Q3.out _ H17.out
      have k30:=Q30.out _ H17.out
      have k31:=Q31.out _ H17.out
      have k32:=Q32.out _ H17.out
      have k33:=Q33.out _ H17.out
      have k34:=Q34.out _ H17.out
      have HZ:=Lib.hid (HA.out.trans (H17.out.mono HA.out.size))
      go_wp2_with fail
      go_ret
      exact⟨by simp[e_s1,e_s2,e_m3],HZ.out⟩
    | true=>
    have k1:=Q1.out _ H17.out
    have k2:=Q2.out _ H17.out
    have k3:=Q3.out _ H17.out
    have k30:=Q30.out _ H17.out
    have k31:=Q31.out _ H17.out
    have k32:=Q32.out _ H17.out
    have k33:=Q33.out _ H17.out
    have k34:=Q34.out _ H17.out
    go_wp2_with fail
    refine(X12.out.at H17.out).mono ?_
    rintro r w18 ⟨rfl,hb⟩
    have H18:=Lib.hid (H17.out.trans (hb.mono H17.out.size))
    clear hb
    clear k1 k2 k3 k30 k31 k32 k33 k34
    cases y1 with
    | false=>
      have k1:=Q1.out _ H18.out
      have k2:=Q2.out _ H18.out
      have k3:=Q3.out _ H18.out
      have k30:=Q30.out _ H18.out
      have k31:=Q31.out _ H18.out
      have k32:=Q32.out _ H18.out
      have k33:=Q33.out _ H18.out
      have k34:=Q34.out _ H18.out
      have HZ:=Lib.hid (HA.out.trans (H18.out.mono HA.out.size))
      go_wp2_with fail
      go_ret
      exact⟨by simp[e_s1,e_s2,e_m3],HZ.out⟩
    | true=>
    have k1:=Q1.out _ H18.out
    have k2:=Q2.out _ H18.out
    have k3:=Q3.out _ H18.out
    have k30:=Q30.out _ H18.out
    have k31:=Q31.out _ H18.out
    have k32:=Q32.out _ H18.out
    have k33:=Q33.out _ H18.out
    have k34:=Q34.out _ H18.out
    go_wp2_with fail
    refine(X13.out.at H18.out).mono ?_
    rintro r w19 ⟨rfl,hb⟩
    have H19:=Lib.hid (H18.out.trans (hb.mono H18.out.size))
    clear hb
    clear k1 k2 k3 k30 k31 k32 k33 k34
    cases y2 with
    | false=>
      have k1:=Q1.out _ H19.out
      have k2:=Q2.out _ H19.out
      have k3:=Q3.out _ H19.out
      have k30:=Q30.out _ H19.out
      have k31:=Q31.out _ H19.out
      have k32:=Q32.out _ H19.out
      have k33:=Q33.out _ H19.out
      have k34:=Q34.out _ H19.out
      have HZ:=Lib.hid (HA.out.trans (H19.out.mono HA.out.size))
      go_wp2_with fail
      go_ret
      exact⟨by simp[e_s1,e_s2,e_m3],HZ.out⟩
    | true=>
    by_cases g_m4:m4=0
    ·have e_m4:(m4 == 0)=true:=by rw[g_m4];rfl
     have e_m4i:((m4:Int) == 0)=true:=by rw[g_m4];rfl
     have e_m4j:((m4:Int) != 0)=false:=by rw[bne,e_m4i];rfl
     clear g_m4
     by_cases g_m5:m5=0
     ·have e_m5:(m5 == 0)=true:=by rw[g_m5];rfl
      have e_m5i:((m5:Int) == 0)=true:=by rw[g_m5];rfl
      have e_m5j:((m5:Int) != 0)=false:=by rw[bne,e_m5i];rfl
      clear g_m5
      have k1:=Q1.out _ H19.out
      have k2:=Q2.out _ H19.out
      have k3:=Q3.out _ H19.out
      have k30:=Q30.out _ H19.out
      have k31:=Q31.out _ H19.out
      have k32:=Q32.out _ H19.out
      have k33:=Q33.out _ H19.out
      have k34:=Q34.out _ H19.out
      have HZ:=Lib.hid (HA.out.trans (H19.out.mono HA.out.size))
      go_wp2_with fail
      go_ret
      exact⟨by simp[e_s1,e_s2,e_m3,e_m4,e_m5],HZ.out⟩
     ·have e_m5:(m5 == 0)=false:=beq_eq_false_iff_ne.2 g_m5
      have e_m5i:((m5:Int) == 0)=false:=by rw[Bool.eq_false_iff];simp only[ne_eq,beq_iff_eq];omega
      have e_m5j:((m5:Int) != 0)=true:=by rw[bne,e_m5i];rfl
      clear g_m5
      have k1:=Q1.out _ H19.out
      have k2:=Q2.out _ H19.out
      have k3:=Q3.out _ H19.out
      have k30:=Q30.out _ H19.out
      have k31:=Q31.out _ H19.out
      have k32:=Q32.out _ H19.out
      have k33:=Q33.out _ H19.out
      have k34:=Q34.out _ H19.out
      have HZ:=Lib.hid (HA.out.trans (H19.out.mono HA.out.size))
      go_wp2_with fail
      go_ret
      exact⟨by simp[e_s1,e_s2,e_m3,e_m4,e_m5],HZ.out⟩
    ·have e_m4:(m4 == 0)=false:=beq_eq_false_iff_ne.2 g_m4
     have e_m4i:((m4:Int) == 0)=false:=by rw[Bool.eq_false_iff];simp only[ne_eq,beq_iff_eq];omega
     have e_m4j:((m4:Int) != 0)=true:=by rw[bne,e_m4i];rfl
     clear g_m4
     have k1:=Q1.out _ H19.out
     have k2:=Q2.out _ H19.out
     have k3:=Q3.out _ H19.out
     have k30:=Q30.out _ H19.out
     have k31:=Q31.out _ H19.out
     have k32:=Q32.out _ H19.out
     have k33:=Q33.out _ H19.out
     have k34:=Q34.out _ H19.out
     have HZ:=Lib.hid (HA.out.trans (H19.out.mono HA.out.size))
     go_wp2_with fail
     go_ret
     exact⟨by simp[e_s1,e_s2,e_m3,e_m4],HZ.out⟩
   ·have e_m3:(m3 == 0)=false:=beq_eq_false_iff_ne.2 g_m3
    have e_m3i:((m3:Int) == 0)=false:=by rw[Bool.eq_false_iff];simp only[ne_eq,beq_iff_eq];omega
    have e_m3j:((m3:Int) != 0)=true:=by rw[bne,e_m3i];rfl
    clear g_m3
    have k1:=Q1.out _ H14.out
    have k2:=Q2.out _ H14.out
    have k3:=Q3.out _ H14.out
    have k30:=Q30.out _ H14.out
    have k31:=Q31.out _ H14.out
    have k32:=Q32.out _ H14.out
    have k33:=Q33.out _ H14.out
    have k34:=Q34.out _ H14.out
    have HZ:=Lib.hid (HA.out.trans (H14.out.mono HA.out.size))
    go_wp2_with fail
    go_ret
    exact⟨by simp[e_s1,e_s2,e_m3],HZ.out⟩
  ·have e_s2:s2.toList.isEmpty=false:=by simp[g_s2]
   have e_s2f:(s2.toList == [])=false:=by simp[g_s2]
   have k1:=Q1.out _ H14.out
   have k2:=Q2.out _ H14.out
   have k3:=Q3.out _ H14.out
   have k30:=Q30.out _ H14.out
   have k31:=Q31.out _ H14.out
   have k32:=Q32.out _ H14.out
   have k33:=Q33.out _ H14.out
   have k34:=Q34.out _ H14.out
   have HZ:=Lib.hid (HA.out.trans (H14.out.mono HA.out.size))
   go_wp2_with fail
   go_ret
   exact⟨by simp[e_s1,e_s2],HZ.out⟩
end
end Go.Proofs.YtfcaclmcnlflfaaGreatDoor
