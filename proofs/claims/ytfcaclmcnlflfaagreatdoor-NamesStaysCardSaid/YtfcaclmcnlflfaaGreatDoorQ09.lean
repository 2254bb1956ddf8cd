/- Parts of a proof. -/
import Derived.Test.YtfcaclmcnlflfaaGreatDoorQ08
set_option linter.unusedVariables false
set_option linter.unusedSimpArgs false
set_option maxHeartbeats 60000000
set_option maxRecDepth 100000
namespace Go.Proofs.YtfcaclmcnlflfaaGreatDoor
section
open Go.RowKit
theorem names_box (k:Nat)(s1 s2 s3:ByteArray)(cs:List Value)(a:Option Addr)(m c:Nat)(b:Nat)(h1 h2 h4 h8 zN z1 z2 z3 z5:Bool)(w:World)
 (q0:cs[0]? =some (.int .i64 k)) (q1:cs[1]? =some (.string s1)) (q2:cs[2]? =some (.string s2)) (q3:cs[3]? =some (.string s3)) (q32:cs[32]? =some (.slice a m c))
 (xn:BoolAll 69 #[.string s1] zN w)
 (x1:BoolAll 105 #[.int .i64 1,.pointer (some ⟨b,0,none⟩)] h1 w) (x2:BoolAll 105 #[.int .i64 2,.pointer (some ⟨b,0,none⟩)] h2 w) (x4:BoolAll 105 #[.int .i64 4,.pointer (some ⟨b,0,none⟩)] h4 w) (x8:BoolAll 105 #[.int .i64 128,.pointer (some ⟨b,0,none⟩)] h8 w)
 (f1:BoolAll 132 #[.bool h1,.string s1,.func (.func 69) #[] #[],.func (.func 131) #[] #[]] z1 w) (f2:BoolAll 132 #[.bool h2,.string s2,.func (.func 69) #[] #[],.func (.func 131) #[] #[]] z2 w) (f3:BoolAll 132 #[.bool h4,.string s3,.func (.func 69) #[] #[],.func (.func 131) #[] #[]] z3 w)
 (al:BoolAll 70 #[.slice a m c,.func (.func 69) #[] #[]] z5 w):
 Calls Tryz.prog 106 #[.agg cs.toArray,.func (.func 105) #[] #[.pointer (some ⟨b,0,none⟩)]] w (SoundEnd ((bif (k == 9) then(s1.toList.isEmpty || zN) else z1) && z2 && z3 && (decide (0<m) == h8) && z5) w):=by
 have HA:Hid (Below w.heap.size w (w.alloc (.cells cs.toArray 47))):=box_low
 have HB0:Hid (Below (w.alloc (.cells cs.toArray 47)).heap.size (w.alloc (.cells cs.toArray 47)) (w.alloc (.cells cs.toArray 47))):=Below.refl _ _
 have Q0:=Lib.hid (fun W (hb:Below (w.alloc (.cells cs.toArray 47)).heap.size (w.alloc (.cells cs.toArray 47)) W)=>box_at q0 hb)
 have Q1:=Lib.hid (fun W (hb:Below (w.alloc (.cells cs.toArray 47)).heap.size (w.alloc (.cells cs.toArray 47)) W)=>box_at q1 hb)
 have Q2:=Lib.hid (fun W (hb:Below (w.alloc (.cells cs.toArray 47)).heap.size (w.alloc (.cells cs.toArray 47)) W)=>box_at q2 hb)
 have Q3:=Lib.hid (fun W (hb:Below (w.alloc (.cells cs.toArray 47)).heap.size (w.alloc (.cells cs.toArray 47)) W)=>box_at q3 hb)
 have Q32:=Lib.hid (fun W (hb:Below (w.alloc (.cells cs.toArray 47)).heap.size (w.alloc (.cells cs.toArray 47)) W)=>box_at q32 hb)
 have XN:=Lib.hid (xn.up HA.out)
 have X1:=Lib.hid (x1.up HA.out)
 have X2:=Lib.hid (x2.up HA.out)
 have X4:=Lib.hid (x4.up HA.out)
 have X8:=Lib.hid (x8.up HA.out)
 have F1:=Lib.hid (f1.up HA.out)
 have F2:=Lib.hid (f2.up HA.out)
 have F3:=Lib.hid (f3.up HA.out)
 have AL:=Lib.hid (al.up HA.out)
 clear xn x1 x2 x4 x8 f1 f2 f3 al q0 q1 q2 q3 q32
 by_cases hk:k=9
 ·subst hk
  have E9:Hid ((((9:Nat) == 9))=true):=rfl
  by_cases hs:s1.toList=[]
  ·have hg:(bif ((9:Nat) == 9) then(s1.toList.isEmpty || zN) else z1)=true:=by simp[hs]
   rw[hg]
   clear hg
   have rn:=fun d os=>(XN.out).reg d os
   have c0:=fun d os=>cell_regrown (Q0.out _ HB0.out) d os
   have c1:=fun d os=>cell_regrown (Q1.out _ HB0.out) d os
   go_enter Tryz.func106,Tryz.ntmps106
   go_wp2_with fail
   refine wp_region_quiet_below (by kernel_rfl) (by kernel_rfl) ?_
   repeat (go_big_quiet_step (first | with_reducible exact rn _ _))
   refine wpQuiet_nil ?_
   intro w1 hw'
   obtain⟨⟨dq,osq⟩,hw''⟩:=hw'
   have Hw1:Hid (Below (w.alloc (.cells cs.toArray 47)).heap.size (w.alloc (.cells cs.toArray 47)) w1):=Lib.hid (by rw[hw''];exact below_regrown _ dq osq)
   clear hw''
   clear rn c0 c1
   have r2:=fun d os=>(X2.out.up Hw1.out).reg d os
   have r4:=fun d os=>(X4.out.up Hw1.out).reg d os
   have r8:=fun d os=>(X8.out.up Hw1.out).reg d os
   have p2:=fun d os=>(F2.out.up Hw1.out).reg d os
   have p3:=fun d os=>(F3.out.up Hw1.out).reg d os
   have pa:=fun d os=>(AL.out.up Hw1.out).reg d os
   have c2:=fun d os=>cell_regrown (Q2.out _ Hw1.out) d os
   have c3:=fun d os=>cell_regrown (Q3.out _ Hw1.out) d os
   have c32:=fun d os=>cell_regrown (Q32.out _ Hw1.out) d os
   cases z2 with
   | false=>
     go_wp2_with fail
     refine wp_region_quiet_below (by kernel_rfl) (by kernel_rfl) ?_
     repeat (go_big_quiet_step (first | with_reducible exact r2 _ _ | with_reducible exact r4 _ _ | with_reducible exact r8 _ _ | with_reducible exact p2 _ _ | with_reducible exact p3 _ _ | with_reducible exact pa _ _))
     refine wpQuiet_nil ?_
     intro w9 hw'
     obtain⟨⟨dq,osq⟩,hw''⟩:=hw'
     have Hw9:Hid (Below w1.heap.size w1 w9):=Lib.hid (by rw[hw''];exact below_regrown _ dq osq)
     clear hw''
     have HZ:=Lib.hid (HA.out.trans (((Hw1.out).trans (Hw9.out.mono Hw1.out.size)).mono HA.out.size))
     clear r2 r4 r8 p2 p3 pa c2 c3 c32
     go_wp2_with fail
     go_ret
     exact⟨by simp_all,HZ.out⟩
   | true=>
   cases z3 with
   | false=>
     go_wp2_with fail
     refine wp_region_quiet_below (by kernel_rfl) (by kernel_rfl) ?_
     repeat (go_big_quiet_step (first | with_reducible exact r2 _ _ | with_reducible exact r4 _ _ | with_reducible exact r8 _ _ | with_reducible exact p2 _ _ | with_reducible exact p3 _ _ | with_reducible exact pa _ _))
     refine wpQuiet_nil ?_
     intro w9 hw'
     obtain⟨⟨dq,osq⟩,hw''⟩:=hw'
     have Hw9:Hid (Below w1.heap.size w1 w9):=Lib.hid (by rw[hw''];exact below_regrown _ dq osq)
     clear hw''
     have HZ:=Lib.hid (HA.out.trans (((Hw1.out).trans (Hw9.out.mono Hw1.out.size)).mono HA.out.size))
     clear r2 r4 r8 p2 p3 pa c2 c3 c32
     go_wp2_with fail
     go_ret
     exact⟨by simp_all,HZ.out⟩
   | true=>
   cases h8 with
   | false=>
     by_cases hm:0<m
     ·have hmi:decide ((0:Int)<(m:Int))=true:=by simp;omega
      have hmn:decide (0<m)=true:=by simp[hm]
      go_wp2_with fail
      refine wp_region_quiet_below (by kernel_rfl) (by kernel_rfl) ?_
      repeat (go_big_quiet_step (first | with_reducible exact r2 _ _ | with_reducible exact r4 _ _ | with_reducible exact r8 _ _ | with_reducible exact p2 _ _ | with_reducible exact p3 _ _ | with_reducible exact pa _ _))
      refine wpQuiet_nil ?_
      intro w9 hw'
      obtain⟨⟨dq,osq⟩,hw''⟩:=hw'
      have Hw9:Hid (Below w1.heap.size w1 w9):=Lib.hid (by rw[hw''];exact below_regrown _ dq osq)
      clear hw''
      have HZ:=Lib.hid (HA.out.trans (((Hw1.out).trans (Hw9.out.mono Hw1.out.size)).mono HA.out.size))
      clear r2 r4 r8 p2 p3 pa c2 c3 c32
      go_wp2_with fail
      go_ret
      exact⟨by simp_all,HZ.out⟩
     ·have hmi:decide ((0:Int)<(m:Int))=false:=by simp;omega
      have hmn:decide (0<m)=false:=by simp[hm]
      go_wp2_with fail
      refine wp_region_quiet_below (by kernel_rfl) (by kernel_rfl) ?_
      repeat (go_big_quiet_step (first | with_reducible exact r2 _ _ | with_reducible exact r4 _ _ | with_reducible exact r8 _ _ | with_reducible exact p2 _ _ | with_reducible exact p3 _ _ | with_reducible exact pa _ _))
      refine wpQuiet_nil ?_
      intro w9 hw'
      obtain⟨⟨dq,osq⟩,hw''⟩:=hw'
      have Hw9:Hid (Below w1.heap.size w1 w9):=Lib.hid (by rw[hw''];exact below_regrown _ dq osq)
      clear hw''
      have HZ:=Lib.hid (HA.out.trans (((Hw1.out).trans (Hw9.out.mono Hw1.out.size)).mono HA.out.size))
      clear r2 r4 r8 p2 p3 pa c2 c3 c32
      go_wp2_with fail
      go_ret
      exact⟨by simp_all,HZ.out⟩
   | true=>
     by_cases hm:0<m
     ·have hmi:decide ((0:Int)<(m:Int))=true:=by simp;omega
      have hmn:decide (0<m)=true:=by simp[hm]
      go_wp2_with fail
      refine wp_region_quiet_below (by kernel_rfl) (by kernel_rfl) ?_
      repeat (go_big_quiet_step (first | with_reducible exact r2 _ _ | with_reducible exact r4 _ _ | with_reducible exact r8 _ _ | with_reducible exact p2 _ _ | with_reducible exact p3 _ _ | with_reducible exact pa _ _))
      refine wpQuiet_nil ?_
      intro w9 hw'
      obtain⟨⟨dq,osq⟩,hw''⟩:=hw'
      have Hw9:Hid (Below w1.heap.size w1 w9):=Lib.hid (by rw[hw''];exact below_regrown _ dq osq)
      clear hw''
      have HZ:=Lib.hid (HA.out.trans (((Hw1.out).trans (Hw9.out.mono Hw1.out.size)).mono HA.out.size))
      clear r2 r4 r8 p2 p3 pa c2 c3 c32
      go_wp2_with fail
      go_ret
      exact⟨by simp_all,HZ.out⟩
     ·have hmi:decide ((0:Int)<(m:Int))=false:=by simp;omega
      have hmn:decide (0<m)=false:=by simp[hm]
      go_wp2_with fail
      refine wp_region_quiet_below (by kernel_rfl) (by kernel_rfl) ?_
      repeat (go_big_quiet_step (first | with_reducible exact r2 _ _ | with_reducible exact r4 _ _ | with_reducible exact r8 _ _ | with_reducible exact p2 _ _ | with_reducible exact p3 _ _ | with_reducible exact pa _ _))
      refine wpQuiet_nil ?_
      intro w9 hw'
      obtain⟨⟨dq,osq⟩,hw''⟩:=hw'
      have Hw9:Hid (Below w1.heap.size w1 w9):=Lib.hid (by rw[hw''];exact below_regrown _ dq osq)
      clear hw''
      have HZ:=Lib.hid (HA.out.trans (((Hw1.out).trans (Hw9.out.mono Hw1.out.size)).mono HA.out.size))
      clear r2 r4 r8 p2 p3 pa c2 c3 c32
      go_wp2_with fail
      go_ret
      exact⟨by simp_all,HZ.out⟩
  ·have hg:(bif ((9:Nat) == 9) then(s1.toList.isEmpty || zN) else z1)=zN:=by simp[hs]
   rw[hg]
   clear hg
   have hse:s1.toList.isEmpty=false:=by simp[hs]
   have hsf:(s1.toList == [])=false:=by simp[hs]
   cases zN with
   | false=>
     have rn:=fun d os=>(XN.out).reg d os
     have c0:=fun d os=>cell_regrown (Q0.out _ HB0.out) d os
     have c1:=fun d os=>cell_regrown (Q1.out _ HB0.out) d os
     go_enter Tryz.func106,Tryz.ntmps106
     go_wp2_with fail
     refine wp_region_quiet_below (by kernel_rfl) (by kernel_rfl) ?_
     repeat (go_big_quiet_step (first | with_reducible exact rn _ _))
     refine wpQuiet_nil ?_
     intro w1 hw'
     obtain⟨⟨dq,osq⟩,hw''⟩:=hw'
     have Hw1:Hid (Below (w.alloc (.cells cs.toArray 47)).heap.size (w.alloc (.cells cs.toArray 47)) w1):=Lib.hid (by rw[hw''];exact below_regrown _ dq osq)
     clear hw''
     clear rn c0 c1
     go_wp2_with fail
     go_ret
     exact⟨by simp_all,(HA.out.trans (Hw1.out.mono HA.out.size))⟩
   | true=>
     have rn:=fun d os=>(XN.out).reg d os
     have c0:=fun d os=>cell_regrown (Q0.out _ HB0.out) d os
     have c1:=fun d os=>cell_regrown (Q1.out _ HB0.out) d os
     go_enter Tryz.func106,Tryz.ntmps106
     go_wp2_with fail
     refine wp_region_quiet_below (by kernel_rfl) (by kernel_rfl) ?_
     repeat (go_big_quiet_step (first | with_reducible exact rn _ _))
     refine wpQuiet_nil ?_
     intro w1 hw'
     obtain⟨⟨dq,osq⟩,hw''⟩:=hw'
     have Hw1:Hid (Below (w.alloc (.cells cs.toArray 47)).heap.size (w.alloc (.cells cs.toArray 47)) w1):=Lib.hid (by rw[hw''];exact below_regrown _ dq osq)
     clear hw''
     clear rn c0 c1
     have r2:=fun d os=>(X2.out.up Hw1.out).reg d os
     have r4:=fun d os=>(X4.out.up Hw1.out).reg d os
     have r8:=fun d os=>(X8.out.up Hw1.out).reg d os
     have p2:=fun d os=>(F2.out.up Hw1.out).reg d os
     have p3:=fun d os=>(F3.out.up Hw1.out).reg d os
     have pa:=fun d os=>(AL.out.up Hw1.out).reg d os
     have c2:=fun d os=>cell_regrown (Q2.out _ Hw1.out) d os
     have c3:=fun d os=>cell_regrown (Q3.out _ Hw1.out) d os
     have c32:=fun d os=>cell_regrown (Q32.out _ Hw1.out) d os
     cases z2 with
     | false=>
       go_wp2_with fail
       refine wp_region_quiet_below (by kernel_rfl) (by kernel_rfl) ?_
       repeat (go_big_quiet_step (first | with_reducible exact r2 _ _ | with_reducible exact r4 _ _ | with_reducible exact r8 _ _ | with_reducible exact p2 _ _ | with_reducible exact p3 _ _ | with_reducible exact pa _ _))
       refine wpQuiet_nil ?_
       intro w9 hw'
       obtain⟨⟨dq,osq⟩,hw''⟩:=hw'
       have Hw9:Hid (Below w1.heap.size w1 w9):=Lib.hid (by rw[hw''];exact below_regrown _ dq osq)
       clear hw''
       have HZ:=Lib.hid (HA.out.trans (((Hw1.out).trans (Hw9.out.mono Hw1.out.size)).mono HA.out.size))
       clear r2 r4 r8 p2 p3 pa c2 c3 c32
       go_wp2_with fail
       go_ret
       exact⟨by simp_all,HZ.out⟩
     | true=>
     cases z3 with
     | false=>
       go_wp2_with fail
       refine wp_region_quiet_below (by kernel_rfl) (by kernel_rfl) ?_
       repeat (go_big_quiet_step (first | with_reducible exact r2 _ _ | with_reducible exact r4 _ _ | with_reducible exact r8 _ _ | with_reducible exact p2 _ _ | with_reducible exact p3 _ _ | with_reducible exact pa _ _))
       refine wpQuiet_nil ?_
       intro w9 hw'
       obtain⟨⟨dq,osq⟩,hw''⟩:=hw'
       have Hw9:Hid (Below w1.heap.size w1 w9):=Lib.hid (by rw[hw''];exact below_regrown _ dq osq)
       clear hw''
       have HZ:=Lib.hid (HA.out.trans (((Hw1.out).trans (Hw9.out.mono Hw1.out.size)).mono HA.out.size))
       clear r2 r4 r8 p2 p3 pa c2 c3 c32
       go_wp2_with fail
       go_ret
       exact⟨by simp_all,HZ.out⟩
     | true=>
     cases h8 with
     | false=>
       by_cases hm:0<m
       ·have hmi:decide ((0:Int)<(m:Int))=true:=by simp;omega
        have hmn:decide (0<m)=true:=by simp[hm]
        go_wp2_with fail
        refine wp_region_quiet_below (by kernel_rfl) (by kernel_rfl) ?_
        repeat (go_big_quiet_step (first | with_reducible exact r2 _ _ | with_reducible exact r4 _ _ | with_reducible exact r8 _ _ | with_reducible exact p2 _ _ | with_reducible exact p3 _ _ | with_reducible exact pa _ _))
        refine wpQuiet_nil ?_
        intro w9 hw'
        obtain⟨⟨dq,osq⟩,hw''⟩:=hw'
        have Hw9:Hid (Below w1.heap.size w1 w9):=Lib.hid (by rw[hw''];exact below_regrown _ dq osq)
        clear hw''
        have HZ:=Lib.hid (HA.out.trans (((Hw1.out).trans (Hw9.out.mono Hw1.out.size)).mono HA.out.size))
        clear r2 r4 r8 p2 p3 pa c2 c3 c32
        go_wp2_with fail
        go_ret
        exact⟨by simp_all,HZ.out⟩
       ·have hmi:decide ((0:Int)<(m:Int))=false:=by simp;omega
        have hmn:decide (0<m)=false:=by simp[hm]
        go_wp2_with fail
        refine wp_region_quiet_below (by kernel_rfl) (by kernel_rfl) ?_
        repeat (go_big_quiet_step (first | with_reducible exact r2 _ _ | with_reducible exact r4 _ _ | with_reducible exact r8 _ _ | with_reducible exact p2 _ _ | with_reducible exact p3 _ _ | with_reducible exact pa _ _))
        refine wpQuiet_nil ?_
        intro w9 hw'
        obtain⟨⟨dq,osq⟩,hw''⟩:=hw'
        have Hw9:Hid (Below w1.heap.size w1 w9):=Lib.hid (by rw[hw''];exact below_regrown _ dq osq)
        clear hw''
        have HZ:=Lib.hid (HA.out.trans (((Hw1.out).trans (Hw9.out.mono Hw1.out.size)).mono HA.out.size))
        clear r2 r4 r8 p2 p3 pa c2 c3 c32
        go_wp2_with fail
        go_ret
        exact⟨by simp_all,HZ.out⟩
     | true=>
       by_cases hm:0<m
       ·have hmi:decide ((0:Int)<(m:Int))=true:=by simp;omega
        have hmn:decide (0<m)=true:=by simp[hm]
        go_wp2_with fail
        refine wp_region_quiet_below (by kernel_rfl) (by kernel_rfl) ?_
        repeat (go_big_quiet_step (first | with_reducible exact r2 _ _ | with_reducible exact r4 _ _ | with_reducible exact r8 _ _ | with_reducible exact p2 _ _ | with_reducible exact p3 _ _ | with_reducible exact pa _ _))
        refine wpQuiet_nil ?_
        intro w9 hw'
        obtain⟨⟨dq,osq⟩,hw''⟩:=hw'
        have Hw9:Hid (Below w1.heap.size w1 w9):=Lib.hid (by rw[hw''];exact below_regrown _ dq osq)
        clear hw''
        have HZ:=Lib.hid (HA.out.trans (((Hw1.out).trans (Hw9.out.mono Hw1.out.size)).mono HA.out.size))
        clear r2 r4 r8 p2 p3 pa c2 c3 c32
        go_wp2_with fail
        go_ret
        exact⟨by simp_all,HZ.out⟩
       ·have hmi:decide ((0:Int)<(m:Int))=false:=by simp;omega
        have hmn:decide (0<m)=false:=by simp[hm]
        go_wp2_with fail
        refine wp_region_quiet_below (by kernel_rfl) (by kernel_rfl) ?_
        repeat (go_big_quiet_step (first | with_reducible exact r2 _ _ | with_reducible exact r4 _ _ | with_reducible exact r8 _ _ | with_reducible exact p2 _ _ | with_reducible exact p3 _ _ | with_reducible exact pa _ _))
        refine wpQuiet_nil ?_
        intro w9 hw'
        obtain⟨⟨dq,osq⟩,hw''⟩:=hw'
        have Hw9:Hid (Below w1.heap.size w1 w9):=Lib.hid (by rw[hw''];exact below_regrown _ dq osq)
        clear hw''
        have HZ:=Lib.hid (HA.out.trans (((Hw1.out).trans (Hw9.out.mono Hw1.out.size)).mono HA.out.size))
        clear r2 r4 r8 p2 p3 pa c2 c3 c32
        go_wp2_with fail
        go_ret
        exact⟨by simp_all,HZ.out⟩
 ·have hki:((k:Int) == 9)=false:=by rw[Bool.eq_false_iff];simp only[ne_eq,beq_iff_eq];omega
  have hkj:((k:Int) != 9)=true:=by rw[bne,hki];rfl
  have hg:(bif (k == 9) then(s1.toList.isEmpty || zN) else z1)=z1:=by rw[show(k == 9)=false from beq_eq_false_iff_ne.2 hk];rfl
  rw[hg]
  clear hg hk
  cases z1 with
  | false=>
    have r1:=fun d os=>(X1.out).reg d os
    have p1:=fun d os=>(F1.out).reg d os
    have c0:=fun d os=>cell_regrown (Q0.out _ HB0.out) d os
    have c1:=fun d os=>cell_regrown (Q1.out _ HB0.out) d os
    go_enter Tryz.func106,Tryz.ntmps106
    go_wp2_with fail
    refine wp_region_quiet_below (by kernel_rfl) (by kernel_rfl) ?_
    repeat (go_big_quiet_step (first | with_reducible exact r1 _ _ | with_reducible exact p1 _ _))
    refine wpQuiet_nil ?_
    intro w1 hw'
    obtain⟨⟨dq,osq⟩,hw''⟩:=hw'
    have Hw1:Hid (Below (w.alloc (.cells cs.toArray 47)).heap.size (w.alloc (.cells cs.toArray 47)) w1):=Lib.hid (by rw[hw''];exact below_regrown _ dq osq)
    clear hw''
    clear r1 p1 c0 c1
    go_wp2_with fail
    go_ret
    exact⟨by simp_all,(HA.out.trans (Hw1.out.mono HA.out.size))⟩
  | true=>
    have r1:=fun d os=>(X1.out).reg d os
    have p1:=fun d os=>(F1.out).reg d os
    have c0:=fun d os=>cell_regrown (Q0.out _ HB0.out) d os
    have c1:=fun d os=>cell_regrown (Q1.out _ HB0.out) d os
    go_enter Tryz.func106,Tryz.ntmps106
    go_wp2_with fail
    refine wp_region_quiet_below (by kernel_rfl) (by kernel_rfl) ?_
    repeat (go_big_quiet_step (first | with_reducible exact r1 _ _ | with_reducible exact p1 _ _))
    refine wpQuiet_nil ?_
    intro w1 hw'
    obtain⟨⟨dq,osq⟩,hw''⟩:=hw'
    have Hw1:Hid (Below (w.alloc (.cells cs.toArray 47)).heap.size (w.alloc (.cells cs.toArray 47)) w1):=Lib.hid (by rw[hw''];exact below_regrown _ dq osq)
    clear hw''
    clear r1 p1 c0 c1
    have r2:=fun d os=>(X2.out.up Hw1.out).reg d os
    have r4:=fun d os=>(X4.out.up Hw1.out).reg d os
    have r8:=fun d os=>(X8.out.up Hw1.out).reg d os
    have p2:=fun d os=>(F2.out.up Hw1.out).reg d os
    have p3:=fun d os=>(F3.out.up Hw1.out).reg d os
    have pa:=fun d os=>(AL.out.up Hw1.out).reg d os
    have c2:=fun d os=>cell_regrown (Q2.out _ Hw1.out) d os
    have c3:=fun d os=>cell_regrown (Q3.out _ Hw1.out) d os
    have c32:=fun d os=>cell_regrown (Q32.out _ Hw1.out) d os
    cases z2 with
    | false=>
      go_wp2_with fail
      refine wp_region_quiet_below (by kernel_rfl) (by kernel_rfl) ?_
      repeat (go_big_quiet_step (first | with_reducible exact r2 _ _ | with_reducible exact r4 _ _ | with_reducible exact r8 _ _ | with_reducible exact p2 _ _ | with_reducible exact p3 _ _ | with_reducible exact pa _ _))
      refine wpQuiet_nil ?_
      intro w9 hw'
      obtain⟨⟨dq,osq⟩,hw''⟩:=hw'
      have Hw9:Hid (Below w1.heap.size w1 w9):=Lib.hid (by rw[hw''];exact below_regrown _ dq osq)
      clear hw''
      have HZ:=Lib.hid (HA.out.trans (((Hw1.out).trans (Hw9.out.mono Hw1.out.size)).mono HA.out.size))
      clear r2 r4 r8 p2 p3 pa c2 c3 c32
      go_wp2_with fail
      go_ret
      exact⟨by simp_all,HZ.out⟩
    | true=>
    cases z3 with
    | false=>
      go_wp2_with fail
      refine wp_region_quiet_below (by kernel_rfl) (by kernel_rfl) ?_
      repeat (go_big_quiet_step (first | with_reducible exact r2 _ _ | with_reducible exact r4 _ _ | with_reducible exact r8 _ _ | with_reducible exact p2 _ _ | with_reducible exact p3 _ _ | with_reducible exact pa _ _))
      refine wpQuiet_nil ?_
      intro w9 hw'
      obtain⟨⟨dq,osq⟩,hw''⟩:=hw'
      have Hw9:Hid (Below w1.heap.size w1 w9):=Lib.hid (by rw[hw''];exact below_regrown _ dq osq)
      clear hw''
      have HZ:=Lib.hid (HA.out.trans (((Hw1.out).trans (Hw9.out.mono Hw1.out.size)).mono HA.out.size))
      clear r2 r4 r8 p2 p3 pa c2 c3 c32
      go_wp2_with fail
      go_ret
      exact⟨by simp_all,HZ.out⟩
    | true=>
    cases h8 with
    | false=>
      by_cases hm:0<m
      ·have hmi:decide ((0:Int)<(m:Int))=true:=by simp;omega
       have hmn:decide (0<m)=true:=by simp[hm]
       go_wp2_with fail
       refine wp_region_quiet_below (by kernel_rfl) (by kernel_rfl) ?_
       repeat (go_big_quiet_step (first | with_reducible exact r2 _ _ | with_reducible exact r4 _ _ | with_reducible exact r8 _ _ | with_reducible exact p2 _ _ | with_reducible exact p3 _ _ | with_reducible exact pa _ _))
       refine wpQuiet_nil ?_
       intro w9 hw'
       obtain⟨⟨dq,osq⟩,hw''⟩:=hw'
       have Hw9:Hid (Below w1.heap.size w1 w9):=Lib.hid (by rw[hw''];exact below_regrown _ dq osq)
       clear hw''
       have HZ:=Lib.hid (HA.out.trans (((Hw1.out).trans (Hw9.out.mono Hw1.out.size)).mono HA.out.size))
       clear r2 r4 r8 p2 p3 pa c2 c3 c32
       go_wp2_with fail
       go_ret
       exact⟨by simp_all,HZ.out⟩
      ·have hmi:decide ((0:Int)<(m:Int))=false:=by simp;omega
       have hmn:decide (0<m)=false:=by simp[hm]
       go_wp2_with fail
       refine wp_region_quiet_below (by kernel_rfl) (by kernel_rfl) ?_
       repeat (go_big_quiet_step (first | with_reducible exact r2 _ _ | with_reducible exact r4 _ _ | with_reducible exact r8 _ _ | with_reducible exact p2 _ _ | with_reducible exact p3 _ _ | with_reducible exact pa _ _))
       refine wpQuiet_nil ?_
       intro w9 hw'
       obtain⟨⟨dq,osq⟩,hw''⟩:=hw'
       have Hw9:Hid (Below w1.heap.size w1 w9):=Lib.hid (by rw[hw''];exact below_regrown _ dq osq)
       clear hw''
       have HZ:=Lib.hid (HA.out.trans (((Hw1.out).trans (Hw9.out.mono Hw1.out.size)).mono HA.out.size))
       clear r2 r4 r8 p2 p3 pa c2 c3 c32
       go_wp2_with fail
       go_ret
       exact⟨by simp_all,HZ.out⟩
    | true=>
      by_cases hm:0<m
      ·have hmi:decide ((0:Int)<(m:Int))=true:=by simp;omega
       have hmn:decide (0<m)=true:=by simp[hm]
       go_wp2_with fail
       refine wp_region_quiet_below (by kernel_rfl) (by kernel_rfl) ?_
       repeat (go_big_quiet_step (first | with_reducible exact r2 _ _ | with_reducible exact r4 _ _ | with_reducible exact r8 _ _ | with_reducible exact p2 _ _ | with_reducible exact p3 _ _ | with_reducible exact pa _ _))
       refine wpQuiet_nil ?_
       intro w9 hw'
       obtain⟨⟨dq,osq⟩,hw''⟩:=hw'
       have Hw9:Hid (Below w1.heap.size w1 w9):=Lib.hid (by rw[hw''];exact below_regrown _ dq osq)
       clear hw''
       have HZ:=Lib.hid (HA.out.trans (((Hw1.out).trans (Hw9.out.mono Hw1.out.size)).mono HA.out.size))
       clear r2 r4 r8 p2 p3 pa c2 c3 c32
       go_wp2_with fail
       go_ret
       exact⟨by simp_all,HZ.out⟩
      ·have hmi:decide ((0:Int)<(m:Int))=false:=by simp;omega
       have hmn:decide (0<m)=false:=by simp[hm]
       go_wp2_with fail
       refine wp_region_quiet_below (by kernel_rfl) (by kernel_rfl) ?_
       repeat (go_big_quiet_step (first | with_reducible exact r2 _ _ | with_reducible exact r4 _ _ | with_reducible exact r8 _ _ | with_reducible exact p2 _ _ | with_reducible exact p3 _ _ | with_reducible exact pa _ _))
       refine wpQuiet_nil ?_
       intro w9 hw'
       obtain⟨⟨dq,osq⟩,hw''⟩:=hw'
       have Hw9:Hid (Below w1.heap.size w1 w9):=Lib.hid (by rw[hw''];exact below_regrown _ dq osq)
       clear hw''
       have HZ:=Lib.hid (HA.out.trans (((Hw1.out).trans (Hw9.out.mono Hw1.out.size)).mono HA.out.size))
       clear r2 r4 r8 p2 p3 pa c2 c3 c32
       go_wp2_with fail
       go_ret
       exact⟨by simp_all,HZ.out⟩
def nmS (nm:ByteArray→Bool)(k:Nat)(p:SP):Bool:=
 (bif (k == 9) then(p.name.toList.isEmpty || nm p.name) else(bif hasB k 1 then nm p.name else p.name.toList.isEmpty)) && (bif hasB k 2 then nm p.field else p.field.toList.isEmpty) && (bif hasB k 4 then nm p.callee else p.callee.toList.isEmpty) && (decide (0<p.fields.length) == hasB k 128) && p.fields.all nm
end
end Go.Proofs.YtfcaclmcnlflfaaGreatDoor
