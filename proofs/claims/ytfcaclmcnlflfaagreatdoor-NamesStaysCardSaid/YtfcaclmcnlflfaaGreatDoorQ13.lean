/- Parts of a proof. -/
import Derived.Test.YtfcaclmcnlflfaaGreatDoorQ08
import Derived.Test.YtfcaclmcnlflfaaGreatDoorQ09
set_option linter.unusedVariables false
set_option linter.unusedSimpArgs false
set_option maxHeartbeats 60000000
set_option maxRecDepth 100000
namespace Go.Proofs.YtfcaclmcnlflfaaGreatDoor
section
open Go.RowKit
theorem wpQuiet_load_c {P:Program}{W0:World}{ops:Array Oper}{rest:List Oper}{o:Oper}{a:Act}{Q:Act→Prop}(ty:TypeId)(x:Operand)(ho:o.op= .load ty x)
 (g:Addr) (hx:a.eval x= .pointer (some g)) (cs:List Value) (d:TypeDesc) (hc:∀W,Below W0.heap.size W0 W→∀j v,cs[j]? =some v→W.cell? (g.add j)=some v) (hw:Region.wanted o (yielded ops a.tmps)=true)
 (hu:P.underlying ty=some d) (hd:(match d with | .struct _ | .array _ _=>true | _=>false)=true) (hi:(P.info? ty).map (·.size)=some cs.length) (a':Act) (ha:a.put o.dst (.agg cs.toArray)=a')
 (h:wpQuiet P ops (fun w'=>∃p:Regrown,w'=Go.Sort.grow (redrawn W0 p.d) p.os) Q rest a'):wpQuiet P ops (fun w'=>∃p:Regrown,w'=Go.Sort.grow (redrawn W0 p.d) p.os) Q (o :: rest) a:=
 wpQuiet_load_b ty x ho g hx cs d hc hw hu hd hi (ha ▸ h)
theorem soundS_box (k:Nat)(cs ce cv cc ca:List Value)(a1 a2 a4 a5:Option Addr)(m1 m2 m4 m5 c1 c2 c4 c5:Nat)(hE hV hC hA' hB hX cB z0 z1 z2 z3 z4 z5 z6 z7 z8:Bool)(w:World)(hk:k<10)(hcb:(k == 9)=cB)
 (hlen:cs.length=35) (q0:cs[0]? =some (.int .i64 k)) (p1:Part cs 4 ce) (p2:Part cs 8 cv) (p3:Part cs 12 cc) (p4:Part cs 15 ca) (q1:cs[30]? =some (.slice a1 m1 c1)) (q2:cs[31]? =some (.slice a2 m2 c2)) (q4:cs[33]? =some (.slice a4 m4 c4)) (q5:cs[34]? =some (.slice a5 m5 c5))
 (l1:ce.length=4) (l2:cv.length=4) (l3:cc.length=3) (l4:ca.length=15)
 (x0:BoolAll 106 #[.agg cs.toArray,.func (.func 105) #[] #[.pointer (some ⟨w.heap.size,0,none⟩)]] z0 (w.alloc (.cells cs.toArray 47)))
 (b1:BoolAll 105 #[.int .i64 8,.pointer (some ⟨w.heap.size,0,none⟩)] hE (w.alloc (.cells cs.toArray 47))) (b2:BoolAll 105 #[.int .i64 16,.pointer (some ⟨w.heap.size,0,none⟩)] hV (w.alloc (.cells cs.toArray 47))) (b3:BoolAll 105 #[.int .i64 32,.pointer (some ⟨w.heap.size,0,none⟩)] hC (w.alloc (.cells cs.toArray 47))) (b4:BoolAll 105 #[.int .i64 64,.pointer (some ⟨w.heap.size,0,none⟩)] hA' (w.alloc (.cells cs.toArray 47))) (b7:BoolAll 105 #[.int .i64 256,.pointer (some ⟨w.heap.size,0,none⟩)] hB (w.alloc (.cells cs.toArray 47))) (b8:BoolAll 105 #[.int .i64 512,.pointer (some ⟨w.heap.size,0,none⟩)] hX (w.alloc (.cells cs.toArray 47)))
 (x1:BoolAll 107 #[.bool hE,.agg ce.toArray,.func (.func 108) #[] #[],.func (.func 109) #[] #[]] z1 (w.alloc (.cells cs.toArray 47))) (x2:BoolAll 107 #[.bool hV,.agg cv.toArray,.func (.func 108) #[] #[],.func (.func 109) #[] #[]] z2 (w.alloc (.cells cs.toArray 47)))
 (x3:BoolAll 110 #[.bool hC,.agg cc.toArray,.func (.func 103) #[] #[],.func (.func 104) #[] #[]] z3 (w.alloc (.cells cs.toArray 47))) (x4:BoolAll 111 #[.bool hA',.agg ca.toArray,.func (.func 71) #[] #[],.func (.func 112) #[] #[]] z4 (w.alloc (.cells cs.toArray 47)))
 (x5:BoolAll 113 #[.bool cB,.slice a1 m1 c1,.func (.func 114) #[] #[],.func (.func 115) #[] #[]] z5 (w.alloc (.cells cs.toArray 47))) (x6:BoolAll 113 #[.bool cB,.slice a2 m2 c2,.func (.func 114) #[] #[],.func (.func 115) #[] #[]] z6 (w.alloc (.cells cs.toArray 47)))
 (x7:BoolAll 116 #[.bool hB,.slice a4 m4 c4,.func (.func 117) #[] #[],.func (.func 118) #[] #[]] z7 (w.alloc (.cells cs.toArray 47))) (x8:BoolAll 116 #[.bool hX,.slice a5 m5 c5,.func (.func 117) #[] #[],.func (.func 118) #[] #[]] z8 (w.alloc (.cells cs.toArray 47))):
 Calls Tryz.prog 73 #[.agg cs.toArray] w (SoundEnd (z0 && z1 && z2 && z3 && z4 && z5 && z6 && z7 && z8) w):=by
 have HA:Hid (Below w.heap.size w (w.alloc (.cells cs.toArray 47))):=box_low
 have HB0:Hid (Below (w.alloc (.cells cs.toArray 47)).heap.size (w.alloc (.cells cs.toArray 47)) (w.alloc (.cells cs.toArray 47))):=Below.refl _ _
 have P1:=Lib.hid (fun W (hb:Below (w.alloc (.cells cs.toArray 47)).heap.size (w.alloc (.cells cs.toArray 47)) W)=>box_part p1 hb)
 have L1:=Lib.hid l1
 have P2:=Lib.hid (fun W (hb:Below (w.alloc (.cells cs.toArray 47)).heap.size (w.alloc (.cells cs.toArray 47)) W)=>box_part p2 hb)
 have L2:=Lib.hid l2
 have P3:=Lib.hid (fun W (hb:Below (w.alloc (.cells cs.toArray 47)).heap.size (w.alloc (.cells cs.toArray 47)) W)=>box_part p3 hb)
 have L3:=Lib.hid l3
 have P4:=Lib.hid (fun W (hb:Below (w.alloc (.cells cs.toArray 47)).heap.size (w.alloc (.cells cs.toArray 47)) W)=>box_part p4 hb)
 have L4:=Lib.hid l4
 have P0:=Lib.hid (fun W (hb:Below (w.alloc (.cells cs.toArray 47)).heap.size (w.alloc (.cells cs.toArray 47)) W)=>box_part (cs:=cs) (l:=cs) (o:=0) (fun i v h=>by rw[Nat.zero_add];exact h) hb)
 have L0:=Lib.hid hlen
 have k0:=box_at q0 HB0.out
 have Q0:=Lib.hid (box_at q0 HB0.out)
 have Q1:=Lib.hid (box_at q1 HB0.out)
 have Q2:=Lib.hid (box_at q2 HB0.out)
 have Q4:=Lib.hid (box_at q4 HB0.out)
 have Q5:=Lib.hid (box_at q5 HB0.out)
 have X0:=Lib.hid x0
 have X1:=Lib.hid x1
 have X2:=Lib.hid x2
 have X3:=Lib.hid x3
 have X4:=Lib.hid x4
 have X5:=Lib.hid x5
 have X6:=Lib.hid x6
 have X7:=Lib.hid x7
 have X8:=Lib.hid x8
 have B1:=Lib.hid b1
 have B2:=Lib.hid b2
 have B3:=Lib.hid b3
 have B4:=Lib.hid b4
 have B7:=Lib.hid b7
 have B8:=Lib.hid b8
 have e1:decide ((k:Int)<0)=false:=decide_eq_false (by omega)
 have e2:decide ((k:Int) ≥ 10)=false:=by simp;omega
 have e4:decide (10≤(k:Int))=false:=by simp;omega
 have e3:((k:Int) == 9)=cB:=by rw[←hcb,Bool.eq_iff_iff];simp only[beq_iff_eq];omega
 clear x0 x1 x2 x3 x4 x5 x6 x7 x8 b1 b2 b3 b4 b7 b8 q0 q1 q2 q4 q5 p1 p2 p3 p4 l1 l2 l3 l4 hlen hk hcb
 have r0:=X0.out.reg
 have s1:=B1.out.reg
 have r1:=X1.out.reg
 have s2:=B2.out.reg
 have r2:=X2.out.reg
 have s3:=B3.out.reg
 have r3:=X3.out.reg
 have s4:=B4.out.reg
 have r4:=X4.out.reg
 have r5:=X5.out.reg
 have r6:=X6.out.reg
 have s7:=B7.out.reg
 have r7:=X7.out.reg
 have s8:=B8.out.reg
 have r8:=X8.out.reg
 have c1:=cell_regrown Q1.out
 have c2:=cell_regrown Q2.out
 have c4:=cell_regrown Q4.out
 have c5:=cell_regrown Q5.out
 go_enter Tryz.func73,Tryz.ntmps73
 go_wp2_with fail
 refine wp_region_quiet_below (by kernel_rfl) (by kernel_rfl) ?_
 repeat (first | (go_big_quiet_step (first | with_reducible exact r0 _ _)) | (refine wpQuiet_load_c 47 _ rfl ⟨w.heap.size,0,none⟩ rfl cs _ P0.out rfl Tryz.underlying47 rfl (by rw[L0.out];kernel_rfl) _ (by simp only[Act.put,List.setIfInBounds_toArray,List.set_cons_succ,List.set_cons_zero];rfl) ?_))
 cases z0 with
 | false=>
   repeat (go_big_quiet_step (fail))
   refine wpQuiet_nil ?_
   intro w9 hw'
   obtain⟨⟨dq,osq⟩,hw''⟩:=hw'
   have H9:Hid (Below w.heap.size w w9):=Lib.hid (by rw[hw''];exact HA.out.trans ((below_regrown _ dq osq).mono HA.out.size))
   clear hw''
   go_wp2_with fail
   go_ret
   exact⟨by simp,H9.out⟩
 | true=>
 clear r0
 repeat (first | (go_big_quiet_step (first | with_reducible exact s1 _ _ | with_reducible exact r1 _ _)) | (refine wpQuiet_load_c 37 _ rfl ⟨w.heap.size,4,none⟩ rfl ce _ P1.out rfl Tryz.underlying37 rfl (by rw[L1.out];kernel_rfl) _ (by simp only[Act.put,List.setIfInBounds_toArray,List.set_cons_succ,List.set_cons_zero];rfl) ?_))
 cases z1 with
 | false=>
   repeat (go_big_quiet_step (fail))
   refine wpQuiet_nil ?_
   intro w9 hw'
   obtain⟨⟨dq,osq⟩,hw''⟩:=hw'
   have H9:Hid (Below w.heap.size w w9):=Lib.hid (by rw[hw''];exact HA.out.trans ((below_regrown _ dq osq).mono HA.out.size))
   clear hw''
   go_wp2_with fail
   go_ret
   exact⟨by simp,H9.out⟩
 | true=>
 clear r1 s1
 repeat (first | (go_big_quiet_step (first | with_reducible exact s2 _ _ | with_reducible exact r2 _ _)) | (refine wpQuiet_load_c 37 _ rfl ⟨w.heap.size,8,none⟩ rfl cv _ P2.out rfl Tryz.underlying37 rfl (by rw[L2.out];kernel_rfl) _ (by simp only[Act.put,List.setIfInBounds_toArray,List.set_cons_succ,List.set_cons_zero];rfl) ?_))
 cases z2 with
 | false=>
   repeat (go_big_quiet_step (fail))
   refine wpQuiet_nil ?_
   intro w9 hw'
   obtain⟨⟨dq,osq⟩,hw''⟩:=hw'
   have H9:Hid (Below w.heap.size w w9):=Lib.hid (by rw[hw''];exact HA.out.trans ((below_regrown _ dq osq).mono HA.out.size))
   clear hw''
   go_wp2_with fail
   go_ret
   exact⟨by simp,H9.out⟩
 | true=>
 clear r2 s2
 repeat (first | (go_big_quiet_step (first | with_reducible exact s3 _ _ | with_reducible exact r3 _ _)) | (refine wpQuiet_load_c 41 _ rfl ⟨w.heap.size,12,none⟩ rfl cc _ P3.out rfl Tryz.underlying41 rfl (by rw[L3.out];kernel_rfl) _ (by simp only[Act.put,List.setIfInBounds_toArray,List.set_cons_succ,List.set_cons_zero];rfl) ?_))
 cases z3 with
 | false=>
   repeat (go_big_quiet_step (fail))
   refine wpQuiet_nil ?_
   intro w9 hw'
   obtain⟨⟨dq,osq⟩,hw''⟩:=hw'
   have H9:Hid (Below w.heap.size w w9):=Lib.hid (by rw[hw''];exact HA.out.trans ((below_regrown _ dq osq).mono HA.out.size))
   clear hw''
   go_wp2_with fail
   go_ret
   exact⟨by simp,H9.out⟩
 | true=>
 clear r3 s3
 repeat (first | (go_big_quiet_step (first | with_reducible exact s4 _ _ | with_reducible exact r4 _ _)) | (refine wpQuiet_load_c 44 _ rfl ⟨w.heap.size,15,none⟩ rfl ca _ P4.out rfl Tryz.underlying44 rfl (by rw[L4.out];kernel_rfl) _ (by simp only[Act.put,List.setIfInBounds_toArray,List.set_cons_succ,List.set_cons_zero];rfl) ?_))
 cases z4 with
 | false=>
   repeat (go_big_quiet_step (fail))
   refine wpQuiet_nil ?_
   intro w9 hw'
   obtain⟨⟨dq,osq⟩,hw''⟩:=hw'
   have H9:Hid (Below w.heap.size w w9):=Lib.hid (by rw[hw''];exact HA.out.trans ((below_regrown _ dq osq).mono HA.out.size))
   clear hw''
   go_wp2_with fail
   go_ret
   exact⟨by simp,H9.out⟩
 | true=>
 clear r4 s4
 repeat (first | (go_big_quiet_step (first | with_reducible exact r5 _ _)))
 cases z5 with
 | false=>
   repeat (go_big_quiet_step (fail))
   refine wpQuiet_nil ?_
   intro w9 hw'
   obtain⟨⟨dq,osq⟩,hw''⟩:=hw'
   have H9:Hid (Below w.heap.size w w9):=Lib.hid (by rw[hw''];exact HA.out.trans ((below_regrown _ dq osq).mono HA.out.size))
   clear hw''
   go_wp2_with fail
   go_ret
   exact⟨by simp,H9.out⟩
 | true=>
 clear r5
 repeat (first | (go_big_quiet_step (first | with_reducible exact r6 _ _)))
 cases z6 with
 | false=>
   repeat (go_big_quiet_step (fail))
   refine wpQuiet_nil ?_
   intro w9 hw'
   obtain⟨⟨dq,osq⟩,hw''⟩:=hw'
   have H9:Hid (Below w.heap.size w w9):=Lib.hid (by rw[hw''];exact HA.out.trans ((below_regrown _ dq osq).mono HA.out.size))
   clear hw''
   go_wp2_with fail
   go_ret
   exact⟨by simp,H9.out⟩
 | true=>
 clear r6
 repeat (first | (go_big_quiet_step (first | with_reducible exact s7 _ _ | with_reducible exact r7 _ _)))
 cases z7 with
 | false=>
   repeat (go_big_quiet_step (fail))
   refine wpQuiet_nil ?_
   intro w9 hw'
   obtain⟨⟨dq,osq⟩,hw''⟩:=hw'
   have H9:Hid (Below w.heap.size w w9):=Lib.hid (by rw[hw''];exact HA.out.trans ((below_regrown _ dq osq).mono HA.out.size))
   clear hw''
   go_wp2_with fail
   go_ret
   exact⟨by simp,H9.out⟩
 | true=>
 clear r7 s7
 repeat (first | (go_big_quiet_step (first | with_reducible exact s8 _ _ | with_reducible exact r8 _ _)))
 refine wpQuiet_nil ?_
 intro w9 hw'
 obtain⟨⟨dq,osq⟩,hw''⟩:=hw'
 have H9:Hid (Below w.heap.size w w9):=Lib.hid (by rw[hw''];exact HA.out.trans ((below_regrown _ dq osq).mono HA.out.size))
 clear hw''
 go_wp2_with fail
 go_ret
 exact⟨by simp,H9.out⟩
end
section
open Go.RowKit
theorem depthA_box (b n:Nat)(hb0:b≤1000)(cs cc ce cv:List Value)(w:World)(d1 d2 d3:Nat)(g1:d1≤b+1)(g2:d2≤b+1)(g3:d3≤b+1)
 (pd1:Part cs 1 cc) (ld1:cc.length=3) (yd1:ValAll 84 #[.agg cc.toArray,.int .i64 b] (.int .i64 (d1:Nat)) w)
 (pd2:Part cs 4 ce) (ld2:ce.length=4) (yd2:ValAll 85 #[.agg ce.toArray,.int .i64 b] (.int .i64 (d2:Nat)) w)
 (pd3:Part cs 8 cv) (ld3:cv.length=4) (yd3:ValAll 85 #[.agg cv.toArray,.int .i64 b] (.int .i64 (d3:Nat)) w)
 (xs:List AT) (a:Option Addr) (m c:Nat) (hm0:xs.length=m) (hs0:Pak.Sits (assnSh n) (Pak.Lo w.heap.size) w a xs) (q0:cs[14]? =some (.slice a m c))
 (hx0:∀(x:AT) cs' W,Below w.heap.size w W→(assnSh n).rel (Pak.Lo W.heap.size) W cs' x→Calls Tryz.prog 45 #[.agg cs'.toArray,.int .i64 b] W fun r w'=>r= .returned (.int .i64 (dA b x:Nat))∧Below W.heap.size W w')
 :Calls Tryz.prog 45 #[.agg cs.toArray,.int .i64 ((b:Int)+1)] w fun r w'=>r= .returned (.int .i64 ((mxF (dA b) (max d1 (max d2 d3)) xs+1:Nat):Int))∧Below w.heap.size w w':=by
 have hA0:Below w.heap.size w (w.alloc (.cells cs.toArray 44)):=box_low
 have Pd1:=Lib.hid (fun W (hb:Below (w.alloc (.cells cs.toArray 44)).heap.size (w.alloc (.cells cs.toArray 44)) W)=>box_part pd1 hb)
 have Ld1:=Lib.hid ld1
 have Yd1:=Lib.hid (yd1.up hA0)
 have Pd2:=Lib.hid (fun W (hb:Below (w.alloc (.cells cs.toArray 44)).heap.size (w.alloc (.cells cs.toArray 44)) W)=>box_part pd2 hb)
 have Ld2:=Lib.hid ld2
 have Yd2:=Lib.hid (yd2.up hA0)
 have Pd3:=Lib.hid (fun W (hb:Below (w.alloc (.cells cs.toArray 44)).heap.size (w.alloc (.cells cs.toArray 44)) W)=>box_part pd3 hb)
 have Ld3:=Lib.hid ld3
 have Yd3:=Lib.hid (yd3.up hA0)
 clear hA0 pd1 ld1 yd1 pd2 ld2 yd2 pd3 ld3 yd3
 have HA:Hid (Below w.heap.size w (w.alloc (.cells cs.toArray 44))):=box_low
 have BIG:=Lib.hid (fun W (a b:Nat)=>big_any a b W W (Below.refl _ _))
 have HS0:=Lib.hid hs0
 have HM0:=Lib.hid hm0
 have HX0:=Lib.hid hx0
 have hmm0:m≤9223372036854775807:=by rw[←hm0];exact hs0.1
 have HCL0:=Lib.hid (fun W (hb:Below (w.alloc (.cells cs.toArray 44)).heap.size (w.alloc (.cells cs.toArray 44)) W)=>box_at q0 hb)
 clear hs0 hm0 hx0 q0
 have hk0:((b:Int)+1 == 0)=false:=by rw[Bool.eq_false_iff];simp only[ne_eq,beq_iff_eq];omega
 have r1:=Yd1.out.reg
 have r2:=Yd2.out.reg
 have r3:=Yd3.out.reg
 have rb:=fun(x y:Nat)=>(show ValAll 83 #[.int .i64 x,.int .i64 y] (.int .i64 ((max x y:Nat):Int)) (w.alloc (.cells cs.toArray 44)) from fun W hW=>BIG.out W x y).reg
 go_enter Tryz.func45,Tryz.ntmps45
 go_wp2_with fail
 refine wp_region_quiet_below (by kernel_rfl) (by kernel_rfl) ?_
 repeat (first | (go_big_quiet_step (first | with_reducible exact r1 _ _ | with_reducible exact r2 _ _ | with_reducible exact r3 _ _ | with_reducible exact rb _ _ _ _)) | (refine wpQuiet_load_c 41 _ rfl ⟨w.heap.size,1,none⟩ rfl cc _ Pd1.out rfl Tryz.underlying41 rfl (by rw[Ld1.out];kernel_rfl) _ (by simp only[Act.put,List.setIfInBounds_toArray,List.set_cons_succ,List.set_cons_zero];rfl) ?_) | (refine wpQuiet_load_c 37 _ rfl ⟨w.heap.size,4,none⟩ rfl ce _ Pd2.out rfl Tryz.underlying37 rfl (by rw[Ld2.out];kernel_rfl) _ (by simp only[Act.put,List.setIfInBounds_toArray,List.set_cons_succ,List.set_cons_zero];rfl) ?_) | (refine wpQuiet_load_c 37 _ rfl ⟨w.heap.size,8,none⟩ rfl cv _ Pd3.out rfl Tryz.underlying37 rfl (by rw[Ld3.out];kernel_rfl) _ (by simp only[Act.put,List.setIfInBounds_toArray,List.set_cons_succ,List.set_cons_zero];rfl) ?_))
 refine wpQuiet_nil ?_
 intro w9 hw'
 obtain⟨⟨dq,osq⟩,hw''⟩:=hw'
 have HB9:Hid (Below (w.alloc (.cells cs.toArray 44)).heap.size (w.alloc (.cells cs.toArray 44)) w9):=Lib.hid (by rw[hw''];exact below_regrown _ dq osq)
 clear hw'' r1 r2 r3 rb
 have hm:max d1 (max d2 d3)≤b+1:=Nat.max_le.2 ⟨g1,Nat.max_le.2 ⟨g2,g3⟩⟩
 generalize hE1:max d1 (max d2 d3)=e1 at*
 have E1:=Lib.hid hE1
 clear hE1
 have HACC0:=Lib.hid hm
 go_wp2_with fail
 go_loopw [5,6] (fun d i wr=>∃j:Nat,j≤m∧i= .int .i64 j∧d= .int .i64 ((mxF (dA b) e1 (xs.take j):Nat):Int)∧Hid (Below (w.alloc (.cells cs.toArray 44)).heap.size (w.alloc (.cells cs.toArray 44)) wr)) (fun _ i _=>m - (intOf i).toNat)
 case atStart=>exact⟨0,Nat.zero_le _,rfl,rfl,HB9⟩
 case round=>
  obtain⟨j,hj,rfl,rfl,hb⟩:=hrel
  obtain⟨wo0,rfl⟩:∃wo:World,wo=wr:=⟨_,rfl⟩
  have HWO0:=Lib.hid (HA.out.trans (hb.out.mono HA.out.size))
  have k0:=HCL0.out _ hb.out
  by_cases hlt:j<m
  ·have hlx:j<xs.length:=by rw[HM0.out];exact hlt
   have hji:(j:Int)<(m:Int):=by omega
   obtain⟨b',off,cs',e',hbl,hc,hr⟩:=(HS0.out.below HWO0.out HWO0.out.size).2 j hlx
   subst e'
   have hlen:=(assnSh n).len hr
   rw[assnSh_k]at hlen hc
   have HC0:Hid (∀i v,cs'[i]? =some v→wo0.cell? ((⟨b',off+j*15,none⟩:Addr).add i)=some v):=fun i v hv=>by
    rw[show(⟨b',off+j*15,none⟩:Addr).add i=⟨b',off+j*15+i,none⟩ by unfold Addr.add;split<;>simp_all]
    exact hc i v hv
   have HL:=Lib.hid hlen
   have HN:=Lib.hid (mx_snoc (dA b) e1 xs j hlx)
   have HD:mxF (dA b) e1 (xs.take j)≤b+1:=mx_le _ HACC0.out (dA_le b)
   have HD2:dA b xs[j]≤b+1:=dA_le b _
   have X:Hid (ValAll 45 #[.agg cs'.toArray,.int .i64 b] (.int .i64 (dA b xs[j]:Nat)) wo0):=Lib.hid (fun W hW=>HX0.out _ _ W (HWO0.out.trans (hW.mono HWO0.out.size)) (rel_low hr hW))
   clear hc hr hlen
   generalize mxF (dA b) e1 (xs.take j)=D at*
   generalize dA b xs[j]=y at*
   go_wp2_with (refine wpList_load_w rfl 44 _ rfl ⟨b',off+j*15,none⟩ rfl cs' _ HC0.out Tryz.underlying44 rfl (by rw[HL.out];kernel_rfl) ?_)
   refine(X.out.at (Below.refl _ _)).mono ?_
   rintro r w1 ⟨rfl,hb1⟩
   have HB1:=Lib.hid (hb.out.trans (hb1.mono hb.out.size))
   clear hb1 X HC0 k0
   go_wp2_with fail
   refine(BIG.out w1 D y).mono ?_
   rintro r w2 ⟨rfl,hb2⟩
   have HB2:=Lib.hid (HB1.out.trans (hb2.mono HB1.out.size))
   clear hb2
   go_wp2_with fail
   go_roundw
   case rel=>exact⟨j+1,by omega,by go_num,by rw[HN.out],HB2⟩
   case measure=>simp[intOf];omega
  ·have hjm:j=m:=by omega
   have HF0:Hid (mxF (dA b) e1 (xs.take j)=mxF (dA b) e1 xs):=Lib.hid (by rw[hjm,←HM0.out,List.take_length])
   have HACC1:Hid (mxF (dA b) e1 (xs.take j)≤b+1):=mx_le _ HACC0.out (dA_le b)
   generalize mxF (dA b) e1 (xs.take j)=acc1 at*
   clear hlt
   obtain rfl:=hjm
   have HBN0:=Lib.hid hb.out
   have hA2:=HACC1.out
   have HZ:=Lib.hid (HA.out.trans (HBN0.out.mono HA.out.size))
   go_wp2_with fail
   go_ret
   exact⟨by rw[E1.out,←HF0.out];rfl,HZ.out⟩
theorem depthS_box (b n:Nat)(hb0:b≤1000)(cs cc ce cv ca:List Value)(w:World)(d1 d2 d3 d4:Nat)(g1:d1≤b+1)(g2:d2≤b+1)(g3:d3≤b+1)(g4:d4≤b+1)
 (pd1:Part cs 12 cc) (ld1:cc.length=3) (yd1:ValAll 84 #[.agg cc.toArray,.int .i64 b] (.int .i64 (d1:Nat)) w)
 (pd2:Part cs 4 ce) (ld2:ce.length=4) (yd2:ValAll 85 #[.agg ce.toArray,.int .i64 b] (.int .i64 (d2:Nat)) w)
 (pd3:Part cs 8 cv) (ld3:cv.length=4) (yd3:ValAll 85 #[.agg cv.toArray,.int .i64 b] (.int .i64 (d3:Nat)) w)
 (pd4:Part cs 15 ca) (ld4:ca.length=15) (yd4:ValAll 45 #[.agg ca.toArray,.int .i64 b] (.int .i64 (d4:Nat)) w)
 (xs:List ET) (a:Option Addr) (m c:Nat) (hm0:xs.length=m) (hs0:Pak.Sits (exprSh n) (Pak.Lo w.heap.size) w a xs) (q0:cs[30]? =some (.slice a m c))
 (hx0:∀(x:ET) cs' W,Below w.heap.size w W→(exprSh n).rel (Pak.Lo W.heap.size) W cs' x→Calls Tryz.prog 85 #[.agg cs'.toArray,.int .i64 b] W fun r w'=>r= .returned (.int .i64 (dE b x:Nat))∧Below W.heap.size W w')
 (ys:List ET) (a2:Option Addr) (m2 c2:Nat) (hm1:ys.length=m2) (hs1:Pak.Sits (exprSh n) (Pak.Lo w.heap.size) w a2 ys) (q1:cs[31]? =some (.slice a2 m2 c2))
 (hx1:∀(x:ET) cs' W,Below w.heap.size w W→(exprSh n).rel (Pak.Lo W.heap.size) W cs' x→Calls Tryz.prog 85 #[.agg cs'.toArray,.int .i64 b] W fun r w'=>r= .returned (.int .i64 (dE b x:Nat))∧Below W.heap.size W w')
 (us:List ST) (a4:Option Addr) (m4 c4:Nat) (hm2:us.length=m4) (hs2:Pak.Sits (stmtSh n) (Pak.Lo w.heap.size) w a4 us) (q2:cs[33]? =some (.slice a4 m4 c4))
 (hx2:∀(x:ST) cs' W,Below w.heap.size w W→(stmtSh n).rel (Pak.Lo W.heap.size) W cs' x→Calls Tryz.prog 46 #[.agg cs'.toArray,.int .i64 b] W fun r w'=>r= .returned (.int .i64 (dS b x:Nat))∧Below W.heap.size W w')
 (vs:List ST) (a5:Option Addr) (m5 c5:Nat) (hm3:vs.length=m5) (hs3:Pak.Sits (stmtSh n) (Pak.Lo w.heap.size) w a5 vs) (q3:cs[34]? =some (.slice a5 m5 c5))
 (hx3:∀(x:ST) cs' W,Below w.heap.size w W→(stmtSh n).rel (Pak.Lo W.heap.size) W cs' x→Calls Tryz.prog 46 #[.agg cs'.toArray,.int .i64 b] W fun r w'=>r= .returned (.int .i64 (dS b x:Nat))∧Below W.heap.size W w')
 :Calls Tryz.prog 46 #[.agg cs.toArray,.int .i64 ((b:Int)+1)] w fun r w'=>r= .returned (.int .i64 ((mxF (dS b) (mxF (dS b) (mxF (dE b) (mxF (dE b) (max (max d1 (max d2 d3)) d4) xs) ys) us) vs+1:Nat):Int))∧Below w.heap.size w w':=by
 have hA0:Below w.heap.size w (w.alloc (.cells cs.toArray 47)):=box_low
 have Pd1:=Lib.hid (fun W (hb:Below (w.alloc (.cells cs.toArray 47)).heap.size (w.alloc (.cells cs.toArray 47)) W)=>box_part pd1 hb)
 have Ld1:=Lib.hid ld1
 have Yd1:=Lib.hid (yd1.up hA0)
 have Pd2:=Lib.hid (fun W (hb:Below (w.alloc (.cells cs.toArray 47)).heap.size (w.alloc (.cells cs.toArray 47)) W)=>box_part pd2 hb)
 have Ld2:=Lib.hid ld2
 have Yd2:=Lib.hid (yd2.up hA0)
 have Pd3:=Lib.hid (fun W (hb:Below (w.alloc (.cells cs.toArray 47)).heap.size (w.alloc (.cells cs.toArray 47)) W)=>box_part pd3 hb)
 have Ld3:=Lib.hid ld3
 have Yd3:=Lib.hid (yd3.up hA0)
 have Pd4:=Lib.hid (fun W (hb:Below (w.alloc (.cells cs.toArray 47)).heap.size (w.alloc (.cells cs.toArray 47)) W)=>box_part pd4 hb)
 have Ld4:=Lib.hid ld4
 have Yd4:=Lib.hid (yd4.up hA0)
 clear hA0 pd1 ld1 yd1 pd2 ld2 yd2 pd3 ld3 yd3 pd4 ld4 yd4
 have HA:Hid (Below w.heap.size w (w.alloc (.cells cs.toArray 47))):=box_low
 have BIG:=Lib.hid (fun W (a b:Nat)=>big_any a b W W (Below.refl _ _))
 have HS0:=Lib.hid hs0
 have HM0:=Lib.hid hm0
 have HX0:=Lib.hid hx0
 have hmm0:m≤9223372036854775807:=by rw[←hm0];exact hs0.1
 have HCL0:=Lib.hid (fun W (hb:Below (w.alloc (.cells cs.toArray 47)).heap.size (w.alloc (.cells cs.toArray 47)) W)=>box_at q0 hb)
 have HS1:=Lib.hid hs1
 have HM1:=Lib.hid hm1
 have HX1:=Lib.hid hx1
 have hmm1:m2≤9223372036854775807:=by rw[←hm1];exact hs1.1
 have HCL1:=Lib.hid (fun W (hb:Below (w.alloc (.cells cs.toArray 47)).heap.size (w.alloc (.cells cs.toArray 47)) W)=>box_at q1 hb)
 have HS2:=Lib.hid hs2
 have HM2:=Lib.hid hm2
 have HX2:=Lib.hid hx2
 have hmm2:m4≤9223372036854775807:=by rw[←hm2];exact hs2.1
 have HCL2:=Lib.hid (fun W (hb:Below (w.alloc (.cells cs.toArray 47)).heap.size (w.alloc (.cells cs.toArray 47)) W)=>box_at q2 hb)
 have HS3:=Lib.hid hs3
 have HM3:=Lib.hid hm3
 have HX3:=Lib.hid hx3
 have hmm3:m5≤9223372036854775807:=by rw[←hm3];exact hs3.1
 have HCL3:=Lib.hid (fun W (hb:Below (w.alloc (.cells cs.toArray 47)).heap.size (w.alloc (.cells cs.toArray 47)) W)=>box_at q3 hb)
 clear hs0 hm0 hx0 q0 hs1 hm1 hx1 q1 hs2 hm2 hx2 q2 hs3 hm3 hx3 q3
 have hk0:((b:Int)+1 == 0)=false:=by rw[Bool.eq_false_iff];simp only[ne_eq,beq_iff_eq];omega
 have r1:=Yd1.out.reg
 have r2:=Yd2.out.reg
 have r3:=Yd3.out.reg
 have rb:=fun(x y:Nat)=>(show ValAll 83 #[.int .i64 x,.int .i64 y] (.int .i64 ((max x y:Nat):Int)) (w.alloc (.cells cs.toArray 47)) from fun W hW=>BIG.out W x y).reg
 go_enter Tryz.func46,Tryz.ntmps46
 go_wp2_with fail
 refine wp_region_quiet_below (by kernel_rfl) (by kernel_rfl) ?_
 repeat (first | (go_big_quiet_step (first | with_reducible exact r1 _ _ | with_reducible exact r2 _ _ | with_reducible exact r3 _ _ | with_reducible exact rb _ _ _ _)) | (refine wpQuiet_load_c 41 _ rfl ⟨w.heap.size,12,none⟩ rfl cc _ Pd1.out rfl Tryz.underlying41 rfl (by rw[Ld1.out];kernel_rfl) _ (by simp only[Act.put,List.setIfInBounds_toArray,List.set_cons_succ,List.set_cons_zero];rfl) ?_) | (refine wpQuiet_load_c 37 _ rfl ⟨w.heap.size,4,none⟩ rfl ce _ Pd2.out rfl Tryz.underlying37 rfl (by rw[Ld2.out];kernel_rfl) _ (by simp only[Act.put,List.setIfInBounds_toArray,List.set_cons_succ,List.set_cons_zero];rfl) ?_) | (refine wpQuiet_load_c 37 _ rfl ⟨w.heap.size,8,none⟩ rfl cv _ Pd3.out rfl Tryz.underlying37 rfl (by rw[Ld3.out];kernel_rfl) _ (by simp only[Act.put,List.setIfInBounds_toArray,List.set_cons_succ,List.set_cons_zero];rfl) ?_))
 refine wpQuiet_nil ?_
 intro w9 hw'
 obtain⟨⟨dq,osq⟩,hw''⟩:=hw'
 have HB9:Hid (Below (w.alloc (.cells cs.toArray 47)).heap.size (w.alloc (.cells cs.toArray 47)) w9):=Lib.hid (by rw[hw''];exact below_regrown _ dq osq)
 clear hw'' r1 r2 r3 rb
 have hm:max d1 (max d2 d3)≤b+1:=Nat.max_le.2 ⟨g1,Nat.max_le.2 ⟨g2,g3⟩⟩
 generalize hE1:max d1 (max d2 d3)=e1 at*
 have E1:=Lib.hid hE1
 clear hE1
 go_wp2_with (refine wpList_load_w rfl 44 _ rfl ⟨w.heap.size,15,none⟩ rfl ca _ (Pd4.out _ HB9.out) Tryz.underlying44 rfl (by rw[Ld4.out];kernel_rfl) ?_)
 refine(Yd4.out.at HB9.out).mono ?_
 rintro r w1 ⟨rfl,hb1⟩
 have HB10:=Lib.hid (HB9.out.trans (hb1.mono HB9.out.size))
 clear hb1
 go_wp2_with fail
 refine(BIG.out w1 e1 d4).mono ?_
 rintro r w2 ⟨rfl,hb1⟩
 have HB11:=Lib.hid (HB10.out.trans (hb1.mono HB10.out.size))
 clear hb1
 have hm2:max e1 d4≤b+1:=Nat.max_le.2 ⟨hm,g4⟩
 generalize hE2:max e1 d4=e2 at*
 have E2:=Lib.hid hE2
 clear hE2
 have HACC0:=Lib.hid hm2
 go_wp2_with fail
 go_loopw [5,6] (fun d i wr=>∃j:Nat,j≤m∧i= .int .i64 j∧d= .int .i64 ((mxF (dE b) e2 (xs.take j):Nat):Int)∧Hid (Below (w.alloc (.cells cs.toArray 47)).heap.size (w.alloc (.cells cs.toArray 47)) wr)) (fun _ i _=>m - (intOf i).toNat)
 case atStart=>exact⟨0,Nat.zero_le _,rfl,rfl,HB11⟩
 case round=>
  obtain⟨j,hj,rfl,rfl,hb⟩:=hrel
  obtain⟨wo0,rfl⟩:∃wo:World,wo=wr:=⟨_,rfl⟩
  have HWO0:=Lib.hid (HA.out.trans (hb.out.mono HA.out.size))
  have k0:=HCL0.out _ hb.out
  by_cases hlt:j<m
  ·have hlx:j<xs.length:=by rw[HM0.out];exact hlt
   have hji:(j:Int)<(m:Int):=by omega
   obtain⟨b',off,cs',e',hbl,hc,hr⟩:=(HS0.out.below HWO0.out HWO0.out.size).2 j hlx
   subst e'
   have hlen:=(exprSh n).len hr
   rw[exprSh_k]at hlen hc
   have HC0:Hid (∀i v,cs'[i]? =some v→wo0.cell? ((⟨b',off+j*4,none⟩:Addr).add i)=some v):=fun i v hv=>by
    rw[show(⟨b',off+j*4,none⟩:Addr).add i=⟨b',off+j*4+i,none⟩ by unfold Addr.add;split<;>simp_all]
    exact hc i v hv
   have HL:=Lib.hid hlen
   have HN:=Lib.hid (mx_snoc (dE b) e2 xs j hlx)
   have HD:mxF (dE b) e2 (xs.take j)≤b+1:=mx_le _ HACC0.out (dE_le b)
   have HD2:dE b xs[j]≤b+1:=dE_le b _
   have X:Hid (ValAll 85 #[.agg cs'.toArray,.int .i64 b] (.int .i64 (dE b xs[j]:Nat)) wo0):=Lib.hid (fun W hW=>HX0.out _ _ W (HWO0.out.trans (hW.mono HWO0.out.size)) (rel_low hr hW))
   clear hc hr hlen
   generalize mxF (dE b) e2 (xs.take j)=D at*
   generalize dE b xs[j]=y at*
   go_wp2_with (refine wpList_load_w rfl 37 _ rfl ⟨b',off+j*4,none⟩ rfl cs' _ HC0.out Tryz.underlying37 rfl (by rw[HL.out];kernel_rfl) ?_)
   refine(X.out.at (Below.refl _ _)).mono ?_
   rintro r w1 ⟨rfl,hb1⟩
   have HB1:=Lib.hid (hb.out.trans (hb1.mono hb.out.size))
   clear hb1 X HC0 k0
   go_wp2_with fail
   refine(BIG.out w1 D y).mono ?_
   rintro r w2 ⟨rfl,hb2⟩
   have HB2:=Lib.hid (HB1.out.trans (hb2.mono HB1.out.size))
   clear hb2
   go_wp2_with fail
   go_roundw
   case rel=>exact⟨j+1,by omega,by go_num,by rw[HN.out],HB2⟩
   case measure=>simp[intOf];omega
  ·have hjm:j=m:=by omega
   have HF0:Hid (mxF (dE b) e2 (xs.take j)=mxF (dE b) e2 xs):=Lib.hid (by rw[hjm,←HM0.out,List.take_length])
   have HACC1:Hid (mxF (dE b) e2 (xs.take j)≤b+1):=mx_le _ HACC0.out (dE_le b)
   generalize mxF (dE b) e2 (xs.take j)=acc1 at*
   clear hlt
   obtain rfl:=hjm
   have HBN0:=Lib.hid hb.out
   go_wp2_with fail
   go_loopw [5,7] (fun d i wr=>∃j:Nat,j≤m2∧i= .int .i64 j∧d= .int .i64 ((mxF (dE b) acc1 (ys.take j):Nat):Int)∧Hid (Below (w.alloc (.cells cs.toArray 47)).heap.size (w.alloc (.cells cs.toArray 47)) wr)) (fun _ i _=>m2 - (intOf i).toNat)
   case atStart=>exact⟨0,Nat.zero_le _,rfl,rfl,HBN0⟩
   case round=>
    obtain⟨j,hj,rfl,rfl,hb⟩:=hrel
    obtain⟨wo1,rfl⟩:∃wo:World,wo=wr:=⟨_,rfl⟩
    have HWO1:=Lib.hid (HA.out.trans (hb.out.mono HA.out.size))
    have k0:=HCL1.out _ hb.out
    by_cases hlt:j<m2
    ·have hlx:j<ys.length:=by rw[HM1.out];exact hlt
     have hji:(j:Int)<(m2:Int):=by omega
     obtain⟨b',off,cs',e',hbl,hc,hr⟩:=(HS1.out.below HWO1.out HWO1.out.size).2 j hlx
     subst e'
     have hlen:=(exprSh n).len hr
     rw[exprSh_k]at hlen hc
     have HC0:Hid (∀i v,cs'[i]? =some v→wo1.cell? ((⟨b',off+j*4,none⟩:Addr).add i)=some v):=fun i v hv=>by
      rw[show(⟨b',off+j*4,none⟩:Addr).add i=⟨b',off+j*4+i,none⟩ by unfold Addr.add;split<;>simp_all]
      exact hc i v hv
     have HL:=Lib.hid hlen
     have HN:=Lib.hid (mx_snoc (dE b) acc1 ys j hlx)
     have HD:mxF (dE b) acc1 (ys.take j)≤b+1:=mx_le _ HACC1.out (dE_le b)
     have HD2:dE b ys[j]≤b+1:=dE_le b _
     have X:Hid (ValAll 85 #[.agg cs'.toArray,.int .i64 b] (.int .i64 (dE b ys[j]:Nat)) wo1):=Lib.hid (fun W hW=>HX1.out _ _ W (HWO1.out.trans (hW.mono HWO1.out.size)) (rel_low hr hW))
     clear hc hr hlen
     generalize mxF (dE b) acc1 (ys.take j)=D at*
     generalize dE b ys[j]=y at*
     go_wp2_with (refine wpList_load_w rfl 37 _ rfl ⟨b',off+j*4,none⟩ rfl cs' _ HC0.out Tryz.underlying37 rfl (by rw[HL.out];kernel_rfl) ?_)
     refine(X.out.at (Below.refl _ _)).mono ?_
     rintro r w1 ⟨rfl,hb1⟩
     have HB1:=Lib.hid (hb.out.trans (hb1.mono hb.out.size))
     clear hb1 X HC0 k0
     go_wp2_with fail
     refine(BIG.out w1 D y).mono ?_
     rintro r w2 ⟨rfl,hb2⟩
     have HB2:=Lib.hid (HB1.out.trans (hb2.mono HB1.out.size))
     clear hb2
     go_wp2_with fail
     go_roundw
     case rel=>exact⟨j+1,by omega,by go_num,by rw[HN.out],HB2⟩
     case measure=>simp[intOf];omega
    ·have hjm:j=m2:=by omega
     have HF1:Hid (mxF (dE b) acc1 (ys.take j)=mxF (dE b) acc1 ys):=Lib.hid (by rw[hjm,←HM1.out,List.take_length])
     have HACC2:Hid (mxF (dE b) acc1 (ys.take j)≤b+1):=mx_le _ HACC1.out (dE_le b)
     generalize mxF (dE b) acc1 (ys.take j)=acc2 at*
     clear hlt
     obtain rfl:=hjm
     have HBN1:=Lib.hid hb.out
     go_wp2_with fail
     go_loopw [5,8] (fun d i wr=>∃j:Nat,j≤m4∧i= .int .i64 j∧d= .int .i64 ((mxF (dS b) acc2 (us.take j):Nat):Int)∧Hid (Below (w.alloc (.cells cs.toArray 47)).heap.size (w.alloc (.cells cs.toArray 47)) wr)) (fun _ i _=>m4 - (intOf i).toNat)
     case atStart=>exact⟨0,Nat.zero_le _,rfl,rfl,HBN1⟩
     case round=>
      obtain⟨j,hj,rfl,rfl,hb⟩:=hrel
      obtain⟨wo2,rfl⟩:∃wo:World,wo=wr:=⟨_,rfl⟩
      have HWO2:=Lib.hid (HA.out.trans (hb.out.mono HA.out.size))
      have k0:=HCL2.out _ hb.out
      by_cases hlt:j<m4
      ·have hlx:j<us.length:=by rw[HM2.out];exact hlt
       have hji:(j:Int)<(m4:Int):=by omega
       obtain⟨b',off,cs',e',hbl,hc,hr⟩:=(HS2.out.below HWO2.out HWO2.out.size).2 j hlx
       subst e'
       have hlen:=(stmtSh n).len hr
       rw[stmtSh_k]at hlen hc
       have HC0:Hid (∀i v,cs'[i]? =some v→wo2.cell? ((⟨b',off+j*35,none⟩:Addr).add i)=some v):=fun i v hv=>by
        rw[show(⟨b',off+j*35,none⟩:Addr).add i=⟨b',off+j*35+i,none⟩ by unfold Addr.add;split<;>simp_all]
        exact hc i v hv
       have HL:=Lib.hid hlen
       have HN:=Lib.hid (mx_snoc (dS b) acc2 us j hlx)
       have HD:mxF (dS b) acc2 (us.take j)≤b+1:=mx_le _ HACC2.out (dS_le b)
       have HD2:dS b us[j]≤b+1:=dS_le b _
       have X:Hid (ValAll 46 #[.agg cs'.toArray,.int .i64 b] (.int .i64 (dS b us[j]:Nat)) wo2):=Lib.hid (fun W hW=>HX2.out _ _ W (HWO2.out.trans (hW.mono HWO2.out.size)) (rel_low hr hW))
       clear hc hr hlen
       generalize mxF (dS b) acc2 (us.take j)=D at*
       generalize dS b us[j]=y at*
       go_wp2_with (refine wpList_load_w rfl 47 _ rfl ⟨b',off+j*35,none⟩ rfl cs' _ HC0.out Tryz.underlying47 rfl (by rw[HL.out];kernel_rfl) ?_)
       refine(X.out.at (Below.refl _ _)).mono ?_
       rintro r w1 ⟨rfl,hb1⟩
       have HB1:=Lib.hid (hb.out.trans (hb1.mono hb.out.size))
       clear hb1 X HC0 k0
       go_wp2_with fail
       refine(BIG.out w1 D y).mono ?_
       rintro r w2 ⟨rfl,hb2⟩
       have HB2:=Lib.hid (HB1.out.trans (hb2.mono HB1.out.size))
       clear hb2
       go_wp2_with fail
       go_roundw
       case rel=>exact⟨j+1,by omega,by go_num,by rw[HN.out],HB2⟩
       case measure=>simp[intOf];omega
      ·have hjm:j=m4:=by omega
       have HF2:Hid (mxF (dS b) acc2 (us.take j)=mxF (dS b) acc2 us):=Lib.hid (by rw[hjm,←HM2.out,List.take_length])
       have HACC3:Hid (mxF (dS b) acc2 (us.take j)≤b+1):=mx_le _ HACC2.out (dS_le b)
       generalize mxF (dS b) acc2 (us.take j)=acc3 at*
       clear hlt
       obtain rfl:=hjm
       have HBN2:=Lib.hid hb.out
       go_wp2_with fail
       go_loopw [5,9] (fun d i wr=>∃j:Nat,j≤m5∧i= .int .i64 j∧d= .int .i64 ((mxF (dS b) acc3 (vs.take j):Nat):Int)∧Hid (Below (w.alloc (.cells cs.toArray 47)).heap.size (w.alloc (.cells cs.toArray 47)) wr)) (fun _ i _=>m5 - (intOf i).toNat)
       case atStart=>exact⟨0,Nat.zero_le _,rfl,rfl,HBN2⟩
       case round=>
        obtain⟨j,hj,rfl,rfl,hb⟩:=hrel
        obtain⟨wo3,rfl⟩:∃wo:World,wo=wr:=⟨_,rfl⟩
        have HWO3:=Lib.hid (HA.out.trans (hb.out.mono HA.out.size))
        have k0:=HCL3.out _ hb.out
        by_cases hlt:j<m5
        ·have hlx:j<vs.length:=by rw[HM3.out];exact hlt
         have hji:(j:Int)<(m5:Int):=by omega
         obtain⟨b',off,cs',e',hbl,hc,hr⟩:=(HS3.out.below HWO3.out HWO3.out.size).2 j hlx
         subst e'
         have hlen:=(stmtSh n).len hr
         rw[stmtSh_k]at hlen hc
         have HC0:Hid (∀i v,cs'[i]? =some v→wo3.cell? ((⟨b',off+j*35,none⟩:Addr).add i)=some v):=fun i v hv=>by
          rw[show(⟨b',off+j*35,none⟩:Addr).add i=⟨b',off+j*35+i,none⟩ by unfold Addr.add;split<;>simp_all]
          exact hc i v hv
         have HL:=Lib.hid hlen
         have HN:=Lib.hid (mx_snoc (dS b) acc3 vs j hlx)
         have HD:mxF (dS b) acc3 (vs.take j)≤b+1:=mx_le _ HACC3.out (dS_le b)
         have HD2:dS b vs[j]≤b+1:=dS_le b _
         have X:Hid (ValAll 46 #[.agg cs'.toArray,.int .i64 b] (.int .i64 (dS b vs[j]:Nat)) wo3):=Lib.hid (fun W hW=>HX3.out _ _ W (HWO3.out.trans (hW.mono HWO3.out.size)) (rel_low hr hW))
         clear hc hr hlen
         generalize mxF (dS b) acc3 (vs.take j)=D at*
         generalize dS b vs[j]=y at*
         go_wp2_with (refine wpList_load_w rfl 47 _ rfl ⟨b',off+j*35,none⟩ rfl cs' _ HC0.out Tryz.underlying47 rfl (by rw[HL.out];kernel_rfl) ?_)
         refine(X.out.at (Below.refl _ _)).mono ?_
         rintro r w1 ⟨rfl,hb1⟩
         have HB1:=Lib.hid (hb.out.trans (hb1.mono hb.out.size))
         clear hb1 X HC0 k0
         go_wp2_with fail
         refine(BIG.out w1 D y).mono ?_
         rintro r w2 ⟨rfl,hb2⟩
         have HB2:=Lib.hid (HB1.out.trans (hb2.mono HB1.out.size))
         clear hb2
         go_wp2_with fail
         go_roundw
         case rel=>exact⟨j+1,by omega,by go_num,by rw[HN.out],HB2⟩
         case measure=>simp[intOf];omega
        ·have hjm:j=m5:=by omega
         have HF3:Hid (mxF (dS b) acc3 (vs.take j)=mxF (dS b) acc3 vs):=Lib.hid (by rw[hjm,←HM3.out,List.take_length])
         have HACC4:Hid (mxF (dS b) acc3 (vs.take j)≤b+1):=mx_le _ HACC3.out (dS_le b)
         generalize mxF (dS b) acc3 (vs.take j)=acc4 at*
         clear hlt
         obtain rfl:=hjm
         have HBN3:=Lib.hid hb.out
         have hA2:=HACC4.out
         have HZ:=Lib.hid (HA.out.trans (HBN3.out.mono HA.out.size))
         go_wp2_with fail
         go_ret
         exact⟨by rw[E1.out,E2.out,←HF0.out,←HF1.out,←HF2.out,←HF3.out];rfl,HZ.out⟩
theorem depthA_zero (cs:List Value)(w:World):Calls Tryz.prog 45 #[.agg cs.toArray,.int .i64 0] w fun r w'=>r= .returned (.int .i64 1)∧Below w.heap.size w w':=by
 go_enter Tryz.func45,Tryz.ntmps45
 go_wp2_with fail
 go_ret
 exact⟨rfl,box_low⟩
theorem depthS_zero (cs:List Value)(w:World):Calls Tryz.prog 46 #[.agg cs.toArray,.int .i64 0] w fun r w'=>r= .returned (.int .i64 1)∧Below w.heap.size w w':=by
 go_enter Tryz.func46,Tryz.ntmps46
 go_wp2_with fail
 go_ret
 exact⟨rfl,box_low⟩
structure AssnIs (n:Nat)(S:Nat→Prop)(w:World)(cs:List Value)(s:AT)(cc ce cv:List Value)(a:Option Addr)(c:Nat):Prop where
 len:cs.length=15
 one:∀u∈cs,u.oneCell'=true
 nums:i64 s.kind∧i64 s.n∧s.field.size≤maxLen
 kind:cs[0]? =some (.int .i64 s.kind)
 pc:Part cs 1 cc
 pe:Part cs 4 ce
 pv:Part cs 8 cv
 field:cs[12]? =some (.string s.field)
 num:cs[13]? =some (.int .i64 s.n)
 kids:cs[14]? =some (.slice a s.ks.length c)
 rc:(condSh n).rel S w cc s.c
 re:(exprSh n).rel S w ce s.e
 rv:(exprSh n).rel S w cv s.v
 rkids:Pak.Sits (assnSh n) S w a s.ks
 lc:cc.length=3
 le:ce.length=4
 lv:cv.length=4
theorem assn_is {n:Nat}{S:Nat→Prop}{w:World}{cs:List Value}{s:AT}(h:(assnSh (n+1)).rel S w cs s):∃cc ce cv a c,AssnIs n S w cs s cc ce cv a c:=by
 have hlen:=(assnSh (n+1)).len h
 have hone:=(assnSh (n+1)).one h
 rw[assnSh_k]at hlen
 obtain⟨cc,ce,cv,v,e,hn,h1,h2,h3,⟨a,c,rfl,s1⟩⟩:=h
 have l1:=(condSh n).len h1
 have l2:=(exprSh n).len h2
 have l3:=(exprSh n).len h3
 rw[condSh_k]at l1
 rw[exprSh_k]at l2 l3
 have p1:Part cs 1 (cc ++ (ce ++ (cv ++ [.string s.field,.int .i64 s.n,.slice a s.ks.length c]))):=by rw[e];exact part_right [_] _
 have p2:=p1.of (part_right cc _)
 rw[l1]at p2
 have p3:=p2.of (part_right ce _)
 rw[l2]at p3
 have p4:=p3.of (part_right cv _)
 rw[l3]at p4
 exact⟨cc,ce,cv,a,c,hlen,hone,hn,by rw[e];rfl,p1.of (part_left cc _),p2.of (part_left ce _),p3.of (part_left cv _),p4.at (j:=0) rfl,p4.at (j:=1) rfl,p4.at (j:=2) rfl,h1,h2,h3,s1,l1,l2,l3⟩
theorem rdepthA_any:∀(n b:Nat) (e:AT) (cs:List Value) (w:World),b≤1000→(assnSh n).rel (Pak.Lo w.heap.size) w cs e→
 Calls Tryz.prog 45 #[.agg cs.toArray,.int .i64 b] w fun r w'=>r= .returned (.int .i64 (dA b e:Nat))∧Below w.heap.size w w'
 | 0,_,_,_,_,_,h=>h.elim
 | n+1,0,e,cs,w,_,h=>depthA_zero cs w
 | n+1,b+1,e,cs,w,hb,h=>by
   obtain⟨cc,ce,cv,a,c,H⟩:=assn_is h
   exact depthA_box b n (by omega) cs cc ce cv w _ _ _ (dC_le b _) (dE_le b _) (dE_le b _) H.pc H.lc (fun W hW=>rdepthC_any n b e.c cc W (by omega) (rel_low H.rc hW)) H.pe H.le (fun W hW=>rdepthE_any n b e.e ce W (by omega) (rel_low H.re hW)) H.pv H.lv (fun W hW=>rdepthE_any n b e.v cv W (by omega) (rel_low H.rv hW))
    e.ks a _ c rfl H.rkids H.kids (fun x cs' W hW hr=>rdepthA_any n b x cs' W (by omega) hr)
theorem rdepthS_any:∀(n b:Nat) (e:ST) (cs:List Value) (w:World),b≤1000→(stmtSh n).rel (Pak.Lo w.heap.size) w cs e→
 Calls Tryz.prog 46 #[.agg cs.toArray,.int .i64 b] w fun r w'=>r= .returned (.int .i64 (dS b e:Nat))∧Below w.heap.size w w'
 | 0,_,_,_,_,_,h=>h.elim
 | n+1,0,e,cs,w,_,h=>depthS_zero cs w
 | n+1,b+1,e,cs,w,hb,h=>by
   obtain⟨ce,cv,cc,ca,a1,a2,a3,a4,a5,c1,c2,c3,c4,c5,H⟩:=stmt_is h
   exact depthS_box b n (by omega) cs cc ce cv ca w _ _ _ _ (dC_le b _) (dE_le b _) (dE_le b _) (dA_le b _) H.pc (((condSh n).len H.rc).trans (condSh_k n)) (fun W hW=>rdepthC_any n b e.p.c cc W (by omega) (rel_low H.rc hW)) H.pe (((exprSh n).len H.re).trans (exprSh_k n)) (fun W hW=>rdepthE_any n b e.p.e ce W (by omega) (rel_low H.re hW)) H.pv (((exprSh n).len H.rv).trans (exprSh_k n)) (fun W hW=>rdepthE_any n b e.p.v cv W (by omega) (rel_low H.rv hW)) H.pa (((assnSh n).len H.ra).trans (assnSh_k n)) (fun W hW=>rdepthA_any n b e.p.a ca W (by omega) (rel_low H.ra hW))
    e.p.args a1 _ c1 rfl H.rargs H.args (fun x cs' W hW hr=>rdepthE_any n b x cs' W (by omega) hr) e.p.ghosts a2 _ c2 rfl H.rghosts H.ghosts (fun x cs' W hW hr=>rdepthE_any n b x cs' W (by omega) hr)
    e.body a4 _ c4 rfl H.rbody H.body (fun x cs' W hW hr=>rdepthS_any n b x cs' W (by omega) hr) e.els a5 _ c5 rfl H.rels H.els (fun x cs' W hW hr=>rdepthS_any n b x cs' W (by omega) hr)
end
section
open Go.RowKit
theorem exprs_any (nm:ByteArray→Bool)(hN:NameLaw nm Laid)(n:Nat)(a:Option Addr)(c:Nat)(xs:List ET)(w:World)(hs:Pak.Sits (exprSh n) (Pak.Lo w.heap.size) w a xs)(hL:Laid w):
 BoolAll 114 #[.slice a xs.length c] (xs.all (snE nm n)) w:=fun W hW=>by
 have X:=Lib.hid (allE_any n 108 (snE nm n) a xs.length c xs W (fun args w=>by kernel_rfl) rfl (hs.below hW hW.size) (fun cs x V hx hv hr=>soundE_any hN n x cs V hr ((hL.up hW).up hv)))
 clear hs hL hW
 generalize xs.all (snE nm n)=z at X
 generalize xs.length=m at X
 go_enter Tryz.func114,Tryz.ntmps114
 go_wp2_with fail
 refine X.out.mono ?_
 rintro r w2 ⟨rfl,hb⟩
 have HB:=Lib.hid hb
 clear hb X
 go_wp2_with fail
 go_ret
 exact⟨rfl,HB.out⟩
theorem stmts_box (a:Option Addr)(m c:Nat)(z:Bool)(w:World)(hall:BoolAll 72 #[.slice a m c,.func (.func 73) #[] #[]] z w):BoolAll 117 #[.slice a m c] z w:=fun W hW=>by
 have X:=Lib.hid (hall.at hW)
 clear hall hW
 go_enter Tryz.func117,Tryz.ntmps117
 go_wp2_with fail
 refine X.out.mono ?_
 rintro r w2 ⟨rfl,hb⟩
 have HB:=Lib.hid hb
 clear hb X
 go_wp2_with fail
 go_ret
 exact⟨rfl,HB.out⟩
def snS (nm:ByteArray→Bool):Nat→ST→Bool
 | 0,_=>false
 | n+1,s=>
   if 0≤s.p.kind∧s.p.kind<10 then
    nmS nm s.p.kind.toNat s.p && (bif hasB s.p.kind.toNat 8 then snE nm n s.p.e else noE s.p.e) && (bif hasB s.p.kind.toNat 16 then snE nm n s.p.v else noE s.p.v) && (bif hasB s.p.kind.toNat 32 then snC nm n s.p.c else noC s.p.c) && (bif hasB s.p.kind.toNat 64 then snA nm n s.p.a else noA nm n s.p.a)
     && (bif (s.p.kind.toNat == 9) then s.p.args.all (snE nm n) else s.p.args.length == 0) && (bif (s.p.kind.toNat == 9) then s.p.ghosts.all (snE nm n) else s.p.ghosts.length == 0)
     && (bif hasB s.p.kind.toNat 256 then s.body.all (snS nm n) else s.body.length == 0) && (bif hasB s.p.kind.toNat 512 then s.els.all (snS nm n) else s.els.length == 0)
   else false
theorem soundS_x (k:Int)(cs:List Value)(w:World)(q0:cs[0]? =some (.int .i64 k))(h:¬(0≤k∧k<10)):Calls Tryz.prog 73 #[.agg cs.toArray] w (SoundEnd false w):=by
 have k0:=box_at (t:=47) q0 (Below.refl _ (w.alloc (.cells cs.toArray 47)))
 clear q0
 by_cases h0:k<0
 ·clear h
  go_enter Tryz.func73,Tryz.ntmps73
  go_wp2_with fail
  go_ret
  exact⟨rfl,box_low⟩
 ·have h1:decide (k<0)=false:=decide_eq_false h0
  have h2:k ≥ 10:=by omega
  clear h h0
  go_enter Tryz.func73,Tryz.ntmps73
  go_wp2_with fail
  go_ret
  exact⟨rfl,box_low⟩
theorem soundS_any {nm:ByteArray→Bool}(hN:NameLaw nm Laid):∀(n:Nat) (s:ST) (cs:List Value) (w:World),(stmtSh n).rel (Pak.Lo w.heap.size) w cs s→Laid w→
 Calls Tryz.prog 73 #[.agg cs.toArray] w (SoundEnd (snS nm n s) w)
 | 0,_,_,_,h,_=>h.elim
 | n+1,s,cs,w,h,hL=>by
   have IH:=soundS_any hN n
   obtain⟨ce,cv,cc,ca,a1,a2,a3,a4,a5,c1,c2,c3,c4,c5,H⟩:=stmt_is h
   unfold snS
   by_cases hk:0≤s.p.kind∧s.p.kind<10
   ·rw[if_pos hk]
    have q0:=H.kind
    obtain⟨k,hkk⟩:∃k:Nat,s.p.kind=k:=⟨s.p.kind.toNat,by omega⟩
    rw[hkk]at q0 hk⊢
    have hk10:k<10:=by omega
    rw[Int.toNat_natCast]
    have hB:Below w.heap.size w (w.alloc (.cells cs.toArray 47)):=box_low
    have hH:∀what,BoolAll 105 #[.int .i64 what,.pointer (some ⟨w.heap.size,0,none⟩)] (hasB k what) (w.alloc (.cells cs.toArray 47)):=fun what W hW=>has_any k what _ W hk10 ((hL.up hB).up hW) (box_at q0 hW)
    have hnm:∀(x:ByteArray),x.size≤maxLen→BoolAll 69 #[.string x] (nm x) (w.alloc (.cells cs.toArray 47)):=fun x hx W hW=>hN.run x W hx ((hL.up hB).up hW)
    have ft:∀(b:Bool) (x:ByteArray),x.size≤maxLen→BoolAll 132 #[.bool b,.string x,.func (.func 69) #[] #[],.func (.func 131) #[] #[]] (bif b then nm x else x.toList.isEmpty) (w.alloc (.cells cs.toArray 47)):=fun b x hx=>fitsT_any b x 69 131 _ _ _ (fun args w=>by kernel_rfl) (fun args w=>by kernel_rfl) (hnm x hx) (noName_any x _)
    have ra:=rel_low H.ra hB
    have re:=rel_low H.re hB
    have rv:=rel_low H.rv hB
    have rc:=rel_low H.rc hB
    have sc:=fun(z:ET) (l:List Value) (hl:l.length=4) (b:Bool) (hr:(exprSh n).rel (Pak.Lo (w.alloc (.cells cs.toArray 47)).heap.size) (w.alloc (.cells cs.toArray 47)) l z)=>fitsE_any b l hl 108 109 (snE nm n z) (noE z) (w.alloc (.cells cs.toArray 47)) (fun args w=>by kernel_rfl) (fun args w=>by kernel_rfl) (fun W hW=>soundE_any hN n z l W (rel_low hr hW) ((hL.up hB).up hW)) (fun W hW=>noE_any n z l W (rel_low hr hW))
    have ex:=fun(b:Bool) (xs:List ET) (a:Option Addr) (c:Nat) (hs:Pak.Sits (exprSh n) (Pak.Lo w.heap.size) w a xs)=>fitsEs_any b a xs.length c 114 115 _ _ (w.alloc (.cells cs.toArray 47)) (fun args w=>by kernel_rfl) (fun args w=>by kernel_rfl) (exprs_any nm hN n a c xs _ (hs.below hB hB.size) (hL.up hB)) (noneE_any a xs.length c _)
    have ss:=fun(b:Bool) (xs:List ST) (a:Option Addr) (c:Nat) (hs:Pak.Sits (stmtSh n) (Pak.Lo w.heap.size) w a xs)=>fitsSs_any b a xs.length c 117 118 _ _ (w.alloc (.cells cs.toArray 47)) (fun args w=>by kernel_rfl) (fun args w=>by kernel_rfl) (stmts_box a xs.length c (xs.all (snS nm n)) _ (fun W hW=>allS_any n 73 (snS nm n) a xs.length c xs W (fun args w=>by kernel_rfl) rfl (hs.below (hB.trans (hW.mono hB.size)) (Nat.le_trans hB.size hW.size)) (fun cs x V hx hv hr=>IH x cs V hr (((hL.up hB).up hW).up hv)))) (noneS_any a xs.length c _)
    exact soundS_box k cs ce cv cc ca a1 a2 a4 a5 _ _ _ _ c1 c2 c4 c5 _ _ _ _ _ _ _ _ _ _ _ _ _ _ _ _ w hk10 rfl H.len q0 H.pe H.pv H.pc H.pa H.args H.ghosts H.body H.els
     (((exprSh n).len H.re).trans (exprSh_k n)) (((exprSh n).len H.rv).trans (exprSh_k n)) (((condSh n).len H.rc).trans (condSh_k n)) (((assnSh n).len H.ra).trans (assnSh_k n))
     (fun W hW=>names_box k s.p.name s.p.field s.p.callee cs a3 _ c3 w.heap.size _ _ _ _ _ _ _ _ _ W q0 H.name H.field H.callee H.fields ((hnm _ H.nums.2.1).up hW) ((hH 1).up hW) ((hH 2).up hW) ((hH 4).up hW) ((hH 128).up hW) ((ft _ _ H.nums.2.1).up hW) ((ft _ _ H.nums.2.2.1).up hW) ((ft _ _ H.nums.2.2.2).up hW)
       (fun V hV=>allT_any 69 nm a3 _ c3 s.p.fields V (fun args w=>by kernel_rfl) rfl (H.rfields.below (hB.trans (hW.mono hB.size) |>.trans (hV.mono (Nat.le_trans hB.size hW.size))) (Nat.le_trans hB.size (Nat.le_trans hW.size hV.size))) (fun x U hx hz hu=>hN.run x U hz ((((hL.up hB).up hW).up hV).up hu))))
     (hH 8) (hH 16) (hH 32) (hH 64) (hH 256) (hH 512)
     (sc s.p.e ce (((exprSh n).len H.re).trans (exprSh_k n)) _ re) (sc s.p.v cv (((exprSh n).len H.rv).trans (exprSh_k n)) _ rv)
     (fitsC_any _ cc (((condSh n).len H.rc).trans (condSh_k n)) 103 104 (snC nm n s.p.c) (noC s.p.c) _ (fun args w=>by kernel_rfl) (fun args w=>by kernel_rfl) (fun W hW=>soundC_any hN n s.p.c cc W (rel_low rc hW) ((hL.up hB).up hW)) (fun W hW=>noC_any n s.p.c cc W (rel_low rc hW)))
     (fitsA_any _ ca (((assnSh n).len H.ra).trans (assnSh_k n)) 71 112 (snA nm n s.p.a) (noA nm n s.p.a) _ (fun args w=>by kernel_rfl) (fun args w=>by kernel_rfl) (fun W hW=>soundA_any hN n s.p.a ca W (rel_low ra hW) ((hL.up hB).up hW)) (fun W hW=>noA_any hN n s.p.a ca W (rel_low ra hW) ((hL.up hB).up hW)))
     (ex _ _ _ _ H.rargs) (ex _ _ _ _ H.rghosts) (ss _ _ _ _ H.rbody) (ss _ _ _ _ H.rels)
   ·rw[if_neg hk]
    exact soundS_x _ cs w H.kind hk
end
end Go.Proofs.YtfcaclmcnlflfaaGreatDoor
