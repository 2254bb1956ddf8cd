/- Parts of a proof. -/
import Derived.Test.YtjbkhdbjdahbiaaGreatDoorQ07
import Derived.Test.YtjbkhdbjdahbiaaGreatDoorQ09
import Derived.Test.YtjbkhdbjdahbiaaGreatDoorQ11
import Derived.Test.YtjbkhdbjdahbiaaGreatDoorQ12
import Derived.Deep.CutBlock
import Derived.Deep.CutRange
import Derived.Deep.DeepCutAuto
import Derived.Lib.Strings
import Derived.Deep.AppendLies
set_option linter.unusedVariables false
set_option linter.unusedSimpArgs false
set_option maxHeartbeats 60000000
set_option maxRecDepth 100000
namespace Go.Proofs.YtjbkhdbjdahbiaaGreatDoor
section
open Go.RowKit
theorem wpQuiet_load_c {P:Program}{W0:World}{ops:Array Oper}{rest:List Oper}{o:Oper}{a:Act}{Q:Act→Prop}(ty:TypeId)(x:Operand)(ho:o.op= .load ty x)
 (g:Addr) (hx:a.eval x= .pointer (some g)) (cs:List Value) (d:TypeDesc) (hc:∀W,Below W0.heap.size W0 W→∀j v,cs[j]? =some v→W.cell? (g.add j)=some v) (hw:Region.wanted o (yielded ops a.tmps)=true)
 (hu:P.underlying ty=some d) (hd:(match d with | .struct _ | .array _ _=>true | _=>false)=true) (hi:(P.info? ty).map (·.size)=some cs.length) (a':Act) (ha:a.put o.dst (.agg cs.toArray)=a')
 (h:wpQuiet P ops (fun w'=>∃p:Regrown,w'=Go.Sort.grow (redrawn W0 p.d) p.os) Q rest a'):wpQuiet P ops (fun w'=>∃p:Regrown,w'=Go.Sort.grow (redrawn W0 p.d) p.os) Q (o :: rest) a:=
 wpQuiet_load_b ty x ho g hx cs d hc hw hu hd hi (ha ▸ h)
theorem soundS_box (k:Nat)(cs ce cv cc ca:List Value)(a1 a2 a4 a5:Option Addr)(m1 m2 m4 m5 c1 c2 c4 c5:Nat)(hE hV hC hA' hB hX cB z0 z1 z2 z3 z4 z5 z6 z7 z8:Bool)(w:World)(hk:k<10)(hcb:(k == 9)=cB)
 (hlen:cs.length=35) (q0:cs[0]? =some (.int .i64 k)) (p1:Part cs 4 ce) (p2:Part cs 8 cv) (p3:Part cs 12 cc) (p4:Part cs 15 ca) (q1:cs[30]? =some (.slice a1 m1 c1)) (q2:cs[31]? =some (.slice a2 m2 c2)) (q4:cs[33]? =some (.slice a4 m4 c4)) (q5:cs[34]? =some (.slice a5 m5 c5))
 (l1:ce.length=4) (l2:cv.length=4) (l3:cc.length=3) (l4:ca.length=15)
 (x0:BoolAll 108 #[.agg cs.toArray,.func (.func 107) #[] #[.pointer (some ⟨w.heap.size,0,none⟩)]] z0 (w.alloc (.cells cs.toArray 104)))
 (b1:BoolAll 107 #[.int .i64 8,.pointer (some ⟨w.heap.size,0,none⟩)] hE (w.alloc (.cells cs.toArray 104))) (b2:BoolAll 107 #[.int .i64 16,.pointer (some ⟨w.heap.size,0,none⟩)] hV (w.alloc (.cells cs.toArray 104))) (b3:BoolAll 107 #[.int .i64 32,.pointer (some ⟨w.heap.size,0,none⟩)] hC (w.alloc (.cells cs.toArray 104))) (b4:BoolAll 107 #[.int .i64 64,.pointer (some ⟨w.heap.size,0,none⟩)] hA' (w.alloc (.cells cs.toArray 104))) (b7:BoolAll 107 #[.int .i64 256,.pointer (some ⟨w.heap.size,0,none⟩)] hB (w.alloc (.cells cs.toArray 104))) (b8:BoolAll 107 #[.int .i64 512,.pointer (some ⟨w.heap.size,0,none⟩)] hX (w.alloc (.cells cs.toArray 104)))
 (x1:BoolAll 109 #[.bool hE,.agg ce.toArray,.func (.func 110) #[] #[],.func (.func 111) #[] #[]] z1 (w.alloc (.cells cs.toArray 104))) (x2:BoolAll 109 #[.bool hV,.agg cv.toArray,.func (.func 110) #[] #[],.func (.func 111) #[] #[]] z2 (w.alloc (.cells cs.toArray 104)))
 (x3:BoolAll 112 #[.bool hC,.agg cc.toArray,.func (.func 105) #[] #[],.func (.func 106) #[] #[]] z3 (w.alloc (.cells cs.toArray 104))) (x4:BoolAll 113 #[.bool hA',.agg ca.toArray,.func (.func 94) #[] #[],.func (.func 114) #[] #[]] z4 (w.alloc (.cells cs.toArray 104)))
 (x5:BoolAll 115 #[.bool cB,.slice a1 m1 c1,.func (.func 116) #[] #[],.func (.func 117) #[] #[]] z5 (w.alloc (.cells cs.toArray 104))) (x6:BoolAll 115 #[.bool cB,.slice a2 m2 c2,.func (.func 116) #[] #[],.func (.func 117) #[] #[]] z6 (w.alloc (.cells cs.toArray 104)))
 (x7:BoolAll 118 #[.bool hB,.slice a4 m4 c4,.func (.func 119) #[] #[],.func (.func 120) #[] #[]] z7 (w.alloc (.cells cs.toArray 104))) (x8:BoolAll 118 #[.bool hX,.slice a5 m5 c5,.func (.func 119) #[] #[],.func (.func 120) #[] #[]] z8 (w.alloc (.cells cs.toArray 104))):
 Calls Tryz.prog 96 #[.agg cs.toArray] w (SoundEnd (z0 && z1 && z2 && z3 && z4 && z5 && z6 && z7 && z8) w):=by
 have HA:Hid (Below w.heap.size w (w.alloc (.cells cs.toArray 104))):=box_low
 have HB0:Hid (Below (w.alloc (.cells cs.toArray 104)).heap.size (w.alloc (.cells cs.toArray 104)) (w.alloc (.cells cs.toArray 104))):=Below.refl _ _
 have P1:=Lib.hid (fun W (hb:Below (w.alloc (.cells cs.toArray 104)).heap.size (w.alloc (.cells cs.toArray 104)) W)=>box_part p1 hb)
 have L1:=Lib.hid l1
 have P2:=Lib.hid (fun W (hb:Below (w.alloc (.cells cs.toArray 104)).heap.size (w.alloc (.cells cs.toArray 104)) W)=>box_part p2 hb)
 have L2:=Lib.hid l2
 have P3:=Lib.hid (fun W (hb:Below (w.alloc (.cells cs.toArray 104)).heap.size (w.alloc (.cells cs.toArray 104)) W)=>box_part p3 hb)
 have L3:=Lib.hid l3
 have P4:=Lib.hid (fun W (hb:Below (w.alloc (.cells cs.toArray 104)).heap.size (w.alloc (.cells cs.toArray 104)) W)=>box_part p4 hb)
 have L4:=Lib.hid l4
 have P0:=Lib.hid (fun W (hb:Below (w.alloc (.cells cs.toArray 104)).heap.size (w.alloc (.cells cs.toArray 104)) W)=>box_part (cs:=cs) (l:=cs) (o:=0) (fun i v h=>by rw[Nat.zero_add];exact h) hb)
 have L0:=Lib.hid hlen
 have k0:=box_at q0 HB0.out
 have Q0:=Lib.hid (box_at q0 HB0.out)
 have Q1:=Lib.hid (box_at q1 HB0.out)
 have Q2:=Lib.hid (box_at q2 HB0.out)
 have Q4:=Lib.hid (box_at q4 HB0.out)
 have Q5:=Lib.hid (box_at q5 HB0.out)
 have X0:=Lib.hid x0
 have X1:=Lib.hid x1
 have X2:=Lib.hid x2
 have X3:=Lib.hid x3
 have X4:=Lib.hid x4
 have X5:=Lib.hid x5
 have X6:=Lib.hid x6
 have X7:=Lib.hid x7
 have X8:=Lib.hid x8
 have B1:=Lib.hid b1
 have B2:=Lib.hid b2
 have B3:=Lib.hid b3
 have B4:=Lib.hid b4
 have B7:=Lib.hid b7
 have B8:=Lib.hid b8
 have e1:decide ((k:Int)<0)=false:=decide_eq_false (by omega)
 have e2:decide ((k:Int) ≥ 10)=false:=by simp;omega
 have e4:decide (10≤(k:Int))=false:=by simp;omega
 have e3:((k:Int) == 9)=cB:=by rw[←hcb,Bool.eq_iff_iff];simp only[beq_iff_eq];omega
 clear x0 x1 x2 x3 x4 x5 x6 x7 x8 b1 b2 b3 b4 b7 b8 q0 q1 q2 q4 q5 p1 p2 p3 p4 l1 l2 l3 l4 hlen hk hcb
 have r0:=X0.out.reg
 have s1:=B1.out.reg
 have r1:=X1.out.reg
 have s2:=B2.out.reg
 have r2:=X2.out.reg
 have s3:=B3.out.reg
 have r3:=X3.out.reg
 have s4:=B4.out.reg
 have r4:=X4.out.reg
 have r5:=X5.out.reg
 have r6:=X6.out.reg
 have s7:=B7.out.reg
 have r7:=X7.out.reg
 have s8:=B8.out.reg
 have r8:=X8.out.reg
 have c1:=cell_regrown Q1.out
 have c2:=cell_regrown Q2.out
 have c4:=cell_regrown Q4.out
 have c5:=cell_regrown Q5.out
 go_enter Tryz.func96,Tryz.ntmps96
 go_wp2_with fail
 refine wp_region_quiet_below (by kernel_rfl) (by kernel_rfl) ?_
 repeat (first | (go_big_quiet_step (first | with_reducible exact r0 _ _)) | (refine wpQuiet_load_c 104 _ rfl ⟨w.heap.size,0,none⟩ rfl cs _ P0.out rfl Tryz.underlying104 rfl (by rw[L0.out];kernel_rfl) _ (by simp only[Act.put,List.setIfInBounds_toArray,List.set_cons_succ,List.set_cons_zero];rfl) ?_))
 cases z0 with
 | false=>
   repeat (go_big_quiet_step (fail))
   refine wpQuiet_nil ?_
   intro w9 hw'
   obtain⟨⟨dq,osq⟩,hw''⟩:=hw'
   have H9:Hid (Below w.heap.size w w9):=Lib.hid (by rw[hw''];exact HA.out.trans ((below_regrown _ dq osq).mono HA.out.size))
   clear hw''
   go_wp2_with fail
   go_ret
   exact⟨by simp,H9.out⟩
 | true=>
 clear r0
 repeat (first | (go_big_quiet_step (first | with_reducible exact s1 _ _ | with_reducible exact r1 _ _)) | (refine wpQuiet_load_c 49 _ rfl ⟨w.heap.size,4,none⟩ rfl ce _ P1.out rfl Tryz.underlying49 rfl (by rw[L1.out];kernel_rfl) _ (by simp only[Act.put,List.setIfInBounds_toArray,List.set_cons_succ,List.set_cons_zero];rfl) ?_))
 cases z1 with
 | false=>
   repeat (go_big_quiet_step (fail))
   refine wpQuiet_nil ?_
   intro w9 hw'
   obtain⟨⟨dq,osq⟩,hw''⟩:=hw'
   have H9:Hid (Below w.heap.size w w9):=Lib.hid (by rw[hw''];exact HA.out.trans ((below_regrown _ dq osq).mono HA.out.size))
   clear hw''
   go_wp2_with fail
   go_ret
   exact⟨by simp,H9.out⟩
 | true=>
 clear r1 s1
 repeat (first | (go_big_quiet_step (first | with_reducible exact s2 _ _ | with_reducible exact r2 _ _)) | (refine wpQuiet_load_c 49 _ rfl ⟨w.heap.size,8,none⟩ rfl cv _ P2.out rfl Tryz.underlying49 rfl (by rw[L2.out];kernel_rfl) _ (by simp only[Act.put,List.setIfInBounds_toArray,List.set_cons_succ,List.set_cons_zero];rfl) ?_))
 cases z2 with
 | false=>
   repeat (go_big_quiet_step (fail))
   refine wpQuiet_nil ?_
   intro w9 hw'
   obtain⟨⟨dq,osq⟩,hw''⟩:=hw'
   have H9:Hid (Below w.heap.size w w9):=Lib.hid (by rw[hw''];exact HA.out.trans ((below_regrown _ dq osq).mono HA.out.size))
   clear hw''
   go_wp2_with fail
   go_ret
   exact⟨by simp,H9.out⟩
 | true=>
 clear r2 s2
 repeat (first | (go_big_quiet_step (first | with_reducible exact s3 _ _ | with_reducible exact r3 _ _)) | (refine wpQuiet_load_c 52 _ rfl ⟨w.heap.size,12,none⟩ rfl cc _ P3.out rfl Tryz.underlying52 rfl (by rw[L3.out];kernel_rfl) _ (by simp only[Act.put,List.setIfInBounds_toArray,List.set_cons_succ,List.set_cons_zero];rfl) ?_))
 cases z3 with
 | false=>
   repeat (go_big_quiet_step (fail))
   refine wpQuiet_nil ?_
   intro w9 hw'
   obtain⟨⟨dq,osq⟩,hw''⟩:=hw'
   have H9:Hid (Below w.heap.size w w9):=Lib.hid (by rw[hw''];exact HA.out.trans ((below_regrown _ dq osq).mono HA.out.size))
   clear hw''
   go_wp2_with fail
   go_ret
   exact⟨by simp,H9.out⟩
 | true=>
 clear r3 s3
 repeat (first | (go_big_quiet_step (first | with_reducible exact s4 _ _ | with_reducible exact r4 _ _)) | (refine wpQuiet_load_c 100 _ rfl ⟨w.heap.size,15,none⟩ rfl ca _ P4.out rfl Tryz.underlying100 rfl (by rw[L4.out];kernel_rfl) _ (by simp only[Act.put,List.setIfInBounds_toArray,List.set_cons_succ,List.set_cons_zero];rfl) ?_))
 cases z4 with
 | false=>
   repeat (go_big_quiet_step (fail))
   refine wpQuiet_nil ?_
   intro w9 hw'
   obtain⟨⟨dq,osq⟩,hw''⟩:=hw'
   have H9:Hid (Below w.heap.size w w9):=Lib.hid (by rw[hw''];exact HA.out.trans ((below_regrown _ dq osq).mono HA.out.size))
   clear hw''
   go_wp2_with fail
   go_ret
   exact⟨by simp,H9.out⟩
 | true=>
 clear r4 s4
 repeat (first | (go_big_quiet_step (first | with_reducible exact r5 _ _)))
 cases z5 with
 | false=>
   repeat (go_big_quiet_step (fail))
   refine wpQuiet_nil ?_
   intro w9 hw'
   obtain⟨⟨dq,osq⟩,hw''⟩:=hw'
   have H9:Hid (Below w.heap.size w w9):=Lib.hid (by rw[hw''];exact HA.out.trans ((below_regrown _ dq osq).mono HA.out.size))
   clear hw''
   go_wp2_with fail
   go_ret
   exact⟨by simp,H9.out⟩
 | true=>
 clear r5
 repeat (first | (go_big_quiet_step (first | with_reducible exact r6 _ _)))
 cases z6 with
 | false=>
   repeat (go_big_quiet_step (fail))
   refine wpQuiet_nil ?_
   intro w9 hw'
   obtain⟨⟨dq,osq⟩,hw''⟩:=hw'
   have H9:Hid (Below w.heap.size w w9):=Lib.hid (by rw[hw''];exact HA.out.trans ((below_regrown _ dq osq).mono HA.out.size))
   clear hw''
   go_wp2_with fail
   go_ret
   exact⟨by simp,H9.out⟩
 | true=>
 clear r6
 repeat (first | (go_big_quiet_step (first | with_reducible exact s7 _ _ | with_reducible exact r7 _ _)))
 cases z7 with
 | false=>
   repeat (go_big_quiet_step (fail))
   refine wpQuiet_nil ?_
   intro w9 hw'
   obtain⟨⟨dq,osq⟩,hw''⟩:=hw'
   have H9:Hid (Below w.heap.size w w9):=Lib.hid (by rw[hw''];exact HA.out.trans ((below_regrown _ dq osq).mono HA.out.size))
   clear hw''
   go_wp2_with fail
   go_ret
   exact⟨by simp,H9.out⟩
 | true=>
 clear r7 s7
 repeat (first | (go_big_quiet_step (first | with_reducible exact s8 _ _ | with_reducible exact r8 _ _)))
 refine wpQuiet_nil ?_
 intro w9 hw'
 obtain⟨⟨dq,osq⟩,hw''⟩:=hw'
 have H9:Hid (Below w.heap.size w w9):=Lib.hid (by rw[hw''];exact HA.out.trans ((below_regrown _ dq osq).mono HA.out.size))
 clear hw''
 go_wp2_with fail
 go_ret
 exact⟨by simp,H9.out⟩
end
section
open Go.RowKit
theorem exprs_any (nm:ByteArray→Bool)(hN:NameLaw nm Laid)(n:Nat)(a:Option Addr)(c:Nat)(xs:List ET)(w:World)(hs:Pak.Sits (exprSh n) (Pak.Lo w.heap.size) w a xs)(hL:Laid w):
 BoolAll 116 #[.slice a xs.length c] (xs.all (snE nm n)) w:=fun W hW=>by
 have X:=Lib.hid (allE_any n 110 (snE nm n) a xs.length c xs W (fun args w=>by kernel_rfl) rfl (hs.below hW hW.size) (fun cs x V hx hv hr=>soundE_any hN n x cs V hr ((hL.up hW).up hv)))
 clear hs hL hW
 generalize xs.all (snE nm n)=z at X
 generalize xs.length=m at X
 go_enter Tryz.func116,Tryz.ntmps116
 go_wp2_with fail
 refine X.out.mono ?_
 rintro r w2 ⟨rfl,hb⟩
 have HB:=Lib.hid hb
 clear hb X
 go_wp2_with fail
 go_ret
 exact⟨rfl,HB.out⟩
theorem stmts_box (a:Option Addr)(m c:Nat)(z:Bool)(w:World)(hall:BoolAll 95 #[.slice a m c,.func (.func 96) #[] #[]] z w):BoolAll 119 #[.slice a m c] z w:=fun W hW=>by
 have X:=Lib.hid (hall.at hW)
 clear hall hW
 go_enter Tryz.func119,Tryz.ntmps119
 go_wp2_with fail
 refine X.out.mono ?_
 rintro r w2 ⟨rfl,hb⟩
 have HB:=Lib.hid hb
 clear hb X
 go_wp2_with fail
 go_ret
 exact⟨rfl,HB.out⟩
def snS (nm:ByteArray→Bool):Nat→ST→Bool
 | 0,_=>false
 | n+1,s=>
   if 0≤s.p.kind∧s.p.kind<10 then
    nmS nm s.p.kind.toNat s.p && (bif hasB s.p.kind.toNat 8 then snE nm n s.p.e else noE s.p.e) && (bif hasB s.p.kind.toNat 16 then snE nm n s.p.v else noE s.p.v) && (bif hasB s.p.kind.toNat 32 then snC nm n s.p.c else noC s.p.c) && (bif hasB s.p.kind.toNat 64 then snA nm n s.p.a else noA nm n s.p.a)
     && (bif (s.p.kind.toNat == 9) then s.p.args.all (snE nm n) else s.p.args.length == 0) && (bif (s.p.kind.toNat == 9) then s.p.ghosts.all (snE nm n) else s.p.ghosts.length == 0)
     && (bif hasB s.p.kind.toNat 256 then s.body.all (snS nm n) else s.body.length == 0) && (bif hasB s.p.kind.toNat 512 then s.els.all (snS nm n) else s.els.length == 0)
   else false
theorem soundS_x (k:Int)(cs:List Value)(w:World)(q0:cs[0]? =some (.int .i64 k))(h:¬(0≤k∧k<10)):Calls Tryz.prog 96 #[.agg cs.toArray] w (SoundEnd false w):=by
 have k0:=box_at (t:=104) q0 (Below.refl _ (w.alloc (.cells cs.toArray 104)))
 clear q0
 by_cases h0:k<0
 ·clear h
  go_enter Tryz.func96,Tryz.ntmps96
  go_wp2_with fail
  go_ret
  exact⟨rfl,box_low⟩
 ·have h1:decide (k<0)=false:=decide_eq_false h0
  have h2:k ≥ 10:=by omega
  clear h h0
  go_enter Tryz.func96,Tryz.ntmps96
  go_wp2_with fail
  go_ret
  exact⟨rfl,box_low⟩
theorem soundS_any {nm:ByteArray→Bool}(hN:NameLaw nm Laid):∀(n:Nat) (s:ST) (cs:List Value) (w:World),(stmtSh n).rel (Pak.Lo w.heap.size) w cs s→Laid w→
 Calls Tryz.prog 96 #[.agg cs.toArray] w (SoundEnd (snS nm n s) w)
 | 0,_,_,_,h,_=>h.elim
 | n+1,s,cs,w,h,hL=>by
   have IH:=soundS_any hN n
   obtain⟨ce,cv,cc,ca,a1,a2,a3,a4,a5,c1,c2,c3,c4,c5,H⟩:=stmt_is h
   unfold snS
   by_cases hk:0≤s.p.kind∧s.p.kind<10
   ·rw[if_pos hk]
    have q0:=H.kind
    obtain⟨k,hkk⟩:∃k:Nat,s.p.kind=k:=⟨s.p.kind.toNat,by omega⟩
    rw[hkk]at q0 hk⊢
    have hk10:k<10:=by omega
    rw[Int.toNat_natCast]
    have hB:Below w.heap.size w (w.alloc (.cells cs.toArray 104)):=box_low
    have hH:∀what,BoolAll 107 #[.int .i64 what,.pointer (some ⟨w.heap.size,0,none⟩)] (hasB k what) (w.alloc (.cells cs.toArray 104)):=fun what W hW=>has_any k what _ W hk10 ((hL.up hB).up hW) (box_at q0 hW)
    have hnm:∀(x:ByteArray),x.size≤maxLen→BoolAll 92 #[.string x] (nm x) (w.alloc (.cells cs.toArray 104)):=fun x hx W hW=>hN.run x W hx ((hL.up hB).up hW)
    have ft:∀(b:Bool) (x:ByteArray),x.size≤maxLen→BoolAll 137 #[.bool b,.string x,.func (.func 92) #[] #[],.func (.func 136) #[] #[]] (bif b then nm x else x.toList.isEmpty) (w.alloc (.cells cs.toArray 104)):=fun b x hx=>fitsT_any b x 92 136 _ _ _ (fun args w=>by kernel_rfl) (fun args w=>by kernel_rfl) (hnm x hx) (noName_any x _)
    have ra:=rel_low H.ra hB
    have re:=rel_low H.re hB
    have rv:=rel_low H.rv hB
    have rc:=rel_low H.rc hB
    have sc:=fun(z:ET) (l:List Value) (hl:l.length=4) (b:Bool) (hr:(exprSh n).rel (Pak.Lo (w.alloc (.cells cs.toArray 104)).heap.size) (w.alloc (.cells cs.toArray 104)) l z)=>fitsE_any b l hl 110 111 (snE nm n z) (noE z) (w.alloc (.cells cs.toArray 104)) (fun args w=>by kernel_rfl) (fun args w=>by kernel_rfl) (fun W hW=>soundE_any hN n z l W (rel_low hr hW) ((hL.up hB).up hW)) (fun W hW=>noE_any n z l W (rel_low hr hW))
    have ex:=fun(b:Bool) (xs:List ET) (a:Option Addr) (c:Nat) (hs:Pak.Sits (exprSh n) (Pak.Lo w.heap.size) w a xs)=>fitsEs_any b a xs.length c 116 117 _ _ (w.alloc (.cells cs.toArray 104)) (fun args w=>by kernel_rfl) (fun args w=>by kernel_rfl) (exprs_any nm hN n a c xs _ (hs.below hB hB.size) (hL.up hB)) (noneE_any a xs.length c _)
    have ss:=fun(b:Bool) (xs:List ST) (a:Option Addr) (c:Nat) (hs:Pak.Sits (stmtSh n) (Pak.Lo w.heap.size) w a xs)=>fitsSs_any b a xs.length c 119 120 _ _ (w.alloc (.cells cs.toArray 104)) (fun args w=>by kernel_rfl) (fun args w=>by kernel_rfl) (stmts_box a xs.length c (xs.all (snS nm n)) _ (fun W hW=>allS_any n 96 (snS nm n) a xs.length c xs W (fun args w=>by kernel_rfl) rfl (hs.below (hB.trans (hW.mono hB.size)) (Nat.le_trans hB.size hW.size)) (fun cs x V hx hv hr=>IH x cs V hr (((hL.up hB).up hW).up hv)))) (noneS_any a xs.length c _)
    exact soundS_box k cs ce cv cc ca a1 a2 a4 a5 _ _ _ _ c1 c2 c4 c5 _ _ _ _ _ _ _ _ _ _ _ _ _ _ _ _ w hk10 rfl H.len q0 H.pe H.pv H.pc H.pa H.args H.ghosts H.body H.els
     (((exprSh n).len H.re).trans (exprSh_k n)) (((exprSh n).len H.rv).trans (exprSh_k n)) (((condSh n).len H.rc).trans (condSh_k n)) (((assnSh n).len H.ra).trans (assnSh_k n))
     (fun W hW=>names_box k s.p.name s.p.field s.p.callee cs a3 _ c3 w.heap.size _ _ _ _ _ _ _ _ _ W q0 H.name H.field H.callee H.fields ((hnm _ H.nums.2.1).up hW) ((hH 1).up hW) ((hH 2).up hW) ((hH 4).up hW) ((hH 128).up hW) ((ft _ _ H.nums.2.1).up hW) ((ft _ _ H.nums.2.2.1).up hW) ((ft _ _ H.nums.2.2.2).up hW)
       (fun V hV=>allT_any 92 nm a3 _ c3 s.p.fields V (fun args w=>by kernel_rfl) rfl (H.rfields.below (hB.trans (hW.mono hB.size) |>.trans (hV.mono (Nat.le_trans hB.size hW.size))) (Nat.le_trans hB.size (Nat.le_trans hW.size hV.size))) (fun x U hx hz hu=>hN.run x U hz ((((hL.up hB).up hW).up hV).up hu))))
     (hH 8) (hH 16) (hH 32) (hH 64) (hH 256) (hH 512)
     (sc s.p.e ce (((exprSh n).len H.re).trans (exprSh_k n)) _ re) (sc s.p.v cv (((exprSh n).len H.rv).trans (exprSh_k n)) _ rv)
     (fitsC_any _ cc (((condSh n).len H.rc).trans (condSh_k n)) 105 106 (snC nm n s.p.c) (noC s.p.c) _ (fun args w=>by kernel_rfl) (fun args w=>by kernel_rfl) (fun W hW=>soundC_any hN n s.p.c cc W (rel_low rc hW) ((hL.up hB).up hW)) (fun W hW=>noC_any n s.p.c cc W (rel_low rc hW)))
     (fitsA_any _ ca (((assnSh n).len H.ra).trans (assnSh_k n)) 94 114 (snA nm n s.p.a) (noA nm n s.p.a) _ (fun args w=>by kernel_rfl) (fun args w=>by kernel_rfl) (fun W hW=>soundA_any hN n s.p.a ca W (rel_low ra hW) ((hL.up hB).up hW)) (fun W hW=>noA_any hN n s.p.a ca W (rel_low ra hW) ((hL.up hB).up hW)))
     (ex _ _ _ _ H.rargs) (ex _ _ _ _ H.rghosts) (ss _ _ _ _ H.rbody) (ss _ _ _ _ H.rels)
   ·rw[if_neg hk]
    exact soundS_x _ cs w H.kind hk
end
section
open Go.RowKit
theorem soundQ_box (cs ca cb:List Value)(s:ByteArray)(a1 a2 a3:Option Addr)(m1 m2 m3 c1 c2 c3:Nat)(z0 z1 z2 z3 z4 z5:Bool)(w:World)
 (q0:cs[0]? =some (.string s)) (q1:cs[1]? =some (.slice a1 m1 c1)) (q2:cs[2]? =some (.slice a2 m2 c2)) (p3:Part cs 3 ca) (p4:Part cs 18 cb) (q5:cs[33]? =some (.slice a3 m3 c3)) (l3:ca.length=15) (l4:cb.length=15)
 (x0:BoolAll 92 #[.string s] z0 w) (x1:BoolAll 93 #[.slice a1 m1 c1,.func (.func 92) #[] #[]] z1 w) (x2:BoolAll 93 #[.slice a2 m2 c2,.func (.func 92) #[] #[]] z2 w)
 (x3:BoolAll 94 #[.agg ca.toArray] z3 w) (x4:BoolAll 94 #[.agg cb.toArray] z4 w) (x5:BoolAll 95 #[.slice a3 m3 c3,.func (.func 96) #[] #[]] z5 w):
 Calls Tryz.prog 80 #[.agg cs.toArray] w (SoundEnd (z0 && z1 && z2 && z3 && z4 && z5) w):=by
 have HA:Hid (Below w.heap.size w (w.alloc (.cells cs.toArray 112))):=box_low
 have HB0:Hid (Below (w.alloc (.cells cs.toArray 112)).heap.size (w.alloc (.cells cs.toArray 112)) (w.alloc (.cells cs.toArray 112))):=Below.refl _ _
 have P0:=Lib.hid (fun W (hb:Below (w.alloc (.cells cs.toArray 112)).heap.size (w.alloc (.cells cs.toArray 112)) W)=>box_at q0 hb)
 have X0:=Lib.hid x0
 have P1:=Lib.hid (fun W (hb:Below (w.alloc (.cells cs.toArray 112)).heap.size (w.alloc (.cells cs.toArray 112)) W)=>box_at q1 hb)
 have X1:=Lib.hid x1
 have P2:=Lib.hid (fun W (hb:Below (w.alloc (.cells cs.toArray 112)).heap.size (w.alloc (.cells cs.toArray 112)) W)=>box_at q2 hb)
 have X2:=Lib.hid x2
 have P3:=Lib.hid (fun W (hb:Below (w.alloc (.cells cs.toArray 112)).heap.size (w.alloc (.cells cs.toArray 112)) W)=>box_part p3 hb)
 have L3:=Lib.hid l3
 have X3:=Lib.hid x3
 have P4:=Lib.hid (fun W (hb:Below (w.alloc (.cells cs.toArray 112)).heap.size (w.alloc (.cells cs.toArray 112)) W)=>box_part p4 hb)
 have L4:=Lib.hid l4
 have X4:=Lib.hid x4
 have P5:=Lib.hid (fun W (hb:Below (w.alloc (.cells cs.toArray 112)).heap.size (w.alloc (.cells cs.toArray 112)) W)=>box_at q5 hb)
 have X5:=Lib.hid x5
 clear x0 x1 x2 x3 x4 x5 q0 q1 q2 p3 p4 q5 l3 l4
 go_enter Tryz.func80,Tryz.ntmps80
 have k0:=P0.out _ HB0.out
 go_wp2_with fail
 refine(X0.out.at HA.out).mono ?_
 rintro r w0 ⟨rfl,hb⟩
 have HB_0:=Lib.hid (HB0.out.trans (hb.mono HB0.out.size))
 have HW0:=Lib.hid (HA.out.trans (hb.mono HA.out.size))
 clear k0
 clear hb X0 P0
 cases z0 with
 | false=>
   clear X1 P1 X2 P2 X3 P3 X4 P4 X5 P5
   go_wp2_with fail
   go_ret
   exact⟨by simp,HW0.out⟩
 | true=>
 skip
 have k1:=P1.out _ HB_0.out
 go_wp2_with fail
 refine(X1.out.at HW0.out).mono ?_
 rintro r w1 ⟨rfl,hb⟩
 have HB_1:=Lib.hid (HB_0.out.trans (hb.mono HB_0.out.size))
 have HW1:=Lib.hid (HW0.out.trans (hb.mono HW0.out.size))
 clear k1
 clear hb X1 P1
 cases z1 with
 | false=>
   clear X2 P2 X3 P3 X4 P4 X5 P5
   go_wp2_with fail
   go_ret
   exact⟨by simp,HW1.out⟩
 | true=>
 skip
 have k2:=P2.out _ HB_1.out
 go_wp2_with fail
 refine(X2.out.at HW1.out).mono ?_
 rintro r w2 ⟨rfl,hb⟩
 have HB_2:=Lib.hid (HB_1.out.trans (hb.mono HB_1.out.size))
 have HW2:=Lib.hid (HW1.out.trans (hb.mono HW1.out.size))
 clear k2
 clear hb X2 P2
 cases z2 with
 | false=>
   clear X3 P3 X4 P4 X5 P5
   go_wp2_with fail
   go_ret
   exact⟨by simp,HW2.out⟩
 | true=>
 skip
 go_wp2_with (refine wpList_load_w rfl 100 _ rfl ⟨w.heap.size,3,none⟩ rfl ca _ (P3.out _ HB_2.out) Tryz.underlying100 rfl (by rw[L3.out];kernel_rfl) ?_)
 refine(X3.out.at HW2.out).mono ?_
 rintro r w3 ⟨rfl,hb⟩
 have HB_3:=Lib.hid (HB_2.out.trans (hb.mono HB_2.out.size))
 have HW3:=Lib.hid (HW2.out.trans (hb.mono HW2.out.size))
 clear hb X3 P3
 cases z3 with
 | false=>
   clear X4 P4 X5 P5
   go_wp2_with fail
   go_ret
   exact⟨by simp,HW3.out⟩
 | true=>
 skip
 go_wp2_with (refine wpList_load_w rfl 100 _ rfl ⟨w.heap.size,18,none⟩ rfl cb _ (P4.out _ HB_3.out) Tryz.underlying100 rfl (by rw[L4.out];kernel_rfl) ?_)
 refine(X4.out.at HW3.out).mono ?_
 rintro r w4 ⟨rfl,hb⟩
 have HB_4:=Lib.hid (HB_3.out.trans (hb.mono HB_3.out.size))
 have HW4:=Lib.hid (HW3.out.trans (hb.mono HW3.out.size))
 clear hb X4 P4
 cases z4 with
 | false=>
   clear X5 P5
   go_wp2_with fail
   go_ret
   exact⟨by simp,HW4.out⟩
 | true=>
 skip
 have k5:=P5.out _ HB_4.out
 go_wp2_with fail
 refine(X5.out.at HW4.out).mono ?_
 rintro r w5 ⟨rfl,hb⟩
 have HB_5:=Lib.hid (HB_4.out.trans (hb.mono HB_4.out.size))
 have HW5:=Lib.hid (HW4.out.trans (hb.mono HW4.out.size))
 clear k5
 clear hb X5 P5
 go_wp2_with fail
 go_ret
 exact⟨by simp,HW5.out⟩
def snQ (nm:ByteArray→Bool)(n:Nat)(q:QT):Bool:=nm q.name && q.params.all nm && q.ghosts.all nm && snA nm n q.pre && snA nm n q.post && q.body.all (snS nm n)
theorem soundQ_any {nm:ByteArray→Bool}(hN:NameLaw nm Laid)(n:Nat)(q:QT)(cs:List Value)(w:World)(h:(procSh n).rel (Pak.Lo w.heap.size) w cs q)(hL:Laid w):Calls Tryz.prog 80 #[.agg cs.toArray] w (SoundEnd (snQ nm n q) w):=by
 obtain⟨ca,cb,a1,a2,a3,c1,c2,c3,H⟩:=proc_is h
 exact soundQ_box cs ca cb q.name a1 a2 a3 _ _ _ c1 c2 c3 _ _ _ _ _ _ w H.name H.params H.ghosts H.pre H.post H.body (((assnSh n).len H.rpre).trans (assnSh_k n)) (((assnSh n).len H.rpost).trans (assnSh_k n))
  (fun W hW=>hN.run _ W H.num (hL.up hW))
  (fun W hW=>allT_any 92 nm a1 _ c1 q.params W (fun args w=>by kernel_rfl) rfl (H.rparams.below hW hW.size) (fun x U hx hz hu=>hN.run x U hz ((hL.up hW).up hu)))
  (fun W hW=>allT_any 92 nm a2 _ c2 q.ghosts W (fun args w=>by kernel_rfl) rfl (H.rghosts.below hW hW.size) (fun x U hx hz hu=>hN.run x U hz ((hL.up hW).up hu)))
  (fun W hW=>soundA_any hN n q.pre ca W (rel_low H.rpre hW) (hL.up hW)) (fun W hW=>soundA_any hN n q.post cb W (rel_low H.rpost hW) (hL.up hW))
  (fun W hW=>allS_any n 96 (snS nm n) a3 _ c3 q.body W (fun args w=>by kernel_rfl) rfl (H.rbody.below hW hW.size) (fun cs x V hx hv hr=>soundS_any hN n x cs V hr ((hL.up hW).up hv)))
def dpQ (q:QT):Bool:=dpA 100 q.pre || dpA 100 q.post || q.body.any (dpS 100)
def chkQ (nm:ByteArray→Bool)(n:Nat)(qs:List QT):Int:=bif qs.any dpQ then 4 else(bif qs.all (snQ nm n) then 0 else 5)
def erV (k:Int):Value:=if k=0 then .nilIface else .iface 89 (.int .i64 k)
def ErrIn (k:Int)(w:World)(r:Ending)(w':World):Prop:=r= .returned (erV k)∧Below w.heap.size w w'
theorem check_box (a:Option Addr)(m cap n:Nat)(qs:List QT)(zS:Bool)(w:World)(hm:qs.length=m)(hs:Pak.Sits (procSh n) (Pak.Lo w.heap.size) w a qs)
 (hS:BoolAll 79 #[.slice a m cap,.func (.func 80) #[] #[]] zS w):
 Calls Tryz.prog 65 #[.agg #[.slice a m cap]] w (ErrIn (bif qs.any dpQ then 4 else(bif zS then 0 else 5)) w):=by
 have HA0:Hid (Below w.heap.size w (w.alloc (.cells #[.slice a m cap] 141))):=box_low
 have HS:=Lib.hid hs
 have HM:=Lib.hid hm
 have HSS:=Lib.hid hS
 have hmm:m≤9223372036854775807:=by rw[←hm];exact hs.1
 have HHIT:Hid (∀j,(h:j<qs.length)→dpQ qs[j]=true→qs.any dpQ=true):=fun j h e=>any_hit h e
 have HMISS:Hid ((∀j,(h:j<qs.length)→dpQ qs[j]=false)→qs.any dpQ=false):=fun h=>any_miss h
 have HCL:Hid (∀W,Below (w.alloc (.cells #[.slice a m cap] 141)).heap.size (w.alloc (.cells #[.slice a m cap] 141)) W→W.cell? ⟨w.heap.size,0,none⟩=some (.slice a m cap)):=fun W hb=>box_at (cs:=[.slice a m cap]) rfl hb
 clear hs hm hS
 generalize qs.any dpQ=zD at HHIT HMISS
 go_enter Tryz.func65,Tryz.ntmps65
 go_wp2_with fail
 go_loopw [8] (fun i wr=>∃j:Nat,j≤m∧i= .int .i64 j∧Hid (∀q,(h:q<qs.length)→q<j→dpQ qs[q]=false)∧Hid (Below (w.alloc (.cells #[.slice a m cap] 141)).heap.size (w.alloc (.cells #[.slice a m cap] 141)) wr)) (fun i _=>m - (intOf i).toNat)
 case atStart=>exact⟨0,Nat.zero_le _,rfl,fun q _ h=>absurd h (Nat.not_lt_zero _),Below.refl _ _⟩
 case round=>
  obtain⟨j,hj,rfl,hno,hb⟩:=hrel
  obtain⟨wo,rfl⟩:∃wo:World,wo=wr:=⟨_,rfl⟩
  have HWO:=Lib.hid (HA0.out.trans (hb.out.mono HA0.out.size))
  by_cases hlt:j<m
  ·have hlx:j<qs.length:=by rw[HM.out];exact hlt
   have hji:(j:Int)<(m:Int):=by omega
   obtain⟨b,off,cs,rfl,hbl,hc,hr⟩:=(HS.out.below HWO.out HWO.out.size).2 j hlx
   have hlen:=(procSh n).len hr
   have hone:=(procSh n).one hr
   rw[procSh_k]at hlen hc
   have HC0:Hid (∀i v,cs[i]? =some v→wo.cell? ((⟨b,off+j*34,none⟩:Addr).add i)=some v):=fun i v hv=>by
    rw[show(⟨b,off+j*34,none⟩:Addr).add i=⟨b,off+j*34+i,none⟩ by unfold Addr.add;split<;>simp_all]
    exact hc i v hv
   have hA:Below wo.heap.size wo (wo.alloc (.cells cs.toArray 112)):=box_low
   obtain⟨ca,cb,a1,a2,a3,c1,c2,c3,H⟩:=proc_is hr
   have P1:=Lib.hid (fun W (hb:Below (wo.alloc (.cells cs.toArray 112)).heap.size (wo.alloc (.cells cs.toArray 112)) W)=>box_part H.pre hb)
   have P2:=Lib.hid (fun W (hb:Below (wo.alloc (.cells cs.toArray 112)).heap.size (wo.alloc (.cells cs.toArray 112)) W)=>box_part H.post hb)
   have P3:=Lib.hid (fun W (hb:Below (wo.alloc (.cells cs.toArray 112)).heap.size (wo.alloc (.cells cs.toArray 112)) W)=>box_at H.body hb)
   have L1:=Lib.hid (((assnSh n).len H.rpre).trans (assnSh_k n))
   have L2:=Lib.hid (((assnSh n).len H.rpost).trans (assnSh_k n))
   have X1:Hid (BoolAll 76 #[.agg ca.toArray,.int .i64 100] (dpA 100 qs[j].pre) (wo.alloc (.cells cs.toArray 112))):=Lib.hid (fun W hW=>deepA_any n 100 qs[j].pre ca W (by decide) (rel_low (rel_low H.rpre hA) hW))
   have X2:Hid (BoolAll 76 #[.agg cb.toArray,.int .i64 100] (dpA 100 qs[j].post) (wo.alloc (.cells cs.toArray 112))):=Lib.hid (fun W hW=>deepA_any n 100 qs[j].post cb W (by decide) (rel_low (rel_low H.rpost hA) hW))
   have X3:Hid (BoolAll 77 #[.slice a3 qs[j].body.length c3,.int .i64 100,.func (.func 78) #[] #[]] (qs[j].body.any (dpS 100)) (wo.alloc (.cells cs.toArray 112))):=Lib.hid (fun W hW=>someS_any n 78 100 (dpS 100) a3 _ c3 qs[j].body W (fun args w=>by kernel_rfl) rfl ((H.rbody.below hA hA.size).below hW hW.size) (fun cs x V hx hv hr=>deepS_any n 100 x cs V (by decide) hr))
   have HL:=Lib.hid hlen
   have HO:=Lib.hid hone
   have HH:Hid ((dpA 100 qs[j].pre || dpA 100 qs[j].post || qs[j].body.any (dpS 100))=true→zD=true):=Lib.hid (HHIT.out j hlx)
   have HN:Hid ((dpA 100 qs[j].pre || dpA 100 qs[j].post || qs[j].body.any (dpS 100))=false→∀q,(h:q<qs.length)→q<j+1→dpQ qs[q]=false):=fun h q hq hlq=>by
    by_cases e:q=j
    ·subst e;exact h
    ·exact hno.out q hq (by omega)
   have HB:=Lib.hid (hb.out.trans (hA.mono hb.out.size))
   have HB0:Hid (Below (wo.alloc (.cells cs.toArray 112)).heap.size (wo.alloc (.cells cs.toArray 112)) (wo.alloc (.cells cs.toArray 112))):=Below.refl _ _
   clear hc hr hlen hone H hA
   generalize dpA 100 qs[j].pre=z1 at X1 HH HN
   generalize dpA 100 qs[j].post=z2 at X2 HH HN
   generalize qs[j].body.any (dpS 100)=z3 at X3 HH HN
   generalize qs[j].body.length=m3 at X3 P3
   go_wp2_with (first | (refine wpList_store_new rfl 112 _ _ rfl _ rfl cs rfl (by rw[HL.out];kernel_rfl) (by rw[HL.out];rfl) HO.out ?_) | (refine wpList_load_w rfl 112 _ rfl ⟨b,off+j*34,none⟩ rfl cs _ HC0.out Tryz.underlying112 rfl (by rw[HL.out];kernel_rfl) ?_) | (refine wpList_load_w rfl 100 _ rfl ⟨wo.heap.size,3,none⟩ rfl ca _ (P1.out _ HB0.out) Tryz.underlying100 rfl (by rw[L1.out];kernel_rfl) ?_))
   refine(X1.out.at HB0.out).mono ?_
   rintro r w1 ⟨rfl,hb1⟩
   have B1:=Lib.hid hb1
   have HB1:=Lib.hid (HB.out.trans (hb1.mono HB.out.size))
   clear hb1 X1 P1 HC0
   cases z1 with
   | true=>
     obtain rfl:=HH.out rfl
     have HZ:=Lib.hid (HA0.out.trans (HB1.out.mono HA0.out.size))
     clear HH HN X2 X3 P2 P3
     go_wp2_with fail
     go_ret
     exact⟨rfl,HZ.out⟩
   | false=>
   go_wp2_with (refine wpList_load_w rfl 100 _ rfl ⟨wo.heap.size,18,none⟩ rfl cb _ (P2.out _ B1.out) Tryz.underlying100 rfl (by rw[L2.out];kernel_rfl) ?_)
   refine(X2.out.at B1.out).mono ?_
   rintro r w2 ⟨rfl,hb1⟩
   have B2:=Lib.hid (B1.out.trans (hb1.mono B1.out.size))
   have HB2:=Lib.hid (HB1.out.trans (hb1.mono HB1.out.size))
   clear hb1 X2 P2
   cases z2 with
   | true=>
     obtain rfl:=HH.out rfl
     have HZ:=Lib.hid (HA0.out.trans (HB2.out.mono HA0.out.size))
     clear HH HN X3 P3
     go_wp2_with fail
     go_ret
     exact⟨rfl,HZ.out⟩
   | false=>
   have k3:=P3.out _ B2.out
   go_wp2_with fail
   refine(X3.out.at B2.out).mono ?_
   rintro r w3 ⟨rfl,hb1⟩
   have HB3:=Lib.hid (HB2.out.trans (hb1.mono HB2.out.size))
   clear hb1 X3 P3 k3
   cases z3 with
   | true=>
     obtain rfl:=HH.out rfl
     have HZ:=Lib.hid (HA0.out.trans (HB3.out.mono HA0.out.size))
     clear HH HN
     go_wp2_with fail
     go_ret
     exact⟨rfl,HZ.out⟩
   | false=>
     have HN2:=Lib.hid (HN.out rfl)
     clear HH HN
     go_wp2_with fail
     go_roundw
     case rel=>exact⟨j+1,by omega,by go_num,HN2,HB3⟩
     case measure=>simp[intOf];omega
  ·obtain rfl:j=m:=by omega
   obtain rfl:=HMISS.out (fun q hq=>hno.out q hq (by rw[HM.out]at hq;exact hq))
   have k0:=HCL.out _ hb.out
   go_wp2_with fail
   refine(HSS.out.at HWO.out).mono ?_
   rintro r w3 ⟨rfl,hb1⟩
   have HZ:=Lib.hid (HWO.out.trans (hb1.mono HWO.out.size))
   clear hb1 HSS k0
   cases zS with
   | true=>
     go_wp2_with fail
     go_ret
     exact⟨rfl,HZ.out⟩
   | false=>
     go_wp2_with fail
     go_ret
     exact⟨rfl,HZ.out⟩
theorem check_prog {nm:ByteArray→Bool}(hN:NameLaw nm Laid)(n:Nat)(qs:List QT)(a:Option Addr)(cap:Nat)(w:World)(hs:Pak.Sits (procSh n) (Pak.Lo w.heap.size) w a qs)(hL:Laid w):
 Calls Tryz.prog 65 #[.agg #[.slice a qs.length cap]] w (ErrIn (chkQ nm n qs) w):=
 check_box a qs.length cap n qs _ w rfl hs (fun W hW=>allQ_any n 80 (snQ nm n) a qs.length cap qs W (fun args w=>by kernel_rfl) rfl (hs.below hW hW.size) (fun cs x V hx hv hr=>soundQ_any hN n x cs V hr ((hL.up hW).up hv)))
end
section
open Go.RowKit
def zE:ET:= .mk 0 0 ⟨#[]⟩ []
def zC:CT:= .mk 0 [] []
def zA:AT:= .mk 0 zC zE zE ⟨#[]⟩ 0 []
def zEc:List Value:=[.int .i64 0,.int .i64 0,.string ⟨#[]⟩,.slice none 0 0]
def zCc:List Value:=[.int .i64 0,.slice none 0 0,.slice none 0 0]
def zAc:List Value:=[.int .i64 0,.int .i64 0,.slice none 0 0,.slice none 0 0,.int .i64 0,.int .i64 0,.string ⟨#[]⟩,.slice none 0 0,.int .i64 0,.int .i64 0,.string ⟨#[]⟩,.slice none 0 0,.string ⟨#[]⟩,.int .i64 0,.slice none 0 0]
theorem slot_nil {T:Type}(sh:Pak.Sh T)(S:Nat→Prop)(w:World):Pak.Slot sh S w (.slice none 0 0) []:=⟨none,0,rfl,Pak.Sits.nil _ _ _ _⟩
theorem i64_0:i64 0:=⟨by decide,by decide⟩
theorem zE_rel (n:Nat)(S:Nat→Prop)(w:World):(exprSh (n+1)).rel S w zEc zE:=⟨_,rfl,⟨i64_0,i64_0,Nat.zero_le _⟩,slot_nil _ _ _⟩
theorem zC_rel (n:Nat)(S:Nat→Prop)(w:World):(condSh (n+1)).rel S w zCc zC:=⟨_,_,rfl,i64_0,slot_nil _ _ _,slot_nil _ _ _⟩
theorem zA_rel (n:Nat)(S:Nat→Prop)(w:World):(assnSh (n+2)).rel S w zAc zA:=⟨zCc,zEc,zEc,_,rfl,⟨i64_0,i64_0,Nat.zero_le _⟩,zC_rel n S w,zE_rel n S w,zE_rel n S w,slot_nil _ _ _⟩
def sSet (e:ET):ST:= .mk ⟨1,⟨#[120]⟩,⟨#[]⟩,⟨#[]⟩,e,zE,zC,zA,[],[],[]⟩ [] []
def pOf (a:AT)(l:List ST):QT:=⟨⟨#[112]⟩,[],[],a,zA,l⟩
theorem sSet_rel {n:Nat}{S:Nat→Prop}{w:World}{ce:List Value}{e:ET}(h:(exprSh (n+2)).rel S w ce e):(stmtSh (n+3)).rel S w ([.int .i64 1,.string ⟨#[120]⟩,.string ⟨#[]⟩,.string ⟨#[]⟩] ++ (ce ++ (zEc ++ (zCc ++ (zAc ++ [.slice none 0 0,.slice none 0 0,.slice none 0 0,.slice none 0 0,.slice none 0 0]))))) (sSet e):=
 ⟨ce,zEc,zCc,zAc,_,_,_,_,_,rfl,⟨show(-9223372036854775808≤(1:Int)∧(1:Int)≤9223372036854775807) from⟨by decide,by decide⟩,show(⟨#[120]⟩:ByteArray).size≤maxLen from by decide,Nat.zero_le _,Nat.zero_le _⟩,⟨h,zE_rel (n+1) S w,zC_rel (n+1) S w,zA_rel n S w⟩,⟨slot_nil _ _ _,slot_nil _ _ _,slot_nil _ _ _⟩,slot_nil _ _ _,slot_nil _ _ _⟩
theorem sits_block {T:Type}{sh:Pak.Sh T}{S:Nat→Prop}{W:World}{g:Nat}{cs:List Value}{t:TypeId}{x:T}(hg:W.heap[g]? =some (.cells cs.toArray t (0,0)))(hS:S g)(h:sh.rel S W cs x):Pak.Sits sh S W (some ⟨g,0,none⟩) [x]:=
 ⟨show 1≤9223372036854775807 from by decide,fun i hi=>by
   have h0:i=0:=by simpa using hi
   subst h0
   refine⟨g,0,cs,rfl,hS,fun j u hu=> ?_,h⟩
   rw[Nat.zero_mul,Nat.add_zero,Nat.zero_add,cell_of_row _ _ _ _ _ _ hg]
   rw[List.getElem?_toArray];exact hu⟩
def nmB (s:ByteArray):Bool:=nameB s.data.toList
theorem nmLaw:NameLaw nmB Laid:=⟨fun s w hs hL=>name_any s w hs hL,fun h hb=>h.up hb⟩
theorem fold_put:∀(l P R:List Value),R.length=l.length→List.foldl (fun(cs:Array Value) (x:Value×Nat)=>cs.setIfInBounds x.2 x.1) (P ++ R).toArray (l.zipIdx P.length)=(P ++ l).toArray
 | [],P,R,h=>by rw[List.eq_nil_of_length_eq_zero h];rfl
 | x :: l,P,[],h=>by cases h
 | x :: l,P,y :: R,h=>by
   rw[List.zipIdx_cons,List.foldl_cons]
   have e:((P ++ y :: R).toArray).setIfInBounds P.length x=((P ++ [x]) ++ R).toArray:=by
    rw[List.setIfInBounds_toArray]
    congr 1
    rw[List.set_append_right _ _ (Nat.le_refl _),Nat.sub_self,List.set_cons_zero]
    simp
   rw[e]
   have:=fold_put l (P ++ [x]) R (by simpa using h)
   rw[List.length_append]at this
   rw[show P.length+1=P.length+[x].length from rfl,this]
   simp
end
section
open Go.RowKit
def symOf (s:ByteArray)(l:List (ByteArray×LT)):Option LT:=(l.find? fun x=>decide (x.1=s)).map (·.2)
noncomputable def linE (σ:ByteArray→Option LT):Nat→ET→Option LT
 | 0,_=>none
 | n+1,e=>
   if e.kind=1 then some ((σ e.name).getD (e.n,[]))
   else if e.kind=2 then(linE σ n (e.ks.getD 0 default)).bind fun a=>(linE σ n (e.ks.getD 1 default)).bind fun b=>addS 1 1 a b
   else if e.kind=3 then(linE σ n (e.ks.getD 0 default)).bind fun a=>(linE σ n (e.ks.getD 1 default)).bind fun b=>addS 1 (-1) a b
   else if e.kind=4 then(linE σ n (e.ks.getD 0 default)).bind fun a=>timesS e.n a
   else some (e.n,[])
theorem sd_num {x:Int}(h: -1073741824≤x∧x≤1073741824):Sd (x,[]):=Lf.snd_iff.2 ⟨by unfold Lf.wi;simpa using h,by simp,fun i hi=>absurd hi (by simp)⟩
theorem linE_sd {nm:ByteArray→Bool}{σ:ByteArray→Option LT}(hσ:∀s a,σ s=some a→Sd a):∀ {n:Nat} {e:ET} {a:LT},snE nm n e=true→linE σ n e=some a→Sd a
 | 0,_,_,h,_=>by simp[snE]at h
 | n+1,e,a,h,he=>by
   unfold linE at he
   unfold snE at h
   split at he
   ·rename_i h1
    rw[if_pos h1]at h
    simp only[Bool.and_eq_true,beq_iff_eq]at h
    injection he with he
    subst he
    cases hs:σ e.name with
    | none=>exact sd_num (by show -1073741824≤e.n∧e.n≤1073741824;omega)
    | some b=>exact hσ _ _ hs
   ·rename_i h1
    rw[if_neg h1]at h
    split at he
    ·obtain⟨x,_,he⟩:=Option.bind_eq_some_iff.1 he
     obtain⟨y,_,he⟩:=Option.bind_eq_some_iff.1 he
     exact addS_sd he
    ·split at he
     ·obtain⟨x,_,he⟩:=Option.bind_eq_some_iff.1 he
      obtain⟨y,_,he⟩:=Option.bind_eq_some_iff.1 he
      exact addS_sd he
     ·split at he
      ·obtain⟨x,_,he⟩:=Option.bind_eq_some_iff.1 he
       exact timesS_sd he
      ·injection he with he
       subst he
       split at h
       ·simp only[Bool.and_eq_true,Bool.or_eq_true,beq_iff_eq]at h
        refine sd_num ?_
        show -1073741824≤e.n∧e.n≤1073741824
        rcases h.1.1.1 with h0 | ⟨_,h0⟩
        ·omega
        ·unfold inB at h0
         simp only[Bool.and_eq_true,decide_eq_true_eq]at h0
         omega
       ·cases h
theorem linRel_rowS {B:Nat}{w:World}{c:Int}{l:List (Int×Int)}{v kv:Value}(h:Lf.Row B l v w)(hl:l.length≤9223372036854775807)(hne:∀b,kv.ownBlock=some b→b<B):LinRel (fun b=>b<w.heap.size∧kv.ownBlock≠some b) w (.int .i64 c) v (c,l):=by
 have hlt:=World.ownsRow.lt h
 obtain⟨a,cap,rfl,h2,h3⟩:=h.lies
 have hs:=sits_of_lies h2 hl
 refine⟨rfl,a,cap,rfl,fun e=>(h3 e).2,hs.1,fun i hi=> ?_⟩
 obtain⟨b,off,cs,rfl,hb,hc,hr⟩:=hs.2 i hi
 exact⟨b,off,cs,rfl,⟨hb,fun e=>by have:=hne b e;have:=(hlt b rfl).1;omega⟩,hc,hr⟩
theorem Tryz.infoLin:(Tryz.prog.info? 25).map (fun i=>(i.zero,i.size,i.bytes))=some (some (.agg #[.int .i64 0,.slice none 0 0]),2,32):=by kernel_rfl
theorem run_push_lin {w:World}(B:Nat)(xs:List LT)(x:LT)(v u:Value)(h:OwnL linSh 25 B xs v w)(hB:B≤w.heap.size)(hx:LinRel (fun b=>b<w.heap.size∧v.ownBlock≠some b) w (.int .i64 x.1) u x)(hsz:xs.length≤1000000):
 ∃v' w',(∀ty,(Builtin.append_ #[142,142] ty #[v,.slice (some ⟨w.heap.size,0,none⟩) 1 1]).run Tryz.prog (w.alloc (.cells #[.int .i64 x.1,u] 25))= .ok v' w')∧OwnL linSh 25 B (xs ++ [x]) v' w'∧Below B w w':=by
 obtain⟨i0,hi,hz0,hz1,hz2⟩:=info_parts Tryz.infoLin
 obtain⟨v',w',h1,h2,h3,_⟩:=run_push_l (P:=Tryz.prog) (sh:=linSh) 142 25 i0 _ 32 Tryz.underlying142 hi hz0 hz1 hz2 (by decide) rfl (by decide) B xs x v [.int .i64 x.1,u] h hB ⟨_,_,rfl,hx⟩ hsz
 exact⟨v',w',h1,h2,h3⟩
theorem symOf_hit {s:ByteArray}{l:List (ByteArray×LT)}{j:Nat}(h:j<l.length)(hno:∀q,(hq:q<l.length)→q<j→l[q].1≠s)(he:l[j].1=s):symOf s l=some l[j].2:=by
 unfold symOf
 rw[List.find?_eq_some_iff_getElem.2 ⟨by simpa using he,j,h,rfl,fun q hq=>by simpa using hno q (by omega) hq⟩]
 rfl
theorem symOf_none {s:ByteArray}{l:List (ByteArray×LT)}(hno:∀q,(hq:q<l.length)→l[q].1≠s):symOf s l=none:=by
 unfold symOf
 rw[List.find?_eq_none.2 fun x hx=>by obtain⟨i,hi,rfl⟩:=List.getElem_of_mem hx;simpa using hno i hi]
 rfl
end
section
open Go.RowKit
theorem kind_at {w W:World}{x y z u:Value}{b:Array Value}{t s:TypeId}(hb:Below ((w.alloc (.cells #[x,y,z,u] t)).alloc (.cells b s)).heap.size ((w.alloc (.cells #[x,y,z,u] t)).alloc (.cells b s)) W):W.cell? ⟨w.heap.size,0,none⟩=some x∧W.cell? ⟨w.heap.size,1,none⟩=some y:=by
 have h1:Below (w.alloc (.cells #[x,y,z,u] t)).heap.size (w.alloc (.cells #[x,y,z,u] t)) ((w.alloc (.cells #[x,y,z,u] t)).alloc (.cells b s)):=box_low
 have h2:=h1.trans (hb.mono h1.size)
 exact⟨box_at (cs:=[x,y,z,u]) (o:=0) rfl h2,box_at (cs:=[x,y,z,u]) (o:=1) rfl h2⟩
theorem OwnL.lt {T:Type}{sh:Pak.Sh T}{e:TypeId}{B:Nat}{xs:List T}{v:Value}{w:World}(h:OwnL sh e B xs v w):∀b,v.ownBlock=some b→B≤b∧b<w.heap.size:=by
 obtain⟨css,_,h2,_⟩:=h.row
 exact fun b hb=>World.ownsRow.lt h2 b hb
theorem getD_mem {T:Type}[Inhabited T]{l:List T}{i:Nat}(h:i<l.length):l.getD i default∈l:=by
 rw[List.getD_eq_getElem?_getD,List.getElem?_eq_getElem h];exact List.getElem_mem h
theorem stored_a {w W:World}{B b:Nat}{x y u v:Value}{c:Array Value}{t:TypeId}(hb:Below B w W)(hBW:B≤W.heap.size)(hB:B≤b)(hlt:b<W.heap.size)(h0:W.cell? ⟨b,0,none⟩=some u)(h1:W.cell? ⟨b,1,none⟩=some v):
 (((W.setCell ⟨b,0,none⟩ x).setCell ⟨b,1,none⟩ y).alloc (.cells c t)).cell? ⟨b,0,none⟩=some x∧(((W.setCell ⟨b,0,none⟩ x).setCell ⟨b,1,none⟩ y).alloc (.cells c t)).cell? ⟨b,1,none⟩=some y∧Below B w (((W.setCell ⟨b,0,none⟩ x).setCell ⟨b,1,none⟩ y).alloc (.cells c t)):=by
 obtain⟨e0,e1,hb2⟩:=store2 (x:=x) (y:=y) hb hB h0 h1
 have hsz:((W.setCell ⟨b,0,none⟩ x).setCell ⟨b,1,none⟩ y).heap.size=W.heap.size:=by simp
 have e0':((W.setCell ⟨b,0,none⟩ x).setCell ⟨b,1,none⟩ y).cell? ⟨b,0,none⟩=some x:=by rw[World.cell?_setCell_other _ _ _ _ (by simp)];exact e0
 have hA:=box_low (w:=(W.setCell ⟨b,0,none⟩ x).setCell ⟨b,1,none⟩ y) (cs:=c) (t:=t)
 refine⟨(hA.cell (p:=⟨b,0,none⟩) (by rw[hsz];exact hlt)).trans e0',(hA.cell (p:=⟨b,1,none⟩) (by rw[hsz];exact hlt)).trans e1,hb2.trans (hA.mono (by rw[hsz];exact hBW))⟩
theorem LnEnd.some_form {y:LT}{w w':World}{e:Ending}(h:LnEnd (some y) w e w'):∃v,e= .returned (.tuple #[.agg #[.int .i64 y.1,v],.bool true])∧Lf.Row w.heap.size y.2 v w'∧Below w.heap.size w w':=by
 rcases h with ⟨z,v,h1,h2⟩ | ⟨h1,_⟩
 ·injection h1 with h1
  subst h1
  exact⟨v,h2⟩
 ·cases h1
theorem LnEnd.none_form {w w':World}{e:Ending}(h:LnEnd none w e w'):e= .returned (.tuple #[.agg #[.int .i64 0,.slice none 0 0],.bool false])∧Below w.heap.size w w':=by
 rcases h with ⟨z,v,h1,_⟩ | ⟨_,h2⟩
 ·cases h1
 ·exact h2
def AddEnd (x:Option LT)(w:World)(e:Ending)(w':World):Prop:=∃c l v er,e= .returned (.tuple #[.agg #[.int .i64 c,v],er])∧Lf.Row w.heap.size l v w'∧Below w.heap.size w w'∧((x=some (c,l)∧er= .nilIface)∨(x=none∧c=0∧v= .slice none 0 0∧∃k,er= .iface 89 (.int .i64 k)))
theorem add_one (a b:LT)(x y:Int)(p q:Option Addr)(capa capb:Nat)(w:World)(ha:Sd a)(hb:Sd b)(hx: -4096≤x∧x≤4096)(hy: -4096≤y∧y≤4096)(hla:Lf.Lies w.heap.size w p a.2)(hlb:Lf.Lies w.heap.size w q b.2):
 Calls Tryz.prog 56 #[.agg #[.int .i64 a.1,.slice p a.2.length capa],.agg #[.int .i64 b.1,.slice q b.2.length capb],.int .i64 x,.int .i64 y] w (AddEnd (addS x y a b) w):=by
 rcases add_fn a b x y p q capa capb w ha hb hx hy hla hlb with ⟨r,h1,h2⟩ | ⟨h1,k,h2⟩
 ·refine h2.mono ?_
  rintro e w' ⟨v,rfl,hrow,hb⟩
  exact⟨r.1,r.2,v,_,rfl,hrow,hb,.inl ⟨h1,rfl⟩⟩
 ·refine h2.mono ?_
  rintro e w' ⟨rfl,hb⟩
  exact⟨0,[],_,_,rfl,World.ownsRow_nil _ _ _ _,hb,.inr ⟨h1,rfl,rfl,k,rfl⟩⟩
structure LBox (w wo:World)(wx:World)(fb:Nat)(c:Int)(l:List (Int×Int))(v:Value):Prop where
 c0:wx.cell? ⟨fb,0,none⟩=some (.int .i64 c)
 c1:wx.cell? ⟨fb,1,none⟩=some v
 row:Lf.Row wo.heap.size l v wx
 bel:Below w.heap.size w wx
 r0:wx.cell? ⟨w.heap.size+1,0,none⟩=some (.int .i64 0)
 r1:wx.cell? ⟨w.heap.size+1,1,none⟩=some (.slice none 0 0)
 rf0:wx.frozen? ⟨w.heap.size+1,0,none⟩=false
 rf1:wx.frozen? ⟨w.heap.size+1,1,none⟩=false
 rlt:w.heap.size+1<wx.heap.size
theorem lbox_new {w wo w4:World}{c:Int}{l:List (Int×Int)}{v:Value}{t:TypeId}(hrow:Lf.Row wo.heap.size l v w4)(hb:Below w.heap.size w w4)(r0:w4.cell? ⟨w.heap.size+1,0,none⟩=some (.int .i64 0))(r1:w4.cell? ⟨w.heap.size+1,1,none⟩=some (.slice none 0 0))(rf0:w4.frozen? ⟨w.heap.size+1,0,none⟩=false)(rf1:w4.frozen? ⟨w.heap.size+1,1,none⟩=false)(rlt:w.heap.size+1<w4.heap.size):
 LBox w wo (w4.alloc (.cells #[.int .i64 c,v] t)) w4.heap.size c l v:=by
 have hA:Below w4.heap.size w4 (w4.alloc (.cells #[.int .i64 c,v] t)):=box_low
 have h2:=box2_at (Below.refl _ (w4.alloc (.cells #[.int .i64 c,v] t)))
 exact⟨h2.1,h2.2.1,hrow.alloc _,hb.trans (hA.mono hb.size),(hA.cell (p:=⟨_,0,none⟩) rlt).trans r0,(hA.cell (p:=⟨_,1,none⟩) rlt).trans r1,(hA.frozen (p:=⟨_,0,none⟩) rlt).trans rf0,(hA.frozen (p:=⟨_,1,none⟩) rlt).trans rf1,Nat.lt_of_lt_of_le rlt hA.size⟩
theorem lbox_old {w wo w4:World}{fb:Nat}{c:Int}{l:List (Int×Int)}{v x y:Value}(hf:fb=wo.heap.size)(hw:w.heap.size+1<wo.heap.size)(hrow:Lf.Row (wo.heap.size+1) l v w4)(hb:Below w.heap.size w w4)(r0:w4.cell? ⟨w.heap.size+1,0,none⟩=some (.int .i64 0))(r1:w4.cell? ⟨w.heap.size+1,1,none⟩=some (.slice none 0 0))(rf0:w4.frozen? ⟨w.heap.size+1,0,none⟩=false)(rf1:w4.frozen? ⟨w.heap.size+1,1,none⟩=false)(rlt:w.heap.size+1<w4.heap.size)
 (c0:w4.cell? ⟨fb,0,none⟩=some x) (c1:w4.cell? ⟨fb,1,none⟩=some y):LBox w wo ((w4.setCell ⟨fb,0,none⟩ (.int .i64 c)).setCell ⟨fb,1,none⟩ v) fb c l v:=by
 subst hf
 have hne:∀o o':Nat,(⟨wo.heap.size,o',none⟩:Addr)≠⟨w.heap.size+1,o,none⟩:=fun o o' e=>by injection e with e1;omega
 obtain⟨e0,e1,hb2⟩:=store2 (x:= .int .i64 c) (y:=v) hb (show w.heap.size≤wo.heap.size by omega) c0 c1
 refine⟨by rw[World.cell?_setCell_other _ _ _ _ (by simp)];exact e0,e1,(row_store2 hrow (Nat.lt_succ_self _)).mono (Nat.le_succ _),hb2, ?_, ?_, ?_, ?_,by simpa using rlt⟩
 ·rw[World.cell?_setCell_other _ _ _ _ (hne _ _),World.cell?_setCell_other _ _ _ _ (hne _ _)];exact r0
 ·rw[World.cell?_setCell_other _ _ _ _ (hne _ _),World.cell?_setCell_other _ _ _ _ (hne _ _)];exact r1
 ·rw[World.frozen?_setCell,World.frozen?_setCell];exact rf0
 ·rw[World.frozen?_setCell,World.frozen?_setCell];exact rf1
end
section
open Go.RowKit
theorem chk_parts {nm:ByteArray→Bool}{n:Nat}{q:QT}(h:chkQ nm n [q]=0):snQ nm n q=true:=by
 unfold chkQ at h
 cases h1:([q]:List QT).any dpQ with
 | true=>rw[h1]at h;cases h
 | false=>
   rw[h1]at h
   cases h2:([q]:List QT).all (snQ nm n)with
   | false=>rw[h2]at h;cases h
   | true=>simpa using h2
theorem chk_set {nm:ByteArray→Bool}{n:Nat}{e:ET}(h:chkQ nm (n+3) [pOf zA [sSet e]]=0):snE nm (n+2) e=true:=by
 have h1:=chk_parts h
 unfold snQ pOf at h1
 simp only[Bool.and_eq_true,List.all_cons,List.all_nil,Bool.and_true]at h1
 have h2:=h1.2
 unfold snS at h2
 rw[if_pos (show 0≤(sSet e).p.kind∧(sSet e).p.kind<10 from⟨by show(0:Int)≤1;decide,by show(1:Int)<10;decide⟩)]at h2
 simp only[Bool.and_eq_true]at h2
 have h3:=h2.1.1.1.1.1.1.1.2
 rw[show hasB (sSet e).p.kind.toNat 8=true from by show hasB 1 8=true;decide]at h3
 exact h3
theorem proc_rel {n:Nat}{W:World}{ca:List Value}{a:AT}{v:Value}{l:List ST}(x:ByteArray)(hx:x.size≤maxLen)(ha:(assnSh (n+3)).rel (Pak.Lo W.heap.size) W ca a)(hl:Pak.Slot (stmtSh (n+3)) (Pak.Lo W.heap.size) W v l):(procSh (n+3)).rel (Pak.Lo W.heap.size) W ([.string x,.slice none 0 0,.slice none 0 0] ++ (ca ++ (zAc ++ [v]))) ⟨x,[],[],a,zA,l⟩:=
 ⟨_,_,ca,zAc,v,rfl,hx,slot_nil _ _ _,slot_nil _ _ _,ha,zA_rel (n+1) _ _,hl⟩
end
section
open Go.RowKit
def ekE (n:Nat)(e:ET):Int:=chkQ nmB (n+3) [pOf zA [sSet e]]
end
end Go.Proofs.YtjbkhdbjdahbiaaGreatDoor
