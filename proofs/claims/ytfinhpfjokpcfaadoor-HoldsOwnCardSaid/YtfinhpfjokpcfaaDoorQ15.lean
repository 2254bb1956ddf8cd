/- Parts of a proof. -/
import Derived.Test.YtfinhpfjokpcfaaDoorQ02
import Derived.Test.YtfinhpfjokpcfaaDoorQ03
import Derived.Test.YtfinhpfjokpcfaaDoorQ08
import Derived.Test.YtfinhpfjokpcfaaDoorQ12
import Derived.Test.YtfinhpfjokpcfaaDoorQ13
import Derived.Test.YtfinhpfjokpcfaaDoorQ14
import Derived.Deep.CutBlock
import Derived.Deep.CutRange
import Derived.Deep.DeepCutAuto
import Derived.Lib.Strings
import Derived.Deep.AppendLies
import Derived.Deep.RegionLaw
set_option linter.unusedVariables false
set_option linter.unusedSimpArgs false
set_option maxHeartbeats 60000000
set_option maxRecDepth 100000
namespace Go.Proofs.YtfinhpfjokpcfaaDoor
section
open Go.RowKit
theorem wpQuiet_load_c {P:Program}{W0:World}{ops:Array Oper}{rest:List Oper}{o:Oper}{a:Act}{Q:Act→Prop}(ty:TypeId)(x:Operand)(ho:o.op= .load ty x)
 (g:Addr) (hx:a.eval x= .pointer (some g)) (cs:List Value) (d:TypeDesc) (hc:∀W,Below W0.heap.size W0 W→∀j v,cs[j]? =some v→W.cell? (g.add j)=some v) (hw:Region.wanted o (yielded ops a.tmps)=true)
 (hu:P.underlying ty=some d) (hd:(match d with | .struct _ | .array _ _=>true | _=>false)=true) (hi:(P.info? ty).map (·.size)=some cs.length) (a':Act) (ha:a.put o.dst (.agg cs.toArray)=a')
 (h:wpQuiet P ops (fun w'=>∃p:Regrown,w'=Go.Sort.grow (redrawn W0 p.d) p.os) Q rest a'):wpQuiet P ops (fun w'=>∃p:Regrown,w'=Go.Sort.grow (redrawn W0 p.d) p.os) Q (o :: rest) a:=
 wpQuiet_load_b ty x ho g hx cs d hc hw hu hd hi (ha ▸ h)
theorem soundS_box (k:Nat)(cs ce cv cc ca:List Value)(a1 a2 a4 a5:Option Addr)(m1 m2 m4 m5 c1 c2 c4 c5:Nat)(hE hV hC hA' hB hX cB z0 z1 z2 z3 z4 z5 z6 z7 z8:Bool)(w:World)(hk:k<10)(hcb:(k == 9)=cB)
 (hlen:cs.length=35) (q0:cs[0]? =some (.int .i64 k)) (p1:Part cs 4 ce) (p2:Part cs 8 cv) (p3:Part cs 12 cc) (p4:Part cs 15 ca) (q1:cs[30]? =some (.slice a1 m1 c1)) (q2:cs[31]? =some (.slice a2 m2 c2)) (q4:cs[33]? =some (.slice a4 m4 c4)) (q5:cs[34]? =some (.slice a5 m5 c5))
 (l1:ce.length=4) (l2:cv.length=4) (l3:cc.length=3) (l4:ca.length=15)
 (x0:BoolAll 58 #[.agg cs.toArray,.func (.func 57) #[] #[.pointer (some ⟨w.heap.size,0,none⟩)]] z0 (w.alloc (.cells cs.toArray 63)))
 (b1:BoolAll 57 #[.int .i64 8,.pointer (some ⟨w.heap.size,0,none⟩)] hE (w.alloc (.cells cs.toArray 63))) (b2:BoolAll 57 #[.int .i64 16,.pointer (some ⟨w.heap.size,0,none⟩)] hV (w.alloc (.cells cs.toArray 63))) (b3:BoolAll 57 #[.int .i64 32,.pointer (some ⟨w.heap.size,0,none⟩)] hC (w.alloc (.cells cs.toArray 63))) (b4:BoolAll 57 #[.int .i64 64,.pointer (some ⟨w.heap.size,0,none⟩)] hA' (w.alloc (.cells cs.toArray 63))) (b7:BoolAll 57 #[.int .i64 256,.pointer (some ⟨w.heap.size,0,none⟩)] hB (w.alloc (.cells cs.toArray 63))) (b8:BoolAll 57 #[.int .i64 512,.pointer (some ⟨w.heap.size,0,none⟩)] hX (w.alloc (.cells cs.toArray 63)))
 (x1:BoolAll 59 #[.bool hE,.agg ce.toArray,.func (.func 60) #[] #[],.func (.func 61) #[] #[]] z1 (w.alloc (.cells cs.toArray 63))) (x2:BoolAll 59 #[.bool hV,.agg cv.toArray,.func (.func 60) #[] #[],.func (.func 61) #[] #[]] z2 (w.alloc (.cells cs.toArray 63)))
 (x3:BoolAll 62 #[.bool hC,.agg cc.toArray,.func (.func 55) #[] #[],.func (.func 56) #[] #[]] z3 (w.alloc (.cells cs.toArray 63))) (x4:BoolAll 63 #[.bool hA',.agg ca.toArray,.func (.func 42) #[] #[],.func (.func 64) #[] #[]] z4 (w.alloc (.cells cs.toArray 63)))
 (x5:BoolAll 65 #[.bool cB,.slice a1 m1 c1,.func (.func 66) #[] #[],.func (.func 67) #[] #[]] z5 (w.alloc (.cells cs.toArray 63))) (x6:BoolAll 65 #[.bool cB,.slice a2 m2 c2,.func (.func 66) #[] #[],.func (.func 67) #[] #[]] z6 (w.alloc (.cells cs.toArray 63)))
 (x7:BoolAll 68 #[.bool hB,.slice a4 m4 c4,.func (.func 69) #[] #[],.func (.func 70) #[] #[]] z7 (w.alloc (.cells cs.toArray 63))) (x8:BoolAll 68 #[.bool hX,.slice a5 m5 c5,.func (.func 69) #[] #[],.func (.func 70) #[] #[]] z8 (w.alloc (.cells cs.toArray 63))):
 Calls Tryd.prog 44 #[.agg cs.toArray] w (SoundEnd (z0 && z1 && z2 && z3 && z4 && z5 && z6 && z7 && z8) w):=by
 have HA:Hid (Below w.heap.size w (w.alloc (.cells cs.toArray 63))):=box_low
 have HB0:Hid (Below (w.alloc (.cells cs.toArray 63)).heap.size (w.alloc (.cells cs.toArray 63)) (w.alloc (.cells cs.toArray 63))):=Below.refl _ _
 have P1:=Lib.hid (fun W (hb:Below (w.alloc (.cells cs.toArray 63)).heap.size (w.alloc (.cells cs.toArray 63)) W)=>box_part p1 hb)
 have L1:=Lib.hid l1
 have P2:=Lib.hid (fun W (hb:Below (w.alloc (.cells cs.toArray 63)).heap.size (w.alloc (.cells cs.toArray 63)) W)=>box_part p2 hb)
 have L2:=Lib.hid l2
 have P3:=Lib.hid (fun W (hb:Below (w.alloc (.cells cs.toArray 63)).heap.size (w.alloc (.cells cs.toArray 63)) W)=>box_part p3 hb)
 have L3:=Lib.hid l3
 have P4:=Lib.hid (fun W (hb:Below (w.alloc (.cells cs.toArray 63)).heap.size (w.alloc (.cells cs.toArray 63)) W)=>box_part p4 hb)
 have L4:=Lib.hid l4
 have P0:=Lib.hid (fun W (hb:Below (w.alloc (.cells cs.toArray 63)).heap.size (w.alloc (.cells cs.toArray 63)) W)=>box_part (cs:=cs) (l:=cs) (o:=0) (fun i v h=>by rw[Nat.zero_add];exact h) hb)
 have L0:=Lib.hid hlen
 have k0:=box_at q0 HB0.out
 have Q0:=Lib.hid (box_at q0 HB0.out)
 have Q1:=Lib.hid (box_at q1 HB0.out)
 have Q2:=Lib.hid (box_at q2 HB0.out)
 have Q4:=Lib.hid (box_at q4 HB0.out)
 have Q5:=Lib.hid (box_at q5 HB0.out)
 have X0:=Lib.hid x0
 have X1:=Lib.hid x1
 have X2:=Lib.hid x2
 have X3:=Lib.hid x3
 have X4:=Lib.hid x4
 have X5:=Lib.hid x5
 have X6:=Lib.hid x6
 have X7:=Lib.hid x7
 have X8:=Lib.hid x8
 have B1:=Lib.hid b1
 have B2:=Lib.hid b2
 have B3:=Lib.hid b3
 have B4:=Lib.hid b4
 have B7:=Lib.hid b7
 have B8:=Lib.hid b8
 have e1:decide ((k:Int)<0)=false:=decide_eq_false (by omega)
 have e2:decide ((k:Int) ≥ 10)=false:=by simp;omega
 have e4:decide (10≤(k:Int))=false:=by simp;omega
 have e3:((k:Int) == 9)=cB:=by rw[←hcb,Bool.eq_iff_iff];simp only[beq_iff_eq];omega
 clear x0 x1 x2 x3 x4 x5 x6 x7 x8 b1 b2 b3 b4 b7 b8 q0 q1 q2 q4 q5 p1 p2 p3 p4 l1 l2 l3 l4 hlen hk hcb
 have r0:=X0.out.reg
 have s1:=B1.out.reg
 have r1:=X1.out.reg
 have s2:=B2.out.reg
 have r2:=X2.out.reg
 have s3:=B3.out.reg
 have r3:=X3.out.reg
 have s4:=B4.out.reg
 have r4:=X4.out.reg
 have r5:=X5.out.reg
 have r6:=X6.out.reg
 have s7:=B7.out.reg
 have r7:=X7.out.reg
 have s8:=B8.out.reg
 have r8:=X8.out.reg
 have c1:=cell_regrown Q1.out
 have c2:=cell_regrown Q2.out
 have c4:=cell_regrown Q4.out
 have c5:=cell_regrown Q5.out
 go_enter Tryd.func44,Tryd.ntmps44
 go_wp2_with fail
 refine wp_region_quiet_below (by kernel_rfl) (by kernel_rfl) ?_
 repeat (first | (go_big_quiet_step (first | with_reducible exact r0 _ _)) | (refine wpQuiet_load_c 63 _ rfl ⟨w.heap.size,0,none⟩ rfl cs _ P0.out rfl Tryd.underlying63 rfl (by rw[L0.out];kernel_rfl) _ (by simp only[Act.put,List.setIfInBounds_toArray,List.set_cons_succ,List.set_cons_zero];rfl) ?_))
 cases z0 with
 | false=>
   repeat (go_big_quiet_step (fail))
   refine wpQuiet_nil ?_
   intro w9 hw'
   obtain⟨⟨dq,osq⟩,hw''⟩:=hw'
   have H9:Hid (Below w.heap.size w w9):=Lib.hid (by rw[hw''];exact HA.out.trans ((below_regrown _ dq osq).mono HA.out.size))
   clear hw''
   go_wp2_with fail
   go_ret
   exact⟨by simp,H9.out⟩
 | true=>
 clear r0
 repeat (first | (go_big_quiet_step (first | with_reducible exact s1 _ _ | with_reducible exact r1 _ _)) | (refine wpQuiet_load_c 27 _ rfl ⟨w.heap.size,4,none⟩ rfl ce _ P1.out rfl Tryd.underlying27 rfl (by rw[L1.out];kernel_rfl) _ (by simp only[Act.put,List.setIfInBounds_toArray,List.set_cons_succ,List.set_cons_zero];rfl) ?_))
 cases z1 with
 | false=>
   repeat (go_big_quiet_step (fail))
   refine wpQuiet_nil ?_
   intro w9 hw'
   obtain⟨⟨dq,osq⟩,hw''⟩:=hw'
   have H9:Hid (Below w.heap.size w w9):=Lib.hid (by rw[hw''];exact HA.out.trans ((below_regrown _ dq osq).mono HA.out.size))
   clear hw''
   go_wp2_with fail
   go_ret
   exact⟨by simp,H9.out⟩
 | true=>
 clear r1 s1
 repeat (first | (go_big_quiet_step (first | with_reducible exact s2 _ _ | with_reducible exact r2 _ _)) | (refine wpQuiet_load_c 27 _ rfl ⟨w.heap.size,8,none⟩ rfl cv _ P2.out rfl Tryd.underlying27 rfl (by rw[L2.out];kernel_rfl) _ (by simp only[Act.put,List.setIfInBounds_toArray,List.set_cons_succ,List.set_cons_zero];rfl) ?_))
 cases z2 with
 | false=>
   repeat (go_big_quiet_step (fail))
   refine wpQuiet_nil ?_
   intro w9 hw'
   obtain⟨⟨dq,osq⟩,hw''⟩:=hw'
   have H9:Hid (Below w.heap.size w w9):=Lib.hid (by rw[hw''];exact HA.out.trans ((below_regrown _ dq osq).mono HA.out.size))
   clear hw''
   go_wp2_with fail
   go_ret
   exact⟨by simp,H9.out⟩
 | true=>
 clear r2 s2
 repeat (first | (go_big_quiet_step (first | with_reducible exact s3 _ _ | with_reducible exact r3 _ _)) | (refine wpQuiet_load_c 25 _ rfl ⟨w.heap.size,12,none⟩ rfl cc _ P3.out rfl Tryd.underlying25 rfl (by rw[L3.out];kernel_rfl) _ (by simp only[Act.put,List.setIfInBounds_toArray,List.set_cons_succ,List.set_cons_zero];rfl) ?_))
 cases z3 with
 | false=>
   repeat (go_big_quiet_step (fail))
   refine wpQuiet_nil ?_
   intro w9 hw'
   obtain⟨⟨dq,osq⟩,hw''⟩:=hw'
   have H9:Hid (Below w.heap.size w w9):=Lib.hid (by rw[hw''];exact HA.out.trans ((below_regrown _ dq osq).mono HA.out.size))
   clear hw''
   go_wp2_with fail
   go_ret
   exact⟨by simp,H9.out⟩
 | true=>
 clear r3 s3
 repeat (first | (go_big_quiet_step (first | with_reducible exact s4 _ _ | with_reducible exact r4 _ _)) | (refine wpQuiet_load_c 30 _ rfl ⟨w.heap.size,15,none⟩ rfl ca _ P4.out rfl Tryd.underlying30 rfl (by rw[L4.out];kernel_rfl) _ (by simp only[Act.put,List.setIfInBounds_toArray,List.set_cons_succ,List.set_cons_zero];rfl) ?_))
 cases z4 with
 | false=>
   repeat (go_big_quiet_step (fail))
   refine wpQuiet_nil ?_
   intro w9 hw'
   obtain⟨⟨dq,osq⟩,hw''⟩:=hw'
   have H9:Hid (Below w.heap.size w w9):=Lib.hid (by rw[hw''];exact HA.out.trans ((below_regrown _ dq osq).mono HA.out.size))
   clear hw''
   go_wp2_with fail
   go_ret
   exact⟨by simp,H9.out⟩
 | true=>
 clear r4 s4
 repeat (first | (go_big_quiet_step (first | with_reducible exact r5 _ _)))
 cases z5 with
 | false=>
   repeat (go_big_quiet_step (fail))
   refine wpQuiet_nil ?_
   intro w9 hw'
   obtain⟨⟨dq,osq⟩,hw''⟩:=hw'
   have H9:Hid (Below w.heap.size w w9):=Lib.hid (by rw[hw''];exact HA.out.trans ((below_regrown _ dq osq).mono HA.out.size))
   clear hw''
   go_wp2_with fail
   go_ret
   exact⟨by simp,H9.out⟩
 | true=>
 clear r5
 repeat (first | (go_big_quiet_step (first | with_reducible exact r6 _ _)))
 cases z6 with
 | false=>
   repeat (go_big_quiet_step (fail))
   refine wpQuiet_nil ?_
   intro w9 hw'
   obtain⟨⟨dq,osq⟩,hw''⟩:=hw'
   have H9:Hid (Below w.heap.size w w9):=Lib.hid (by rw[hw''];exact HA.out.trans ((below_regrown _ dq osq).mono HA.out.size))
   clear hw''
   go_wp2_with fail
   go_ret
   exact⟨by simp,H9.out⟩
 | true=>
 clear r6
 repeat (first | (go_big_quiet_step (first | with_reducible exact s7 _ _ | with_reducible exact r7 _ _)))
 cases z7 with
 | false=>
   repeat (go_big_quiet_step (fail))
   refine wpQuiet_nil ?_
   intro w9 hw'
   obtain⟨⟨dq,osq⟩,hw''⟩:=hw'
   have H9:Hid (Below w.heap.size w w9):=Lib.hid (by rw[hw''];exact HA.out.trans ((below_regrown _ dq osq).mono HA.out.size))
   clear hw''
   go_wp2_with fail
   go_ret
   exact⟨by simp,H9.out⟩
 | true=>
 clear r7 s7
 repeat (first | (go_big_quiet_step (first | with_reducible exact s8 _ _ | with_reducible exact r8 _ _)))
 refine wpQuiet_nil ?_
 intro w9 hw'
 obtain⟨⟨dq,osq⟩,hw''⟩:=hw'
 have H9:Hid (Below w.heap.size w w9):=Lib.hid (by rw[hw''];exact HA.out.trans ((below_regrown _ dq osq).mono HA.out.size))
 clear hw''
 go_wp2_with fail
 go_ret
 exact⟨by simp,H9.out⟩
end
section
open Go.RowKit
theorem exprs_any (nm:ByteArray→Bool)(hN:NameLaw nm Laid)(n:Nat)(a:Option Addr)(c:Nat)(xs:List ET)(w:World)(hs:Pak.Sits (exprSh n) (Pak.Lo w.heap.size) w a xs)(hL:Laid w):
 BoolAll 66 #[.slice a xs.length c] (xs.all (snE nm n)) w:=fun W hW=>by
 have X:=Lib.hid (allE_any n 60 (snE nm n) a xs.length c xs W (fun args w=>by kernel_rfl) rfl (hs.below hW hW.size) (fun cs x V hx hv hr=>soundE_any hN n x cs V hr ((hL.up hW).up hv)))
 clear hs hL hW
 generalize xs.all (snE nm n)=z at X
 generalize xs.length=m at X
 go_enter Tryd.func66,Tryd.ntmps66
 go_wp2_with fail
 refine X.out.mono ?_
 rintro r w2 ⟨rfl,hb⟩
 have HB:=Lib.hid hb
 clear hb X
 go_wp2_with fail
 go_ret
 exact⟨rfl,HB.out⟩
theorem stmts_box (a:Option Addr)(m c:Nat)(z:Bool)(w:World)(hall:BoolAll 43 #[.slice a m c,.func (.func 44) #[] #[]] z w):BoolAll 69 #[.slice a m c] z w:=fun W hW=>by
 have X:=Lib.hid (hall.at hW)
 clear hall hW
 go_enter Tryd.func69,Tryd.ntmps69
 go_wp2_with fail
 refine X.out.mono ?_
 rintro r w2 ⟨rfl,hb⟩
 have HB:=Lib.hid hb
 clear hb X
 go_wp2_with fail
 go_ret
 exact⟨rfl,HB.out⟩
def snS (nm:ByteArray→Bool):Nat→ST→Bool
 | 0,_=>false
 | n+1,s=>
   if 0≤s.p.kind∧s.p.kind<10 then
    nmS nm s.p.kind.toNat s.p && (bif hasB s.p.kind.toNat 8 then snE nm n s.p.e else noE s.p.e) && (bif hasB s.p.kind.toNat 16 then snE nm n s.p.v else noE s.p.v) && (bif hasB s.p.kind.toNat 32 then snC nm n s.p.c else noC s.p.c) && (bif hasB s.p.kind.toNat 64 then snA nm n s.p.a else noA nm n s.p.a)
     && (bif (s.p.kind.toNat == 9) then s.p.args.all (snE nm n) else s.p.args.length == 0) && (bif (s.p.kind.toNat == 9) then s.p.ghosts.all (snE nm n) else s.p.ghosts.length == 0)
     && (bif hasB s.p.kind.toNat 256 then s.body.all (snS nm n) else s.body.length == 0) && (bif hasB s.p.kind.toNat 512 then s.els.all (snS nm n) else s.els.length == 0)
   else false
theorem soundS_x (k:Int)(cs:List Value)(w:World)(q0:cs[0]? =some (.int .i64 k))(h:¬(0≤k∧k<10)):Calls Tryd.prog 44 #[.agg cs.toArray] w (SoundEnd false w):=by
 have k0:=box_at (t:=63) q0 (Below.refl _ (w.alloc (.cells cs.toArray 63)))
 clear q0
 by_cases h0:k<0
 ·clear h
  go_enter Tryd.func44,Tryd.ntmps44
  go_wp2_with fail
  go_ret
  exact⟨rfl,box_low⟩
 ·have h1:decide (k<0)=false:=decide_eq_false h0
  have h2:k ≥ 10:=by omega
  clear h h0
  go_enter Tryd.func44,Tryd.ntmps44
  go_wp2_with fail
  go_ret
  exact⟨rfl,box_low⟩
theorem soundS_any {nm:ByteArray→Bool}(hN:NameLaw nm Laid):∀(n:Nat) (s:ST) (cs:List Value) (w:World),(stmtSh n).rel (Pak.Lo w.heap.size) w cs s→Laid w→
 Calls Tryd.prog 44 #[.agg cs.toArray] w (SoundEnd (snS nm n s) w)
 | 0,_,_,_,h,_=>h.elim
 | n+1,s,cs,w,h,hL=>by
   have IH:=soundS_any hN n
   obtain⟨ce,cv,cc,ca,a1,a2,a3,a4,a5,c1,c2,c3,c4,c5,H⟩:=stmt_is h
   unfold snS
   by_cases hk:0≤s.p.kind∧s.p.kind<10
   ·rw[if_pos hk]
    have q0:=H.kind
    obtain⟨k,hkk⟩:∃k:Nat,s.p.kind=k:=⟨s.p.kind.toNat,by omega⟩
    rw[hkk]at q0 hk⊢
    have hk10:k<10:=by omega
    rw[Int.toNat_natCast]
    have hB:Below w.heap.size w (w.alloc (.cells cs.toArray 63)):=box_low
    have hH:∀what,BoolAll 57 #[.int .i64 what,.pointer (some ⟨w.heap.size,0,none⟩)] (hasB k what) (w.alloc (.cells cs.toArray 63)):=fun what W hW=>has_any k what _ W hk10 ((hL.up hB).up hW) (box_at q0 hW)
    have hnm:∀(x:ByteArray),x.size≤maxLen→BoolAll 40 #[.string x] (nm x) (w.alloc (.cells cs.toArray 63)):=fun x hx W hW=>hN.run x W hx ((hL.up hB).up hW)
    have ft:∀(b:Bool) (x:ByteArray),x.size≤maxLen→BoolAll 81 #[.bool b,.string x,.func (.func 40) #[] #[],.func (.func 80) #[] #[]] (bif b then nm x else x.toList.isEmpty) (w.alloc (.cells cs.toArray 63)):=fun b x hx=>fitsT_any b x 40 80 _ _ _ (fun args w=>by kernel_rfl) (fun args w=>by kernel_rfl) (hnm x hx) (noName_any x _)
    have ra:=rel_low H.ra hB
    have re:=rel_low H.re hB
    have rv:=rel_low H.rv hB
    have rc:=rel_low H.rc hB
    have sc:=fun(z:ET) (l:List Value) (hl:l.length=4) (b:Bool) (hr:(exprSh n).rel (Pak.Lo (w.alloc (.cells cs.toArray 63)).heap.size) (w.alloc (.cells cs.toArray 63)) l z)=>fitsE_any b l hl 60 61 (snE nm n z) (noE z) (w.alloc (.cells cs.toArray 63)) (fun args w=>by kernel_rfl) (fun args w=>by kernel_rfl) (fun W hW=>soundE_any hN n z l W (rel_low hr hW) ((hL.up hB).up hW)) (fun W hW=>noE_any n z l W (rel_low hr hW))
    have ex:=fun(b:Bool) (xs:List ET) (a:Option Addr) (c:Nat) (hs:Pak.Sits (exprSh n) (Pak.Lo w.heap.size) w a xs)=>fitsEs_any b a xs.length c 66 67 _ _ (w.alloc (.cells cs.toArray 63)) (fun args w=>by kernel_rfl) (fun args w=>by kernel_rfl) (exprs_any nm hN n a c xs _ (hs.below hB hB.size) (hL.up hB)) (noneE_any a xs.length c _)
    have ss:=fun(b:Bool) (xs:List ST) (a:Option Addr) (c:Nat) (hs:Pak.Sits (stmtSh n) (Pak.Lo w.heap.size) w a xs)=>fitsSs_any b a xs.length c 69 70 _ _ (w.alloc (.cells cs.toArray 63)) (fun args w=>by kernel_rfl) (fun args w=>by kernel_rfl) (stmts_box a xs.length c (xs.all (snS nm n)) _ (fun W hW=>allS_any n 44 (snS nm n) a xs.length c xs W (fun args w=>by kernel_rfl) rfl (hs.below (hB.trans (hW.mono hB.size)) (Nat.le_trans hB.size hW.size)) (fun cs x V hx hv hr=>IH x cs V hr (((hL.up hB).up hW).up hv)))) (noneS_any a xs.length c _)
    exact soundS_box k cs ce cv cc ca a1 a2 a4 a5 _ _ _ _ c1 c2 c4 c5 _ _ _ _ _ _ _ _ _ _ _ _ _ _ _ _ w hk10 rfl H.len q0 H.pe H.pv H.pc H.pa H.args H.ghosts H.body H.els
     (((exprSh n).len H.re).trans (exprSh_k n)) (((exprSh n).len H.rv).trans (exprSh_k n)) (((condSh n).len H.rc).trans (condSh_k n)) (((assnSh n).len H.ra).trans (assnSh_k n))
     (fun W hW=>names_box k s.p.name s.p.field s.p.callee cs a3 _ c3 w.heap.size _ _ _ _ _ _ _ _ _ W q0 H.name H.field H.callee H.fields ((hnm _ H.nums.2.1).up hW) ((hH 1).up hW) ((hH 2).up hW) ((hH 4).up hW) ((hH 128).up hW) ((ft _ _ H.nums.2.1).up hW) ((ft _ _ H.nums.2.2.1).up hW) ((ft _ _ H.nums.2.2.2).up hW)
       (fun V hV=>allT_any 40 nm a3 _ c3 s.p.fields V (fun args w=>by kernel_rfl) rfl (H.rfields.below (hB.trans (hW.mono hB.size) |>.trans (hV.mono (Nat.le_trans hB.size hW.size))) (Nat.le_trans hB.size (Nat.le_trans hW.size hV.size))) (fun x U hx hz hu=>hN.run x U hz ((((hL.up hB).up hW).up hV).up hu))))
     (hH 8) (hH 16) (hH 32) (hH 64) (hH 256) (hH 512)
     (sc s.p.e ce (((exprSh n).len H.re).trans (exprSh_k n)) _ re) (sc s.p.v cv (((exprSh n).len H.rv).trans (exprSh_k n)) _ rv)
     (fitsC_any _ cc (((condSh n).len H.rc).trans (condSh_k n)) 55 56 (snC nm n s.p.c) (noC s.p.c) _ (fun args w=>by kernel_rfl) (fun args w=>by kernel_rfl) (fun W hW=>soundC_any hN n s.p.c cc W (rel_low rc hW) ((hL.up hB).up hW)) (fun W hW=>noC_any n s.p.c cc W (rel_low rc hW)))
     (fitsA_any _ ca (((assnSh n).len H.ra).trans (assnSh_k n)) 42 64 (snA nm n s.p.a) (noA nm n s.p.a) _ (fun args w=>by kernel_rfl) (fun args w=>by kernel_rfl) (fun W hW=>soundA_any hN n s.p.a ca W (rel_low ra hW) ((hL.up hB).up hW)) (fun W hW=>noA_any hN n s.p.a ca W (rel_low ra hW) ((hL.up hB).up hW)))
     (ex _ _ _ _ H.rargs) (ex _ _ _ _ H.rghosts) (ss _ _ _ _ H.rbody) (ss _ _ _ _ H.rels)
   ·rw[if_neg hk]
    exact soundS_x _ cs w H.kind hk
end
section
open Go.RowKit
theorem soundQ_box (cs ca cb:List Value)(s:ByteArray)(a1 a2 a3:Option Addr)(m1 m2 m3 c1 c2 c3:Nat)(z0 z1 z2 z3 z4 z5:Bool)(w:World)
 (q0:cs[0]? =some (.string s)) (q1:cs[1]? =some (.slice a1 m1 c1)) (q2:cs[2]? =some (.slice a2 m2 c2)) (p3:Part cs 3 ca) (p4:Part cs 18 cb) (q5:cs[33]? =some (.slice a3 m3 c3)) (l3:ca.length=15) (l4:cb.length=15)
 (x0:BoolAll 40 #[.string s] z0 w) (x1:BoolAll 41 #[.slice a1 m1 c1,.func (.func 40) #[] #[]] z1 w) (x2:BoolAll 41 #[.slice a2 m2 c2,.func (.func 40) #[] #[]] z2 w)
 (x3:BoolAll 42 #[.agg ca.toArray] z3 w) (x4:BoolAll 42 #[.agg cb.toArray] z4 w) (x5:BoolAll 43 #[.slice a3 m3 c3,.func (.func 44) #[] #[]] z5 w):
 Calls Tryd.prog 29 #[.agg cs.toArray] w (SoundEnd (z0 && z1 && z2 && z3 && z4 && z5) w):=by
 have HA:Hid (Below w.heap.size w (w.alloc (.cells cs.toArray 56))):=box_low
 have HB0:Hid (Below (w.alloc (.cells cs.toArray 56)).heap.size (w.alloc (.cells cs.toArray 56)) (w.alloc (.cells cs.toArray 56))):=Below.refl _ _
 have P0:=Lib.hid (fun W (hb:Below (w.alloc (.cells cs.toArray 56)).heap.size (w.alloc (.cells cs.toArray 56)) W)=>box_at q0 hb)
 have X0:=Lib.hid x0
 have P1:=Lib.hid (fun W (hb:Below (w.alloc (.cells cs.toArray 56)).heap.size (w.alloc (.cells cs.toArray 56)) W)=>box_at q1 hb)
 have X1:=Lib.hid x1
 have P2:=Lib.hid (fun W (hb:Below (w.alloc (.cells cs.toArray 56)).heap.size (w.alloc (.cells cs.toArray 56)) W)=>box_at q2 hb)
 have X2:=Lib.hid x2
 have P3:=Lib.hid (fun W (hb:Below (w.alloc (.cells cs.toArray 56)).heap.size (w.alloc (.cells cs.toArray 56)) W)=>box_part p3 hb)
 have L3:=Lib.hid l3
 have X3:=Lib.hid x3
 have P4:=Lib.hid (fun W (hb:Below (w.alloc (.cells cs.toArray 56)).heap.size (w.alloc (.cells cs.toArray 56)) W)=>box_part p4 hb)
 have L4:=Lib.hid l4
 have X4:=Lib.hid x4
 have P5:=Lib.hid (fun W (hb:Below (w.alloc (.cells cs.toArray 56)).heap.size (w.alloc (.cells cs.toArray 56)) W)=>box_at q5 hb)
 have X5:=Lib.hid x5
 clear x0 x1 x2 x3 x4 x5 q0 q1 q2 p3 p4 q5 l3 l4
 go_enter Tryd.func29,Tryd.ntmps29
 have k0:=P0.out _ HB0.out
 go_wp2_with fail
 refine(X0.out.at HA.out).mono ?_
 rintro r w0 ⟨rfl,hb⟩
 have HB_0:=Lib.hid (HB0.out.trans (hb.mono HB0.out.size))
 have HW0:=Lib.hid (HA.out.trans (hb.mono HA.out.size))
 clear k0
 clear hb X0 P0
 cases z0 with
 | false=>
   clear X1 P1 X2 P2 X3 P3 X4 P4 X5 P5
   go_wp2_with fail
   go_ret
   exact⟨by simp,HW0.out⟩
 | true=>
 skip
 have k1:=P1.out _ HB_0.out
 go_wp2_with fail
 refine(X1.out.at HW0.out).mono ?_
 rintro r w1 ⟨rfl,hb⟩
 have HB_1:=Lib.hid (HB_0.out.trans (hb.mono HB_0.out.size))
 have HW1:=Lib.hid (HW0.out.trans (hb.mono HW0.out.size))
 clear k1
 clear hb X1 P1
 cases z1 with
 | false=>
   clear X2 P2 X3 P3 X4 P4 X5 P5
   go_wp2_with fail
   go_ret
   exact⟨by simp,HW1.out⟩
 | true=>
 skip
 have k2:=P2.out _ HB_1.out
 go_wp2_with fail
 refine(X2.out.at HW1.out).mono ?_
 rintro r w2 ⟨rfl,hb⟩
 have HB_2:=Lib.hid (HB_1.out.trans (hb.mono HB_1.out.size))
 have HW2:=Lib.hid (HW1.out.trans (hb.mono HW1.out.size))
 clear k2
 clear hb X2 P2
 cases z2 with
 | false=>
   clear X3 P3 X4 P4 X5 P5
   go_wp2_with fail
   go_ret
   exact⟨by simp,HW2.out⟩
 | true=>
 skip
 go_wp2_with (refine wpList_load_w rfl 30 _ rfl ⟨w.heap.size,3,none⟩ rfl ca _ (P3.out _ HB_2.out) Tryd.underlying30 rfl (by rw[L3.out];kernel_rfl) ?_)
 refine(X3.out.at HW2.out).mono ?_
 rintro r w3 ⟨rfl,hb⟩
 have HB_3:=Lib.hid (HB_2.out.trans (hb.mono HB_2.out.size))
 have HW3:=Lib.hid (HW2.out.trans (hb.mono HW2.out.size))
 clear hb X3 P3
 cases z3 with
 | false=>
   clear X4 P4 X5 P5
   go_wp2_with fail
   go_ret
   exact⟨by simp,HW3.out⟩
 | true=>
 skip
 go_wp2_with (refine wpList_load_w rfl 30 _ rfl ⟨w.heap.size,18,none⟩ rfl cb _ (P4.out _ HB_3.out) Tryd.underlying30 rfl (by rw[L4.out];kernel_rfl) ?_)
 refine(X4.out.at HW3.out).mono ?_
 rintro r w4 ⟨rfl,hb⟩
 have HB_4:=Lib.hid (HB_3.out.trans (hb.mono HB_3.out.size))
 have HW4:=Lib.hid (HW3.out.trans (hb.mono HW3.out.size))
 clear hb X4 P4
 cases z4 with
 | false=>
   clear X5 P5
   go_wp2_with fail
   go_ret
   exact⟨by simp,HW4.out⟩
 | true=>
 skip
 have k5:=P5.out _ HB_4.out
 go_wp2_with fail
 refine(X5.out.at HW4.out).mono ?_
 rintro r w5 ⟨rfl,hb⟩
 have HB_5:=Lib.hid (HB_4.out.trans (hb.mono HB_4.out.size))
 have HW5:=Lib.hid (HW4.out.trans (hb.mono HW4.out.size))
 clear k5
 clear hb X5 P5
 go_wp2_with fail
 go_ret
 exact⟨by simp,HW5.out⟩
def snQ (nm:ByteArray→Bool)(n:Nat)(q:QT):Bool:=nm q.name && q.params.all nm && q.ghosts.all nm && snA nm n q.pre && snA nm n q.post && q.body.all (snS nm n)
theorem soundQ_any {nm:ByteArray→Bool}(hN:NameLaw nm Laid)(n:Nat)(q:QT)(cs:List Value)(w:World)(h:(procSh n).rel (Pak.Lo w.heap.size) w cs q)(hL:Laid w):Calls Tryd.prog 29 #[.agg cs.toArray] w (SoundEnd (snQ nm n q) w):=by
 obtain⟨ca,cb,a1,a2,a3,c1,c2,c3,H⟩:=proc_is h
 exact soundQ_box cs ca cb q.name a1 a2 a3 _ _ _ c1 c2 c3 _ _ _ _ _ _ w H.name H.params H.ghosts H.pre H.post H.body (((assnSh n).len H.rpre).trans (assnSh_k n)) (((assnSh n).len H.rpost).trans (assnSh_k n))
  (fun W hW=>hN.run _ W H.num (hL.up hW))
  (fun W hW=>allT_any 40 nm a1 _ c1 q.params W (fun args w=>by kernel_rfl) rfl (H.rparams.below hW hW.size) (fun x U hx hz hu=>hN.run x U hz ((hL.up hW).up hu)))
  (fun W hW=>allT_any 40 nm a2 _ c2 q.ghosts W (fun args w=>by kernel_rfl) rfl (H.rghosts.below hW hW.size) (fun x U hx hz hu=>hN.run x U hz ((hL.up hW).up hu)))
  (fun W hW=>soundA_any hN n q.pre ca W (rel_low H.rpre hW) (hL.up hW)) (fun W hW=>soundA_any hN n q.post cb W (rel_low H.rpost hW) (hL.up hW))
  (fun W hW=>allS_any n 44 (snS nm n) a3 _ c3 q.body W (fun args w=>by kernel_rfl) rfl (H.rbody.below hW hW.size) (fun cs x V hx hv hr=>soundS_any hN n x cs V hr ((hL.up hW).up hv)))
def dpQ (q:QT):Bool:=dpA 100 q.pre || dpA 100 q.post || q.body.any (dpS 100)
def chkQ (nm:ByteArray→Bool)(n:Nat)(qs:List QT):Int:=bif qs.any dpQ then 4 else(bif qs.all (snQ nm n) then 0 else 5)
def erV (k:Int):Value:=if k=0 then .nilIface else .iface 57 (.int .i64 k)
def ErrIn (k:Int)(w:World)(r:Ending)(w':World):Prop:=r= .returned (erV k)∧Below w.heap.size w w'
theorem check_box (a:Option Addr)(m cap n:Nat)(qs:List QT)(zS:Bool)(w:World)(hm:qs.length=m)(hs:Pak.Sits (procSh n) (Pak.Lo w.heap.size) w a qs)
 (hS:BoolAll 28 #[.slice a m cap,.func (.func 29) #[] #[]] zS w):
 Calls Tryd.prog 17 #[.agg #[.slice a m cap]] w (ErrIn (bif qs.any dpQ then 4 else(bif zS then 0 else 5)) w):=by
 have HA0:Hid (Below w.heap.size w (w.alloc (.cells #[.slice a m cap] 71))):=box_low
 have HS:=Lib.hid hs
 have HM:=Lib.hid hm
 have HSS:=Lib.hid hS
 have hmm:m≤9223372036854775807:=by rw[←hm];exact hs.1
 have HHIT:Hid (∀j,(h:j<qs.length)→dpQ qs[j]=true→qs.any dpQ=true):=fun j h e=>any_hit h e
 have HMISS:Hid ((∀j,(h:j<qs.length)→dpQ qs[j]=false)→qs.any dpQ=false):=fun h=>any_miss h
 have HCL:Hid (∀W,Below (w.alloc (.cells #[.slice a m cap] 71)).heap.size (w.alloc (.cells #[.slice a m cap] 71)) W→W.cell? ⟨w.heap.size,0,none⟩=some (.slice a m cap)):=fun W hb=>box_at (cs:=[.slice a m cap]) rfl hb
 clear hs hm hS
 generalize qs.any dpQ=zD at HHIT HMISS
 go_enter Tryd.func17,Tryd.ntmps17
 go_wp2_with fail
 go_loopw [8] (fun i wr=>∃j:Nat,j≤m∧i= .int .i64 j∧Hid (∀q,(h:q<qs.length)→q<j→dpQ qs[q]=false)∧Hid (Below (w.alloc (.cells #[.slice a m cap] 71)).heap.size (w.alloc (.cells #[.slice a m cap] 71)) wr)) (fun i _=>m - (intOf i).toNat)
 case atStart=>exact⟨0,Nat.zero_le _,rfl,fun q _ h=>absurd h (Nat.not_lt_zero _),Below.refl _ _⟩
 case round=>
  obtain⟨j,hj,rfl,hno,hb⟩:=hrel
  obtain⟨wo,rfl⟩:∃wo:World,wo=wr:=⟨_,rfl⟩
  have HWO:=Lib.hid (HA0.out.trans (hb.out.mono HA0.out.size))
  by_cases hlt:j<m
  ·have hlx:j<qs.length:=by rw[HM.out];exact hlt
   have hji:(j:Int)<(m:Int):=by omega
   obtain⟨b,off,cs,rfl,hbl,hc,hr⟩:=(HS.out.below HWO.out HWO.out.size).2 j hlx
   have hlen:=(procSh n).len hr
   have hone:=(procSh n).one hr
   rw[procSh_k]at hlen hc
   have HC0:Hid (∀i v,cs[i]? =some v→wo.cell? ((⟨b,off+j*34,none⟩:Addr).add i)=some v):=fun i v hv=>by
    rw[show(⟨b,off+j*34,none⟩:Addr).add i=⟨b,off+j*34+i,none⟩ by unfold Addr.add;split<;>simp_all]
    exact hc i v hv
   have hA:Below wo.heap.size wo (wo.alloc (.cells cs.toArray 56)):=box_low
   obtain⟨ca,cb,a1,a2,a3,c1,c2,c3,H⟩:=proc_is hr
   have P1:=Lib.hid (fun W (hb:Below (wo.alloc (.cells cs.toArray 56)).heap.size (wo.alloc (.cells cs.toArray 56)) W)=>box_part H.pre hb)
   have P2:=Lib.hid (fun W (hb:Below (wo.alloc (.cells cs.toArray 56)).heap.size (wo.alloc (.cells cs.toArray 56)) W)=>box_part H.post hb)
   have P3:=Lib.hid (fun W (hb:Below (wo.alloc (.cells cs.toArray 56)).heap.size (wo.alloc (.cells cs.toArray 56)) W)=>box_at H.body hb)
   have L1:=Lib.hid (((assnSh n).len H.rpre).trans (assnSh_k n))
   have L2:=Lib.hid (((assnSh n).len H.rpost).trans (assnSh_k n))
   have X1:Hid (BoolAll 25 #[.agg ca.toArray,.int .i64 100] (dpA 100 qs[j].pre) (wo.alloc (.cells cs.toArray 56))):=Lib.hid (fun W hW=>deepA_any n 100 qs[j].pre ca W (by decide) (rel_low (rel_low H.rpre hA) hW))
   have X2:Hid (BoolAll 25 #[.agg cb.toArray,.int .i64 100] (dpA 100 qs[j].post) (wo.alloc (.cells cs.toArray 56))):=Lib.hid (fun W hW=>deepA_any n 100 qs[j].post cb W (by decide) (rel_low (rel_low H.rpost hA) hW))
   have X3:Hid (BoolAll 26 #[.slice a3 qs[j].body.length c3,.int .i64 100,.func (.func 27) #[] #[]] (qs[j].body.any (dpS 100)) (wo.alloc (.cells cs.toArray 56))):=Lib.hid (fun W hW=>someS_any n 27 100 (dpS 100) a3 _ c3 qs[j].body W (fun args w=>by kernel_rfl) rfl ((H.rbody.below hA hA.size).below hW hW.size) (fun cs x V hx hv hr=>deepS_any n 100 x cs V (by decide) hr))
   have HL:=Lib.hid hlen
   have HO:=Lib.hid hone
   have HH:Hid ((dpA 100 qs[j].pre || dpA 100 qs[j].post || qs[j].body.any (dpS 100))=true→zD=true):=Lib.hid (HHIT.out j hlx)
   have HN:Hid ((dpA 100 qs[j].pre || dpA 100 qs[j].post || qs[j].body.any (dpS 100))=false→∀q,(h:q<qs.length)→q<j+1→dpQ qs[q]=false):=fun h q hq hlq=>by
    by_cases e:q=j
    ·subst e;exact h
    ·exact hno.out q hq (by omega)
   have HB:=Lib.hid (hb.out.trans (hA.mono hb.out.size))
   have HB0:Hid (Below (wo.alloc (.cells cs.toArray 56)).heap.size (wo.alloc (.cells cs.toArray 56)) (wo.alloc (.cells cs.toArray 56))):=Below.refl _ _
   clear hc hr hlen hone H hA
   generalize dpA 100 qs[j].pre=z1 at X1 HH HN
   generalize dpA 100 qs[j].post=z2 at X2 HH HN
   generalize qs[j].body.any (dpS 100)=z3 at X3 HH HN
   generalize qs[j].body.length=m3 at X3 P3
   go_wp2_with (first | (refine wpList_store_new rfl 56 _ _ rfl _ rfl cs rfl (by rw[HL.out];kernel_rfl) (by rw[HL.out];rfl) HO.out ?_) | (refine wpList_load_w rfl 56 _ rfl ⟨b,off+j*34,none⟩ rfl cs _ HC0.out Tryd.underlying56 rfl (by rw[HL.out];kernel_rfl) ?_) | (refine wpList_load_w rfl 30 _ rfl ⟨wo.heap.size,3,none⟩ rfl ca _ (P1.out _ HB0.out) Tryd.underlying30 rfl (by rw[L1.out];kernel_rfl) ?_))
   refine(X1.out.at HB0.out).mono ?_
   rintro r w1 ⟨rfl,hb1⟩
   have B1:=Lib.hid hb1
   have HB1:=Lib.hid (HB.out.trans (hb1.mono HB.out.size))
   clear hb1 X1 P1 HC0
   cases z1 with
   | true=>
     obtain rfl:=HH.out rfl
     have HZ:=Lib.hid (HA0.out.trans (HB1.out.mono HA0.out.size))
     clear HH HN X2 X3 P2 P3
     go_wp2_with fail
     go_ret
     exact⟨rfl,HZ.out⟩
   | false=>
   go_wp2_with (refine wpList_load_w rfl 30 _ rfl ⟨wo.heap.size,18,none⟩ rfl cb _ (P2.out _ B1.out) Tryd.underlying30 rfl (by rw[L2.out];kernel_rfl) ?_)
   refine(X2.out.at B1.out).mono ?_
   rintro r w2 ⟨rfl,hb1⟩
   have B2:=Lib.hid (B1.out.trans (hb1.mono B1.out.size))
   have HB2:=Lib.hid (HB1.out.trans (hb1.mono HB1.out.size))
   clear hb1 X2 P2
   cases z2 with
   | true=>
     obtain rfl:=HH.out rfl
     have HZ:=Lib.hid (HA0.out.trans (HB2.out.mono HA0.out.size))
     clear HH HN X3 P3
     go_wp2_with fail
     go_ret
     exact⟨rfl,HZ.out⟩
   | false=>
   have k3:=P3.out _ B2.out
   go_wp2_with fail
   refine(X3.out.at B2.out).mono ?_
   rintro r w3 ⟨rfl,hb1⟩
   have HB3:=Lib.hid (HB2.out.trans (hb1.mono HB2.out.size))
   clear hb1 X3 P3 k3
   cases z3 with
   | true=>
     obtain rfl:=HH.out rfl
     have HZ:=Lib.hid (HA0.out.trans (HB3.out.mono HA0.out.size))
     clear HH HN
     go_wp2_with fail
     go_ret
     exact⟨rfl,HZ.out⟩
   | false=>
     have HN2:=Lib.hid (HN.out rfl)
     clear HH HN
     go_wp2_with fail
     go_roundw
     case rel=>exact⟨j+1,by omega,by go_num,HN2,HB3⟩
     case measure=>simp[intOf];omega
  ·obtain rfl:j=m:=by omega
   obtain rfl:=HMISS.out (fun q hq=>hno.out q hq (by rw[HM.out]at hq;exact hq))
   have k0:=HCL.out _ hb.out
   go_wp2_with fail
   refine(HSS.out.at HWO.out).mono ?_
   rintro r w3 ⟨rfl,hb1⟩
   have HZ:=Lib.hid (HWO.out.trans (hb1.mono HWO.out.size))
   clear hb1 HSS k0
   cases zS with
   | true=>
     go_wp2_with fail
     go_ret
     exact⟨rfl,HZ.out⟩
   | false=>
     go_wp2_with fail
     go_ret
     exact⟨rfl,HZ.out⟩
theorem check_prog {nm:ByteArray→Bool}(hN:NameLaw nm Laid)(n:Nat)(qs:List QT)(a:Option Addr)(cap:Nat)(w:World)(hs:Pak.Sits (procSh n) (Pak.Lo w.heap.size) w a qs)(hL:Laid w):
 Calls Tryd.prog 17 #[.agg #[.slice a qs.length cap]] w (ErrIn (chkQ nm n qs) w):=
 check_box a qs.length cap n qs _ w rfl hs (fun W hW=>allQ_any n 29 (snQ nm n) a qs.length cap qs W (fun args w=>by kernel_rfl) rfl (hs.below hW hW.size) (fun cs x V hx hv hr=>soundQ_any hN n x cs V hr ((hL.up hW).up hv)))
end
section
open Go.RowKit
structure AssnIs (n:Nat)(S:Nat→Prop)(w:World)(cs:List Value)(s:AT)(cc ce cv:List Value)(a:Option Addr)(c:Nat):Prop where
 len:cs.length=15
 one:∀u∈cs,u.oneCell'=true
 nums:i64 s.kind∧i64 s.n∧s.field.size≤maxLen
 kind:cs[0]? =some (.int .i64 s.kind)
 pc:Part cs 1 cc
 pe:Part cs 4 ce
 pv:Part cs 8 cv
 field:cs[12]? =some (.string s.field)
 num:cs[13]? =some (.int .i64 s.n)
 kids:cs[14]? =some (.slice a s.ks.length c)
 rc:(condSh n).rel S w cc s.c
 re:(exprSh n).rel S w ce s.e
 rv:(exprSh n).rel S w cv s.v
 rkids:Pak.Sits (assnSh n) S w a s.ks
 lc:cc.length=3
 le:ce.length=4
 lv:cv.length=4
theorem assn_is {n:Nat}{S:Nat→Prop}{w:World}{cs:List Value}{s:AT}(h:(assnSh (n+1)).rel S w cs s):∃cc ce cv a c,AssnIs n S w cs s cc ce cv a c:=by
 have hlen:=(assnSh (n+1)).len h
 have hone:=(assnSh (n+1)).one h
 rw[assnSh_k]at hlen
 obtain⟨cc,ce,cv,v,e,hn,h1,h2,h3,⟨a,c,rfl,s1⟩⟩:=h
 have l1:=(condSh n).len h1
 have l2:=(exprSh n).len h2
 have l3:=(exprSh n).len h3
 rw[condSh_k]at l1
 rw[exprSh_k]at l2 l3
 have p1:Part cs 1 (cc ++ (ce ++ (cv ++ [.string s.field,.int .i64 s.n,.slice a s.ks.length c]))):=by rw[e];exact part_right [_] _
 have p2:=p1.of (part_right cc _)
 rw[l1]at p2
 have p3:=p2.of (part_right ce _)
 rw[l2]at p3
 have p4:=p3.of (part_right cv _)
 rw[l3]at p4
 exact⟨cc,ce,cv,a,c,hlen,hone,hn,by rw[e];rfl,p1.of (part_left cc _),p2.of (part_left ce _),p3.of (part_left cv _),p4.at (j:=0) rfl,p4.at (j:=1) rfl,p4.at (j:=2) rfl,h1,h2,h3,s1,l1,l2,l3⟩
end
section
open Go.RowKit
theorem slot_imp {T:Type}{sh sh':Pak.Sh T}{S:Nat→Prop}{w:World}{v:Value}{xs:List T}(hk:sh'.k=sh.k)(h:∀cs x,sh.rel S w cs x→sh'.rel S w cs x)(hs:Pak.Slot sh S w v xs):Pak.Slot sh' S w v xs:=by
 obtain⟨a,cap,e,h1,h2⟩:=hs
 refine⟨a,cap,e,h1,fun i hi=> ?_⟩
 obtain⟨b,off,cs,e,hb,hc,hr⟩:=h2 i hi
 exact⟨b,off,cs,e,hb,by rw[hk];exact hc,h cs _ hr⟩
theorem exprSh_up:∀(n:Nat) {S:Nat→Prop} {w:World} {cs:List Value} {e:ET},(exprSh n).rel S w cs e→(exprSh (n+1)).rel S w cs e
 | 0,_,_,_,_,h=>h.elim
 | n+1,S,w,cs,e,⟨v,h1,h2,h3⟩=>⟨v,h1,h2,slot_imp (by rw[exprSh_k,exprSh_k]) (fun cs x h=>exprSh_up n h) h3⟩
theorem condSh_up:∀(n:Nat) {S:Nat→Prop} {w:World} {cs:List Value} {e:CT},(condSh n).rel S w cs e→(condSh (n+1)).rel S w cs e
 | 0,_,_,_,_,h=>h.elim
 | n+1,S,w,cs,e,⟨u,v,h1,h2,h3,h4⟩=>⟨u,v,h1,h2,slot_imp (by rw[exprSh_k,exprSh_k]) (fun cs x h=>exprSh_up n h) h3,slot_imp (by rw[condSh_k,condSh_k]) (fun cs x h=>condSh_up n h) h4⟩
theorem assnSh_up:∀(n:Nat) {S:Nat→Prop} {w:World} {cs:List Value} {e:AT},(assnSh n).rel S w cs e→(assnSh (n+1)).rel S w cs e
 | 0,_,_,_,_,h=>h.elim
 | n+1,S,w,cs,e,⟨cc,ce,cv,v,h1,h2,h3,h4,h5,h6⟩=>⟨cc,ce,cv,v,h1,h2,condSh_up n h3,exprSh_up n h4,exprSh_up n h5,slot_imp (by rw[assnSh_k,assnSh_k]) (fun cs x h=>assnSh_up n h) h6⟩
def zE:ET:= .mk 0 0 ⟨#[]⟩ []
def zC:CT:= .mk 0 [] []
def zA:AT:= .mk 0 zC zE zE ⟨#[]⟩ 0 []
def zEc:List Value:=[.int .i64 0,.int .i64 0,.string ⟨#[]⟩,.slice none 0 0]
def zCc:List Value:=[.int .i64 0,.slice none 0 0,.slice none 0 0]
def zAc:List Value:=[.int .i64 0,.int .i64 0,.slice none 0 0,.slice none 0 0,.int .i64 0,.int .i64 0,.string ⟨#[]⟩,.slice none 0 0,.int .i64 0,.int .i64 0,.string ⟨#[]⟩,.slice none 0 0,.string ⟨#[]⟩,.int .i64 0,.slice none 0 0]
theorem slot_nil {T:Type}(sh:Pak.Sh T)(S:Nat→Prop)(w:World):Pak.Slot sh S w (.slice none 0 0) []:=⟨none,0,rfl,Pak.Sits.nil _ _ _ _⟩
theorem i64_0:i64 0:=⟨by decide,by decide⟩
theorem zE_rel (n:Nat)(S:Nat→Prop)(w:World):(exprSh (n+1)).rel S w zEc zE:=⟨_,rfl,⟨i64_0,i64_0,Nat.zero_le _⟩,slot_nil _ _ _⟩
theorem zC_rel (n:Nat)(S:Nat→Prop)(w:World):(condSh (n+1)).rel S w zCc zC:=⟨_,_,rfl,i64_0,slot_nil _ _ _,slot_nil _ _ _⟩
theorem zA_rel (n:Nat)(S:Nat→Prop)(w:World):(assnSh (n+2)).rel S w zAc zA:=⟨zCc,zEc,zEc,_,rfl,⟨i64_0,i64_0,Nat.zero_le _⟩,zC_rel n S w,zE_rel n S w,zE_rel n S w,slot_nil _ _ _⟩
def sSet (e:ET):ST:= .mk ⟨1,⟨#[120]⟩,⟨#[]⟩,⟨#[]⟩,e,zE,zC,zA,[],[],[]⟩ [] []
def pOf (a:AT)(l:List ST):QT:=⟨⟨#[112]⟩,[],[],a,zA,l⟩
theorem sSet_rel {n:Nat}{S:Nat→Prop}{w:World}{ce:List Value}{e:ET}(h:(exprSh (n+2)).rel S w ce e):(stmtSh (n+3)).rel S w ([.int .i64 1,.string ⟨#[120]⟩,.string ⟨#[]⟩,.string ⟨#[]⟩] ++ (ce ++ (zEc ++ (zCc ++ (zAc ++ [.slice none 0 0,.slice none 0 0,.slice none 0 0,.slice none 0 0,.slice none 0 0]))))) (sSet e):=
 ⟨ce,zEc,zCc,zAc,_,_,_,_,_,rfl,⟨show(-9223372036854775808≤(1:Int)∧(1:Int)≤9223372036854775807) from⟨by decide,by decide⟩,show(⟨#[120]⟩:ByteArray).size≤maxLen from by decide,Nat.zero_le _,Nat.zero_le _⟩,⟨h,zE_rel (n+1) S w,zC_rel (n+1) S w,zA_rel n S w⟩,⟨slot_nil _ _ _,slot_nil _ _ _,slot_nil _ _ _⟩,slot_nil _ _ _,slot_nil _ _ _⟩
theorem sits_block {T:Type}{sh:Pak.Sh T}{S:Nat→Prop}{W:World}{g:Nat}{cs:List Value}{t:TypeId}{x:T}(hg:W.heap[g]? =some (.cells cs.toArray t (0,0)))(hS:S g)(h:sh.rel S W cs x):Pak.Sits sh S W (some ⟨g,0,none⟩) [x]:=
 ⟨show 1≤9223372036854775807 from by decide,fun i hi=>by
   have h0:i=0:=by simpa using hi
   subst h0
   refine⟨g,0,cs,rfl,hS,fun j u hu=> ?_,h⟩
   rw[Nat.zero_mul,Nat.add_zero,Nat.zero_add,cell_of_row _ _ _ _ _ _ hg]
   rw[List.getElem?_toArray];exact hu⟩
def nmB (s:ByteArray):Bool:=nameB s.data.toList
theorem nmLaw:NameLaw nmB Laid:=⟨fun s w hs hL=>name_any s w hs hL,fun h hb=>h.up hb⟩
theorem fold_put:∀(l P R:List Value),R.length=l.length→List.foldl (fun(cs:Array Value) (x:Value×Nat)=>cs.setIfInBounds x.2 x.1) (P ++ R).toArray (l.zipIdx P.length)=(P ++ l).toArray
 | [],P,R,h=>by rw[List.eq_nil_of_length_eq_zero h];rfl
 | x :: l,P,[],h=>by cases h
 | x :: l,P,y :: R,h=>by
   rw[List.zipIdx_cons,List.foldl_cons]
   have e:((P ++ y :: R).toArray).setIfInBounds P.length x=((P ++ [x]) ++ R).toArray:=by
    rw[List.setIfInBounds_toArray]
    congr 1
    rw[List.set_append_right _ _ (Nat.le_refl _),Nat.sub_self,List.set_cons_zero]
    simp
   rw[e]
   have:=fold_put l (P ++ [x]) R (by simpa using h)
   rw[List.length_append]at this
   rw[show P.length+1=P.length+[x].length from rfl,this]
   simp
theorem refused_box (x0:Value)(r:List Value)(k:Int)(w:World)(hlen:r.length=33)(hone:∀u∈r,u.oneCell'=true)
 (hck:∀W g,Below w.heap.size w W→W.heap[g]? =some (.cells (.string ⟨#[112]⟩ :: r).toArray 56 (0,0))→Calls Tryd.prog 17 #[.agg #[.slice (some ⟨g,0,none⟩) 1 1]] W (ErrIn k W)):
 Calls Tryd.prog 10 #[.agg (x0 :: r).toArray] w (SoundEnd (!(k == 0)) w):=by
 have HA1:Hid (Below w.heap.size w (w.alloc (.cells (.string ⟨#[112]⟩ :: r).toArray 56))):=box_low
 have HA2:Hid (Below w.heap.size w ((w.alloc (.cells (.string ⟨#[112]⟩ :: r).toArray 56)).alloc (.cells (.string ⟨#[112]⟩ :: r).toArray 56))):=Lib.hid (HA1.out.alloc (by simp) _)
 have HX:Hid (∀i v,(.string ⟨#[112]⟩ :: r:List Value)[i]? =some v→(w.alloc (.cells (.string ⟨#[112]⟩ :: r).toArray 56)).cell? ((⟨w.heap.size,0,none⟩:Addr).add i)=some v):=box_part (o:=0) (fun i v h=>by rw[Nat.zero_add];exact h) (Below.refl _ _)
 have HC:=Lib.hid (hck _ (w.heap.size+1) HA2.out (by have:=heap_alloc_new (w.alloc (.cells (.string ⟨#[112]⟩ :: r).toArray 56)) (.cells (.string ⟨#[112]⟩ :: r).toArray 56);rwa [show(w.alloc (.cells (.string ⟨#[112]⟩ :: r).toArray 56)).heap.size=w.heap.size+1 by simp]at this))
 have HL:Hid ((.string ⟨#[112]⟩ :: r:List Value).length=34):=Lib.hid (by simp[hlen])
 have n1:=fun W=>Tryd.neNil W
 have n2:=fun t v W=>Tryd.neIface t v W
 have hfold:List.foldl (fun(cs:Array Value) (x:Value×Nat)=>cs.setIfInBounds x.2 x.1) #[.string ⟨#[112]⟩,.slice none 0 0,.slice none 0 0,.int .i64 0,.int .i64 0,.slice none 0 0,.slice none 0 0,.int .i64 0,.int .i64 0,.string ⟨#[]⟩,.slice none 0 0,.int .i64 0,.int .i64 0,.string ⟨#[]⟩,.slice none 0 0,.string ⟨#[]⟩,.int .i64 0,.slice none 0 0,.int .i64 0,.int .i64 0,.slice none 0 0,.slice none 0 0,.int .i64 0,.int .i64 0,.string ⟨#[]⟩,.slice none 0 0,.int .i64 0,.int .i64 0,.string ⟨#[]⟩,.slice none 0 0,.string ⟨#[]⟩,.int .i64 0,.slice none 0 0,.slice none 0 0] (r.zipIdx 1)=(.string ⟨#[112]⟩ :: r).toArray:=fold_put r [.string ⟨#[112]⟩] ([.slice none 0 0,.slice none 0 0] ++ (zAc ++ (zAc ++ [.slice none 0 0]))) (by rw[hlen];rfl)
 clear hck
 go_enter Tryd.func10,Tryd.ntmps10
 go_wp2_with (first | go_skip | (refine wpList_load_w (by kernel_rfl) 56 _ rfl ⟨w.heap.size,0,none⟩ rfl (.string ⟨#[112]⟩ :: r) _ HX.out Tryd.underlying56 rfl (by rw[HL.out];kernel_rfl) ?_))
 refine HC.out.mono ?_
 rintro r2 w2 ⟨rfl,hb⟩
 have HB:=Lib.hid (HA2.out.trans (hb.mono HA2.out.size))
 clear hb HC
 by_cases hk:k=0
 ·have hv:erV k= .nilIface:=if_pos hk
  have hz:(k == 0)=true:=by rw[hk];rfl
  have HZ:=Lib.hid hz
  rw[hv]
  clear hv hz hk
  go_wp2_with fail
  go_ret
  exact⟨by rw[HZ.out];rfl,HB.out⟩
 ·have hv:erV k= .iface 57 (.int .i64 k):=if_neg hk
  have hz:(k == 0)=false:=beq_eq_false_iff_ne.2 hk
  have HZ:=Lib.hid hz
  rw[hv]
  clear hv hz hk
  go_wp2_with fail
  go_ret
  exact⟨by rw[HZ.out];rfl,HB.out⟩
end
section
open Go.RowKit
def getR (hs:List HC)(k:Key):Int×Bool:=match hs.find? (fun c=>decide (hkey c=k))with | some c=>(c.v,true) | none=>(0,false)
def getE (b:Bool):Value:=if b=true then .nilIface else .iface 57 (.int .i64 15)
theorem getR_no {hs:List HC}{k:Key}(h:∀j,j<hs.length→hkey (hs.getD j hc0)≠k):getR hs k=(0,false):=by
 have:hs.find? (fun c=>decide (hkey c=k))=none:=List.find?_eq_none.2 fun c hc=>by
  obtain⟨i,hi,rfl⟩:=List.getElem_of_mem hc
  have:=h i hi
  rw[List.getD_eq_getElem?_getD,List.getElem?_eq_getElem hi]at this
  simpa using this
 unfold getR
 rw[this]
theorem getR_yes:∀ {hs:List HC} {k:Key} {i:Nat},Stand hs→i<hs.length→hkey (hs.getD i hc0)=k→getR hs k=((hs.getD i hc0).v,true):=by
 intro hs k i hst hi hk
 unfold getR
 have e:hs.find? (fun c=>decide (hkey c=k))=some (hs.getD i hc0):=by
  rw[List.find?_eq_some_iff_getElem]
  refine⟨by simpa using hk,i,hi,by rw[List.getD_eq_getElem?_getD,List.getElem?_eq_getElem hi];rfl,fun j hj=> ?_⟩
  have hlt:=hst.lt hj hi
  rw[hk]at hlt
  have hj2:j<hs.length:=by omega
  have:hs.getD j hc0=hs[j]:=by rw[List.getD_eq_getElem?_getD,List.getElem?_eq_getElem hj2];rfl
  rw[this]at hlt
  have hne:=kl_ne hlt
  simpa using hne
 rw[e]
theorem hget_any (hs:List HC)(ad:Option Addr)(n cap:Nat)(a:Int)(f:ByteArray)(w:World)(hn:hs.length=n)(hnm:n≤1000000)(hl:HLies w.heap.size w ad hs)(hst:Stand hs):
 ValAll 31 #[.slice ad n cap,.int .i64 a,.string f] (.tuple #[.int .i64 (getR hs (a,f.toList)).1,getE (getR hs (a,f.toList)).2]) w:=fun W hW=>
 (get_any hs ad n cap a f W hn hnm ((hl.below hW).mono hW.size) hst).mono fun e w' ⟨x,er,he,hi,hb⟩=>by
   refine⟨?_,hb⟩
   rw[he]
   cases hi with
   | yes i hi hk=>rw[getR_yes hst hi hk];rfl
   | no hno=>rw[getR_no hno];rfl
end
section
open Go.RowKit
structure TkO (g:Nat)(vv cv:Value)(ys:List HC)(hb:Bool)(ob:Option Nat)(w:World):Prop where
 c0:w.cell? ⟨g,0,none⟩=some vv
 c1:w.cell? ⟨g,1,none⟩=some cv
 row:∃v,w.cell? ⟨g,2,none⟩=some v∧SRow (g+1) ys v w∧v.ownBlock=ob
 c3:w.cell? ⟨g,3,none⟩=some (.bool hb)
 fz:∀o,w.frozen? ⟨g,o,none⟩=false
theorem TkO.lt {g:Nat}{vv cv:Value}{ys:List HC}{hb:Bool}{ob:Option Nat}{w:World}(h:TkO g vv cv ys hb ob w):g<w.heap.size:=block_lt_of_cell (a:=⟨g,0,none⟩) h.c0
theorem TkO.ob_lt {g:Nat}{vv cv:Value}{ys:List HC}{hb:Bool}{ob:Option Nat}{w:World}(h:TkO g vv cv ys hb ob w):∀k,ob=some k→g<k∧k<w.heap.size:=by
 obtain⟨v,_,hr,rfl⟩:=h.row
 intro k hk
 have:=World.ownsRow.lt hr k hk
 omega
theorem TkO.below {g:Nat}{vv cv:Value}{ys:List HC}{hb:Bool}{ob:Option Nat}{w w':World}(h:TkO g vv cv ys hb ob w)(hB:Below w.heap.size w w'):TkO g vv cv ys hb ob w':=by
 obtain⟨v,h2,hr,ho⟩:=h.row
 have hg:=h.lt
 exact⟨(hB.cell (p:=⟨g,0,none⟩) hg).trans h.c0,(hB.cell (p:=⟨g,1,none⟩) hg).trans h.c1,⟨v,(hB.cell (p:=⟨g,2,none⟩) hg).trans h2,hr.below hB,ho⟩,(hB.cell (p:=⟨g,3,none⟩) hg).trans h.c3,fun o=>(hB.frozen (p:=⟨g,o,none⟩) hg).trans (h.fz o)⟩
theorem TkO.hold {g:Nat}{vv cv:Value}{ys:List HC}{hb:Bool}{ob:Option Nat}{w:World}(h:TkO g vv cv ys hb ob w)(b:Bool):TkO g vv cv ys b ob (w.setCell ⟨g,3,none⟩ (.bool b)):=by
 obtain⟨v,h2,hr,ho⟩:=h.row
 refine⟨?_, ?_,⟨v, ?_, ?_,ho⟩,World.cell?_setCell_same _ _ _ h.c3,fun o=>by rw[World.frozen?_setCell];exact h.fz o⟩
 ·rw[World.cell?_setCell_other _ _ _ _ (by simp)];exact h.c0
 ·rw[World.cell?_setCell_other _ _ _ _ (by simp)];exact h.c1
 ·rw[World.cell?_setCell_other _ _ _ _ (by simp)];exact h2
 ·exact ownsRow_setCell_below hr (by simp) _
structure Kp (g:Nat)(ob:Option Nat)(w w':World):Prop where
 low:Below g w w'
 cell:∀p:Addr,p.block<w.heap.size→p.block≠g→some p.block≠ob→w'.cell? p=w.cell? p
theorem Kp.of {g:Nat}{ob:Option Nat}{w w':World}(h:Below w.heap.size w w')(hg:g<w.heap.size):Kp g ob w w':=
 ⟨h.mono (Nat.le_of_lt hg),fun p hp _ _=>h.cell hp⟩
def New (ob ob':Option Nat)(n:Nat):Prop:=ob'=ob∨∃k,ob'=some k∧n≤k
theorem New.trans {a b c:Option Nat}{n m:Nat}(h:New a b n)(h2:New b c m)(hm:n≤m):New a c n:=by
 rcases h2 with rfl | ⟨k,rfl,hk⟩
 ·exact h
 ·exact .inr ⟨k,rfl,Nat.le_trans hm hk⟩
theorem Kp.trans {g:Nat}{ob ob1:Option Nat}{w w1 w2:World}(h:Kp g ob w w1)(h2:Kp g ob1 w1 w2)(hn:New ob ob1 w.heap.size):Kp g ob w w2:=
 ⟨h.low.trans h2.low,fun p hp hg ho=>(h2.cell p (Nat.lt_of_lt_of_le hp h.low.size) hg (by
   rcases hn with rfl | ⟨k,rfl,hk⟩
   ·exact ho
   ·intro e
    have:=Option.some.inj e
    omega)).trans (h.cell p hp hg ho)⟩
theorem Kp.below {g:Nat}{ob:Option Nat}{w w1 w2:World}(h:Kp g ob w w1)(h2:Below w1.heap.size w1 w2)(hg:g<w.heap.size):Kp g ob w w2:=
 h.trans (Kp.of h2 (Nat.lt_of_lt_of_le hg h.low.size)) (.inl rfl)
theorem Kp.set {g:Nat}{ob:Option Nat}{w w1:World}(h:Kp g ob w w1)(o:Nat)(u:Value):Kp g ob w (w1.setCell ⟨g,o,none⟩ u):=
 ⟨h.low.setCell (Nat.le_refl _) u,fun p hp hg ho=>by
   have hne:p≠⟨g,o,none⟩:=fun e=>hg (by rw[e])
   have hb:(w1.setCell ⟨g,o,none⟩ u).cell? p=w1.cell? p:=World.cell?_of_block (Below.heap_setCell _ _ _ _ hg)
   exact hb.trans (h.cell p hp hg ho)⟩
def TkEnd (g:Nat)(vv cv:Value)(ys:List HC)(hb:Bool)(ob:Option Nat)(z:Bool)(w:World)(r:Ending)(w':World):Prop:=
 r= .returned (.bool z)∧Kp g ob w w'∧∃ob',TkO g vv cv ys hb ob' w'∧New ob ob' w.heap.size
theorem TkO.push {g:Nat}{vv cv:Value}{ys:List HC}{hb:Bool}{ob:Option Nat}{w:World}(h:TkO g vv cv ys hb ob w)(c:HC)(hsz:ys.length≤1000000):
 ∃v gg cap w',w.cell? ⟨g,2,none⟩=some v∧(∀ty,(Builtin.append_ #[35,35] ty #[v,.slice (some ⟨w.heap.size,0,none⟩) 1 1]).run Tryd.prog (w.alloc (.cells #[.int .i64 c.a,.string c.f,.int .i64 c.v] 43))= .ok (.slice (some ⟨gg,0,none⟩) (ys.length+1) cap) w')∧
  w'.cell? ⟨g,2,none⟩=some v∧w'.frozen? ⟨g,2,none⟩=false∧Kp g ob w w'∧∃ob',TkO g vv cv (ys ++ [c]) hb ob' (w'.setCell ⟨g,2,none⟩ (.slice (some ⟨gg,0,none⟩) (ys.length+1) cap))∧New ob ob' w.heap.size:=by
 obtain⟨v,h2,hown,ho⟩:=h.row
 obtain⟨i0,hi,hz0,hz1,hz2⟩:=info_parts Tryd.infoShare
 have hg:=h.lt
 have hol:=h.ob_lt
 have hA:Below w.heap.size w (w.alloc (.cells #[.int .i64 c.a,.string c.f,.int .i64 c.v] 43)):=box_low
 have hown2:=hown.below hA
 have hl:HLies (w.alloc (.cells #[.int .i64 c.a,.string c.f,.int .i64 c.v] 43)).heap.size (w.alloc (.cells #[.int .i64 c.a,.string c.f,.int .i64 c.v] 43)) (some ⟨w.heap.size,0,none⟩) [c]:=(hlies_new w [c] 43).mono (by simp)
 obtain⟨b,off,hadr,_,hc⟩:=hl.cells (by simp)
 obtain⟨rfl,rfl⟩:w.heap.size=b∧0=off:=by simpa using hadr
 have hH:(w.alloc (.cells #[.int .i64 c.a,.string c.f,.int .i64 c.v] 43)).heap.size=w.heap.size+1:=by simp
 obtain⟨gg,cap,w',hr,h1,hgr,hat,hlt⟩:=run_append_lies (P:=Tryd.prog) (w:=w.alloc (.cells #[.int .i64 c.a,.string c.f,.int .i64 c.v] 43)) 35 0 (g+1) 43 i0 _ 3 32 Tryd.underlying35 hi hz0 hz1 hz2 rfl (by decide) v ys.length (hcells ys) hown2 ⟨w.heap.size,0,none⟩ 1 1 (hcells [c]) (by rw[hcells_len];simp)
  (fun j u hu=>by rw[show(⟨w.heap.size,0,none⟩:Addr).add j=⟨w.heap.size,0+j,none⟩ by unfold Addr.add;split<;>simp_all];exact hc j u hu) (hcells_one [c]) (by omega) (by unfold maxLen;omega) (by omega) (by omega) _ hH
 have hgo:some g≠ob:=fun e=>by have:=hol g e.symm;omega
 rw[ho]at hgr hat
 have hblk:∀k,k<w.heap.size→some k≠ob→w'.heap[k]? =w.heap[k]? :=fun k hk hko=>(hgr.block k (by omega) hko).trans (hA.block k hk)
 have hcell:∀o,w'.cell? ⟨g,o,none⟩=w.cell? ⟨g,o,none⟩:=fun o=>World.cell?_of_block (hblk g hg hgo)
 have hfz:∀o,w'.frozen? ⟨g,o,none⟩=w.frozen? ⟨g,o,none⟩:=fun o=>World.frozen?_of_block (hblk g hg hgo)
 have hK:Kp g ob w w':=⟨(hA.mono (Nat.le_of_lt hg)).grown hgr (by omega) (fun k hk=>by have:=hol k hk;omega),fun p hp hpg hpo=>World.cell?_of_block (hblk p.block hp hpo)⟩
 have hgg:some gg=ob∨gg=w.heap.size+1:=by rcases hat with e | e;exact .inl e.symm;exact .inr e
 have hggn:gg≠g:=fun e=>by rcases hgg with h' | h';exact hgo (by rw[←e];exact h');omega
 refine⟨v,gg,cap,w',h2,fun ty=>hr,(hcell 2).trans h2,(hfz 2).trans (h.fz 2),hK,some gg,⟨?_, ?_,⟨_,World.cell?_setCell_same _ _ _ ((hcell 2).trans h2), ?_,rfl⟩, ?_,fun o=>by rw[World.frozen?_setCell];exact(hfz o).trans (h.fz o)⟩, ?_⟩
 ·rw[World.cell?_setCell_other _ _ _ _ (by simp)];exact(hcell 0).trans h.c0
 ·rw[World.cell?_setCell_other _ _ _ _ (by simp)];exact(hcell 1).trans h.c1
 ·refine ownsRow_setCell_below ?_ (by simp) _
  rw[List.length_append,hcells_append]
  exact h1
 ·rw[World.cell?_setCell_other _ _ _ _ (by simp)];exact(hcell 3).trans h.c3
 ·rcases hgg with e | e
  ·exact .inl e
  ·exact .inr ⟨gg,rfl,by omega⟩
end
end Go.Proofs.YtfinhpfjokpcfaaDoor
