/- Parts of a proof. -/
import Derived.Test.YtfcaclmcnlflfaaGreatDoorV01
import Derived.Test.YtfcaclmcnlflfaaGreatDoorV02
import Derived.Test.YtfcaclmcnlflfaaGreatDoorV03
import Derived.Test.YtfcaclmcnlflfaaGreatDoorQ10
import Derived.Test.YtfcaclmcnlflfaaGreatDoorQ07
import Derived.Test.YtfcaclmcnlflfaaGreatDoorQ08
set_option linter.unusedVariables false
set_option linter.unusedSimpArgs false
set_option maxHeartbeats 60000000
set_option maxRecDepth 100000
namespace Go.Proofs.YtfcaclmcnlflfaaGreatDoor
section
open Go.RowKit
theorem textS_5e (cs ce:List Value)(E:ByteArray)(sE:E.size≤10000000000)(F:ByteArray)(sF:F.size≤10000000000)(w:World)(q0:cs[0]? =some (.int .i64 5))(q1:cs[1]? =some (.string ⟨#[]⟩))(q2:cs[2]? =some (.string F))(pe:Part cs 4 ce)(le:ce.length=4)
 (hE:ValAll 54 #[.agg ce.toArray] (.string E) w):
 Calls Tryz.prog 56 #[.agg cs.toArray] w fun r w'=>r= .returned (.string (⟨#[102,114,101,101,32]⟩ ++ (E ++ ⟨#[32,46,32]⟩ ++ F) ++ ⟨#[32,59]⟩))∧Below w.heap.size w w':=by
 have HA:Hid (Below w.heap.size w (w.alloc (.cells cs.toArray 47))):=box_low
 have k1:=box_at (t:=47) q1 (Below.refl _ (w.alloc (.cells cs.toArray 47)))
 have Q0:=Lib.hid (fun W (hb:Below (w.alloc (.cells cs.toArray 47)).heap.size (w.alloc (.cells cs.toArray 47)) W)=>box_at q0 hb)
 have PE:=Lib.hid (fun W (hb:Below (w.alloc (.cells cs.toArray 47)).heap.size (w.alloc (.cells cs.toArray 47)) W)=>box_part pe hb)
 have LE:=Lib.hid le
 have k2:=fun d os=>cell_regrown (box_at (t:=47) q2 (Below.refl _ (w.alloc (.cells cs.toArray 47)))) d os
 have rE:=(hE.up HA.out).reg
 have HE:=Lib.hid (hE.up HA.out)
 have p1:¬((E:ByteArray).size+(⟨#[32,46,32]⟩:ByteArray).size > 9223372036854775807):=by
  simp only[size_app,size_lit,brk_size,List.size_toArray,List.length_cons,List.length_nil];omega
 have p2:¬((E ++ ⟨#[32,46,32]⟩:ByteArray).size+(F:ByteArray).size > 9223372036854775807):=by
  simp only[size_app,size_lit,brk_size,List.size_toArray,List.length_cons,List.length_nil];omega
 have s1:¬((⟨#[102,114,101,101,32]⟩:ByteArray).size+((E ++ ⟨#[32,46,32]⟩ ++ F):ByteArray).size > 9223372036854775807):=by
  simp only[size_app,size_lit,brk_size,List.size_toArray,List.length_cons,List.length_nil];omega
 have s2:¬((⟨#[102,114,101,101,32]⟩ ++ (E ++ ⟨#[32,46,32]⟩ ++ F):ByteArray).size+(⟨#[32,59]⟩:ByteArray).size > 9223372036854775807):=by
  simp only[size_app,size_lit,brk_size,List.size_toArray,List.length_cons,List.length_nil];omega
 clear q0 q1 q2 pe le hE sE sF
 go_enter Tryz.func56,Tryz.ntmps56
 go_wp2_with fail
 refine wp_region_quiet_below (by kernel_rfl) (by kernel_rfl) ?_
 repeat (first | (go_big_quiet_step (first | with_reducible exact rE _ _)) | (refine wpQuiet_load_c 37 _ rfl ⟨w.heap.size,4,none⟩ rfl ce _ PE.out rfl Tryz.underlying37 rfl (by rw[LE.out];kernel_rfl) _ (by simp only[Act.put,List.setIfInBounds_toArray,List.set_cons_succ,List.set_cons_zero];rfl) ?_))
 refine wpQuiet_nil ?_
 intro w4 hw'
 obtain⟨⟨dq,osq⟩,hw''⟩:=hw'
 have HB4:Hid (Below (w.alloc (.cells cs.toArray 47)).heap.size (w.alloc (.cells cs.toArray 47)) w4):=Lib.hid (by rw[hw''];exact below_regrown _ dq osq)
 clear hw'' rE k1 k2
 have k0:=Q0.out _ HB4.out
 go_wp2_with fail
 go_ret
 exact⟨rfl,HA.out.trans (HB4.out.mono HA.out.size)⟩
theorem textS_5n (cs ce:List Value)(S:ByteArray)(sS:S.size≤10000000000)(hS:¬S=⟨#[]⟩)(E:ByteArray)(sE:E.size≤10000000000)(F:ByteArray)(sF:F.size≤10000000000)(w:World)(q0:cs[0]? =some (.int .i64 5))(q1:cs[1]? =some (.string S))(q2:cs[2]? =some (.string F))(pe:Part cs 4 ce)(le:ce.length=4)
 (hE:ValAll 54 #[.agg ce.toArray] (.string E) w):
 Calls Tryz.prog 56 #[.agg cs.toArray] w fun r w'=>r= .returned (.string (⟨#[102,114,101,101,32]⟩ ++ (E ++ ⟨#[32,46,32]⟩ ++ F) ++ ⟨#[32,59]⟩))∧Below w.heap.size w w':=by
 have HA:Hid (Below w.heap.size w (w.alloc (.cells cs.toArray 47))):=box_low
 have k1:=box_at (t:=47) q1 (Below.refl _ (w.alloc (.cells cs.toArray 47)))
 have Q0:=Lib.hid (fun W (hb:Below (w.alloc (.cells cs.toArray 47)).heap.size (w.alloc (.cells cs.toArray 47)) W)=>box_at q0 hb)
 have PE:=Lib.hid (fun W (hb:Below (w.alloc (.cells cs.toArray 47)).heap.size (w.alloc (.cells cs.toArray 47)) W)=>box_part pe hb)
 have LE:=Lib.hid le
 have k2:=fun d os=>cell_regrown (box_at (t:=47) q2 (Below.refl _ (w.alloc (.cells cs.toArray 47)))) d os
 have rE:=(hE.up HA.out).reg
 have HE:=Lib.hid (hE.up HA.out)
 have gS:(S.toList == [])=false:=by have:=nbs_ne hS;simpa using this
 have z1:¬(S.size+(⟨#[32,58,61,32]⟩:ByteArray).size > 9223372036854775807):=by
  simp only[size_app,size_lit,brk_size,List.size_toArray,List.length_cons,List.length_nil];omega
 have p1:¬((E:ByteArray).size+(⟨#[32,46,32]⟩:ByteArray).size > 9223372036854775807):=by
  simp only[size_app,size_lit,brk_size,List.size_toArray,List.length_cons,List.length_nil];omega
 have p2:¬((E ++ ⟨#[32,46,32]⟩:ByteArray).size+(F:ByteArray).size > 9223372036854775807):=by
  simp only[size_app,size_lit,brk_size,List.size_toArray,List.length_cons,List.length_nil];omega
 have s1:¬((⟨#[102,114,101,101,32]⟩:ByteArray).size+((E ++ ⟨#[32,46,32]⟩ ++ F):ByteArray).size > 9223372036854775807):=by
  simp only[size_app,size_lit,brk_size,List.size_toArray,List.length_cons,List.length_nil];omega
 have s2:¬((⟨#[102,114,101,101,32]⟩ ++ (E ++ ⟨#[32,46,32]⟩ ++ F):ByteArray).size+(⟨#[32,59]⟩:ByteArray).size > 9223372036854775807):=by
  simp only[size_app,size_lit,brk_size,List.size_toArray,List.length_cons,List.length_nil];omega
 clear q0 q1 q2 pe le hE sE sF hS sS
 go_enter Tryz.func56,Tryz.ntmps56
 go_wp2_with fail
 refine wp_region_quiet_below (by kernel_rfl) (by kernel_rfl) ?_
 repeat (first | (go_big_quiet_step (first | with_reducible exact rE _ _)) | (refine wpQuiet_load_c 37 _ rfl ⟨w.heap.size,4,none⟩ rfl ce _ PE.out rfl Tryz.underlying37 rfl (by rw[LE.out];kernel_rfl) _ (by simp only[Act.put,List.setIfInBounds_toArray,List.set_cons_succ,List.set_cons_zero];rfl) ?_))
 refine wpQuiet_nil ?_
 intro w4 hw'
 obtain⟨⟨dq,osq⟩,hw''⟩:=hw'
 have HB4:Hid (Below (w.alloc (.cells cs.toArray 47)).heap.size (w.alloc (.cells cs.toArray 47)) w4):=Lib.hid (by rw[hw''];exact below_regrown _ dq osq)
 clear hw'' rE k1 k2
 have k0:=Q0.out _ HB4.out
 go_wp2_with fail
 go_ret
 exact⟨rfl,HA.out.trans (HB4.out.mono HA.out.size)⟩
theorem textS_6e (cs ce cc:List Value)(E:ByteArray)(sE:E.size≤10000000000)(F:ByteArray)(sF:F.size≤10000000000)(C:ByteArray)(sC:C.size≤10000000000)(X:ByteArray)(sX:X.size≤10000000000)(Y:ByteArray)(sY:Y.size≤10000000000)(a33:Option Addr)(m33 c33:Nat)(a34:Option Addr)(m34 c34:Nat)(w:World)(q0:cs[0]? =some (.int .i64 6))(q1:cs[1]? =some (.string ⟨#[]⟩))(q2:cs[2]? =some (.string F))(pe:Part cs 4 ce)(le:ce.length=4)(pc:Part cs 12 cc)(lc:cc.length=3)(q33:cs[33]? =some (.slice a33 m33 c33))(q34:cs[34]? =some (.slice a34 m34 c34))
 (hE:ValAll 54 #[.agg ce.toArray] (.string E) w) (hC:ValAll 53 #[.agg cc.toArray] (.string C) w) (hX:ValAll 26 #[.slice a33 m33 c33] (.string X) w) (hY:ValAll 26 #[.slice a34 m34 c34] (.string Y) w):
 Calls Tryz.prog 56 #[.agg cs.toArray] w fun r w'=>r= .returned (.string (⟨#[105,102,32]⟩ ++ C ++ ⟨#[32]⟩ ++ X ++ ⟨#[32,101,108,115,101,32]⟩ ++ Y))∧Below w.heap.size w w':=by
 have HA:Hid (Below w.heap.size w (w.alloc (.cells cs.toArray 47))):=box_low
 have k1:=box_at (t:=47) q1 (Below.refl _ (w.alloc (.cells cs.toArray 47)))
 have Q0:=Lib.hid (fun W (hb:Below (w.alloc (.cells cs.toArray 47)).heap.size (w.alloc (.cells cs.toArray 47)) W)=>box_at q0 hb)
 have PE:=Lib.hid (fun W (hb:Below (w.alloc (.cells cs.toArray 47)).heap.size (w.alloc (.cells cs.toArray 47)) W)=>box_part pe hb)
 have LE:=Lib.hid le
 have Pc:=Lib.hid (fun W (hb:Below (w.alloc (.cells cs.toArray 47)).heap.size (w.alloc (.cells cs.toArray 47)) W)=>box_part pc hb)
 have Lc:=Lib.hid lc
 have Q33:=Lib.hid (fun W (hb:Below (w.alloc (.cells cs.toArray 47)).heap.size (w.alloc (.cells cs.toArray 47)) W)=>box_at q33 hb)
 have Q34:=Lib.hid (fun W (hb:Below (w.alloc (.cells cs.toArray 47)).heap.size (w.alloc (.cells cs.toArray 47)) W)=>box_at q34 hb)
 have k2:=fun d os=>cell_regrown (box_at (t:=47) q2 (Below.refl _ (w.alloc (.cells cs.toArray 47)))) d os
 have rE:=(hE.up HA.out).reg
 have HE:=Lib.hid (hE.up HA.out)
 have HC:=Lib.hid (hC.up HA.out)
 have HX:=Lib.hid (hX.up HA.out)
 have HY:=Lib.hid (hY.up HA.out)
 have p1:¬((E:ByteArray).size+(⟨#[32,46,32]⟩:ByteArray).size > 9223372036854775807):=by
  simp only[size_app,size_lit,brk_size,List.size_toArray,List.length_cons,List.length_nil];omega
 have p2:¬((E ++ ⟨#[32,46,32]⟩:ByteArray).size+(F:ByteArray).size > 9223372036854775807):=by
  simp only[size_app,size_lit,brk_size,List.size_toArray,List.length_cons,List.length_nil];omega
 have s1:¬((⟨#[105,102,32]⟩:ByteArray).size+(C:ByteArray).size > 9223372036854775807):=by
  simp only[size_app,size_lit,brk_size,List.size_toArray,List.length_cons,List.length_nil];omega
 have s2:¬((⟨#[105,102,32]⟩ ++ C:ByteArray).size+(⟨#[32]⟩:ByteArray).size > 9223372036854775807):=by
  simp only[size_app,size_lit,brk_size,List.size_toArray,List.length_cons,List.length_nil];omega
 have s3:¬((⟨#[105,102,32]⟩ ++ C ++ ⟨#[32]⟩:ByteArray).size+(X:ByteArray).size > 9223372036854775807):=by
  simp only[size_app,size_lit,brk_size,List.size_toArray,List.length_cons,List.length_nil];omega
 have s4:¬((⟨#[105,102,32]⟩ ++ C ++ ⟨#[32]⟩ ++ X:ByteArray).size+(⟨#[32,101,108,115,101,32]⟩:ByteArray).size > 9223372036854775807):=by
  simp only[size_app,size_lit,brk_size,List.size_toArray,List.length_cons,List.length_nil];omega
 have s5:¬((⟨#[105,102,32]⟩ ++ C ++ ⟨#[32]⟩ ++ X ++ ⟨#[32,101,108,115,101,32]⟩:ByteArray).size+(Y:ByteArray).size > 9223372036854775807):=by
  simp only[size_app,size_lit,brk_size,List.size_toArray,List.length_cons,List.length_nil];omega
 clear q0 q1 q2 pe le hE sE sF pc lc q33 q34 hC hX hY sC sX sY
 go_enter Tryz.func56,Tryz.ntmps56
 go_wp2_with fail
 refine wp_region_quiet_below (by kernel_rfl) (by kernel_rfl) ?_
 repeat (first | (go_big_quiet_step (first | with_reducible exact rE _ _)) | (refine wpQuiet_load_c 37 _ rfl ⟨w.heap.size,4,none⟩ rfl ce _ PE.out rfl Tryz.underlying37 rfl (by rw[LE.out];kernel_rfl) _ (by simp only[Act.put,List.setIfInBounds_toArray,List.set_cons_succ,List.set_cons_zero];rfl) ?_))
 refine wpQuiet_nil ?_
 intro w4 hw'
 obtain⟨⟨dq,osq⟩,hw''⟩:=hw'
 have HB4:Hid (Below (w.alloc (.cells cs.toArray 47)).heap.size (w.alloc (.cells cs.toArray 47)) w4):=Lib.hid (by rw[hw''];exact below_regrown _ dq osq)
 clear hw'' rE k1 k2
 have k0:=Q0.out _ HB4.out
 have rC:=(HC.out.up HB4.out).reg
 have rX:=(HX.out.up HB4.out).reg
 have rY:=(HY.out.up HB4.out).reg
 have d33:=fun d os=>cell_regrown (Q33.out _ HB4.out) d os
 have d34:=fun d os=>cell_regrown (Q34.out _ HB4.out) d os
 have Rc:=Lib.hid (fun W (hb:Below w4.heap.size w4 W)=>Pc.out W (HB4.out.trans (hb.mono HB4.out.size)))
 go_wp2_with fail
 refine wp_region_quiet_below (by kernel_rfl) (by kernel_rfl) ?_
 repeat (first | (go_big_quiet_step (first | with_reducible exact rC _ _ | with_reducible exact rX _ _ | with_reducible exact rY _ _)) | (refine wpQuiet_load_c 41 _ rfl ⟨w.heap.size,12,none⟩ rfl cc _ Rc.out rfl Tryz.underlying41 rfl (by rw[Lc.out];kernel_rfl) _ (by simp only[Act.put,List.setIfInBounds_toArray,List.set_cons_succ,List.set_cons_zero];rfl) ?_))
 refine wpQuiet_nil ?_
 intro w5 hw'
 obtain⟨⟨dq,osq⟩,hw''⟩:=hw'
 have HB5:Hid (Below w.heap.size w w5):=Lib.hid (by rw[hw''];exact HA.out.trans ((HB4.out.trans ((below_regrown _ dq osq).mono HB4.out.size)).mono HA.out.size))
 clear hw'' rC rX rY d33 d34 k0
 go_wp2_with fail
 go_ret
 exact⟨rfl,HB5.out⟩
theorem textS_6n (cs ce cc:List Value)(S:ByteArray)(sS:S.size≤10000000000)(hS:¬S=⟨#[]⟩)(E:ByteArray)(sE:E.size≤10000000000)(F:ByteArray)(sF:F.size≤10000000000)(C:ByteArray)(sC:C.size≤10000000000)(X:ByteArray)(sX:X.size≤10000000000)(Y:ByteArray)(sY:Y.size≤10000000000)(a33:Option Addr)(m33 c33:Nat)(a34:Option Addr)(m34 c34:Nat)(w:World)(q0:cs[0]? =some (.int .i64 6))(q1:cs[1]? =some (.string S))(q2:cs[2]? =some (.string F))(pe:Part cs 4 ce)(le:ce.length=4)(pc:Part cs 12 cc)(lc:cc.length=3)(q33:cs[33]? =some (.slice a33 m33 c33))(q34:cs[34]? =some (.slice a34 m34 c34))
 (hE:ValAll 54 #[.agg ce.toArray] (.string E) w) (hC:ValAll 53 #[.agg cc.toArray] (.string C) w) (hX:ValAll 26 #[.slice a33 m33 c33] (.string X) w) (hY:ValAll 26 #[.slice a34 m34 c34] (.string Y) w):
 Calls Tryz.prog 56 #[.agg cs.toArray] w fun r w'=>r= .returned (.string (⟨#[105,102,32]⟩ ++ C ++ ⟨#[32]⟩ ++ X ++ ⟨#[32,101,108,115,101,32]⟩ ++ Y))∧Below w.heap.size w w':=by
 have HA:Hid (Below w.heap.size w (w.alloc (.cells cs.toArray 47))):=box_low
 have k1:=box_at (t:=47) q1 (Below.refl _ (w.alloc (.cells cs.toArray 47)))
 have Q0:=Lib.hid (fun W (hb:Below (w.alloc (.cells cs.toArray 47)).heap.size (w.alloc (.cells cs.toArray 47)) W)=>box_at q0 hb)
 have PE:=Lib.hid (fun W (hb:Below (w.alloc (.cells cs.toArray 47)).heap.size (w.alloc (.cells cs.toArray 47)) W)=>box_part pe hb)
 have LE:=Lib.hid le
 have Pc:=Lib.hid (fun W (hb:Below (w.alloc (.cells cs.toArray 47)).heap.size (w.alloc (.cells cs.toArray 47)) W)=>box_part pc hb)
 have Lc:=Lib.hid lc
 have Q33:=Lib.hid (fun W (hb:Below (w.alloc (.cells cs.toArray 47)).heap.size (w.alloc (.cells cs.toArray 47)) W)=>box_at q33 hb)
 have Q34:=Lib.hid (fun W (hb:Below (w.alloc (.cells cs.toArray 47)).heap.size (w.alloc (.cells cs.toArray 47)) W)=>box_at q34 hb)
 have k2:=fun d os=>cell_regrown (box_at (t:=47) q2 (Below.refl _ (w.alloc (.cells cs.toArray 47)))) d os
 have rE:=(hE.up HA.out).reg
 have HE:=Lib.hid (hE.up HA.out)
 have HC:=Lib.hid (hC.up HA.out)
 have HX:=Lib.hid (hX.up HA.out)
 have HY:=Lib.hid (hY.up HA.out)
 have gS:(S.toList == [])=false:=by have:=nbs_ne hS;simpa using this
 have z1:¬(S.size+(⟨#[32,58,61,32]⟩:ByteArray).size > 9223372036854775807):=by
  simp only[size_app,size_lit,brk_size,List.size_toArray,List.length_cons,List.length_nil];omega
 have p1:¬((E:ByteArray).size+(⟨#[32,46,32]⟩:ByteArray).size > 9223372036854775807):=by
  simp only[size_app,size_lit,brk_size,List.size_toArray,List.length_cons,List.length_nil];omega
 have p2:¬((E ++ ⟨#[32,46,32]⟩:ByteArray).size+(F:ByteArray).size > 9223372036854775807):=by
  simp only[size_app,size_lit,brk_size,List.size_toArray,List.length_cons,List.length_nil];omega
 have s1:¬((⟨#[105,102,32]⟩:ByteArray).size+(C:ByteArray).size > 9223372036854775807):=by
  simp only[size_app,size_lit,brk_size,List.size_toArray,List.length_cons,List.length_nil];omega
 have s2:¬((⟨#[105,102,32]⟩ ++ C:ByteArray).size+(⟨#[32]⟩:ByteArray).size > 9223372036854775807):=by
  simp only[size_app,size_lit,brk_size,List.size_toArray,List.length_cons,List.length_nil];omega
 have s3:¬((⟨#[105,102,32]⟩ ++ C ++ ⟨#[32]⟩:ByteArray).size+(X:ByteArray).size > 9223372036854775807):=by
  simp only[size_app,size_lit,brk_size,List.size_toArray,List.length_cons,List.length_nil];omega
 have s4:¬((⟨#[105,102,32]⟩ ++ C ++ ⟨#[32]⟩ ++ X:ByteArray).size+(⟨#[32,101,108,115,101,32]⟩:ByteArray).size > 9223372036854775807):=by
  simp only[size_app,size_lit,brk_size,List.size_toArray,List.length_cons,List.length_nil];omega
 have s5:¬((⟨#[105,102,32]⟩ ++ C ++ ⟨#[32]⟩ ++ X ++ ⟨#[32,101,108,115,101,32]⟩:ByteArray).size+(Y:ByteArray).size > 9223372036854775807):=by
  simp only[size_app,size_lit,brk_size,List.size_toArray,List.length_cons,List.length_nil];omega
 clear q0 q1 q2 pe le hE sE sF hS sS pc lc q33 q34 hC hX hY sC sX sY
 go_enter Tryz.func56,Tryz.ntmps56
 go_wp2_with fail
 refine wp_region_quiet_below (by kernel_rfl) (by kernel_rfl) ?_
 repeat (first | (go_big_quiet_step (first | with_reducible exact rE _ _)) | (refine wpQuiet_load_c 37 _ rfl ⟨w.heap.size,4,none⟩ rfl ce _ PE.out rfl Tryz.underlying37 rfl (by rw[LE.out];kernel_rfl) _ (by simp only[Act.put,List.setIfInBounds_toArray,List.set_cons_succ,List.set_cons_zero];rfl) ?_))
 refine wpQuiet_nil ?_
 intro w4 hw'
 obtain⟨⟨dq,osq⟩,hw''⟩:=hw'
 have HB4:Hid (Below (w.alloc (.cells cs.toArray 47)).heap.size (w.alloc (.cells cs.toArray 47)) w4):=Lib.hid (by rw[hw''];exact below_regrown _ dq osq)
 clear hw'' rE k1 k2
 have k0:=Q0.out _ HB4.out
 have rC:=(HC.out.up HB4.out).reg
 have rX:=(HX.out.up HB4.out).reg
 have rY:=(HY.out.up HB4.out).reg
 have d33:=fun d os=>cell_regrown (Q33.out _ HB4.out) d os
 have d34:=fun d os=>cell_regrown (Q34.out _ HB4.out) d os
 have Rc:=Lib.hid (fun W (hb:Below w4.heap.size w4 W)=>Pc.out W (HB4.out.trans (hb.mono HB4.out.size)))
 go_wp2_with fail
 refine wp_region_quiet_below (by kernel_rfl) (by kernel_rfl) ?_
 repeat (first | (go_big_quiet_step (first | with_reducible exact rC _ _ | with_reducible exact rX _ _ | with_reducible exact rY _ _)) | (refine wpQuiet_load_c 41 _ rfl ⟨w.heap.size,12,none⟩ rfl cc _ Rc.out rfl Tryz.underlying41 rfl (by rw[Lc.out];kernel_rfl) _ (by simp only[Act.put,List.setIfInBounds_toArray,List.set_cons_succ,List.set_cons_zero];rfl) ?_))
 refine wpQuiet_nil ?_
 intro w5 hw'
 obtain⟨⟨dq,osq⟩,hw''⟩:=hw'
 have HB5:Hid (Below w.heap.size w w5):=Lib.hid (by rw[hw''];exact HA.out.trans ((HB4.out.trans ((below_regrown _ dq osq).mono HB4.out.size)).mono HA.out.size))
 clear hw'' rC rX rY d33 d34 k0
 go_wp2_with fail
 go_ret
 exact⟨rfl,HB5.out⟩
theorem textS_7e (cs ce cc ca:List Value)(E:ByteArray)(sE:E.size≤10000000000)(F:ByteArray)(sF:F.size≤10000000000)(C:ByteArray)(sC:C.size≤10000000000)(G:ByteArray)(sG:G.size≤10000000000)(X:ByteArray)(sX:X.size≤10000000000)(a33:Option Addr)(m33 c33:Nat)(w:World)(q0:cs[0]? =some (.int .i64 7))(q1:cs[1]? =some (.string ⟨#[]⟩))(q2:cs[2]? =some (.string F))(pe:Part cs 4 ce)(le:ce.length=4)(pc:Part cs 12 cc)(lc:cc.length=3)(pa:Part cs 15 ca)(la:ca.length=15)(q33:cs[33]? =some (.slice a33 m33 c33))
 (hE:ValAll 54 #[.agg ce.toArray] (.string E) w) (hC:ValAll 53 #[.agg cc.toArray] (.string C) w) (hG:ValAll 25 #[.agg ca.toArray] (.string G) w) (hX:ValAll 26 #[.slice a33 m33 c33] (.string X) w):
 Calls Tryz.prog 56 #[.agg cs.toArray] w fun r w'=>r= .returned (.string (⟨#[119,104,105,108,101,32]⟩ ++ C ++ ⟨#[32,105,110,118,97,114,105,97,110,116,32]⟩ ++ G ++ ⟨#[32]⟩ ++ X))∧Below w.heap.size w w':=by
 have HA:Hid (Below w.heap.size w (w.alloc (.cells cs.toArray 47))):=box_low
 have k1:=box_at (t:=47) q1 (Below.refl _ (w.alloc (.cells cs.toArray 47)))
 have Q0:=Lib.hid (fun W (hb:Below (w.alloc (.cells cs.toArray 47)).heap.size (w.alloc (.cells cs.toArray 47)) W)=>box_at q0 hb)
 have PE:=Lib.hid (fun W (hb:Below (w.alloc (.cells cs.toArray 47)).heap.size (w.alloc (.cells cs.toArray 47)) W)=>box_part pe hb)
 have LE:=Lib.hid le
 have Pc:=Lib.hid (fun W (hb:Below (w.alloc (.cells cs.toArray 47)).heap.size (w.alloc (.cells cs.toArray 47)) W)=>box_part pc hb)
 have Lc:=Lib.hid lc
 have Pa:=Lib.hid (fun W (hb:Below (w.alloc (.cells cs.toArray 47)).heap.size (w.alloc (.cells cs.toArray 47)) W)=>box_part pa hb)
 have La:=Lib.hid la
 have Q33:=Lib.hid (fun W (hb:Below (w.alloc (.cells cs.toArray 47)).heap.size (w.alloc (.cells cs.toArray 47)) W)=>box_at q33 hb)
 have k2:=fun d os=>cell_regrown (box_at (t:=47) q2 (Below.refl _ (w.alloc (.cells cs.toArray 47)))) d os
 have rE:=(hE.up HA.out).reg
 have HE:=Lib.hid (hE.up HA.out)
 have HC:=Lib.hid (hC.up HA.out)
 have HG:=Lib.hid (hG.up HA.out)
 have HX:=Lib.hid (hX.up HA.out)
 have p1:¬((E:ByteArray).size+(⟨#[32,46,32]⟩:ByteArray).size > 9223372036854775807):=by
  simp only[size_app,size_lit,brk_size,List.size_toArray,List.length_cons,List.length_nil];omega
 have p2:¬((E ++ ⟨#[32,46,32]⟩:ByteArray).size+(F:ByteArray).size > 9223372036854775807):=by
  simp only[size_app,size_lit,brk_size,List.size_toArray,List.length_cons,List.length_nil];omega
 have s1:¬((⟨#[119,104,105,108,101,32]⟩:ByteArray).size+(C:ByteArray).size > 9223372036854775807):=by
  simp only[size_app,size_lit,brk_size,List.size_toArray,List.length_cons,List.length_nil];omega
 have s2:¬((⟨#[119,104,105,108,101,32]⟩ ++ C:ByteArray).size+(⟨#[32,105,110,118,97,114,105,97,110,116,32]⟩:ByteArray).size > 9223372036854775807):=by
  simp only[size_app,size_lit,brk_size,List.size_toArray,List.length_cons,List.length_nil];omega
 have s3:¬((⟨#[119,104,105,108,101,32]⟩ ++ C ++ ⟨#[32,105,110,118,97,114,105,97,110,116,32]⟩:ByteArray).size+(G:ByteArray).size > 9223372036854775807):=by
  simp only[size_app,size_lit,brk_size,List.size_toArray,List.length_cons,List.length_nil];omega
 have s4:¬((⟨#[119,104,105,108,101,32]⟩ ++ C ++ ⟨#[32,105,110,118,97,114,105,97,110,116,32]⟩ ++ G:ByteArray).size+(⟨#[32]⟩:ByteArray).size > 9223372036854775807):=by
  simp only[size_app,size_lit,brk_size,List.size_toArray,List.length_cons,List.length_nil];omega
 have s5:¬((⟨#[119,104,105,108,101,32]⟩ ++ C ++ ⟨#[32,105,110,118,97,114,105,97,110,116,32]⟩ ++ G ++ ⟨#[32]⟩:ByteArray).size+(X:ByteArray).size > 9223372036854775807):=by
  simp only[size_app,size_lit,brk_size,List.size_toArray,List.length_cons,List.length_nil];omega
 clear q0 q1 q2 pe le hE sE sF pc lc pa la q33 hC hG hX sC sG sX
 go_enter Tryz.func56,Tryz.ntmps56
 go_wp2_with fail
 refine wp_region_quiet_below (by kernel_rfl) (by kernel_rfl) ?_
 repeat (first | (go_big_quiet_step (first | with_reducible exact rE _ _)) | (refine wpQuiet_load_c 37 _ rfl ⟨w.heap.size,4,none⟩ rfl ce _ PE.out rfl Tryz.underlying37 rfl (by rw[LE.out];kernel_rfl) _ (by simp only[Act.put,List.setIfInBounds_toArray,List.set_cons_succ,List.set_cons_zero];rfl) ?_))
 refine wpQuiet_nil ?_
 intro w4 hw'
 obtain⟨⟨dq,osq⟩,hw''⟩:=hw'
 have HB4:Hid (Below (w.alloc (.cells cs.toArray 47)).heap.size (w.alloc (.cells cs.toArray 47)) w4):=Lib.hid (by rw[hw''];exact below_regrown _ dq osq)
 clear hw'' rE k1 k2
 have k0:=Q0.out _ HB4.out
 have rC:=(HC.out.up HB4.out).reg
 have rG:=(HG.out.up HB4.out).reg
 have rX:=(HX.out.up HB4.out).reg
 have d33:=fun d os=>cell_regrown (Q33.out _ HB4.out) d os
 have Rc:=Lib.hid (fun W (hb:Below w4.heap.size w4 W)=>Pc.out W (HB4.out.trans (hb.mono HB4.out.size)))
 have Ra:=Lib.hid (fun W (hb:Below w4.heap.size w4 W)=>Pa.out W (HB4.out.trans (hb.mono HB4.out.size)))
 go_wp2_with fail
 refine wp_region_quiet_below (by kernel_rfl) (by kernel_rfl) ?_
 repeat (first | (go_big_quiet_step (first | with_reducible exact rC _ _ | with_reducible exact rG _ _ | with_reducible exact rX _ _)) | (refine wpQuiet_load_c 41 _ rfl ⟨w.heap.size,12,none⟩ rfl cc _ Rc.out rfl Tryz.underlying41 rfl (by rw[Lc.out];kernel_rfl) _ (by simp only[Act.put,List.setIfInBounds_toArray,List.set_cons_succ,List.set_cons_zero];rfl) ?_) | (refine wpQuiet_load_c 44 _ rfl ⟨w.heap.size,15,none⟩ rfl ca _ Ra.out rfl Tryz.underlying44 rfl (by rw[La.out];kernel_rfl) _ (by simp only[Act.put,List.setIfInBounds_toArray,List.set_cons_succ,List.set_cons_zero];rfl) ?_))
 refine wpQuiet_nil ?_
 intro w5 hw'
 obtain⟨⟨dq,osq⟩,hw''⟩:=hw'
 have HB5:Hid (Below w.heap.size w w5):=Lib.hid (by rw[hw''];exact HA.out.trans ((HB4.out.trans ((below_regrown _ dq osq).mono HB4.out.size)).mono HA.out.size))
 clear hw'' rC rG rX d33 k0
 go_wp2_with fail
 go_ret
 exact⟨rfl,HB5.out⟩
theorem textS_7n (cs ce cc ca:List Value)(S:ByteArray)(sS:S.size≤10000000000)(hS:¬S=⟨#[]⟩)(E:ByteArray)(sE:E.size≤10000000000)(F:ByteArray)(sF:F.size≤10000000000)(C:ByteArray)(sC:C.size≤10000000000)(G:ByteArray)(sG:G.size≤10000000000)(X:ByteArray)(sX:X.size≤10000000000)(a33:Option Addr)(m33 c33:Nat)(w:World)(q0:cs[0]? =some (.int .i64 7))(q1:cs[1]? =some (.string S))(q2:cs[2]? =some (.string F))(pe:Part cs 4 ce)(le:ce.length=4)(pc:Part cs 12 cc)(lc:cc.length=3)(pa:Part cs 15 ca)(la:ca.length=15)(q33:cs[33]? =some (.slice a33 m33 c33))
 (hE:ValAll 54 #[.agg ce.toArray] (.string E) w) (hC:ValAll 53 #[.agg cc.toArray] (.string C) w) (hG:ValAll 25 #[.agg ca.toArray] (.string G) w) (hX:ValAll 26 #[.slice a33 m33 c33] (.string X) w):
 Calls Tryz.prog 56 #[.agg cs.toArray] w fun r w'=>r= .returned (.string (⟨#[119,104,105,108,101,32]⟩ ++ C ++ ⟨#[32,105,110,118,97,114,105,97,110,116,32]⟩ ++ G ++ ⟨#[32]⟩ ++ X))∧Below w.heap.size w w':=by
 have HA:Hid (Below w.heap.size w (w.alloc (.cells cs.toArray 47))):=box_low
 have k1:=box_at (t:=47) q1 (Below.refl _ (w.alloc (.cells cs.toArray 47)))
 have Q0:=Lib.hid (fun W (hb:Below (w.alloc (.cells cs.toArray 47)).heap.size (w.alloc (.cells cs.toArray 47)) W)=>box_at q0 hb)
 have PE:=Lib.hid (fun W (hb:Below (w.alloc (.cells cs.toArray 47)).heap.size (w.alloc (.cells cs.toArray 47)) W)=>box_part pe hb)
 have LE:=Lib.hid le
 have Pc:=Lib.hid (fun W (hb:Below (w.alloc (.cells cs.toArray 47)).heap.size (w.alloc (.cells cs.toArray 47)) W)=>box_part pc hb)
 have Lc:=Lib.hid lc
 have Pa:=Lib.hid (fun W (hb:Below (w.alloc (.cells cs.toArray 47)).heap.size (w.alloc (.cells cs.toArray 47)) W)=>box_part pa hb)
 have La:=Lib.hid la
 have Q33:=Lib.hid (fun W (hb:Below (w.alloc (.cells cs.toArray 47)).heap.size (w.alloc (.cells cs.toArray 47)) W)=>box_at q33 hb)
 have k2:=fun d os=>cell_regrown (box_at (t:=47) q2 (Below.refl _ (w.alloc (.cells cs.toArray 47)))) d os
 have rE:=(hE.up HA.out).reg
 have HE:=Lib.hid (hE.up HA.out)
 have HC:=Lib.hid (hC.up HA.out)
 have HG:=Lib.hid (hG.up HA.out)
 have HX:=Lib.hid (hX.up HA.out)
 have gS:(S.toList == [])=false:=by have:=nbs_ne hS;simpa using this
 have z1:¬(S.size+(⟨#[32,58,61,32]⟩:ByteArray).size > 9223372036854775807):=by
  simp only[size_app,size_lit,brk_size,List.size_toArray,List.length_cons,List.length_nil];omega
 have p1:¬((E:ByteArray).size+(⟨#[32,46,32]⟩:ByteArray).size > 9223372036854775807):=by
  simp only[size_app,size_lit,brk_size,List.size_toArray,List.length_cons,List.length_nil];omega
 have p2:¬((E ++ ⟨#[32,46,32]⟩:ByteArray).size+(F:ByteArray).size > 9223372036854775807):=by
  simp only[size_app,size_lit,brk_size,List.size_toArray,List.length_cons,List.length_nil];omega
 have s1:¬((⟨#[119,104,105,108,101,32]⟩:ByteArray).size+(C:ByteArray).size > 9223372036854775807):=by
  simp only[size_app,size_lit,brk_size,List.size_toArray,List.length_cons,List.length_nil];omega
 have s2:¬((⟨#[119,104,105,108,101,32]⟩ ++ C:ByteArray).size+(⟨#[32,105,110,118,97,114,105,97,110,116,32]⟩:ByteArray).size > 9223372036854775807):=by
  simp only[size_app,size_lit,brk_size,List.size_toArray,List.length_cons,List.length_nil];omega
 have s3:¬((⟨#[119,104,105,108,101,32]⟩ ++ C ++ ⟨#[32,105,110,118,97,114,105,97,110,116,32]⟩:ByteArray).size+(G:ByteArray).size > 9223372036854775807):=by
  simp only[size_app,size_lit,brk_size,List.size_toArray,List.length_cons,List.length_nil];omega
 have s4:¬((⟨#[119,104,105,108,101,32]⟩ ++ C ++ ⟨#[32,105,110,118,97,114,105,97,110,116,32]⟩ ++ G:ByteArray).size+(⟨#[32]⟩:ByteArray).size > 9223372036854775807):=by
  simp only[size_app,size_lit,brk_size,List.size_toArray,List.length_cons,List.length_nil];omega
 have s5:¬((⟨#[119,104,105,108,101,32]⟩ ++ C ++ ⟨#[32,105,110,118,97,114,105,97,110,116,32]⟩ ++ G ++ ⟨#[32]⟩:ByteArray).size+(X:ByteArray).size > 9223372036854775807):=by
  simp only[size_app,size_lit,brk_size,List.size_toArray,List.length_cons,List.length_nil];omega
 clear q0 q1 q2 pe le hE sE sF hS sS pc lc pa la q33 hC hG hX sC sG sX
 go_enter Tryz.func56,Tryz.ntmps56
 go_wp2_with fail
 refine wp_region_quiet_below (by kernel_rfl) (by kernel_rfl) ?_
 repeat (first | (go_big_quiet_step (first | with_reducible exact rE _ _)) | (refine wpQuiet_load_c 37 _ rfl ⟨w.heap.size,4,none⟩ rfl ce _ PE.out rfl Tryz.underlying37 rfl (by rw[LE.out];kernel_rfl) _ (by simp only[Act.put,List.setIfInBounds_toArray,List.set_cons_succ,List.set_cons_zero];rfl) ?_))
 refine wpQuiet_nil ?_
 intro w4 hw'
 obtain⟨⟨dq,osq⟩,hw''⟩:=hw'
 have HB4:Hid (Below (w.alloc (.cells cs.toArray 47)).heap.size (w.alloc (.cells cs.toArray 47)) w4):=Lib.hid (by rw[hw''];exact below_regrown _ dq osq)
 clear hw'' rE k1 k2
 have k0:=Q0.out _ HB4.out
 have rC:=(HC.out.up HB4.out).reg
 have rG:=(HG.out.up HB4.out).reg
 have rX:=(HX.out.up HB4.out).reg
 have d33:=fun d os=>cell_regrown (Q33.out _ HB4.out) d os
 have Rc:=Lib.hid (fun W (hb:Below w4.heap.size w4 W)=>Pc.out W (HB4.out.trans (hb.mono HB4.out.size)))
 have Ra:=Lib.hid (fun W (hb:Below w4.heap.size w4 W)=>Pa.out W (HB4.out.trans (hb.mono HB4.out.size)))
 go_wp2_with fail
 refine wp_region_quiet_below (by kernel_rfl) (by kernel_rfl) ?_
 repeat (first | (go_big_quiet_step (first | with_reducible exact rC _ _ | with_reducible exact rG _ _ | with_reducible exact rX _ _)) | (refine wpQuiet_load_c 41 _ rfl ⟨w.heap.size,12,none⟩ rfl cc _ Rc.out rfl Tryz.underlying41 rfl (by rw[Lc.out];kernel_rfl) _ (by simp only[Act.put,List.setIfInBounds_toArray,List.set_cons_succ,List.set_cons_zero];rfl) ?_) | (refine wpQuiet_load_c 44 _ rfl ⟨w.heap.size,15,none⟩ rfl ca _ Ra.out rfl Tryz.underlying44 rfl (by rw[La.out];kernel_rfl) _ (by simp only[Act.put,List.setIfInBounds_toArray,List.set_cons_succ,List.set_cons_zero];rfl) ?_))
 refine wpQuiet_nil ?_
 intro w5 hw'
 obtain⟨⟨dq,osq⟩,hw''⟩:=hw'
 have HB5:Hid (Below w.heap.size w w5):=Lib.hid (by rw[hw''];exact HA.out.trans ((HB4.out.trans ((below_regrown _ dq osq).mono HB4.out.size)).mono HA.out.size))
 clear hw'' rC rG rX d33 k0
 go_wp2_with fail
 go_ret
 exact⟨rfl,HB5.out⟩
theorem textS_8e (cs ce cc:List Value)(E:ByteArray)(sE:E.size≤10000000000)(F:ByteArray)(sF:F.size≤10000000000)(C:ByteArray)(sC:C.size≤10000000000)(w:World)(q0:cs[0]? =some (.int .i64 8))(q1:cs[1]? =some (.string ⟨#[]⟩))(q2:cs[2]? =some (.string F))(pe:Part cs 4 ce)(le:ce.length=4)(pc:Part cs 12 cc)(lc:cc.length=3)
 (hE:ValAll 54 #[.agg ce.toArray] (.string E) w) (hC:ValAll 53 #[.agg cc.toArray] (.string C) w):
 Calls Tryz.prog 56 #[.agg cs.toArray] w fun r w'=>r= .returned (.string (⟨#[97,115,115,101,114,116,32]⟩ ++ C ++ ⟨#[32,59]⟩))∧Below w.heap.size w w':=by
 have HA:Hid (Below w.heap.size w (w.alloc (.cells cs.toArray 47))):=box_low
 have k1:=box_at (t:=47) q1 (Below.refl _ (w.alloc (.cells cs.toArray 47)))
 have Q0:=Lib.hid (fun W (hb:Below (w.alloc (.cells cs.toArray 47)).heap.size (w.alloc (.cells cs.toArray 47)) W)=>box_at q0 hb)
 have PE:=Lib.hid (fun W (hb:Below (w.alloc (.cells cs.toArray 47)).heap.size (w.alloc (.cells cs.toArray 47)) W)=>box_part pe hb)
 have LE:=Lib.hid le
 have Pc:=Lib.hid (fun W (hb:Below (w.alloc (.cells cs.toArray 47)).heap.size (w.alloc (.cells cs.toArray 47)) W)=>box_part pc hb)
 have Lc:=Lib.hid lc
 have k2:=fun d os=>cell_regrown (box_at (t:=47) q2 (Below.refl _ (w.alloc (.cells cs.toArray 47)))) d os
 have rE:=(hE.up HA.out).reg
 have HE:=Lib.hid (hE.up HA.out)
 have HC:=Lib.hid (hC.up HA.out)
 have p1:¬((E:ByteArray).size+(⟨#[32,46,32]⟩:ByteArray).size > 9223372036854775807):=by
  simp only[size_app,size_lit,brk_size,List.size_toArray,List.length_cons,List.length_nil];omega
 have p2:¬((E ++ ⟨#[32,46,32]⟩:ByteArray).size+(F:ByteArray).size > 9223372036854775807):=by
  simp only[size_app,size_lit,brk_size,List.size_toArray,List.length_cons,List.length_nil];omega
 have s1:¬((⟨#[97,115,115,101,114,116,32]⟩:ByteArray).size+(C:ByteArray).size > 9223372036854775807):=by
  simp only[size_app,size_lit,brk_size,List.size_toArray,List.length_cons,List.length_nil];omega
 have s2:¬((⟨#[97,115,115,101,114,116,32]⟩ ++ C:ByteArray).size+(⟨#[32,59]⟩:ByteArray).size > 9223372036854775807):=by
  simp only[size_app,size_lit,brk_size,List.size_toArray,List.length_cons,List.length_nil];omega
 clear q0 q1 q2 pe le hE sE sF pc lc hC sC
 go_enter Tryz.func56,Tryz.ntmps56
 go_wp2_with fail
 refine wp_region_quiet_below (by kernel_rfl) (by kernel_rfl) ?_
 repeat (first | (go_big_quiet_step (first | with_reducible exact rE _ _)) | (refine wpQuiet_load_c 37 _ rfl ⟨w.heap.size,4,none⟩ rfl ce _ PE.out rfl Tryz.underlying37 rfl (by rw[LE.out];kernel_rfl) _ (by simp only[Act.put,List.setIfInBounds_toArray,List.set_cons_succ,List.set_cons_zero];rfl) ?_))
 refine wpQuiet_nil ?_
 intro w4 hw'
 obtain⟨⟨dq,osq⟩,hw''⟩:=hw'
 have HB4:Hid (Below (w.alloc (.cells cs.toArray 47)).heap.size (w.alloc (.cells cs.toArray 47)) w4):=Lib.hid (by rw[hw''];exact below_regrown _ dq osq)
 clear hw'' rE k1 k2
 have k0:=Q0.out _ HB4.out
 go_wp2_with (refine wpList_load_w rfl 41 _ rfl ⟨w.heap.size,12,none⟩ rfl cc _ (Pc.out _ HB4.out) Tryz.underlying41 rfl (by rw[Lc.out];kernel_rfl) ?_)
 refine(HC.out.at HB4.out).mono ?_
 rintro e w5 ⟨rfl,hb⟩
 have HB5:=Lib.hid (HA.out.trans ((HB4.out.trans (hb.mono HB4.out.size)).mono HA.out.size))
 clear hb
 go_wp2_with fail
 go_ret
 exact⟨rfl,HB5.out⟩
theorem textS_8n (cs ce cc:List Value)(S:ByteArray)(sS:S.size≤10000000000)(hS:¬S=⟨#[]⟩)(E:ByteArray)(sE:E.size≤10000000000)(F:ByteArray)(sF:F.size≤10000000000)(C:ByteArray)(sC:C.size≤10000000000)(w:World)(q0:cs[0]? =some (.int .i64 8))(q1:cs[1]? =some (.string S))(q2:cs[2]? =some (.string F))(pe:Part cs 4 ce)(le:ce.length=4)(pc:Part cs 12 cc)(lc:cc.length=3)
 (hE:ValAll 54 #[.agg ce.toArray] (.string E) w) (hC:ValAll 53 #[.agg cc.toArray] (.string C) w):
 Calls Tryz.prog 56 #[.agg cs.toArray] w fun r w'=>r= .returned (.string (⟨#[97,115,115,101,114,116,32]⟩ ++ C ++ ⟨#[32,59]⟩))∧Below w.heap.size w w':=by
 have HA:Hid (Below w.heap.size w (w.alloc (.cells cs.toArray 47))):=box_low
 have k1:=box_at (t:=47) q1 (Below.refl _ (w.alloc (.cells cs.toArray 47)))
 have Q0:=Lib.hid (fun W (hb:Below (w.alloc (.cells cs.toArray 47)).heap.size (w.alloc (.cells cs.toArray 47)) W)=>box_at q0 hb)
 have PE:=Lib.hid (fun W (hb:Below (w.alloc (.cells cs.toArray 47)).heap.size (w.alloc (.cells cs.toArray 47)) W)=>box_part pe hb)
 have LE:=Lib.hid le
 have Pc:=Lib.hid (fun W (hb:Below (w.alloc (.cells cs.toArray 47)).heap.size (w.alloc (.cells cs.toArray 47)) W)=>box_part pc hb)
 have Lc:=Lib.hid lc
 have k2:=fun d os=>cell_regrown (box_at (t:=47) q2 (Below.refl _ (w.alloc (.cells cs.toArray 47)))) d os
 have rE:=(hE.up HA.out).reg
 have HE:=Lib.hid (hE.up HA.out)
 have HC:=Lib.hid (hC.up HA.out)
 have gS:(S.toList == [])=false:=by have:=nbs_ne hS;simpa using this
 have z1:¬(S.size+(⟨#[32,58,61,32]⟩:ByteArray).size > 9223372036854775807):=by
  simp only[size_app,size_lit,brk_size,List.size_toArray,List.length_cons,List.length_nil];omega
 have p1:¬((E:ByteArray).size+(⟨#[32,46,32]⟩:ByteArray).size > 9223372036854775807):=by
  simp only[size_app,size_lit,brk_size,List.size_toArray,List.length_cons,List.length_nil];omega
 have p2:¬((E ++ ⟨#[32,46,32]⟩:ByteArray).size+(F:ByteArray).size > 9223372036854775807):=by
  simp only[size_app,size_lit,brk_size,List.size_toArray,List.length_cons,List.length_nil];omega
 have s1:¬((⟨#[97,115,115,101,114,116,32]⟩:ByteArray).size+(C:ByteArray).size > 9223372036854775807):=by
  simp only[size_app,size_lit,brk_size,List.size_toArray,List.length_cons,List.length_nil];omega
 have s2:¬((⟨#[97,115,115,101,114,116,32]⟩ ++ C:ByteArray).size+(⟨#[32,59]⟩:ByteArray).size > 9223372036854775807):=by
  simp only[size_app,size_lit,brk_size,List.size_toArray,List.length_cons,List.length_nil];omega
 clear q0 q1 q2 pe le hE sE sF hS sS pc lc hC sC
 go_enter Tryz.func56,Tryz.ntmps56
 go_wp2_with fail
 refine wp_region_quiet_below (by kernel_rfl) (by kernel_rfl) ?_
 repeat (first | (go_big_quiet_step (first | with_reducible exact rE _ _)) | (refine wpQuiet_load_c 37 _ rfl ⟨w.heap.size,4,none⟩ rfl ce _ PE.out rfl Tryz.underlying37 rfl (by rw[LE.out];kernel_rfl) _ (by simp only[Act.put,List.setIfInBounds_toArray,List.set_cons_succ,List.set_cons_zero];rfl) ?_))
 refine wpQuiet_nil ?_
 intro w4 hw'
 obtain⟨⟨dq,osq⟩,hw''⟩:=hw'
 have HB4:Hid (Below (w.alloc (.cells cs.toArray 47)).heap.size (w.alloc (.cells cs.toArray 47)) w4):=Lib.hid (by rw[hw''];exact below_regrown _ dq osq)
 clear hw'' rE k1 k2
 have k0:=Q0.out _ HB4.out
 go_wp2_with (refine wpList_load_w rfl 41 _ rfl ⟨w.heap.size,12,none⟩ rfl cc _ (Pc.out _ HB4.out) Tryz.underlying41 rfl (by rw[Lc.out];kernel_rfl) ?_)
 refine(HC.out.at HB4.out).mono ?_
 rintro e w5 ⟨rfl,hb⟩
 have HB5:=Lib.hid (HA.out.trans ((HB4.out.trans (hb.mono HB4.out.size)).mono HA.out.size))
 clear hb
 go_wp2_with fail
 go_ret
 exact⟨rfl,HB5.out⟩
theorem textS_9e (cs ce:List Value)(E:ByteArray)(sE:E.size≤10000000000)(F:ByteArray)(sF:F.size≤10000000000)(R:ByteArray)(sR:R.size≤10000000000)(Q:ByteArray)(sQ:Q.size≤10000000000)(L:ByteArray)(sL:L.size≤10000000000)(a30:Option Addr)(m30 c30:Nat)(a31:Option Addr)(m31 c31:Nat)(w:World)(q0:cs[0]? =some (.int .i64 9))(q1:cs[1]? =some (.string ⟨#[]⟩))(q2:cs[2]? =some (.string F))(pe:Part cs 4 ce)(le:ce.length=4)(q3:cs[3]? =some (.string L))(q30:cs[30]? =some (.slice a30 m30 c30))(q31:cs[31]? =some (.slice a31 m31 c31))
 (hE:ValAll 54 #[.agg ce.toArray] (.string E) w) (hR:ValAll 95 #[.slice a30 m30 c30] (.string R) w) (hQ:ValAll 95 #[.slice a31 m31 c31] (.string Q) w):
 Calls Tryz.prog 56 #[.agg cs.toArray] w fun r w'=>r= .returned (.string (⟨#[]⟩ ++ ⟨#[99,97,108,108,32]⟩ ++ L ++ ⟨#[32,40,32]⟩ ++ R ++ ⟨#[59,32]⟩ ++ Q ++ ⟨#[41,32,59]⟩))∧Below w.heap.size w w':=by
 have HA:Hid (Below w.heap.size w (w.alloc (.cells cs.toArray 47))):=box_low
 have k1:=box_at (t:=47) q1 (Below.refl _ (w.alloc (.cells cs.toArray 47)))
 have Q0:=Lib.hid (fun W (hb:Below (w.alloc (.cells cs.toArray 47)).heap.size (w.alloc (.cells cs.toArray 47)) W)=>box_at q0 hb)
 have PE:=Lib.hid (fun W (hb:Below (w.alloc (.cells cs.toArray 47)).heap.size (w.alloc (.cells cs.toArray 47)) W)=>box_part pe hb)
 have LE:=Lib.hid le
 have Q3:=Lib.hid (fun W (hb:Below (w.alloc (.cells cs.toArray 47)).heap.size (w.alloc (.cells cs.toArray 47)) W)=>box_at q3 hb)
 have Q30:=Lib.hid (fun W (hb:Below (w.alloc (.cells cs.toArray 47)).heap.size (w.alloc (.cells cs.toArray 47)) W)=>box_at q30 hb)
 have Q31:=Lib.hid (fun W (hb:Below (w.alloc (.cells cs.toArray 47)).heap.size (w.alloc (.cells cs.toArray 47)) W)=>box_at q31 hb)
 have k2:=fun d os=>cell_regrown (box_at (t:=47) q2 (Below.refl _ (w.alloc (.cells cs.toArray 47)))) d os
 have rE:=(hE.up HA.out).reg
 have HE:=Lib.hid (hE.up HA.out)
 have HR:=Lib.hid (hR.up HA.out)
 have HQ:=Lib.hid (hQ.up HA.out)
 have p1:¬((E:ByteArray).size+(⟨#[32,46,32]⟩:ByteArray).size > 9223372036854775807):=by
  simp only[size_app,size_lit,brk_size,List.size_toArray,List.length_cons,List.length_nil];omega
 have p2:¬((E ++ ⟨#[32,46,32]⟩:ByteArray).size+(F:ByteArray).size > 9223372036854775807):=by
  simp only[size_app,size_lit,brk_size,List.size_toArray,List.length_cons,List.length_nil];omega
 have s1:¬((⟨#[]⟩:ByteArray).size+(⟨#[99,97,108,108,32]⟩:ByteArray).size > 9223372036854775807):=by
  simp only[size_app,size_lit,brk_size,List.size_toArray,List.length_cons,List.length_nil];omega
 have s2:¬((⟨#[]⟩ ++ ⟨#[99,97,108,108,32]⟩:ByteArray).size+(L:ByteArray).size > 9223372036854775807):=by
  simp only[size_app,size_lit,brk_size,List.size_toArray,List.length_cons,List.length_nil];omega
 have s3:¬((⟨#[]⟩ ++ ⟨#[99,97,108,108,32]⟩ ++ L:ByteArray).size+(⟨#[32,40,32]⟩:ByteArray).size > 9223372036854775807):=by
  simp only[size_app,size_lit,brk_size,List.size_toArray,List.length_cons,List.length_nil];omega
 have s4:¬((⟨#[]⟩ ++ ⟨#[99,97,108,108,32]⟩ ++ L ++ ⟨#[32,40,32]⟩:ByteArray).size+(R:ByteArray).size > 9223372036854775807):=by
  simp only[size_app,size_lit,brk_size,List.size_toArray,List.length_cons,List.length_nil];omega
 have s5:¬((⟨#[]⟩ ++ ⟨#[99,97,108,108,32]⟩ ++ L ++ ⟨#[32,40,32]⟩ ++ R:ByteArray).size+(⟨#[59,32]⟩:ByteArray).size > 9223372036854775807):=by
  simp only[size_app,size_lit,brk_size,List.size_toArray,List.length_cons,List.length_nil];omega
 have s6:¬((⟨#[]⟩ ++ ⟨#[99,97,108,108,32]⟩ ++ L ++ ⟨#[32,40,32]⟩ ++ R ++ ⟨#[59,32]⟩:ByteArray).size+(Q:ByteArray).size > 9223372036854775807):=by
  simp only[size_app,size_lit,brk_size,List.size_toArray,List.length_cons,List.length_nil];omega
 have s7:¬((⟨#[]⟩ ++ ⟨#[99,97,108,108,32]⟩ ++ L ++ ⟨#[32,40,32]⟩ ++ R ++ ⟨#[59,32]⟩ ++ Q:ByteArray).size+(⟨#[41,32,59]⟩:ByteArray).size > 9223372036854775807):=by
  simp only[size_app,size_lit,brk_size,List.size_toArray,List.length_cons,List.length_nil];omega
 clear q0 q1 q2 pe le hE sE sF q3 q30 q31 hR hQ sR sQ sL
 go_enter Tryz.func56,Tryz.ntmps56
 go_wp2_with fail
 refine wp_region_quiet_below (by kernel_rfl) (by kernel_rfl) ?_
 repeat (first | (go_big_quiet_step (first | with_reducible exact rE _ _)) | (refine wpQuiet_load_c 37 _ rfl ⟨w.heap.size,4,none⟩ rfl ce _ PE.out rfl Tryz.underlying37 rfl (by rw[LE.out];kernel_rfl) _ (by simp only[Act.put,List.setIfInBounds_toArray,List.set_cons_succ,List.set_cons_zero];rfl) ?_))
 refine wpQuiet_nil ?_
 intro w4 hw'
 obtain⟨⟨dq,osq⟩,hw''⟩:=hw'
 have HB4:Hid (Below (w.alloc (.cells cs.toArray 47)).heap.size (w.alloc (.cells cs.toArray 47)) w4):=Lib.hid (by rw[hw''];exact below_regrown _ dq osq)
 clear hw'' rE k1 k2
 have k0:=Q0.out _ HB4.out
 have rR:=(HR.out.up HB4.out).reg
 have rQ:=(HQ.out.up HB4.out).reg
 have d30:=fun d os=>cell_regrown (Q30.out _ HB4.out) d os
 have d31:=fun d os=>cell_regrown (Q31.out _ HB4.out) d os
 have d3:=fun d os=>cell_regrown (Q3.out _ HB4.out) d os
 go_wp2_with fail
 refine wp_region_quiet_below (by kernel_rfl) (by kernel_rfl) ?_
 repeat (first | (go_big_quiet_step (first | with_reducible exact rR _ _ | with_reducible exact rQ _ _)))
 refine wpQuiet_nil ?_
 intro w5 hw'
 obtain⟨⟨dq,osq⟩,hw''⟩:=hw'
 have HB5:Hid (Below w.heap.size w w5):=Lib.hid (by rw[hw''];exact HA.out.trans ((HB4.out.trans ((below_regrown _ dq osq).mono HB4.out.size)).mono HA.out.size))
 clear hw'' rR rQ d30 d31 d3 k0
 go_wp2_with fail
 go_ret
 exact⟨rfl,HB5.out⟩
theorem textS_9n (cs ce:List Value)(S:ByteArray)(sS:S.size≤10000000000)(hS:¬S=⟨#[]⟩)(E:ByteArray)(sE:E.size≤10000000000)(F:ByteArray)(sF:F.size≤10000000000)(R:ByteArray)(sR:R.size≤10000000000)(Q:ByteArray)(sQ:Q.size≤10000000000)(L:ByteArray)(sL:L.size≤10000000000)(a30:Option Addr)(m30 c30:Nat)(a31:Option Addr)(m31 c31:Nat)(w:World)(q0:cs[0]? =some (.int .i64 9))(q1:cs[1]? =some (.string S))(q2:cs[2]? =some (.string F))(pe:Part cs 4 ce)(le:ce.length=4)(q3:cs[3]? =some (.string L))(q30:cs[30]? =some (.slice a30 m30 c30))(q31:cs[31]? =some (.slice a31 m31 c31))
 (hE:ValAll 54 #[.agg ce.toArray] (.string E) w) (hR:ValAll 95 #[.slice a30 m30 c30] (.string R) w) (hQ:ValAll 95 #[.slice a31 m31 c31] (.string Q) w):
 Calls Tryz.prog 56 #[.agg cs.toArray] w fun r w'=>r= .returned (.string ((S ++ ⟨#[32,58,61,32]⟩) ++ ⟨#[99,97,108,108,32]⟩ ++ L ++ ⟨#[32,40,32]⟩ ++ R ++ ⟨#[59,32]⟩ ++ Q ++ ⟨#[41,32,59]⟩))∧Below w.heap.size w w':=by
 have HA:Hid (Below w.heap.size w (w.alloc (.cells cs.toArray 47))):=box_low
 have k1:=box_at (t:=47) q1 (Below.refl _ (w.alloc (.cells cs.toArray 47)))
 have Q0:=Lib.hid (fun W (hb:Below (w.alloc (.cells cs.toArray 47)).heap.size (w.alloc (.cells cs.toArray 47)) W)=>box_at q0 hb)
 have PE:=Lib.hid (fun W (hb:Below (w.alloc (.cells cs.toArray 47)).heap.size (w.alloc (.cells cs.toArray 47)) W)=>box_part pe hb)
 have LE:=Lib.hid le
 have Q3:=Lib.hid (fun W (hb:Below (w.alloc (.cells cs.toArray 47)).heap.size (w.alloc (.cells cs.toArray 47)) W)=>box_at q3 hb)
 have Q30:=Lib.hid (fun W (hb:Below (w.alloc (.cells cs.toArray 47)).heap.size (w.alloc (.cells cs.toArray 47)) W)=>box_at q30 hb)
 have Q31:=Lib.hid (fun W (hb:Below (w.alloc (.cells cs.toArray 47)).heap.size (w.alloc (.cells cs.toArray 47)) W)=>box_at q31 hb)
 have k2:=fun d os=>cell_regrown (box_at (t:=47) q2 (Below.refl _ (w.alloc (.cells cs.toArray 47)))) d os
 have rE:=(hE.up HA.out).reg
 have HE:=Lib.hid (hE.up HA.out)
 have HR:=Lib.hid (hR.up HA.out)
 have HQ:=Lib.hid (hQ.up HA.out)
 have gS:(S.toList == [])=false:=by have:=nbs_ne hS;simpa using this
 have z1:¬(S.size+(⟨#[32,58,61,32]⟩:ByteArray).size > 9223372036854775807):=by
  simp only[size_app,size_lit,brk_size,List.size_toArray,List.length_cons,List.length_nil];omega
 have p1:¬((E:ByteArray).size+(⟨#[32,46,32]⟩:ByteArray).size > 9223372036854775807):=by
  simp only[size_app,size_lit,brk_size,List.size_toArray,List.length_cons,List.length_nil];omega
 have p2:¬((E ++ ⟨#[32,46,32]⟩:ByteArray).size+(F:ByteArray).size > 9223372036854775807):=by
  simp only[size_app,size_lit,brk_size,List.size_toArray,List.length_cons,List.length_nil];omega
 have s1:¬(((S ++ ⟨#[32,58,61,32]⟩):ByteArray).size+(⟨#[99,97,108,108,32]⟩:ByteArray).size > 9223372036854775807):=by
  simp only[size_app,size_lit,brk_size,List.size_toArray,List.length_cons,List.length_nil];omega
 have s2:¬(((S ++ ⟨#[32,58,61,32]⟩) ++ ⟨#[99,97,108,108,32]⟩:ByteArray).size+(L:ByteArray).size > 9223372036854775807):=by
  simp only[size_app,size_lit,brk_size,List.size_toArray,List.length_cons,List.length_nil];omega
 have s3:¬(((S ++ ⟨#[32,58,61,32]⟩) ++ ⟨#[99,97,108,108,32]⟩ ++ L:ByteArray).size+(⟨#[32,40,32]⟩:ByteArray).size > 9223372036854775807):=by
  simp only[size_app,size_lit,brk_size,List.size_toArray,List.length_cons,List.length_nil];omega
 have s4:¬(((S ++ ⟨#[32,58,61,32]⟩) ++ ⟨#[99,97,108,108,32]⟩ ++ L ++ ⟨#[32,40,32]⟩:ByteArray).size+(R:ByteArray).size > 9223372036854775807):=by
  simp only[size_app,size_lit,brk_size,List.size_toArray,List.length_cons,List.length_nil];omega
 have s5:¬(((S ++ ⟨#[32,58,61,32]⟩) ++ ⟨#[99,97,108,108,32]⟩ ++ L ++ ⟨#[32,40,32]⟩ ++ R:ByteArray).size+(⟨#[59,32]⟩:ByteArray).size > 9223372036854775807):=by
  simp only[size_app,size_lit,brk_size,List.size_toArray,List.length_cons,List.length_nil];omega
 have s6:¬(((S ++ ⟨#[32,58,61,32]⟩) ++ ⟨#[99,97,108,108,32]⟩ ++ L ++ ⟨#[32,40,32]⟩ ++ R ++ ⟨#[59,32]⟩:ByteArray).size+(Q:ByteArray).size > 9223372036854775807):=by
  simp only[size_app,size_lit,brk_size,List.size_toArray,List.length_cons,List.length_nil];omega
 have s7:¬(((S ++ ⟨#[32,58,61,32]⟩) ++ ⟨#[99,97,108,108,32]⟩ ++ L ++ ⟨#[32,40,32]⟩ ++ R ++ ⟨#[59,32]⟩ ++ Q:ByteArray).size+(⟨#[41,32,59]⟩:ByteArray).size > 9223372036854775807):=by
  simp only[size_app,size_lit,brk_size,List.size_toArray,List.length_cons,List.length_nil];omega
 clear q0 q1 q2 pe le hE sE sF hS sS q3 q30 q31 hR hQ sR sQ sL
 go_enter Tryz.func56,Tryz.ntmps56
 go_wp2_with fail
 refine wp_region_quiet_below (by kernel_rfl) (by kernel_rfl) ?_
 repeat (first | (go_big_quiet_step (first | with_reducible exact rE _ _)) | (refine wpQuiet_load_c 37 _ rfl ⟨w.heap.size,4,none⟩ rfl ce _ PE.out rfl Tryz.underlying37 rfl (by rw[LE.out];kernel_rfl) _ (by simp only[Act.put,List.setIfInBounds_toArray,List.set_cons_succ,List.set_cons_zero];rfl) ?_))
 refine wpQuiet_nil ?_
 intro w4 hw'
 obtain⟨⟨dq,osq⟩,hw''⟩:=hw'
 have HB4:Hid (Below (w.alloc (.cells cs.toArray 47)).heap.size (w.alloc (.cells cs.toArray 47)) w4):=Lib.hid (by rw[hw''];exact below_regrown _ dq osq)
 clear hw'' rE k1 k2
 have k0:=Q0.out _ HB4.out
 have rR:=(HR.out.up HB4.out).reg
 have rQ:=(HQ.out.up HB4.out).reg
 have d30:=fun d os=>cell_regrown (Q30.out _ HB4.out) d os
 have d31:=fun d os=>cell_regrown (Q31.out _ HB4.out) d os
 have d3:=fun d os=>cell_regrown (Q3.out _ HB4.out) d os
 go_wp2_with fail
 refine wp_region_quiet_below (by kernel_rfl) (by kernel_rfl) ?_
 repeat (first | (go_big_quiet_step (first | with_reducible exact rR _ _ | with_reducible exact rQ _ _)))
 refine wpQuiet_nil ?_
 intro w5 hw'
 obtain⟨⟨dq,osq⟩,hw''⟩:=hw'
 have HB5:Hid (Below w.heap.size w w5):=Lib.hid (by rw[hw''];exact HA.out.trans ((HB4.out.trans ((below_regrown _ dq osq).mono HB4.out.size)).mono HA.out.size))
 clear hw'' rR rQ d30 d31 d3 k0
 go_wp2_with fail
 go_ret
 exact⟨rfl,HB5.out⟩
end
section
open Go.RowKit
theorem snA_inv {nm:ByteArray→Bool}{n:Nat}{a:AT}(h:snA nm (n+1) a=true):(0≤a.kind∧a.kind≤5)∧a.ks.length=ksA a.kind∧(∀x∈a.ks,snA nm n x=true)∧shA nm n a=true∧(a.kind=1∨a.kind=5→snC nm n a.c=true):=by
 unfold snA at h
 split at h
 ·rename_i h2
  simp only[Bool.and_eq_true,beq_iff_eq,List.all_eq_true]at h
  refine⟨h2,h.1,h.2.1,h.2.2.1,fun h1=> ?_⟩
  have:=h.2.2.2
  rwa [if_pos h1]at this
 ·cases h
theorem shA_2 {nm:ByteArray→Bool}{n:Nat}{a:AT}(h:shA nm n a=true)(hk:a.kind=2∨a.kind=3):snE nm n a.e=true∧nm a.field=true∧(0≤a.n∧a.n≤1073741824)∧(a.kind=3→snE nm n a.v=true):=by
 unfold shA at h
 by_cases h2:a.kind=2
 ·rw[if_pos h2]at h
  simp only[Bool.and_eq_true,decide_eq_true_eq]at h
  exact⟨h.2.1.1,h.2.1.2,h.2.2,fun h3=>by omega⟩
 ·have h3:a.kind=3:=hk.resolve_left h2
  rw[if_neg h2,if_pos h3]at h
  simp only[Bool.and_eq_true,decide_eq_true_eq]at h
  exact⟨h.2.1.1,h.2.1.2,h.2.2,fun _=>h.1⟩
theorem ptA_mem {n:Nat}{l:List AT}{x:AT}(h:x∈l):ptA n x≤ptAs n l:=by
 unfold ptAs
 induction l with
 | nil=>cases h
 | cons y l ih=>
   rw[List.map_cons,List.sum_cons]
   rcases List.mem_cons.1 h with rfl | h
   ·omega
   ·have:=ih h;omega
theorem ptAs_two (n:Nat)(e v:AT):ptAs n [e,v]=ptA n e+ptA n v:=by simp[ptAs]
theorem txA_le {nm:ByteArray→Bool}(hnm:∀s,nm s=true→s.size≤32):∀(n:Nat) (a:AT),snA nm n a=true→(txA n a).size≤128*ptA n a
 | 0,_,h=>by cases h
 | n+1,a,h=>by
   obtain⟨hk,hlk,hks,hsh,hc⟩:=snA_inv h
   have IH:=fun x hx=>txA_le hnm n x (hks x hx)
   rw[ptA_succ]
   unfold txA
   by_cases k0:a.kind=0
   ·rw[if_pos k0];simp only[size_lit,List.size_toArray,List.length_cons,List.length_nil];omega
   rw[if_neg k0]
   by_cases k1:a.kind=1
   ·rw[if_pos k1,sqr_size]
    have:=txC_le hnm n _ (hc (.inl k1))
    omega
   rw[if_neg k1]
   by_cases k2:a.kind=2
   ·rw[if_pos k2]
    obtain⟨h1,h2,h3,h4⟩:=shA_2 hsh (.inl k2)
    have h5:=txE_le hnm n _ h1
    have h6:=hnm _ h2
    have h7:=dgI_le a.n
    simp only[size_app,size_lit,List.size_toArray,List.length_cons,List.length_nil]
    omega
   rw[if_neg k2]
   by_cases k3:a.kind=3
   ·rw[if_pos k3]
    obtain⟨h1,h2,h3,h4⟩:=shA_2 hsh (.inr k3)
    have h5:=txE_le hnm n _ h1
    have h6:=hnm _ h2
    have h7:=dgI_le a.n
    have h8:=txE_le hnm n _ (h4 k3)
    simp only[size_app,size_lit,List.size_toArray,List.length_cons,List.length_nil]
    omega
   rw[if_neg k3]
   have hl2:a.ks.length=2:=by rw[hlk,ksA,if_pos (by omega)]
   obtain⟨x,y,hx⟩:=list_two hl2
   rw[hx]at IH⊢
   have h2:=IH x (by simp)
   have h4:=IH y (by simp)
   rw[show[x,y].getD 0 default=x from rfl,show[x,y].getD 1 default=y from rfl,ptAs_two]
   by_cases k4:a.kind=4
   ·rw[if_pos k4]
    have h5:(if y.kind=4 then brk (txA n y) else txA n y).size≤(txA n y).size+4:=by
     split
     ·rw[brk_size];omega
     ·omega
    simp only[size_app,size_lit,List.size_toArray,List.length_cons,List.length_nil]
    omega
   ·rw[if_neg k4]
    have h6:=txC_le hnm n _ (hc (.inr (by omega)))
    simp only[size_app,size_lit,List.size_toArray,List.length_cons,List.length_nil]
    omega
theorem assn_kind {n:Nat}{c:AT}{cs:List Value}{S:Nat→Prop}{w:World}(h:(assnSh n).rel S w cs c):cs[0]? =some (.int .i64 c.kind):=by
 cases n with
 | zero=>exact h.elim
 | succ n=>
   obtain⟨_,_,_,_,_,H⟩:=assn_is h
   exact H.kind
theorem textA_any {nm:ByteArray→Bool}(hnm:∀s,nm s=true→s.size≤32):∀(n:Nat) (a:AT) (cs:List Value) (w:World),(assnSh n).rel (Pak.Lo w.heap.size) w cs a→snA nm n a=true→ptA n a≤100000→
 Calls Tryz.prog 25 #[.agg cs.toArray] w fun r w'=>r= .returned (.string (txA n a))∧Below w.heap.size w w'
 | 0,_,_,_,h,_,_=>h.elim
 | n+1,s,cs,w,h,hsn,hpt=>by
   obtain⟨hk,hlk,hks,hsh,hcn⟩:=snA_inv hsn
   obtain⟨cc,ce,cv,a,c,H⟩:=assn_is h
   rw[ptA_succ]at hpt
   have hp:∀x∈s.ks,ptA n x≤100000∧(txA n x).size≤100000000:=fun x hx=>by
    have p1:=ptA_mem (n:=n) hx
    have p2:=txA_le hnm n x (hks x hx)
    exact⟨by omega,by omega⟩
   have IH:∀x∈s.ks,∀cs,(assnSh n).rel (Pak.Lo w.heap.size) w cs x→ValAll 25 #[.agg cs.toArray] (.string (txA n x)) w:=fun x hx cs hr W hW=>
    textA_any hnm n x cs W (rel_low hr hW) (hks x hx) (hp x hx).1
   have q0:=H.kind
   have IC:snC nm n s.c=true→ValAll 53 #[.agg cc.toArray] (.string (txC n s.c)) w∧(txC n s.c).size≤100000000:=fun h=>⟨fun W hW=>
    textC_any hnm n s.c cc W (rel_low H.rc hW) h (by omega),by have:=txC_le hnm n _ h;omega⟩
   have IE:snE nm n s.e=true→ValAll 54 #[.agg ce.toArray] (.string (txE n s.e)) w∧(txE n s.e).size≤100000000:=fun h=>⟨fun W hW=>
    textE_any hnm n s.e ce W (rel_low H.re hW) h (by omega),by have:=txE_le hnm n _ h;omega⟩
   have IV:snE nm n s.v=true→ValAll 54 #[.agg cv.toArray] (.string (txE n s.v)) w∧(txE n s.v).size≤100000000:=fun h=>⟨fun W hW=>
    textE_any hnm n s.v cv W (rel_low H.rv hW) h (by omega),by have:=txE_le hnm n _ h;omega⟩
   unfold txA
   by_cases k0:s.kind=0
   ·rw[if_pos k0]
    rw[k0]at q0
    exact textA_0 cs w q0
   rw[if_neg k0]
   by_cases k1:s.kind=1
   ·rw[if_pos k1]
    rw[k1]at q0
    obtain⟨hC,sC⟩:=IC (hcn (.inl k1))
    exact textA_1 cs cc _ (by omega) w q0 H.pc H.lc hC
   rw[if_neg k1]
   by_cases k2:s.kind=2
   ·rw[if_pos k2]
    rw[k2]at q0
    obtain⟨h1,h2,h3,h4⟩:=shA_2 hsh (.inl k2)
    obtain⟨hE,sE⟩:=IE h1
    have h6:=hnm _ h2
    have h7:=dgI_le s.n
    exact textA_2 cs ce s.n _ (by omega) _ (by omega) _ (by omega) w q0 H.pe H.le H.field H.num hE (digits_any _ ⟨by omega,h3.2⟩ w)
   rw[if_neg k2]
   by_cases k3:s.kind=3
   ·rw[if_pos k3]
    rw[k3]at q0
    obtain⟨h1,h2,h3,h4⟩:=shA_2 hsh (.inr k3)
    obtain⟨hE,sE⟩:=IE h1
    obtain⟨hV,sV⟩:=IV (h4 k3)
    have h6:=hnm _ h2
    have h7:=dgI_le s.n
    exact textA_3 cs ce cv s.n _ (by omega) _ (by omega) _ (by omega) _ (by omega) w q0 H.pe H.le H.pv H.lv H.field H.num hE (digits_any _ ⟨by omega,h3.2⟩ w) hV
   rw[if_neg k3]
   have hl2:s.ks.length=2:=by rw[hlk,ksA,if_pos (by omega)]
   obtain⟨x,y,hx⟩:=list_two hl2
   have hm:x∈s.ks:=by rw[hx];simp
   have hm2:y∈s.ks:=by rw[hx];simp
   have hkd:=H.kids
   have hs:=H.rkids
   rw[hl2]at hkd
   rw[hx]at hs⊢
   obtain⟨b,off,ds,rfl,hbl,hc,hr⟩:=hs.2 0 (by simp)
   obtain⟨b2,off2,gs,e2,_,hc2,hr2⟩:=hs.2 1 (by simp)
   injection e2 with e2
   injection e2 with e3 e4 e5
   subst e3 e4
   rw[Nat.zero_mul,Nat.add_zero]at hc
   rw[Nat.one_mul,assnSh_k]at hc2
   have hsz:=(hp x hm).2
   have hsz2:=(hp y hm2).2
   have hlen:=((assnSh n).len hr).trans (assnSh_k n)
   have hlen2:=((assnSh n).len hr2).trans (assnSh_k n)
   rw[show[x,y].getD 0 default=x from rfl,show[x,y].getD 1 default=y from rfl]
   by_cases k4:s.kind=4
   ·rw[if_pos k4]
    rw[k4]at q0
    by_cases y4:y.kind=4
    ·rw[if_pos y4]
     exact textA_4b cs ds gs b off c _ _ (by omega) _ (by omega) w q0 hkd hbl hlen (cell_add hc) hlen2 (cell_add hc2) (assn_kind hr2) y4 (IH x hm ds hr) (IH y hm2 gs hr2)
    ·rw[if_neg y4]
     exact textA_4n cs ds gs b off c _ _ (by omega) _ (by omega) w q0 hkd hbl hlen (cell_add hc) hlen2 (cell_add hc2) (assn_kind hr2) y4 (IH x hm ds hr) (IH y hm2 gs hr2)
   ·rw[if_neg k4]
    have k5:s.kind=5:=by omega
    rw[k5]at q0
    obtain⟨hC,sC⟩:=IC (hcn (.inr k5))
    exact textA_5 cs cc ds gs b off c _ (by omega) _ (by omega) _ (by omega) w q0 hbl H.pc H.lc hkd hlen (cell_add hc) hlen2 (cell_add hc2) hC (IH x hm ds hr) (IH y hm2 gs hr2)
end
end Go.Proofs.YtfcaclmcnlflfaaGreatDoor
