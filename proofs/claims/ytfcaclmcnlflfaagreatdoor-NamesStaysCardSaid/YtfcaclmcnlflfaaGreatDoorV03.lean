/- Parts of a proof. -/
import Derived.Test.YtfcaclmcnlflfaaGreatDoorV01
import Derived.Test.YtfcaclmcnlflfaaGreatDoorV02
import Derived.Test.YtfcaclmcnlflfaaGreatDoorQ13
import Derived.Test.YtfcaclmcnlflfaaGreatDoorQ10
set_option linter.unusedVariables false
set_option linter.unusedSimpArgs false
set_option maxHeartbeats 60000000
set_option maxRecDepth 100000
namespace Go.Proofs.YtfcaclmcnlflfaaGreatDoor
section
open Go.RowKit
theorem textA_0 (cs:List Value)(w:World)(q0:cs[0]? =some (.int .i64 0)):Calls Tryz.prog 25 #[.agg cs.toArray] w fun r w'=>r= .returned (.string ⟨#[101,109,112]⟩)∧Below w.heap.size w w':=by
 have HA:Hid (Below w.heap.size w (w.alloc (.cells cs.toArray 44))):=box_low
 have K0:=box_at (t:=44) q0 (Below.refl _ (w.alloc (.cells cs.toArray 44)))
 clear q0
 go_enter Tryz.func25,Tryz.ntmps25
 go_wp2_with fail
 go_ret
 exact⟨rfl,HA.out⟩
theorem textA_1 (cs cc:List Value)(T:ByteArray)(sT:T.size≤1000000000)(w:World)(q0:cs[0]? =some (.int .i64 1))(p1:Part cs 1 cc)(l1:cc.length=3)(hT:ValAll 53 #[.agg cc.toArray] (.string T) w):Calls Tryz.prog 25 #[.agg cs.toArray] w fun r w'=>r= .returned (.string (sqr T))∧Below w.heap.size w w':=by
 have HA:Hid (Below w.heap.size w (w.alloc (.cells cs.toArray 44))):=box_low
 have K0:=box_at (t:=44) q0 (Below.refl _ (w.alloc (.cells cs.toArray 44)))
 have P1:=Lib.hid (fun W (hb:Below (w.alloc (.cells cs.toArray 44)).heap.size (w.alloc (.cells cs.toArray 44)) W)=>box_part p1 hb)
 have L1:=Lib.hid l1
 have HT:=Lib.hid (hT.up HA.out)
 unfold sqr
 have s1:¬((⟨#[91,32]⟩:ByteArray).size+(T:ByteArray).size > 9223372036854775807):=by
  simp only[size_app,size_lit,brk_size,List.size_toArray,List.length_cons,List.length_nil];omega
 have s2:¬((⟨#[91,32]⟩ ++ T:ByteArray).size+(⟨#[32,93]⟩:ByteArray).size > 9223372036854775807):=by
  simp only[size_app,size_lit,brk_size,List.size_toArray,List.length_cons,List.length_nil];omega
 clear q0 p1 l1 hT sT
 go_enter Tryz.func25,Tryz.ntmps25
 go_wp2_with (refine wpList_load_w rfl 41 _ rfl ⟨w.heap.size,1,none⟩ rfl cc _ (P1.out _ (Below.refl _ _)) Tryz.underlying41 rfl (by rw[L1.out];kernel_rfl) ?_)
 refine(HT.out.at (Below.refl _ _)).mono ?_
 rintro e w1 ⟨rfl,hb⟩
 have HB:=Lib.hid (HA.out.trans (hb.mono HA.out.size))
 clear hb HT
 go_wp2_with fail
 go_ret
 exact⟨rfl,HB.out⟩
theorem textA_2 (cs:List Value)(ce:List Value)(n:Int)(T:ByteArray)(sT:T.size≤1000000000)(F:ByteArray)(sF:F.size≤1000000000)(N:ByteArray)(sN:N.size≤1000000000)(w:World)(q0:cs[0]? =some (.int .i64 2))
 (p2:Part cs 4 ce) (l2:ce.length=4) (q12:cs[12]? =some (.string F)) (q13:cs[13]? =some (.int .i64 n))
 (hT:ValAll 54 #[.agg ce.toArray] (.string T) w)
 (hN:ValAll 55 #[.int .i64 n] (.string N) w):
 Calls Tryz.prog 25 #[.agg cs.toArray] w fun r w'=>r= .returned (.string (⟨#[97,99,99,32,40,32]⟩ ++ T ++ ⟨#[32,46,32]⟩ ++ F ++ ⟨#[32,44,32]⟩ ++ N ++ ⟨#[32,41]⟩))∧Below w.heap.size w w':=by
 have HA:Hid (Below w.heap.size w (w.alloc (.cells cs.toArray 44))):=box_low
 have K0:=box_at (t:=44) q0 (Below.refl _ (w.alloc (.cells cs.toArray 44)))
 have P2:=Lib.hid (fun W (hb:Below (w.alloc (.cells cs.toArray 44)).heap.size (w.alloc (.cells cs.toArray 44)) W)=>box_part p2 hb)
 have L2:=Lib.hid l2
 have K12:=fun d os=>cell_regrown (box_at (t:=44) q12 (Below.refl _ (w.alloc (.cells cs.toArray 44)))) d os
 have K13:=fun d os=>cell_regrown (box_at (t:=44) q13 (Below.refl _ (w.alloc (.cells cs.toArray 44)))) d os
 have HT:=(hT.up HA.out).reg
 have HN:=(hN.up HA.out).reg
 have s1:¬((⟨#[97,99,99,32,40,32]⟩:ByteArray).size+(T:ByteArray).size > 9223372036854775807):=by
  simp only[size_app,size_lit,brk_size,List.size_toArray,List.length_cons,List.length_nil];omega
 have s2:¬((⟨#[97,99,99,32,40,32]⟩ ++ T:ByteArray).size+(⟨#[32,46,32]⟩:ByteArray).size > 9223372036854775807):=by
  simp only[size_app,size_lit,brk_size,List.size_toArray,List.length_cons,List.length_nil];omega
 have s3:¬((⟨#[97,99,99,32,40,32]⟩ ++ T ++ ⟨#[32,46,32]⟩:ByteArray).size+(F:ByteArray).size > 9223372036854775807):=by
  simp only[size_app,size_lit,brk_size,List.size_toArray,List.length_cons,List.length_nil];omega
 have s4:¬((⟨#[97,99,99,32,40,32]⟩ ++ T ++ ⟨#[32,46,32]⟩ ++ F:ByteArray).size+(⟨#[32,44,32]⟩:ByteArray).size > 9223372036854775807):=by
  simp only[size_app,size_lit,brk_size,List.size_toArray,List.length_cons,List.length_nil];omega
 have s5:¬((⟨#[97,99,99,32,40,32]⟩ ++ T ++ ⟨#[32,46,32]⟩ ++ F ++ ⟨#[32,44,32]⟩:ByteArray).size+(N:ByteArray).size > 9223372036854775807):=by
  simp only[size_app,size_lit,brk_size,List.size_toArray,List.length_cons,List.length_nil];omega
 have s6:¬((⟨#[97,99,99,32,40,32]⟩ ++ T ++ ⟨#[32,46,32]⟩ ++ F ++ ⟨#[32,44,32]⟩ ++ N:ByteArray).size+(⟨#[32,41]⟩:ByteArray).size > 9223372036854775807):=by
  simp only[size_app,size_lit,brk_size,List.size_toArray,List.length_cons,List.length_nil];omega
 clear q0 p2 l2 q12 q13 hT hN sT sF sN
 go_enter Tryz.func25,Tryz.ntmps25
 go_wp2_with fail
 refine wp_region_quiet_below (by kernel_rfl) (by kernel_rfl) ?_
 repeat (first | (go_big_quiet_step (first | with_reducible exact HT _ _ | with_reducible exact HN _ _)) | (refine wpQuiet_load_c 37 _ rfl ⟨w.heap.size,4,none⟩ rfl ce _ P2.out rfl Tryz.underlying37 rfl (by rw[L2.out];kernel_rfl) _ (by simp only[Act.put,List.setIfInBounds_toArray,List.set_cons_succ,List.set_cons_zero];rfl) ?_))
 refine wpQuiet_nil ?_
 intro w9 hw'
 obtain⟨⟨dq,osq⟩,hw''⟩:=hw'
 have HB9:Hid (Below w.heap.size w w9):=Lib.hid (by rw[hw''];exact HA.out.trans ((below_regrown _ dq osq).mono HA.out.size))
 clear hw'' HT HN
 go_wp2_with fail
 go_ret
 exact⟨rfl,HB9.out⟩
theorem textA_3 (cs:List Value)(ce cv:List Value)(n:Int)(T:ByteArray)(sT:T.size≤1000000000)(F:ByteArray)(sF:F.size≤1000000000)(N:ByteArray)(sN:N.size≤1000000000)(V:ByteArray)(sV:V.size≤1000000000)(w:World)(q0:cs[0]? =some (.int .i64 3))
 (p2:Part cs 4 ce) (l2:ce.length=4) (p3:Part cs 8 cv) (l3:cv.length=4) (q12:cs[12]? =some (.string F)) (q13:cs[13]? =some (.int .i64 n))
 (hT:ValAll 54 #[.agg ce.toArray] (.string T) w)
 (hN:ValAll 55 #[.int .i64 n] (.string N) w)
 (hV:ValAll 54 #[.agg cv.toArray] (.string V) w):
 Calls Tryz.prog 25 #[.agg cs.toArray] w fun r w'=>r= .returned (.string (⟨#[112,116,115,32,40,32]⟩ ++ T ++ ⟨#[32,46,32]⟩ ++ F ++ ⟨#[32,44,32]⟩ ++ N ++ ⟨#[32,44,32]⟩ ++ V ++ ⟨#[32,41]⟩))∧Below w.heap.size w w':=by
 have HA:Hid (Below w.heap.size w (w.alloc (.cells cs.toArray 44))):=box_low
 have K0:=box_at (t:=44) q0 (Below.refl _ (w.alloc (.cells cs.toArray 44)))
 have P2:=Lib.hid (fun W (hb:Below (w.alloc (.cells cs.toArray 44)).heap.size (w.alloc (.cells cs.toArray 44)) W)=>box_part p2 hb)
 have L2:=Lib.hid l2
 have P3:=Lib.hid (fun W (hb:Below (w.alloc (.cells cs.toArray 44)).heap.size (w.alloc (.cells cs.toArray 44)) W)=>box_part p3 hb)
 have L3:=Lib.hid l3
 have K12:=fun d os=>cell_regrown (box_at (t:=44) q12 (Below.refl _ (w.alloc (.cells cs.toArray 44)))) d os
 have K13:=fun d os=>cell_regrown (box_at (t:=44) q13 (Below.refl _ (w.alloc (.cells cs.toArray 44)))) d os
 have HT:=(hT.up HA.out).reg
 have HN:=(hN.up HA.out).reg
 have HV:=(hV.up HA.out).reg
 have s1:¬((⟨#[112,116,115,32,40,32]⟩:ByteArray).size+(T:ByteArray).size > 9223372036854775807):=by
  simp only[size_app,size_lit,brk_size,List.size_toArray,List.length_cons,List.length_nil];omega
 have s2:¬((⟨#[112,116,115,32,40,32]⟩ ++ T:ByteArray).size+(⟨#[32,46,32]⟩:ByteArray).size > 9223372036854775807):=by
  simp only[size_app,size_lit,brk_size,List.size_toArray,List.length_cons,List.length_nil];omega
 have s3:¬((⟨#[112,116,115,32,40,32]⟩ ++ T ++ ⟨#[32,46,32]⟩:ByteArray).size+(F:ByteArray).size > 9223372036854775807):=by
  simp only[size_app,size_lit,brk_size,List.size_toArray,List.length_cons,List.length_nil];omega
 have s4:¬((⟨#[112,116,115,32,40,32]⟩ ++ T ++ ⟨#[32,46,32]⟩ ++ F:ByteArray).size+(⟨#[32,44,32]⟩:ByteArray).size > 9223372036854775807):=by
  simp only[size_app,size_lit,brk_size,List.size_toArray,List.length_cons,List.length_nil];omega
 have s5:¬((⟨#[112,116,115,32,40,32]⟩ ++ T ++ ⟨#[32,46,32]⟩ ++ F ++ ⟨#[32,44,32]⟩:ByteArray).size+(N:ByteArray).size > 9223372036854775807):=by
  simp only[size_app,size_lit,brk_size,List.size_toArray,List.length_cons,List.length_nil];omega
 have s6:¬((⟨#[112,116,115,32,40,32]⟩ ++ T ++ ⟨#[32,46,32]⟩ ++ F ++ ⟨#[32,44,32]⟩ ++ N:ByteArray).size+(⟨#[32,44,32]⟩:ByteArray).size > 9223372036854775807):=by
  simp only[size_app,size_lit,brk_size,List.size_toArray,List.length_cons,List.length_nil];omega
 have s7:¬((⟨#[112,116,115,32,40,32]⟩ ++ T ++ ⟨#[32,46,32]⟩ ++ F ++ ⟨#[32,44,32]⟩ ++ N ++ ⟨#[32,44,32]⟩:ByteArray).size+(V:ByteArray).size > 9223372036854775807):=by
  simp only[size_app,size_lit,brk_size,List.size_toArray,List.length_cons,List.length_nil];omega
 have s8:¬((⟨#[112,116,115,32,40,32]⟩ ++ T ++ ⟨#[32,46,32]⟩ ++ F ++ ⟨#[32,44,32]⟩ ++ N ++ ⟨#[32,44,32]⟩ ++ V:ByteArray).size+(⟨#[32,41]⟩:ByteArray).size > 9223372036854775807):=by
  simp only[size_app,size_lit,brk_size,List.size_toArray,List.length_cons,List.length_nil];omega
 clear q0 p2 l2 p3 l3 q12 q13 hT hN hV sT sF sN sV
 go_enter Tryz.func25,Tryz.ntmps25
 go_wp2_with fail
 refine wp_region_quiet_below (by kernel_rfl) (by kernel_rfl) ?_
 repeat (first | (go_big_quiet_step (first | with_reducible exact HT _ _ | with_reducible exact HN _ _ | with_reducible exact HV _ _)) | (refine wpQuiet_load_c 37 _ rfl ⟨w.heap.size,4,none⟩ rfl ce _ P2.out rfl Tryz.underlying37 rfl (by rw[L2.out];kernel_rfl) _ (by simp only[Act.put,List.setIfInBounds_toArray,List.set_cons_succ,List.set_cons_zero];rfl) ?_) | (refine wpQuiet_load_c 37 _ rfl ⟨w.heap.size,8,none⟩ rfl cv _ P3.out rfl Tryz.underlying37 rfl (by rw[L3.out];kernel_rfl) _ (by simp only[Act.put,List.setIfInBounds_toArray,List.set_cons_succ,List.set_cons_zero];rfl) ?_))
 refine wpQuiet_nil ?_
 intro w9 hw'
 obtain⟨⟨dq,osq⟩,hw''⟩:=hw'
 have HB9:Hid (Below w.heap.size w w9):=Lib.hid (by rw[hw''];exact HA.out.trans ((below_regrown _ dq osq).mono HA.out.size))
 clear hw'' HT HN HV
 go_wp2_with fail
 go_ret
 exact⟨rfl,HB9.out⟩
theorem textA_5 (cs:List Value)(cc ds gs:List Value)(b off c:Nat)(T:ByteArray)(sT:T.size≤1000000000)(U:ByteArray)(sU:U.size≤1000000000)(V:ByteArray)(sV:V.size≤1000000000)(w:World)(q0:cs[0]? =some (.int .i64 5))
 (hbl:b<w.heap.size) (p1:Part cs 1 cc) (l1:cc.length=3) (q14:cs[14]? =some (.slice (some ⟨b,off,none⟩) 2 c)) (l4:ds.length=15) (hc4:∀i v,ds[i]? =some v→w.cell? ((⟨b,off,none⟩:Addr).add i)=some v) (l5:gs.length=15) (hc5:∀i v,gs[i]? =some v→w.cell? ((⟨b,off+15,none⟩:Addr).add i)=some v)
 (hT:ValAll 53 #[.agg cc.toArray] (.string T) w)
 (hU:ValAll 25 #[.agg ds.toArray] (.string U) w)
 (hV:ValAll 25 #[.agg gs.toArray] (.string V) w):
 Calls Tryz.prog 25 #[.agg cs.toArray] w fun r w'=>r= .returned (.string (⟨#[105,102,32]⟩ ++ T ++ ⟨#[32,123,32]⟩ ++ U ++ ⟨#[32,125,32,101,108,115,101,32,123,32]⟩ ++ V ++ ⟨#[32,125]⟩))∧Below w.heap.size w w':=by
 have HA:Hid (Below w.heap.size w (w.alloc (.cells cs.toArray 44))):=box_low
 have K0:=box_at (t:=44) q0 (Below.refl _ (w.alloc (.cells cs.toArray 44)))
 have P1:=Lib.hid (fun W (hb:Below (w.alloc (.cells cs.toArray 44)).heap.size (w.alloc (.cells cs.toArray 44)) W)=>box_part p1 hb)
 have L1:=Lib.hid l1
 have K14:=fun d os=>cell_regrown (box_at (t:=44) q14 (Below.refl _ (w.alloc (.cells cs.toArray 44)))) d os
 have HC4:Hid (∀W,Below (w.alloc (.cells cs.toArray 44)).heap.size (w.alloc (.cells cs.toArray 44)) W→∀i v,ds[i]? =some v→W.cell? ((⟨b,off,none⟩:Addr).add i)=some v):=Lib.hid fun W hW i v h=>((HA.out.trans (hW.mono HA.out.size)).cell (by unfold Addr.add;split<;>exact hbl)).trans (hc4 i v h)
 have L4:=Lib.hid l4
 have HC5:Hid (∀W,Below (w.alloc (.cells cs.toArray 44)).heap.size (w.alloc (.cells cs.toArray 44)) W→∀i v,gs[i]? =some v→W.cell? ((⟨b,off+15,none⟩:Addr).add i)=some v):=Lib.hid fun W hW i v h=>((HA.out.trans (hW.mono HA.out.size)).cell (by unfold Addr.add;split<;>exact hbl)).trans (hc5 i v h)
 have L5:=Lib.hid l5
 have HT:=(hT.up HA.out).reg
 have HU:=(hU.up HA.out).reg
 have HV:=(hV.up HA.out).reg
 have s1:¬((⟨#[105,102,32]⟩:ByteArray).size+(T:ByteArray).size > 9223372036854775807):=by
  simp only[size_app,size_lit,brk_size,List.size_toArray,List.length_cons,List.length_nil];omega
 have s2:¬((⟨#[105,102,32]⟩ ++ T:ByteArray).size+(⟨#[32,123,32]⟩:ByteArray).size > 9223372036854775807):=by
  simp only[size_app,size_lit,brk_size,List.size_toArray,List.length_cons,List.length_nil];omega
 have s3:¬((⟨#[105,102,32]⟩ ++ T ++ ⟨#[32,123,32]⟩:ByteArray).size+(U:ByteArray).size > 9223372036854775807):=by
  simp only[size_app,size_lit,brk_size,List.size_toArray,List.length_cons,List.length_nil];omega
 have s4:¬((⟨#[105,102,32]⟩ ++ T ++ ⟨#[32,123,32]⟩ ++ U:ByteArray).size+(⟨#[32,125,32,101,108,115,101,32,123,32]⟩:ByteArray).size > 9223372036854775807):=by
  simp only[size_app,size_lit,brk_size,List.size_toArray,List.length_cons,List.length_nil];omega
 have s5:¬((⟨#[105,102,32]⟩ ++ T ++ ⟨#[32,123,32]⟩ ++ U ++ ⟨#[32,125,32,101,108,115,101,32,123,32]⟩:ByteArray).size+(V:ByteArray).size > 9223372036854775807):=by
  simp only[size_app,size_lit,brk_size,List.size_toArray,List.length_cons,List.length_nil];omega
 have s6:¬((⟨#[105,102,32]⟩ ++ T ++ ⟨#[32,123,32]⟩ ++ U ++ ⟨#[32,125,32,101,108,115,101,32,123,32]⟩ ++ V:ByteArray).size+(⟨#[32,125]⟩:ByteArray).size > 9223372036854775807):=by
  simp only[size_app,size_lit,brk_size,List.size_toArray,List.length_cons,List.length_nil];omega
 clear q0 hbl p1 l1 q14 l4 hc4 l5 hc5 hT hU hV sT sU sV
 go_enter Tryz.func25,Tryz.ntmps25
 go_wp2_with fail
 refine wp_region_quiet_below (by kernel_rfl) (by kernel_rfl) ?_
 repeat (first | (go_big_quiet_step (first | with_reducible exact HT _ _ | with_reducible exact HU _ _ | with_reducible exact HV _ _)) | (refine wpQuiet_load_c 41 _ rfl ⟨w.heap.size,1,none⟩ rfl cc _ P1.out rfl Tryz.underlying41 rfl (by rw[L1.out];kernel_rfl) _ (by simp only[Act.put,List.setIfInBounds_toArray,List.set_cons_succ,List.set_cons_zero];rfl) ?_) | (refine wpQuiet_load_c 44 _ rfl ⟨b,off,none⟩ rfl ds _ HC4.out rfl Tryz.underlying44 rfl (by rw[L4.out];kernel_rfl) _ (by simp only[Act.put,List.setIfInBounds_toArray,List.set_cons_succ,List.set_cons_zero];rfl) ?_) | (refine wpQuiet_load_c 44 _ rfl ⟨b,off+15,none⟩ rfl gs _ HC5.out rfl Tryz.underlying44 rfl (by rw[L5.out];kernel_rfl) _ (by simp only[Act.put,List.setIfInBounds_toArray,List.set_cons_succ,List.set_cons_zero];rfl) ?_))
 refine wpQuiet_nil ?_
 intro w9 hw'
 obtain⟨⟨dq,osq⟩,hw''⟩:=hw'
 have HB9:Hid (Below w.heap.size w w9):=Lib.hid (by rw[hw''];exact HA.out.trans ((below_regrown _ dq osq).mono HA.out.size))
 clear hw'' HT HU HV
 go_wp2_with fail
 go_ret
 exact⟨rfl,HB9.out⟩
theorem textA_4b (cs ds gs:List Value)(b off c:Nat)(ky:Int)(U:ByteArray)(sU:U.size≤1000000000)(V:ByteArray)(sV:V.size≤1000000000)(w:World)(q0:cs[0]? =some (.int .i64 4))(q14:cs[14]? =some (.slice (some ⟨b,off,none⟩) 2 c))(hbl:b<w.heap.size)(l4:ds.length=15)(hc4:∀i v,ds[i]? =some v→w.cell? ((⟨b,off,none⟩:Addr).add i)=some v)(l5:gs.length=15)(hc5:∀i v,gs[i]? =some v→w.cell? ((⟨b,off+15,none⟩:Addr).add i)=some v)(hky:gs[0]? =some (.int .i64 ky))(hk4:ky=4)
 (hU:ValAll 25 #[.agg ds.toArray] (.string U) w) (hV:ValAll 25 #[.agg gs.toArray] (.string V) w):Calls Tryz.prog 25 #[.agg cs.toArray] w fun r w'=>r= .returned (.string (U ++ ⟨#[32,38,32]⟩ ++ brk V))∧Below w.heap.size w w':=by
 have HA:Hid (Below w.heap.size w (w.alloc (.cells cs.toArray 44))):=box_low
 have K0:=box_at (t:=44) q0 (Below.refl _ (w.alloc (.cells cs.toArray 44)))
 have K14:=Lib.hid (fun W (hb:Below (w.alloc (.cells cs.toArray 44)).heap.size (w.alloc (.cells cs.toArray 44)) W)=>box_at q14 hb)
 have HC4:Hid (∀W,Below (w.alloc (.cells cs.toArray 44)).heap.size (w.alloc (.cells cs.toArray 44)) W→∀i v,ds[i]? =some v→W.cell? ((⟨b,off,none⟩:Addr).add i)=some v):=Lib.hid fun W hW i v h=>((HA.out.trans (hW.mono HA.out.size)).cell (by unfold Addr.add;split<;>exact hbl)).trans (hc4 i v h)
 have L4:=Lib.hid l4
 have HC5:Hid (∀W,Below (w.alloc (.cells cs.toArray 44)).heap.size (w.alloc (.cells cs.toArray 44)) W→∀i v,gs[i]? =some v→W.cell? ((⟨b,off+15,none⟩:Addr).add i)=some v):=Lib.hid fun W hW i v h=>((HA.out.trans (hW.mono HA.out.size)).cell (by unfold Addr.add;split<;>exact hbl)).trans (hc5 i v h)
 have L5:=Lib.hid l5
 have KY:=Lib.hid (fun W (hb:Below (w.alloc (.cells cs.toArray 44)).heap.size (w.alloc (.cells cs.toArray 44)) W)=>(show W.cell? ⟨b,off+15,none⟩=some (.int .i64 ky) from HC5.out W hb 0 _ hky))
 have HU:=Lib.hid (hU.up HA.out)
 have HV:=Lib.hid (hV.up HA.out)
 have g4:(ky == 4)=true:=by rw[hk4];rfl
 have sB:(brk V).size≤1000000004:=by rw[brk_size];omega
 have t1:¬((⟨#[40,32]⟩:ByteArray).size+(V:ByteArray).size > 9223372036854775807):=by
  simp only[size_app,size_lit,brk_size,List.size_toArray,List.length_cons,List.length_nil];omega
 have t2:¬((⟨#[40,32]⟩ ++ V:ByteArray).size+(⟨#[32,41]⟩:ByteArray).size > 9223372036854775807):=by
  simp only[size_app,size_lit,brk_size,List.size_toArray,List.length_cons,List.length_nil];omega
 have s1:¬((U:ByteArray).size+(⟨#[32,38,32]⟩:ByteArray).size > 9223372036854775807):=by
  simp only[size_app,size_lit,brk_size,List.size_toArray,List.length_cons,List.length_nil];omega
 have s2:¬((U ++ ⟨#[32,38,32]⟩:ByteArray).size+((brk V):ByteArray).size > 9223372036854775807):=by
  simp only[size_app,size_lit,brk_size,List.size_toArray,List.length_cons,List.length_nil];omega
 unfold brk at s2⊢
 clear sB
 clear q0 q14 hbl l4 hc4 l5 hc5 hky hk4 hU hV sU sV
 have c14:=K14.out _ (Below.refl _ _)
 go_enter Tryz.func25,Tryz.ntmps25
 go_wp2_with (refine wpList_load_w rfl 44 _ rfl ⟨b,off+15,none⟩ rfl gs _ (HC5.out _ (Below.refl _ _)) Tryz.underlying44 rfl (by rw[L5.out];kernel_rfl) ?_)
 refine(HV.out.at (Below.refl _ _)).mono ?_
 rintro e w1 ⟨rfl,hb⟩
 have HB1:=Lib.hid hb
 have d14:=K14.out _ hb
 have dky:=KY.out _ hb
 clear hb HV c14
 go_wp2_with (refine wpList_load_w rfl 44 _ rfl ⟨b,off,none⟩ rfl ds _ (HC4.out _ HB1.out) Tryz.underlying44 rfl (by rw[L4.out];kernel_rfl) ?_)
 refine(HU.out.at HB1.out).mono ?_
 rintro e w2 ⟨rfl,hb2⟩
 have HB2:=Lib.hid (HA.out.trans ((HB1.out.trans (hb2.mono HB1.out.size)).mono HA.out.size))
 clear hb2 HU d14 dky HB1
 go_wp2_with fail
 go_ret
 exact⟨rfl,HB2.out⟩
theorem textA_4n (cs ds gs:List Value)(b off c:Nat)(ky:Int)(U:ByteArray)(sU:U.size≤1000000000)(V:ByteArray)(sV:V.size≤1000000000)(w:World)(q0:cs[0]? =some (.int .i64 4))(q14:cs[14]? =some (.slice (some ⟨b,off,none⟩) 2 c))(hbl:b<w.heap.size)(l4:ds.length=15)(hc4:∀i v,ds[i]? =some v→w.cell? ((⟨b,off,none⟩:Addr).add i)=some v)(l5:gs.length=15)(hc5:∀i v,gs[i]? =some v→w.cell? ((⟨b,off+15,none⟩:Addr).add i)=some v)(hky:gs[0]? =some (.int .i64 ky))(hk4:¬ky=4)
 (hU:ValAll 25 #[.agg ds.toArray] (.string U) w) (hV:ValAll 25 #[.agg gs.toArray] (.string V) w):Calls Tryz.prog 25 #[.agg cs.toArray] w fun r w'=>r= .returned (.string (U ++ ⟨#[32,38,32]⟩ ++ V))∧Below w.heap.size w w':=by
 have HA:Hid (Below w.heap.size w (w.alloc (.cells cs.toArray 44))):=box_low
 have K0:=box_at (t:=44) q0 (Below.refl _ (w.alloc (.cells cs.toArray 44)))
 have K14:=Lib.hid (fun W (hb:Below (w.alloc (.cells cs.toArray 44)).heap.size (w.alloc (.cells cs.toArray 44)) W)=>box_at q14 hb)
 have HC4:Hid (∀W,Below (w.alloc (.cells cs.toArray 44)).heap.size (w.alloc (.cells cs.toArray 44)) W→∀i v,ds[i]? =some v→W.cell? ((⟨b,off,none⟩:Addr).add i)=some v):=Lib.hid fun W hW i v h=>((HA.out.trans (hW.mono HA.out.size)).cell (by unfold Addr.add;split<;>exact hbl)).trans (hc4 i v h)
 have L4:=Lib.hid l4
 have HC5:Hid (∀W,Below (w.alloc (.cells cs.toArray 44)).heap.size (w.alloc (.cells cs.toArray 44)) W→∀i v,gs[i]? =some v→W.cell? ((⟨b,off+15,none⟩:Addr).add i)=some v):=Lib.hid fun W hW i v h=>((HA.out.trans (hW.mono HA.out.size)).cell (by unfold Addr.add;split<;>exact hbl)).trans (hc5 i v h)
 have L5:=Lib.hid l5
 have KY:=Lib.hid (fun W (hb:Below (w.alloc (.cells cs.toArray 44)).heap.size (w.alloc (.cells cs.toArray 44)) W)=>(show W.cell? ⟨b,off+15,none⟩=some (.int .i64 ky) from HC5.out W hb 0 _ hky))
 have HU:=Lib.hid (hU.up HA.out)
 have HV:=Lib.hid (hV.up HA.out)
 have g4:(ky == 4)=false:=by rw[Bool.eq_false_iff];simpa using hk4
 have s1:¬((U:ByteArray).size+(⟨#[32,38,32]⟩:ByteArray).size > 9223372036854775807):=by
  simp only[size_app,size_lit,brk_size,List.size_toArray,List.length_cons,List.length_nil];omega
 have s2:¬((U ++ ⟨#[32,38,32]⟩:ByteArray).size+(V:ByteArray).size > 9223372036854775807):=by
  simp only[size_app,size_lit,brk_size,List.size_toArray,List.length_cons,List.length_nil];omega
 clear q0 q14 hbl l4 hc4 l5 hc5 hky hk4 hU hV sU sV
 have c14:=K14.out _ (Below.refl _ _)
 go_enter Tryz.func25,Tryz.ntmps25
 go_wp2_with (refine wpList_load_w rfl 44 _ rfl ⟨b,off+15,none⟩ rfl gs _ (HC5.out _ (Below.refl _ _)) Tryz.underlying44 rfl (by rw[L5.out];kernel_rfl) ?_)
 refine(HV.out.at (Below.refl _ _)).mono ?_
 rintro e w1 ⟨rfl,hb⟩
 have HB1:=Lib.hid hb
 have d14:=K14.out _ hb
 have dky:=KY.out _ hb
 clear hb HV c14
 go_wp2_with (refine wpList_load_w rfl 44 _ rfl ⟨b,off,none⟩ rfl ds _ (HC4.out _ HB1.out) Tryz.underlying44 rfl (by rw[L4.out];kernel_rfl) ?_)
 refine(HU.out.at HB1.out).mono ?_
 rintro e w2 ⟨rfl,hb2⟩
 have HB2:=Lib.hid (HA.out.trans ((HB1.out.trans (hb2.mono HB1.out.size)).mono HA.out.size))
 clear hb2 HU d14 dky HB1
 go_wp2_with fail
 go_ret
 exact⟨rfl,HB2.out⟩
end
section
open Go.RowKit
theorem textS_0e (cs ce:List Value)(E:ByteArray)(sE:E.size≤10000000000)(F:ByteArray)(sF:F.size≤10000000000)(w:World)(q0:cs[0]? =some (.int .i64 0))(q1:cs[1]? =some (.string ⟨#[]⟩))(q2:cs[2]? =some (.string F))(pe:Part cs 4 ce)(le:ce.length=4)
 (hE:ValAll 54 #[.agg ce.toArray] (.string E) w):
 Calls Tryz.prog 56 #[.agg cs.toArray] w fun r w'=>r= .returned (.string (⟨#[115,107,105,112,32,59]⟩))∧Below w.heap.size w w':=by
 have HA:Hid (Below w.heap.size w (w.alloc (.cells cs.toArray 47))):=box_low
 have k1:=box_at (t:=47) q1 (Below.refl _ (w.alloc (.cells cs.toArray 47)))
 have Q0:=Lib.hid (fun W (hb:Below (w.alloc (.cells cs.toArray 47)).heap.size (w.alloc (.cells cs.toArray 47)) W)=>box_at q0 hb)
 have PE:=Lib.hid (fun W (hb:Below (w.alloc (.cells cs.toArray 47)).heap.size (w.alloc (.cells cs.toArray 47)) W)=>box_part pe hb)
 have LE:=Lib.hid le
 have k2:=fun d os=>cell_regrown (box_at (t:=47) q2 (Below.refl _ (w.alloc (.cells cs.toArray 47)))) d os
 have rE:=(hE.up HA.out).reg
 have HE:=Lib.hid (hE.up HA.out)
 have p1:¬((E:ByteArray).size+(⟨#[32,46,32]⟩:ByteArray).size > 9223372036854775807):=by
  simp only[size_app,size_lit,brk_size,List.size_toArray,List.length_cons,List.length_nil];omega
 have p2:¬((E ++ ⟨#[32,46,32]⟩:ByteArray).size+(F:ByteArray).size > 9223372036854775807):=by
  simp only[size_app,size_lit,brk_size,List.size_toArray,List.length_cons,List.length_nil];omega
 clear q0 q1 q2 pe le hE sE sF
 go_enter Tryz.func56,Tryz.ntmps56
 go_wp2_with fail
 refine wp_region_quiet_below (by kernel_rfl) (by kernel_rfl) ?_
 repeat (first | (go_big_quiet_step (first | with_reducible exact rE _ _)) | (refine wpQuiet_load_c 37 _ rfl ⟨w.heap.size,4,none⟩ rfl ce _ PE.out rfl Tryz.underlying37 rfl (by rw[LE.out];kernel_rfl) _ (by simp only[Act.put,List.setIfInBounds_toArray,List.set_cons_succ,List.set_cons_zero];rfl) ?_))
 refine wpQuiet_nil ?_
 intro w4 hw'
 obtain⟨⟨dq,osq⟩,hw''⟩:=hw'
 have HB4:Hid (Below (w.alloc (.cells cs.toArray 47)).heap.size (w.alloc (.cells cs.toArray 47)) w4):=Lib.hid (by rw[hw''];exact below_regrown _ dq osq)
 clear hw'' rE k1 k2
 have k0:=Q0.out _ HB4.out
 go_wp2_with fail
 go_ret
 exact⟨rfl,HA.out.trans (HB4.out.mono HA.out.size)⟩
theorem textS_0n (cs ce:List Value)(S:ByteArray)(sS:S.size≤10000000000)(hS:¬S=⟨#[]⟩)(E:ByteArray)(sE:E.size≤10000000000)(F:ByteArray)(sF:F.size≤10000000000)(w:World)(q0:cs[0]? =some (.int .i64 0))(q1:cs[1]? =some (.string S))(q2:cs[2]? =some (.string F))(pe:Part cs 4 ce)(le:ce.length=4)
 (hE:ValAll 54 #[.agg ce.toArray] (.string E) w):
 Calls Tryz.prog 56 #[.agg cs.toArray] w fun r w'=>r= .returned (.string (⟨#[115,107,105,112,32,59]⟩))∧Below w.heap.size w w':=by
 have HA:Hid (Below w.heap.size w (w.alloc (.cells cs.toArray 47))):=box_low
 have k1:=box_at (t:=47) q1 (Below.refl _ (w.alloc (.cells cs.toArray 47)))
 have Q0:=Lib.hid (fun W (hb:Below (w.alloc (.cells cs.toArray 47)).heap.size (w.alloc (.cells cs.toArray 47)) W)=>box_at q0 hb)
 have PE:=Lib.hid (fun W (hb:Below (w.alloc (.cells cs.toArray 47)).heap.size (w.alloc (.cells cs.toArray 47)) W)=>box_part pe hb)
 have LE:=Lib.hid le
 have k2:=fun d os=>cell_regrown (box_at (t:=47) q2 (Below.refl _ (w.alloc (.cells cs.toArray 47)))) d os
 have rE:=(hE.up HA.out).reg
 have HE:=Lib.hid (hE.up HA.out)
 have gS:(S.toList == [])=false:=by have:=nbs_ne hS;simpa using this
 have z1:¬(S.size+(⟨#[32,58,61,32]⟩:ByteArray).size > 9223372036854775807):=by
  simp only[size_app,size_lit,brk_size,List.size_toArray,List.length_cons,List.length_nil];omega
 have p1:¬((E:ByteArray).size+(⟨#[32,46,32]⟩:ByteArray).size > 9223372036854775807):=by
  simp only[size_app,size_lit,brk_size,List.size_toArray,List.length_cons,List.length_nil];omega
 have p2:¬((E ++ ⟨#[32,46,32]⟩:ByteArray).size+(F:ByteArray).size > 9223372036854775807):=by
  simp only[size_app,size_lit,brk_size,List.size_toArray,List.length_cons,List.length_nil];omega
 clear q0 q1 q2 pe le hE sE sF hS sS
 go_enter Tryz.func56,Tryz.ntmps56
 go_wp2_with fail
 refine wp_region_quiet_below (by kernel_rfl) (by kernel_rfl) ?_
 repeat (first | (go_big_quiet_step (first | with_reducible exact rE _ _)) | (refine wpQuiet_load_c 37 _ rfl ⟨w.heap.size,4,none⟩ rfl ce _ PE.out rfl Tryz.underlying37 rfl (by rw[LE.out];kernel_rfl) _ (by simp only[Act.put,List.setIfInBounds_toArray,List.set_cons_succ,List.set_cons_zero];rfl) ?_))
 refine wpQuiet_nil ?_
 intro w4 hw'
 obtain⟨⟨dq,osq⟩,hw''⟩:=hw'
 have HB4:Hid (Below (w.alloc (.cells cs.toArray 47)).heap.size (w.alloc (.cells cs.toArray 47)) w4):=Lib.hid (by rw[hw''];exact below_regrown _ dq osq)
 clear hw'' rE k1 k2
 have k0:=Q0.out _ HB4.out
 go_wp2_with fail
 go_ret
 exact⟨rfl,HA.out.trans (HB4.out.mono HA.out.size)⟩
theorem textS_1e (cs ce:List Value)(E:ByteArray)(sE:E.size≤10000000000)(F:ByteArray)(sF:F.size≤10000000000)(w:World)(q0:cs[0]? =some (.int .i64 1))(q1:cs[1]? =some (.string ⟨#[]⟩))(q2:cs[2]? =some (.string F))(pe:Part cs 4 ce)(le:ce.length=4)
 (hE:ValAll 54 #[.agg ce.toArray] (.string E) w):
 Calls Tryz.prog 56 #[.agg cs.toArray] w fun r w'=>r= .returned (.string (⟨#[]⟩ ++ E ++ ⟨#[32,59]⟩))∧Below w.heap.size w w':=by
 have HA:Hid (Below w.heap.size w (w.alloc (.cells cs.toArray 47))):=box_low
 have k1:=box_at (t:=47) q1 (Below.refl _ (w.alloc (.cells cs.toArray 47)))
 have Q0:=Lib.hid (fun W (hb:Below (w.alloc (.cells cs.toArray 47)).heap.size (w.alloc (.cells cs.toArray 47)) W)=>box_at q0 hb)
 have PE:=Lib.hid (fun W (hb:Below (w.alloc (.cells cs.toArray 47)).heap.size (w.alloc (.cells cs.toArray 47)) W)=>box_part pe hb)
 have LE:=Lib.hid le
 have k2:=fun d os=>cell_regrown (box_at (t:=47) q2 (Below.refl _ (w.alloc (.cells cs.toArray 47)))) d os
 have rE:=(hE.up HA.out).reg
 have HE:=Lib.hid (hE.up HA.out)
 have p1:¬((E:ByteArray).size+(⟨#[32,46,32]⟩:ByteArray).size > 9223372036854775807):=by
  simp only[size_app,size_lit,brk_size,List.size_toArray,List.length_cons,List.length_nil];omega
 have p2:¬((E ++ ⟨#[32,46,32]⟩:ByteArray).size+(F:ByteArray).size > 9223372036854775807):=by
  simp only[size_app,size_lit,brk_size,List.size_toArray,List.length_cons,List.length_nil];omega
 have s1:¬((⟨#[]⟩:ByteArray).size+(E:ByteArray).size > 9223372036854775807):=by
  simp only[size_app,size_lit,brk_size,List.size_toArray,List.length_cons,List.length_nil];omega
 have s2:¬((⟨#[]⟩ ++ E:ByteArray).size+(⟨#[32,59]⟩:ByteArray).size > 9223372036854775807):=by
  simp only[size_app,size_lit,brk_size,List.size_toArray,List.length_cons,List.length_nil];omega
 clear q0 q1 q2 pe le hE sE sF
 go_enter Tryz.func56,Tryz.ntmps56
 go_wp2_with fail
 refine wp_region_quiet_below (by kernel_rfl) (by kernel_rfl) ?_
 repeat (first | (go_big_quiet_step (first | with_reducible exact rE _ _)) | (refine wpQuiet_load_c 37 _ rfl ⟨w.heap.size,4,none⟩ rfl ce _ PE.out rfl Tryz.underlying37 rfl (by rw[LE.out];kernel_rfl) _ (by simp only[Act.put,List.setIfInBounds_toArray,List.set_cons_succ,List.set_cons_zero];rfl) ?_))
 refine wpQuiet_nil ?_
 intro w4 hw'
 obtain⟨⟨dq,osq⟩,hw''⟩:=hw'
 have HB4:Hid (Below (w.alloc (.cells cs.toArray 47)).heap.size (w.alloc (.cells cs.toArray 47)) w4):=Lib.hid (by rw[hw''];exact below_regrown _ dq osq)
 clear hw'' rE k1 k2
 have k0:=Q0.out _ HB4.out
 go_wp2_with (refine wpList_load_w rfl 37 _ rfl ⟨w.heap.size,4,none⟩ rfl ce _ (PE.out _ HB4.out) Tryz.underlying37 rfl (by rw[LE.out];kernel_rfl) ?_)
 refine(HE.out.at HB4.out).mono ?_
 rintro e w5 ⟨rfl,hb⟩
 have HB5:=Lib.hid (HA.out.trans ((HB4.out.trans (hb.mono HB4.out.size)).mono HA.out.size))
 clear hb
 go_wp2_with fail
 go_ret
 exact⟨rfl,HB5.out⟩
theorem textS_1n (cs ce:List Value)(S:ByteArray)(sS:S.size≤10000000000)(hS:¬S=⟨#[]⟩)(E:ByteArray)(sE:E.size≤10000000000)(F:ByteArray)(sF:F.size≤10000000000)(w:World)(q0:cs[0]? =some (.int .i64 1))(q1:cs[1]? =some (.string S))(q2:cs[2]? =some (.string F))(pe:Part cs 4 ce)(le:ce.length=4)
 (hE:ValAll 54 #[.agg ce.toArray] (.string E) w):
 Calls Tryz.prog 56 #[.agg cs.toArray] w fun r w'=>r= .returned (.string ((S ++ ⟨#[32,58,61,32]⟩) ++ E ++ ⟨#[32,59]⟩))∧Below w.heap.size w w':=by
 have HA:Hid (Below w.heap.size w (w.alloc (.cells cs.toArray 47))):=box_low
 have k1:=box_at (t:=47) q1 (Below.refl _ (w.alloc (.cells cs.toArray 47)))
 have Q0:=Lib.hid (fun W (hb:Below (w.alloc (.cells cs.toArray 47)).heap.size (w.alloc (.cells cs.toArray 47)) W)=>box_at q0 hb)
 have PE:=Lib.hid (fun W (hb:Below (w.alloc (.cells cs.toArray 47)).heap.size (w.alloc (.cells cs.toArray 47)) W)=>box_part pe hb)
 have LE:=Lib.hid le
 have k2:=fun d os=>cell_regrown (box_at (t:=47) q2 (Below.refl _ (w.alloc (.cells cs.toArray 47)))) d os
 have rE:=(hE.up HA.out).reg
 have HE:=Lib.hid (hE.up HA.out)
 have gS:(S.toList == [])=false:=by have:=nbs_ne hS;simpa using this
 have z1:¬(S.size+(⟨#[32,58,61,32]⟩:ByteArray).size > 9223372036854775807):=by
  simp only[size_app,size_lit,brk_size,List.size_toArray,List.length_cons,List.length_nil];omega
 have p1:¬((E:ByteArray).size+(⟨#[32,46,32]⟩:ByteArray).size > 9223372036854775807):=by
  simp only[size_app,size_lit,brk_size,List.size_toArray,List.length_cons,List.length_nil];omega
 have p2:¬((E ++ ⟨#[32,46,32]⟩:ByteArray).size+(F:ByteArray).size > 9223372036854775807):=by
  simp only[size_app,size_lit,brk_size,List.size_toArray,List.length_cons,List.length_nil];omega
 have s1:¬(((S ++ ⟨#[32,58,61,32]⟩):ByteArray).size+(E:ByteArray).size > 9223372036854775807):=by
  simp only[size_app,size_lit,brk_size,List.size_toArray,List.length_cons,List.length_nil];omega
 have s2:¬(((S ++ ⟨#[32,58,61,32]⟩) ++ E:ByteArray).size+(⟨#[32,59]⟩:ByteArray).size > 9223372036854775807):=by
  simp only[size_app,size_lit,brk_size,List.size_toArray,List.length_cons,List.length_nil];omega
 clear q0 q1 q2 pe le hE sE sF hS sS
 go_enter Tryz.func56,Tryz.ntmps56
 go_wp2_with fail
 refine wp_region_quiet_below (by kernel_rfl) (by kernel_rfl) ?_
 repeat (first | (go_big_quiet_step (first | with_reducible exact rE _ _)) | (refine wpQuiet_load_c 37 _ rfl ⟨w.heap.size,4,none⟩ rfl ce _ PE.out rfl Tryz.underlying37 rfl (by rw[LE.out];kernel_rfl) _ (by simp only[Act.put,List.setIfInBounds_toArray,List.set_cons_succ,List.set_cons_zero];rfl) ?_))
 refine wpQuiet_nil ?_
 intro w4 hw'
 obtain⟨⟨dq,osq⟩,hw''⟩:=hw'
 have HB4:Hid (Below (w.alloc (.cells cs.toArray 47)).heap.size (w.alloc (.cells cs.toArray 47)) w4):=Lib.hid (by rw[hw''];exact below_regrown _ dq osq)
 clear hw'' rE k1 k2
 have k0:=Q0.out _ HB4.out
 go_wp2_with (refine wpList_load_w rfl 37 _ rfl ⟨w.heap.size,4,none⟩ rfl ce _ (PE.out _ HB4.out) Tryz.underlying37 rfl (by rw[LE.out];kernel_rfl) ?_)
 refine(HE.out.at HB4.out).mono ?_
 rintro e w5 ⟨rfl,hb⟩
 have HB5:=Lib.hid (HA.out.trans ((HB4.out.trans (hb.mono HB4.out.size)).mono HA.out.size))
 clear hb
 go_wp2_with fail
 go_ret
 exact⟨rfl,HB5.out⟩
theorem textS_2e (cs ce:List Value)(E:ByteArray)(sE:E.size≤10000000000)(F:ByteArray)(sF:F.size≤10000000000)(w:World)(q0:cs[0]? =some (.int .i64 2))(q1:cs[1]? =some (.string ⟨#[]⟩))(q2:cs[2]? =some (.string F))(pe:Part cs 4 ce)(le:ce.length=4)
 (hE:ValAll 54 #[.agg ce.toArray] (.string E) w):
 Calls Tryz.prog 56 #[.agg cs.toArray] w fun r w'=>r= .returned (.string (⟨#[]⟩ ++ ⟨#[103,101,116,32]⟩ ++ (E ++ ⟨#[32,46,32]⟩ ++ F) ++ ⟨#[32,59]⟩))∧Below w.heap.size w w':=by
 have HA:Hid (Below w.heap.size w (w.alloc (.cells cs.toArray 47))):=box_low
 have k1:=box_at (t:=47) q1 (Below.refl _ (w.alloc (.cells cs.toArray 47)))
 have Q0:=Lib.hid (fun W (hb:Below (w.alloc (.cells cs.toArray 47)).heap.size (w.alloc (.cells cs.toArray 47)) W)=>box_at q0 hb)
 have PE:=Lib.hid (fun W (hb:Below (w.alloc (.cells cs.toArray 47)).heap.size (w.alloc (.cells cs.toArray 47)) W)=>box_part pe hb)
 have LE:=Lib.hid le
 have k2:=fun d os=>cell_regrown (box_at (t:=47) q2 (Below.refl _ (w.alloc (.cells cs.toArray 47)))) d os
 have rE:=(hE.up HA.out).reg
 have HE:=Lib.hid (hE.up HA.out)
 have p1:¬((E:ByteArray).size+(⟨#[32,46,32]⟩:ByteArray).size > 9223372036854775807):=by
  simp only[size_app,size_lit,brk_size,List.size_toArray,List.length_cons,List.length_nil];omega
 have p2:¬((E ++ ⟨#[32,46,32]⟩:ByteArray).size+(F:ByteArray).size > 9223372036854775807):=by
  simp only[size_app,size_lit,brk_size,List.size_toArray,List.length_cons,List.length_nil];omega
 have s1:¬((⟨#[]⟩:ByteArray).size+(⟨#[103,101,116,32]⟩:ByteArray).size > 9223372036854775807):=by
  simp only[size_app,size_lit,brk_size,List.size_toArray,List.length_cons,List.length_nil];omega
 have s2:¬((⟨#[]⟩ ++ ⟨#[103,101,116,32]⟩:ByteArray).size+((E ++ ⟨#[32,46,32]⟩ ++ F):ByteArray).size > 9223372036854775807):=by
  simp only[size_app,size_lit,brk_size,List.size_toArray,List.length_cons,List.length_nil];omega
 have s3:¬((⟨#[]⟩ ++ ⟨#[103,101,116,32]⟩ ++ (E ++ ⟨#[32,46,32]⟩ ++ F):ByteArray).size+(⟨#[32,59]⟩:ByteArray).size > 9223372036854775807):=by
  simp only[size_app,size_lit,brk_size,List.size_toArray,List.length_cons,List.length_nil];omega
 clear q0 q1 q2 pe le hE sE sF
 go_enter Tryz.func56,Tryz.ntmps56
 go_wp2_with fail
 refine wp_region_quiet_below (by kernel_rfl) (by kernel_rfl) ?_
 repeat (first | (go_big_quiet_step (first | with_reducible exact rE _ _)) | (refine wpQuiet_load_c 37 _ rfl ⟨w.heap.size,4,none⟩ rfl ce _ PE.out rfl Tryz.underlying37 rfl (by rw[LE.out];kernel_rfl) _ (by simp only[Act.put,List.setIfInBounds_toArray,List.set_cons_succ,List.set_cons_zero];rfl) ?_))
 refine wpQuiet_nil ?_
 intro w4 hw'
 obtain⟨⟨dq,osq⟩,hw''⟩:=hw'
 have HB4:Hid (Below (w.alloc (.cells cs.toArray 47)).heap.size (w.alloc (.cells cs.toArray 47)) w4):=Lib.hid (by rw[hw''];exact below_regrown _ dq osq)
 clear hw'' rE k1 k2
 have k0:=Q0.out _ HB4.out
 go_wp2_with fail
 go_ret
 exact⟨rfl,HA.out.trans (HB4.out.mono HA.out.size)⟩
theorem textS_2n (cs ce:List Value)(S:ByteArray)(sS:S.size≤10000000000)(hS:¬S=⟨#[]⟩)(E:ByteArray)(sE:E.size≤10000000000)(F:ByteArray)(sF:F.size≤10000000000)(w:World)(q0:cs[0]? =some (.int .i64 2))(q1:cs[1]? =some (.string S))(q2:cs[2]? =some (.string F))(pe:Part cs 4 ce)(le:ce.length=4)
 (hE:ValAll 54 #[.agg ce.toArray] (.string E) w):
 Calls Tryz.prog 56 #[.agg cs.toArray] w fun r w'=>r= .returned (.string ((S ++ ⟨#[32,58,61,32]⟩) ++ ⟨#[103,101,116,32]⟩ ++ (E ++ ⟨#[32,46,32]⟩ ++ F) ++ ⟨#[32,59]⟩))∧Below w.heap.size w w':=by
 have HA:Hid (Below w.heap.size w (w.alloc (.cells cs.toArray 47))):=box_low
 have k1:=box_at (t:=47) q1 (Below.refl _ (w.alloc (.cells cs.toArray 47)))
 have Q0:=Lib.hid (fun W (hb:Below (w.alloc (.cells cs.toArray 47)).heap.size (w.alloc (.cells cs.toArray 47)) W)=>box_at q0 hb)
 have PE:=Lib.hid (fun W (hb:Below (w.alloc (.cells cs.toArray 47)).heap.size (w.alloc (.cells cs.toArray 47)) W)=>box_part pe hb)
 have LE:=Lib.hid le
 have k2:=fun d os=>cell_regrown (box_at (t:=47) q2 (Below.refl _ (w.alloc (.cells cs.toArray 47)))) d os
 have rE:=(hE.up HA.out).reg
 have HE:=Lib.hid (hE.up HA.out)
 have gS:(S.toList == [])=false:=by have:=nbs_ne hS;simpa using this
 have z1:¬(S.size+(⟨#[32,58,61,32]⟩:ByteArray).size > 9223372036854775807):=by
  simp only[size_app,size_lit,brk_size,List.size_toArray,List.length_cons,List.length_nil];omega
 have p1:¬((E:ByteArray).size+(⟨#[32,46,32]⟩:ByteArray).size > 9223372036854775807):=by
  simp only[size_app,size_lit,brk_size,List.size_toArray,List.length_cons,List.length_nil];omega
 have p2:¬((E ++ ⟨#[32,46,32]⟩:ByteArray).size+(F:ByteArray).size > 9223372036854775807):=by
  simp only[size_app,size_lit,brk_size,List.size_toArray,List.length_cons,List.length_nil];omega
 have s1:¬(((S ++ ⟨#[32,58,61,32]⟩):ByteArray).size+(⟨#[103,101,116,32]⟩:ByteArray).size > 9223372036854775807):=by
  simp only[size_app,size_lit,brk_size,List.size_toArray,List.length_cons,List.length_nil];omega
 have s2:¬(((S ++ ⟨#[32,58,61,32]⟩) ++ ⟨#[103,101,116,32]⟩:ByteArray).size+((E ++ ⟨#[32,46,32]⟩ ++ F):ByteArray).size > 9223372036854775807):=by
  simp only[size_app,size_lit,brk_size,List.size_toArray,List.length_cons,List.length_nil];omega
 have s3:¬(((S ++ ⟨#[32,58,61,32]⟩) ++ ⟨#[103,101,116,32]⟩ ++ (E ++ ⟨#[32,46,32]⟩ ++ F):ByteArray).size+(⟨#[32,59]⟩:ByteArray).size > 9223372036854775807):=by
  simp only[size_app,size_lit,brk_size,List.size_toArray,List.length_cons,List.length_nil];omega
 clear q0 q1 q2 pe le hE sE sF hS sS
 go_enter Tryz.func56,Tryz.ntmps56
 go_wp2_with fail
 refine wp_region_quiet_below (by kernel_rfl) (by kernel_rfl) ?_
 repeat (first | (go_big_quiet_step (first | with_reducible exact rE _ _)) | (refine wpQuiet_load_c 37 _ rfl ⟨w.heap.size,4,none⟩ rfl ce _ PE.out rfl Tryz.underlying37 rfl (by rw[LE.out];kernel_rfl) _ (by simp only[Act.put,List.setIfInBounds_toArray,List.set_cons_succ,List.set_cons_zero];rfl) ?_))
 refine wpQuiet_nil ?_
 intro w4 hw'
 obtain⟨⟨dq,osq⟩,hw''⟩:=hw'
 have HB4:Hid (Below (w.alloc (.cells cs.toArray 47)).heap.size (w.alloc (.cells cs.toArray 47)) w4):=Lib.hid (by rw[hw''];exact below_regrown _ dq osq)
 clear hw'' rE k1 k2
 have k0:=Q0.out _ HB4.out
 go_wp2_with fail
 go_ret
 exact⟨rfl,HA.out.trans (HB4.out.mono HA.out.size)⟩
theorem textS_3e (cs ce cv:List Value)(E:ByteArray)(sE:E.size≤10000000000)(F:ByteArray)(sF:F.size≤10000000000)(V:ByteArray)(sV:V.size≤10000000000)(w:World)(q0:cs[0]? =some (.int .i64 3))(q1:cs[1]? =some (.string ⟨#[]⟩))(q2:cs[2]? =some (.string F))(pe:Part cs 4 ce)(le:ce.length=4)(pv:Part cs 8 cv)(lv:cv.length=4)
 (hE:ValAll 54 #[.agg ce.toArray] (.string E) w) (hV:ValAll 54 #[.agg cv.toArray] (.string V) w):
 Calls Tryz.prog 56 #[.agg cs.toArray] w fun r w'=>r= .returned (.string (⟨#[112,117,116,32]⟩ ++ (E ++ ⟨#[32,46,32]⟩ ++ F) ++ ⟨#[32,58,61,32]⟩ ++ V ++ ⟨#[32,59]⟩))∧Below w.heap.size w w':=by
 have HA:Hid (Below w.heap.size w (w.alloc (.cells cs.toArray 47))):=box_low
 have k1:=box_at (t:=47) q1 (Below.refl _ (w.alloc (.cells cs.toArray 47)))
 have Q0:=Lib.hid (fun W (hb:Below (w.alloc (.cells cs.toArray 47)).heap.size (w.alloc (.cells cs.toArray 47)) W)=>box_at q0 hb)
 have PE:=Lib.hid (fun W (hb:Below (w.alloc (.cells cs.toArray 47)).heap.size (w.alloc (.cells cs.toArray 47)) W)=>box_part pe hb)
 have LE:=Lib.hid le
 have Pv:=Lib.hid (fun W (hb:Below (w.alloc (.cells cs.toArray 47)).heap.size (w.alloc (.cells cs.toArray 47)) W)=>box_part pv hb)
 have Lv:=Lib.hid lv
 have k2:=fun d os=>cell_regrown (box_at (t:=47) q2 (Below.refl _ (w.alloc (.cells cs.toArray 47)))) d os
 have rE:=(hE.up HA.out).reg
 have HE:=Lib.hid (hE.up HA.out)
 have HV:=Lib.hid (hV.up HA.out)
 have p1:¬((E:ByteArray).size+(⟨#[32,46,32]⟩:ByteArray).size > 9223372036854775807):=by
  simp only[size_app,size_lit,brk_size,List.size_toArray,List.length_cons,List.length_nil];omega
 have p2:¬((E ++ ⟨#[32,46,32]⟩:ByteArray).size+(F:ByteArray).size > 9223372036854775807):=by
  simp only[size_app,size_lit,brk_size,List.size_toArray,List.length_cons,List.length_nil];omega
 have s1:¬((⟨#[112,117,116,32]⟩:ByteArray).size+((E ++ ⟨#[32,46,32]⟩ ++ F):ByteArray).size > 9223372036854775807):=by
  simp only[size_app,size_lit,brk_size,List.size_toArray,List.length_cons,List.length_nil];omega
 have s2:¬((⟨#[112,117,116,32]⟩ ++ (E ++ ⟨#[32,46,32]⟩ ++ F):ByteArray).size+(⟨#[32,58,61,32]⟩:ByteArray).size > 9223372036854775807):=by
  simp only[size_app,size_lit,brk_size,List.size_toArray,List.length_cons,List.length_nil];omega
 have s3:¬((⟨#[112,117,116,32]⟩ ++ (E ++ ⟨#[32,46,32]⟩ ++ F) ++ ⟨#[32,58,61,32]⟩:ByteArray).size+(V:ByteArray).size > 9223372036854775807):=by
  simp only[size_app,size_lit,brk_size,List.size_toArray,List.length_cons,List.length_nil];omega
 have s4:¬((⟨#[112,117,116,32]⟩ ++ (E ++ ⟨#[32,46,32]⟩ ++ F) ++ ⟨#[32,58,61,32]⟩ ++ V:ByteArray).size+(⟨#[32,59]⟩:ByteArray).size > 9223372036854775807):=by
  simp only[size_app,size_lit,brk_size,List.size_toArray,List.length_cons,List.length_nil];omega
 clear q0 q1 q2 pe le hE sE sF pv lv hV sV
 go_enter Tryz.func56,Tryz.ntmps56
 go_wp2_with fail
 refine wp_region_quiet_below (by kernel_rfl) (by kernel_rfl) ?_
 repeat (first | (go_big_quiet_step (first | with_reducible exact rE _ _)) | (refine wpQuiet_load_c 37 _ rfl ⟨w.heap.size,4,none⟩ rfl ce _ PE.out rfl Tryz.underlying37 rfl (by rw[LE.out];kernel_rfl) _ (by simp only[Act.put,List.setIfInBounds_toArray,List.set_cons_succ,List.set_cons_zero];rfl) ?_))
 refine wpQuiet_nil ?_
 intro w4 hw'
 obtain⟨⟨dq,osq⟩,hw''⟩:=hw'
 have HB4:Hid (Below (w.alloc (.cells cs.toArray 47)).heap.size (w.alloc (.cells cs.toArray 47)) w4):=Lib.hid (by rw[hw''];exact below_regrown _ dq osq)
 clear hw'' rE k1 k2
 have k0:=Q0.out _ HB4.out
 go_wp2_with (refine wpList_load_w rfl 37 _ rfl ⟨w.heap.size,8,none⟩ rfl cv _ (Pv.out _ HB4.out) Tryz.underlying37 rfl (by rw[Lv.out];kernel_rfl) ?_)
 refine(HV.out.at HB4.out).mono ?_
 rintro e w5 ⟨rfl,hb⟩
 have HB5:=Lib.hid (HA.out.trans ((HB4.out.trans (hb.mono HB4.out.size)).mono HA.out.size))
 clear hb
 go_wp2_with fail
 go_ret
 exact⟨rfl,HB5.out⟩
theorem textS_3n (cs ce cv:List Value)(S:ByteArray)(sS:S.size≤10000000000)(hS:¬S=⟨#[]⟩)(E:ByteArray)(sE:E.size≤10000000000)(F:ByteArray)(sF:F.size≤10000000000)(V:ByteArray)(sV:V.size≤10000000000)(w:World)(q0:cs[0]? =some (.int .i64 3))(q1:cs[1]? =some (.string S))(q2:cs[2]? =some (.string F))(pe:Part cs 4 ce)(le:ce.length=4)(pv:Part cs 8 cv)(lv:cv.length=4)
 (hE:ValAll 54 #[.agg ce.toArray] (.string E) w) (hV:ValAll 54 #[.agg cv.toArray] (.string V) w):
 Calls Tryz.prog 56 #[.agg cs.toArray] w fun r w'=>r= .returned (.string (⟨#[112,117,116,32]⟩ ++ (E ++ ⟨#[32,46,32]⟩ ++ F) ++ ⟨#[32,58,61,32]⟩ ++ V ++ ⟨#[32,59]⟩))∧Below w.heap.size w w':=by
 have HA:Hid (Below w.heap.size w (w.alloc (.cells cs.toArray 47))):=box_low
 have k1:=box_at (t:=47) q1 (Below.refl _ (w.alloc (.cells cs.toArray 47)))
 have Q0:=Lib.hid (fun W (hb:Below (w.alloc (.cells cs.toArray 47)).heap.size (w.alloc (.cells cs.toArray 47)) W)=>box_at q0 hb)
 have PE:=Lib.hid (fun W (hb:Below (w.alloc (.cells cs.toArray 47)).heap.size (w.alloc (.cells cs.toArray 47)) W)=>box_part pe hb)
 have LE:=Lib.hid le
 have Pv:=Lib.hid (fun W (hb:Below (w.alloc (.cells cs.toArray 47)).heap.size (w.alloc (.cells cs.toArray 47)) W)=>box_part pv hb)
 have Lv:=Lib.hid lv
 have k2:=fun d os=>cell_regrown (box_at (t:=47) q2 (Below.refl _ (w.alloc (.cells cs.toArray 47)))) d os
 have rE:=(hE.up HA.out).reg
 have HE:=Lib.hid (hE.up HA.out)
 have HV:=Lib.hid (hV.up HA.out)
 have gS:(S.toList == [])=false:=by have:=nbs_ne hS;simpa using this
 have z1:¬(S.size+(⟨#[32,58,61,32]⟩:ByteArray).size > 9223372036854775807):=by
  simp only[size_app,size_lit,brk_size,List.size_toArray,List.length_cons,List.length_nil];omega
 have p1:¬((E:ByteArray).size+(⟨#[32,46,32]⟩:ByteArray).size > 9223372036854775807):=by
  simp only[size_app,size_lit,brk_size,List.size_toArray,List.length_cons,List.length_nil];omega
 have p2:¬((E ++ ⟨#[32,46,32]⟩:ByteArray).size+(F:ByteArray).size > 9223372036854775807):=by
  simp only[size_app,size_lit,brk_size,List.size_toArray,List.length_cons,List.length_nil];omega
 have s1:¬((⟨#[112,117,116,32]⟩:ByteArray).size+((E ++ ⟨#[32,46,32]⟩ ++ F):ByteArray).size > 9223372036854775807):=by
  simp only[size_app,size_lit,brk_size,List.size_toArray,List.length_cons,List.length_nil];omega
 have s2:¬((⟨#[112,117,116,32]⟩ ++ (E ++ ⟨#[32,46,32]⟩ ++ F):ByteArray).size+(⟨#[32,58,61,32]⟩:ByteArray).size > 9223372036854775807):=by
  simp only[size_app,size_lit,brk_size,List.size_toArray,List.length_cons,List.length_nil];omega
 have s3:¬((⟨#[112,117,116,32]⟩ ++ (E ++ ⟨#[32,46,32]⟩ ++ F) ++ ⟨#[32,58,61,32]⟩:ByteArray).size+(V:ByteArray).size > 9223372036854775807):=by
  simp only[size_app,size_lit,brk_size,List.size_toArray,List.length_cons,List.length_nil];omega
 have s4:¬((⟨#[112,117,116,32]⟩ ++ (E ++ ⟨#[32,46,32]⟩ ++ F) ++ ⟨#[32,58,61,32]⟩ ++ V:ByteArray).size+(⟨#[32,59]⟩:ByteArray).size > 9223372036854775807):=by
  simp only[size_app,size_lit,brk_size,List.size_toArray,List.length_cons,List.length_nil];omega
 clear q0 q1 q2 pe le hE sE sF hS sS pv lv hV sV
 go_enter Tryz.func56,Tryz.ntmps56
 go_wp2_with fail
 refine wp_region_quiet_below (by kernel_rfl) (by kernel_rfl) ?_
 repeat (first | (go_big_quiet_step (first | with_reducible exact rE _ _)) | (refine wpQuiet_load_c 37 _ rfl ⟨w.heap.size,4,none⟩ rfl ce _ PE.out rfl Tryz.underlying37 rfl (by rw[LE.out];kernel_rfl) _ (by simp only[Act.put,List.setIfInBounds_toArray,List.set_cons_succ,List.set_cons_zero];rfl) ?_))
 refine wpQuiet_nil ?_
 intro w4 hw'
 obtain⟨⟨dq,osq⟩,hw''⟩:=hw'
 have HB4:Hid (Below (w.alloc (.cells cs.toArray 47)).heap.size (w.alloc (.cells cs.toArray 47)) w4):=Lib.hid (by rw[hw''];exact below_regrown _ dq osq)
 clear hw'' rE k1 k2
 have k0:=Q0.out _ HB4.out
 go_wp2_with (refine wpList_load_w rfl 37 _ rfl ⟨w.heap.size,8,none⟩ rfl cv _ (Pv.out _ HB4.out) Tryz.underlying37 rfl (by rw[Lv.out];kernel_rfl) ?_)
 refine(HV.out.at HB4.out).mono ?_
 rintro e w5 ⟨rfl,hb⟩
 have HB5:=Lib.hid (HA.out.trans ((HB4.out.trans (hb.mono HB4.out.size)).mono HA.out.size))
 clear hb
 go_wp2_with fail
 go_ret
 exact⟨rfl,HB5.out⟩
theorem textS_4e (cs ce:List Value)(E:ByteArray)(sE:E.size≤10000000000)(F:ByteArray)(sF:F.size≤10000000000)(R:ByteArray)(sR:R.size≤10000000000)(a32:Option Addr)(m32 c32:Nat)(w:World)(q0:cs[0]? =some (.int .i64 4))(q1:cs[1]? =some (.string ⟨#[]⟩))(q2:cs[2]? =some (.string F))(pe:Part cs 4 ce)(le:ce.length=4)(q32:cs[32]? =some (.slice a32 m32 c32))
 (hE:ValAll 54 #[.agg ce.toArray] (.string E) w) (hR:ValAll 24 #[.slice a32 m32 c32] (.string R) w):
 Calls Tryz.prog 56 #[.agg cs.toArray] w fun r w'=>r= .returned (.string (⟨#[]⟩ ++ ⟨#[110,101,119,32,40,32]⟩ ++ R ++ ⟨#[41,32,59]⟩))∧Below w.heap.size w w':=by
 have HA:Hid (Below w.heap.size w (w.alloc (.cells cs.toArray 47))):=box_low
 have k1:=box_at (t:=47) q1 (Below.refl _ (w.alloc (.cells cs.toArray 47)))
 have Q0:=Lib.hid (fun W (hb:Below (w.alloc (.cells cs.toArray 47)).heap.size (w.alloc (.cells cs.toArray 47)) W)=>box_at q0 hb)
 have PE:=Lib.hid (fun W (hb:Below (w.alloc (.cells cs.toArray 47)).heap.size (w.alloc (.cells cs.toArray 47)) W)=>box_part pe hb)
 have LE:=Lib.hid le
 have Q32:=Lib.hid (fun W (hb:Below (w.alloc (.cells cs.toArray 47)).heap.size (w.alloc (.cells cs.toArray 47)) W)=>box_at q32 hb)
 have k2:=fun d os=>cell_regrown (box_at (t:=47) q2 (Below.refl _ (w.alloc (.cells cs.toArray 47)))) d os
 have rE:=(hE.up HA.out).reg
 have HE:=Lib.hid (hE.up HA.out)
 have HR:=Lib.hid (hR.up HA.out)
 have p1:¬((E:ByteArray).size+(⟨#[32,46,32]⟩:ByteArray).size > 9223372036854775807):=by
  simp only[size_app,size_lit,brk_size,List.size_toArray,List.length_cons,List.length_nil];omega
 have p2:¬((E ++ ⟨#[32,46,32]⟩:ByteArray).size+(F:ByteArray).size > 9223372036854775807):=by
  simp only[size_app,size_lit,brk_size,List.size_toArray,List.length_cons,List.length_nil];omega
 have s1:¬((⟨#[]⟩:ByteArray).size+(⟨#[110,101,119,32,40,32]⟩:ByteArray).size > 9223372036854775807):=by
  simp only[size_app,size_lit,brk_size,List.size_toArray,List.length_cons,List.length_nil];omega
 have s2:¬((⟨#[]⟩ ++ ⟨#[110,101,119,32,40,32]⟩:ByteArray).size+(R:ByteArray).size > 9223372036854775807):=by
  simp only[size_app,size_lit,brk_size,List.size_toArray,List.length_cons,List.length_nil];omega
 have s3:¬((⟨#[]⟩ ++ ⟨#[110,101,119,32,40,32]⟩ ++ R:ByteArray).size+(⟨#[41,32,59]⟩:ByteArray).size > 9223372036854775807):=by
  simp only[size_app,size_lit,brk_size,List.size_toArray,List.length_cons,List.length_nil];omega
 clear q0 q1 q2 pe le hE sE sF q32 hR sR
 go_enter Tryz.func56,Tryz.ntmps56
 go_wp2_with fail
 refine wp_region_quiet_below (by kernel_rfl) (by kernel_rfl) ?_
 repeat (first | (go_big_quiet_step (first | with_reducible exact rE _ _)) | (refine wpQuiet_load_c 37 _ rfl ⟨w.heap.size,4,none⟩ rfl ce _ PE.out rfl Tryz.underlying37 rfl (by rw[LE.out];kernel_rfl) _ (by simp only[Act.put,List.setIfInBounds_toArray,List.set_cons_succ,List.set_cons_zero];rfl) ?_))
 refine wpQuiet_nil ?_
 intro w4 hw'
 obtain⟨⟨dq,osq⟩,hw''⟩:=hw'
 have HB4:Hid (Below (w.alloc (.cells cs.toArray 47)).heap.size (w.alloc (.cells cs.toArray 47)) w4):=Lib.hid (by rw[hw''];exact below_regrown _ dq osq)
 clear hw'' rE k1 k2
 have k0:=Q0.out _ HB4.out
 have d32:=Q32.out _ HB4.out
 go_wp2_with fail
 refine(HR.out.at HB4.out).mono ?_
 rintro e w5 ⟨rfl,hb⟩
 have HB5:=Lib.hid (HA.out.trans ((HB4.out.trans (hb.mono HB4.out.size)).mono HA.out.size))
 clear hb
 go_wp2_with fail
 go_ret
 exact⟨rfl,HB5.out⟩
theorem textS_4n (cs ce:List Value)(S:ByteArray)(sS:S.size≤10000000000)(hS:¬S=⟨#[]⟩)(E:ByteArray)(sE:E.size≤10000000000)(F:ByteArray)(sF:F.size≤10000000000)(R:ByteArray)(sR:R.size≤10000000000)(a32:Option Addr)(m32 c32:Nat)(w:World)(q0:cs[0]? =some (.int .i64 4))(q1:cs[1]? =some (.string S))(q2:cs[2]? =some (.string F))(pe:Part cs 4 ce)(le:ce.length=4)(q32:cs[32]? =some (.slice a32 m32 c32))
 (hE:ValAll 54 #[.agg ce.toArray] (.string E) w) (hR:ValAll 24 #[.slice a32 m32 c32] (.string R) w):
 Calls Tryz.prog 56 #[.agg cs.toArray] w fun r w'=>r= .returned (.string ((S ++ ⟨#[32,58,61,32]⟩) ++ ⟨#[110,101,119,32,40,32]⟩ ++ R ++ ⟨#[41,32,59]⟩))∧Below w.heap.size w w':=by
 have HA:Hid (Below w.heap.size w (w.alloc (.cells cs.toArray 47))):=box_low
 have k1:=box_at (t:=47) q1 (Below.refl _ (w.alloc (.cells cs.toArray 47)))
 have Q0:=Lib.hid (fun W (hb:Below (w.alloc (.cells cs.toArray 47)).heap.size (w.alloc (.cells cs.toArray 47)) W)=>box_at q0 hb)
 have PE:=Lib.hid (fun W (hb:Below (w.alloc (.cells cs.toArray 47)).heap.size (w.alloc (.cells cs.toArray 47)) W)=>box_part pe hb)
 have LE:=Lib.hid le
 have Q32:=Lib.hid (fun W (hb:Below (w.alloc (.cells cs.toArray 47)).heap.size (w.alloc (.cells cs.toArray 47)) W)=>box_at q32 hb)
 have k2:=fun d os=>cell_regrown (box_at (t:=47) q2 (Below.refl _ (w.alloc (.cells cs.toArray 47)))) d os
 have rE:=(hE.up HA.out).reg
 have HE:=Lib.hid (hE.up HA.out)
 have HR:=Lib.hid (hR.up HA.out)
 have gS:(S.toList == [])=false:=by have:=nbs_ne hS;simpa using this
 have z1:¬(S.size+(⟨#[32,58,61,32]⟩:ByteArray).size > 9223372036854775807):=by
  simp only[size_app,size_lit,brk_size,List.size_toArray,List.length_cons,List.length_nil];omega
 have p1:¬((E:ByteArray).size+(⟨#[32,46,32]⟩:ByteArray).size > 9223372036854775807):=by
  simp only[size_app,size_lit,brk_size,List.size_toArray,List.length_cons,List.length_nil];omega
 have p2:¬((E ++ ⟨#[32,46,32]⟩:ByteArray).size+(F:ByteArray).size > 9223372036854775807):=by
  simp only[size_app,size_lit,brk_size,List.size_toArray,List.length_cons,List.length_nil];omega
 have s1:¬(((S ++ ⟨#[32,58,61,32]⟩):ByteArray).size+(⟨#[110,101,119,32,40,32]⟩:ByteArray).size > 9223372036854775807):=by
  simp only[size_app,size_lit,brk_size,List.size_toArray,List.length_cons,List.length_nil];omega
 have s2:¬(((S ++ ⟨#[32,58,61,32]⟩) ++ ⟨#[110,101,119,32,40,32]⟩:ByteArray).size+(R:ByteArray).size > 9223372036854775807):=by
  simp only[size_app,size_lit,brk_size,List.size_toArray,List.length_cons,List.length_nil];omega
 have s3:¬(((S ++ ⟨#[32,58,61,32]⟩) ++ ⟨#[110,101,119,32,40,32]⟩ ++ R:ByteArray).size+(⟨#[41,32,59]⟩:ByteArray).size > 9223372036854775807):=by
  simp only[size_app,size_lit,brk_size,List.size_toArray,List.length_cons,List.length_nil];omega
 clear q0 q1 q2 pe le hE sE sF hS sS q32 hR sR
 go_enter Tryz.func56,Tryz.ntmps56
 go_wp2_with fail
 refine wp_region_quiet_below (by kernel_rfl) (by kernel_rfl) ?_
 repeat (first | (go_big_quiet_step (first | with_reducible exact rE _ _)) | (refine wpQuiet_load_c 37 _ rfl ⟨w.heap.size,4,none⟩ rfl ce _ PE.out rfl Tryz.underlying37 rfl (by rw[LE.out];kernel_rfl) _ (by simp only[Act.put,List.setIfInBounds_toArray,List.set_cons_succ,List.set_cons_zero];rfl) ?_))
 refine wpQuiet_nil ?_
 intro w4 hw'
 obtain⟨⟨dq,osq⟩,hw''⟩:=hw'
 have HB4:Hid (Below (w.alloc (.cells cs.toArray 47)).heap.size (w.alloc (.cells cs.toArray 47)) w4):=Lib.hid (by rw[hw''];exact below_regrown _ dq osq)
 clear hw'' rE k1 k2
 have k0:=Q0.out _ HB4.out
 have d32:=Q32.out _ HB4.out
 go_wp2_with fail
 refine(HR.out.at HB4.out).mono ?_
 rintro e w5 ⟨rfl,hb⟩
 have HB5:=Lib.hid (HA.out.trans ((HB4.out.trans (hb.mono HB4.out.size)).mono HA.out.size))
 clear hb
 go_wp2_with fail
 go_ret
 exact⟨rfl,HB5.out⟩
end
end Go.Proofs.YtfcaclmcnlflfaaGreatDoor
