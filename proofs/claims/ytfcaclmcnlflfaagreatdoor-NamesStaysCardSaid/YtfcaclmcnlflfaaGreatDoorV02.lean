/- Parts of a proof. -/
import Derived.Test.YtfcaclmcnlflfaaGreatDoorV01
import Derived.Test.YtfcaclmcnlflfaaGreatDoorQ05
import Derived.Test.YtfcaclmcnlflfaaGreatDoorQ07
set_option linter.unusedVariables false
set_option linter.unusedSimpArgs false
set_option maxHeartbeats 60000000
set_option maxRecDepth 100000
namespace Go.Proofs.YtfcaclmcnlflfaaGreatDoor
section
open Go.RowKit
theorem boxed_t (k:Int)(a1 a2:Option Addr)(l1 c1 l2 c2:Nat)(D:ByteArray)(hD:D.size≤1000000000)(w:World)(hd:ValAll 53 #[.agg #[.int .i64 k,.slice a1 l1 c1,.slice a2 l2 c2]] (.string D) w):
 Calls Tryz.prog 93 #[.agg #[.int .i64 k,.slice a1 l1 c1,.slice a2 l2 c2],.bool true] w fun r w'=>r= .returned (.string (sqr D))∧Below w.heap.size w w':=by
 have HA:Hid (Below w.heap.size w (w.alloc (.cells #[.int .i64 k,.slice a1 l1 c1,.slice a2 l2 c2] 41))):=box_low
 have HD:=Lib.hid (hd.up HA.out)
 unfold sqr
 have s1:¬((⟨#[91,32]⟩:ByteArray).size+D.size > 9223372036854775807):=by
  simp only[size_app,size_lit,List.size_toArray,List.length_cons,List.length_nil];omega
 have s2:¬((⟨#[91,32]⟩ ++ D:ByteArray).size+(⟨#[32,93]⟩:ByteArray).size > 9223372036854775807):=by
  simp only[size_app,size_lit,List.size_toArray,List.length_cons,List.length_nil];omega
 clear hd hD
 go_enter Tryz.func93,Tryz.ntmps93
 go_wp2_with fail
 refine(HD.out.at (Below.refl _ _)).mono ?_
 rintro e w1 ⟨rfl,hb⟩
 have HB:=Lib.hid (HA.out.trans (hb.mono HA.out.size))
 clear hb HD
 go_wp2_with fail
 go_ret
 exact⟨rfl,HB.out⟩
theorem boxed_f (k:Int)(a1 a2:Option Addr)(l1 c1 l2 c2:Nat)(D:ByteArray)(hD:D.size≤1000000000)(w:World)(hd:ValAll 53 #[.agg #[.int .i64 k,.slice a1 l1 c1,.slice a2 l2 c2]] (.string D) w):
 Calls Tryz.prog 93 #[.agg #[.int .i64 k,.slice a1 l1 c1,.slice a2 l2 c2],.bool false] w fun r w'=>r= .returned (.string (D))∧Below w.heap.size w w':=by
 have HA:Hid (Below w.heap.size w (w.alloc (.cells #[.int .i64 k,.slice a1 l1 c1,.slice a2 l2 c2] 41))):=box_low
 have HD:=Lib.hid (hd.up HA.out)
 clear hd hD
 go_enter Tryz.func93,Tryz.ntmps93
 go_wp2_with fail
 refine(HD.out.at (Below.refl _ _)).mono ?_
 rintro e w1 ⟨rfl,hb⟩
 have HB:=Lib.hid (HA.out.trans (hb.mono HA.out.size))
 clear hb HD
 go_wp2_with fail
 go_ret
 exact⟨rfl,HB.out⟩
theorem textC_0 (a1 a2:Option Addr)(l1 c1 l2 c2:Nat)(w:World):
 Calls Tryz.prog 53 #[.agg #[.int .i64 0,.slice a1 l1 c1,.slice a2 l2 c2]] w fun r w'=>r= .returned (.string ⟨#[116,114,117,101]⟩)∧Below w.heap.size w w':=by
 have HA:Hid (Below w.heap.size w (w.alloc (.cells #[.int .i64 0,.slice a1 l1 c1,.slice a2 l2 c2] 41))):=box_low
 go_enter Tryz.func53,Tryz.ntmps53
 go_wp2_with fail
 go_ret
 exact⟨rfl,HA.out⟩
theorem textC_1 (a1 a2:Option Addr)(l1 c1 l2 c2:Nat)(w:World):
 Calls Tryz.prog 53 #[.agg #[.int .i64 1,.slice a1 l1 c1,.slice a2 l2 c2]] w fun r w'=>r= .returned (.string ⟨#[102,97,108,115,101]⟩)∧Below w.heap.size w w':=by
 have HA:Hid (Below w.heap.size w (w.alloc (.cells #[.int .i64 1,.slice a1 l1 c1,.slice a2 l2 c2] 41))):=box_low
 go_enter Tryz.func53,Tryz.ntmps53
 go_wp2_with fail
 go_ret
 exact⟨rfl,HA.out⟩
theorem textC_6a (a1:Option Addr)(l1 c1 c2 b off:Nat)(cs:List Value)(kx:Int)(T:ByteArray)(hsT:T.size≤1000000000)(w:World)
 (hl0:cs.length=3) (hk0:cs[0]? =some (.int .i64 kx)) (hc0:∀i v,cs[i]? =some v→w.cell? ((⟨b,off,none⟩:Addr).add i)=some v) (hbl:b<w.heap.size)
 (hkx7:kx=7) (hX:ValAll 93 #[.agg cs.toArray,.bool true] (.string T) w):
 Calls Tryz.prog 53 #[.agg #[.int .i64 6,.slice a1 l1 c1,.slice (some ⟨b,off,none⟩) 1 c2]] w fun r w'=>r= .returned (.string (⟨#[33,32]⟩ ++ T))∧Below w.heap.size w w':=by
 have HA:Hid (Below w.heap.size w (w.alloc (.cells #[.int .i64 6,.slice a1 l1 c1,.slice (some ⟨b,off,none⟩) 1 c2] 41))):=box_low
 have HX:=(hX.up HA.out).reg
 have HC0:Hid (∀W,Below (w.alloc (.cells #[.int .i64 6,.slice a1 l1 c1,.slice (some ⟨b,off,none⟩) 1 c2] 41)).heap.size (w.alloc (.cells #[.int .i64 6,.slice a1 l1 c1,.slice (some ⟨b,off,none⟩) 1 c2] 41)) W→∀i v,cs[i]? =some v→W.cell? ((⟨b,off,none⟩:Addr).add i)=some v):=Lib.hid fun W hW i v h=>((HA.out.trans (hW.mono HA.out.size)).cell (by unfold Addr.add;split<;>exact hbl)).trans (hc0 i v h)
 have HL0:=Lib.hid hl0
 have q0:=fun d os=>cell_regrown (w:=(w.alloc (.cells #[.int .i64 6,.slice a1 l1 c1,.slice (some ⟨b,off,none⟩) 1 c2] 41))) (a:=⟨b,off,none⟩) (HC0.out _ (Below.refl _ _) 0 _ hk0) d os
 have r2:=fun d os=>cell_regrown ((Bx.start w [.int .i64 6,.slice a1 l1 c1,.slice (some ⟨b,off,none⟩) 1 c2] 41).at (o:=2) rfl) d os
 have gkx7:(kx == 7)=true:=by rw[hkx7];rfl
 have s1:¬((⟨#[33,32]⟩:ByteArray).size+T.size > 9223372036854775807):=by
  simp only[size_app,size_lit,List.size_toArray,List.length_cons,List.length_nil];omega
 clear hc0 hl0 hk0 hX hsT
 go_enter Tryz.func53,Tryz.ntmps53
 go_wp2_with fail
 refine wp_region_quiet_below (by kernel_rfl) (by kernel_rfl) ?_
 repeat (first | (go_big_quiet_step (first | with_reducible exact HX _ _)) | (refine wpQuiet_load_c 41 _ rfl ⟨b,off,none⟩ rfl cs _ HC0.out rfl Tryz.underlying41 rfl (by rw[HL0.out];kernel_rfl) _ (by simp only[Act.put,List.setIfInBounds_toArray,List.set_cons_succ,List.set_cons_zero];rfl) ?_))
 refine wpQuiet_nil ?_
 intro w9 hw'
 obtain⟨⟨dq,osq⟩,hw''⟩:=hw'
 have HB9:Hid (Below w.heap.size w w9):=Lib.hid (by rw[hw''];exact HA.out.trans ((below_regrown _ dq osq).mono HA.out.size))
 clear hw'' HX r2 q0
 go_wp2_with fail
 go_ret
 exact⟨rfl,HB9.out⟩
theorem textC_6b (a1:Option Addr)(l1 c1 c2 b off:Nat)(cs:List Value)(kx:Int)(T:ByteArray)(hsT:T.size≤1000000000)(w:World)
 (hl0:cs.length=3) (hk0:cs[0]? =some (.int .i64 kx)) (hc0:∀i v,cs[i]? =some v→w.cell? ((⟨b,off,none⟩:Addr).add i)=some v) (hbl:b<w.heap.size)
 (hkx8:kx=8) (hX:ValAll 93 #[.agg cs.toArray,.bool true] (.string T) w):
 Calls Tryz.prog 53 #[.agg #[.int .i64 6,.slice a1 l1 c1,.slice (some ⟨b,off,none⟩) 1 c2]] w fun r w'=>r= .returned (.string (⟨#[33,32]⟩ ++ T))∧Below w.heap.size w w':=by
 have HA:Hid (Below w.heap.size w (w.alloc (.cells #[.int .i64 6,.slice a1 l1 c1,.slice (some ⟨b,off,none⟩) 1 c2] 41))):=box_low
 have HX:=(hX.up HA.out).reg
 have HC0:Hid (∀W,Below (w.alloc (.cells #[.int .i64 6,.slice a1 l1 c1,.slice (some ⟨b,off,none⟩) 1 c2] 41)).heap.size (w.alloc (.cells #[.int .i64 6,.slice a1 l1 c1,.slice (some ⟨b,off,none⟩) 1 c2] 41)) W→∀i v,cs[i]? =some v→W.cell? ((⟨b,off,none⟩:Addr).add i)=some v):=Lib.hid fun W hW i v h=>((HA.out.trans (hW.mono HA.out.size)).cell (by unfold Addr.add;split<;>exact hbl)).trans (hc0 i v h)
 have HL0:=Lib.hid hl0
 have q0:=fun d os=>cell_regrown (w:=(w.alloc (.cells #[.int .i64 6,.slice a1 l1 c1,.slice (some ⟨b,off,none⟩) 1 c2] 41))) (a:=⟨b,off,none⟩) (HC0.out _ (Below.refl _ _) 0 _ hk0) d os
 have r2:=fun d os=>cell_regrown ((Bx.start w [.int .i64 6,.slice a1 l1 c1,.slice (some ⟨b,off,none⟩) 1 c2] 41).at (o:=2) rfl) d os
 have gkx7:(kx == 7)=false:=by rw[Bool.eq_false_iff];simp only[ne_eq,beq_iff_eq];omega
 have gkx8:(kx == 8)=true:=by rw[hkx8];rfl
 have s1:¬((⟨#[33,32]⟩:ByteArray).size+T.size > 9223372036854775807):=by
  simp only[size_app,size_lit,List.size_toArray,List.length_cons,List.length_nil];omega
 clear hc0 hl0 hk0 hX hsT
 go_enter Tryz.func53,Tryz.ntmps53
 go_wp2_with fail
 refine wp_region_quiet_below (by kernel_rfl) (by kernel_rfl) ?_
 repeat (first | (go_big_quiet_step (first | with_reducible exact HX _ _)) | (refine wpQuiet_load_c 41 _ rfl ⟨b,off,none⟩ rfl cs _ HC0.out rfl Tryz.underlying41 rfl (by rw[HL0.out];kernel_rfl) _ (by simp only[Act.put,List.setIfInBounds_toArray,List.set_cons_succ,List.set_cons_zero];rfl) ?_))
 refine wpQuiet_nil ?_
 intro w9 hw'
 obtain⟨⟨dq,osq⟩,hw''⟩:=hw'
 have HB9:Hid (Below w.heap.size w w9):=Lib.hid (by rw[hw''];exact HA.out.trans ((below_regrown _ dq osq).mono HA.out.size))
 clear hw'' HX r2 q0
 go_wp2_with fail
 go_ret
 exact⟨rfl,HB9.out⟩
theorem textC_6c (a1:Option Addr)(l1 c1 c2 b off:Nat)(cs:List Value)(kx:Int)(T:ByteArray)(hsT:T.size≤1000000000)(w:World)
 (hl0:cs.length=3) (hk0:cs[0]? =some (.int .i64 kx)) (hc0:∀i v,cs[i]? =some v→w.cell? ((⟨b,off,none⟩:Addr).add i)=some v) (hbl:b<w.heap.size)
 (hkx:¬(kx=7∨kx=8)) (hX:ValAll 93 #[.agg cs.toArray,.bool false] (.string T) w):
 Calls Tryz.prog 53 #[.agg #[.int .i64 6,.slice a1 l1 c1,.slice (some ⟨b,off,none⟩) 1 c2]] w fun r w'=>r= .returned (.string (⟨#[33,32]⟩ ++ T))∧Below w.heap.size w w':=by
 have HA:Hid (Below w.heap.size w (w.alloc (.cells #[.int .i64 6,.slice a1 l1 c1,.slice (some ⟨b,off,none⟩) 1 c2] 41))):=box_low
 have HX:=(hX.up HA.out).reg
 have HC0:Hid (∀W,Below (w.alloc (.cells #[.int .i64 6,.slice a1 l1 c1,.slice (some ⟨b,off,none⟩) 1 c2] 41)).heap.size (w.alloc (.cells #[.int .i64 6,.slice a1 l1 c1,.slice (some ⟨b,off,none⟩) 1 c2] 41)) W→∀i v,cs[i]? =some v→W.cell? ((⟨b,off,none⟩:Addr).add i)=some v):=Lib.hid fun W hW i v h=>((HA.out.trans (hW.mono HA.out.size)).cell (by unfold Addr.add;split<;>exact hbl)).trans (hc0 i v h)
 have HL0:=Lib.hid hl0
 have q0:=fun d os=>cell_regrown (w:=(w.alloc (.cells #[.int .i64 6,.slice a1 l1 c1,.slice (some ⟨b,off,none⟩) 1 c2] 41))) (a:=⟨b,off,none⟩) (HC0.out _ (Below.refl _ _) 0 _ hk0) d os
 have r2:=fun d os=>cell_regrown ((Bx.start w [.int .i64 6,.slice a1 l1 c1,.slice (some ⟨b,off,none⟩) 1 c2] 41).at (o:=2) rfl) d os
 have gkx7:(kx == 7)=false:=by rw[Bool.eq_false_iff];simp only[ne_eq,beq_iff_eq];omega
 have gkx8:(kx == 8)=false:=by rw[Bool.eq_false_iff];simp only[ne_eq,beq_iff_eq];omega
 have s1:¬((⟨#[33,32]⟩:ByteArray).size+T.size > 9223372036854775807):=by
  simp only[size_app,size_lit,List.size_toArray,List.length_cons,List.length_nil];omega
 clear hc0 hl0 hk0 hX hsT
 go_enter Tryz.func53,Tryz.ntmps53
 go_wp2_with fail
 refine wp_region_quiet_below (by kernel_rfl) (by kernel_rfl) ?_
 repeat (first | (go_big_quiet_step (first | with_reducible exact HX _ _)) | (refine wpQuiet_load_c 41 _ rfl ⟨b,off,none⟩ rfl cs _ HC0.out rfl Tryz.underlying41 rfl (by rw[HL0.out];kernel_rfl) _ (by simp only[Act.put,List.setIfInBounds_toArray,List.set_cons_succ,List.set_cons_zero];rfl) ?_))
 refine wpQuiet_nil ?_
 intro w9 hw'
 obtain⟨⟨dq,osq⟩,hw''⟩:=hw'
 have HB9:Hid (Below w.heap.size w w9):=Lib.hid (by rw[hw''];exact HA.out.trans ((below_regrown _ dq osq).mono HA.out.size))
 clear hw'' HX r2 q0
 go_wp2_with fail
 go_ret
 exact⟨rfl,HB9.out⟩
theorem textC_7a (a1:Option Addr)(l1 c1 c2 b off:Nat)(cs:List Value)(ds:List Value)(kx:Int)(ky:Int)(T:ByteArray)(hsT:T.size≤1000000000)(U:ByteArray)(hsU:U.size≤1000000000)(w:World)
 (hl0:cs.length=3) (hk0:cs[0]? =some (.int .i64 kx)) (hc0:∀i v,cs[i]? =some v→w.cell? ((⟨b,off,none⟩:Addr).add i)=some v) (hl1:ds.length=3) (hk1:ds[0]? =some (.int .i64 ky)) (hc1:∀i v,ds[i]? =some v→w.cell? ((⟨b,off+3,none⟩:Addr).add i)=some v) (hbl:b<w.heap.size)
 (z:Bool) (hz:(kx == 8)=z) (hky7:ky=7) (hX:ValAll 93 #[.agg cs.toArray,.bool z] (.string T) w) (hY:ValAll 93 #[.agg ds.toArray,.bool true] (.string U) w):
 Calls Tryz.prog 53 #[.agg #[.int .i64 7,.slice a1 l1 c1,.slice (some ⟨b,off,none⟩) 2 c2]] w fun r w'=>r= .returned (.string (T ++ ⟨#[32,38,38,32]⟩ ++ U))∧Below w.heap.size w w':=by
 have HA:Hid (Below w.heap.size w (w.alloc (.cells #[.int .i64 7,.slice a1 l1 c1,.slice (some ⟨b,off,none⟩) 2 c2] 41))):=box_low
 have HX:=(hX.up HA.out).reg
 have HY:=(hY.up HA.out).reg
 have HC0:Hid (∀W,Below (w.alloc (.cells #[.int .i64 7,.slice a1 l1 c1,.slice (some ⟨b,off,none⟩) 2 c2] 41)).heap.size (w.alloc (.cells #[.int .i64 7,.slice a1 l1 c1,.slice (some ⟨b,off,none⟩) 2 c2] 41)) W→∀i v,cs[i]? =some v→W.cell? ((⟨b,off,none⟩:Addr).add i)=some v):=Lib.hid fun W hW i v h=>((HA.out.trans (hW.mono HA.out.size)).cell (by unfold Addr.add;split<;>exact hbl)).trans (hc0 i v h)
 have HL0:=Lib.hid hl0
 have q0:=fun d os=>cell_regrown (w:=(w.alloc (.cells #[.int .i64 7,.slice a1 l1 c1,.slice (some ⟨b,off,none⟩) 2 c2] 41))) (a:=⟨b,off,none⟩) (HC0.out _ (Below.refl _ _) 0 _ hk0) d os
 have HC1:Hid (∀W,Below (w.alloc (.cells #[.int .i64 7,.slice a1 l1 c1,.slice (some ⟨b,off,none⟩) 2 c2] 41)).heap.size (w.alloc (.cells #[.int .i64 7,.slice a1 l1 c1,.slice (some ⟨b,off,none⟩) 2 c2] 41)) W→∀i v,ds[i]? =some v→W.cell? ((⟨b,off+3,none⟩:Addr).add i)=some v):=Lib.hid fun W hW i v h=>((HA.out.trans (hW.mono HA.out.size)).cell (by unfold Addr.add;split<;>exact hbl)).trans (hc1 i v h)
 have HL1:=Lib.hid hl1
 have q1:=fun d os=>cell_regrown (w:=(w.alloc (.cells #[.int .i64 7,.slice a1 l1 c1,.slice (some ⟨b,off,none⟩) 2 c2] 41))) (a:=⟨b,off+3,none⟩) (HC1.out _ (Below.refl _ _) 0 _ hk1) d os
 have r2:=fun d os=>cell_regrown ((Bx.start w [.int .i64 7,.slice a1 l1 c1,.slice (some ⟨b,off,none⟩) 2 c2] 41).at (o:=2) rfl) d os
 have gz:=hz
 clear hz
 have gky7:(ky == 7)=true:=by rw[hky7];rfl
 have s1:¬(T.size+(⟨#[32,38,38,32]⟩:ByteArray).size > 9223372036854775807):=by
  simp only[size_app,size_lit,List.size_toArray,List.length_cons,List.length_nil];omega
 have s2:¬((T ++ ⟨#[32,38,38,32]⟩).size+U.size > 9223372036854775807):=by
  simp only[size_app,size_lit,List.size_toArray,List.length_cons,List.length_nil];omega
 clear hc0 hl0 hk0 hc1 hl1 hk1 hX hsT hY hsU
 go_enter Tryz.func53,Tryz.ntmps53
 go_wp2_with fail
 refine wp_region_quiet_below (by kernel_rfl) (by kernel_rfl) ?_
 repeat (first | (go_big_quiet_step (first | with_reducible exact HX _ _ | with_reducible exact HY _ _)) | (refine wpQuiet_load_c 41 _ rfl ⟨b,off,none⟩ rfl cs _ HC0.out rfl Tryz.underlying41 rfl (by rw[HL0.out];kernel_rfl) _ (by simp only[Act.put,List.setIfInBounds_toArray,List.set_cons_succ,List.set_cons_zero];rfl) ?_) | (refine wpQuiet_load_c 41 _ rfl ⟨b,off+3,none⟩ rfl ds _ HC1.out rfl Tryz.underlying41 rfl (by rw[HL1.out];kernel_rfl) _ (by simp only[Act.put,List.setIfInBounds_toArray,List.set_cons_succ,List.set_cons_zero];rfl) ?_))
 refine wpQuiet_nil ?_
 intro w9 hw'
 obtain⟨⟨dq,osq⟩,hw''⟩:=hw'
 have HB9:Hid (Below w.heap.size w w9):=Lib.hid (by rw[hw''];exact HA.out.trans ((below_regrown _ dq osq).mono HA.out.size))
 clear hw'' HX HY r2 q0 q1
 go_wp2_with fail
 go_ret
 exact⟨rfl,HB9.out⟩
theorem textC_7b (a1:Option Addr)(l1 c1 c2 b off:Nat)(cs:List Value)(ds:List Value)(kx:Int)(ky:Int)(T:ByteArray)(hsT:T.size≤1000000000)(U:ByteArray)(hsU:U.size≤1000000000)(w:World)
 (hl0:cs.length=3) (hk0:cs[0]? =some (.int .i64 kx)) (hc0:∀i v,cs[i]? =some v→w.cell? ((⟨b,off,none⟩:Addr).add i)=some v) (hl1:ds.length=3) (hk1:ds[0]? =some (.int .i64 ky)) (hc1:∀i v,ds[i]? =some v→w.cell? ((⟨b,off+3,none⟩:Addr).add i)=some v) (hbl:b<w.heap.size)
 (z:Bool) (hz:(kx == 8)=z) (hky8:ky=8) (hX:ValAll 93 #[.agg cs.toArray,.bool z] (.string T) w) (hY:ValAll 93 #[.agg ds.toArray,.bool true] (.string U) w):
 Calls Tryz.prog 53 #[.agg #[.int .i64 7,.slice a1 l1 c1,.slice (some ⟨b,off,none⟩) 2 c2]] w fun r w'=>r= .returned (.string (T ++ ⟨#[32,38,38,32]⟩ ++ U))∧Below w.heap.size w w':=by
 have HA:Hid (Below w.heap.size w (w.alloc (.cells #[.int .i64 7,.slice a1 l1 c1,.slice (some ⟨b,off,none⟩) 2 c2] 41))):=box_low
 have HX:=(hX.up HA.out).reg
 have HY:=(hY.up HA.out).reg
 have HC0:Hid (∀W,Below (w.alloc (.cells #[.int .i64 7,.slice a1 l1 c1,.slice (some ⟨b,off,none⟩) 2 c2] 41)).heap.size (w.alloc (.cells #[.int .i64 7,.slice a1 l1 c1,.slice (some ⟨b,off,none⟩) 2 c2] 41)) W→∀i v,cs[i]? =some v→W.cell? ((⟨b,off,none⟩:Addr).add i)=some v):=Lib.hid fun W hW i v h=>((HA.out.trans (hW.mono HA.out.size)).cell (by unfold Addr.add;split<;>exact hbl)).trans (hc0 i v h)
 have HL0:=Lib.hid hl0
 have q0:=fun d os=>cell_regrown (w:=(w.alloc (.cells #[.int .i64 7,.slice a1 l1 c1,.slice (some ⟨b,off,none⟩) 2 c2] 41))) (a:=⟨b,off,none⟩) (HC0.out _ (Below.refl _ _) 0 _ hk0) d os
 have HC1:Hid (∀W,Below (w.alloc (.cells #[.int .i64 7,.slice a1 l1 c1,.slice (some ⟨b,off,none⟩) 2 c2] 41)).heap.size (w.alloc (.cells #[.int .i64 7,.slice a1 l1 c1,.slice (some ⟨b,off,none⟩) 2 c2] 41)) W→∀i v,ds[i]? =some v→W.cell? ((⟨b,off+3,none⟩:Addr).add i)=some v):=Lib.hid fun W hW i v h=>((HA.out.trans (hW.mono HA.out.size)).cell (by unfold Addr.add;split<;>exact hbl)).trans (hc1 i v h)
 have HL1:=Lib.hid hl1
 have q1:=fun d os=>cell_regrown (w:=(w.alloc (.cells #[.int .i64 7,.slice a1 l1 c1,.slice (some ⟨b,off,none⟩) 2 c2] 41))) (a:=⟨b,off+3,none⟩) (HC1.out _ (Below.refl _ _) 0 _ hk1) d os
 have r2:=fun d os=>cell_regrown ((Bx.start w [.int .i64 7,.slice a1 l1 c1,.slice (some ⟨b,off,none⟩) 2 c2] 41).at (o:=2) rfl) d os
 have gz:=hz
 clear hz
 have gky7:(ky == 7)=false:=by rw[Bool.eq_false_iff];simp only[ne_eq,beq_iff_eq];omega
 have gky8:(ky == 8)=true:=by rw[hky8];rfl
 have s1:¬(T.size+(⟨#[32,38,38,32]⟩:ByteArray).size > 9223372036854775807):=by
  simp only[size_app,size_lit,List.size_toArray,List.length_cons,List.length_nil];omega
 have s2:¬((T ++ ⟨#[32,38,38,32]⟩).size+U.size > 9223372036854775807):=by
  simp only[size_app,size_lit,List.size_toArray,List.length_cons,List.length_nil];omega
 clear hc0 hl0 hk0 hc1 hl1 hk1 hX hsT hY hsU
 go_enter Tryz.func53,Tryz.ntmps53
 go_wp2_with fail
 refine wp_region_quiet_below (by kernel_rfl) (by kernel_rfl) ?_
 repeat (first | (go_big_quiet_step (first | with_reducible exact HX _ _ | with_reducible exact HY _ _)) | (refine wpQuiet_load_c 41 _ rfl ⟨b,off,none⟩ rfl cs _ HC0.out rfl Tryz.underlying41 rfl (by rw[HL0.out];kernel_rfl) _ (by simp only[Act.put,List.setIfInBounds_toArray,List.set_cons_succ,List.set_cons_zero];rfl) ?_) | (refine wpQuiet_load_c 41 _ rfl ⟨b,off+3,none⟩ rfl ds _ HC1.out rfl Tryz.underlying41 rfl (by rw[HL1.out];kernel_rfl) _ (by simp only[Act.put,List.setIfInBounds_toArray,List.set_cons_succ,List.set_cons_zero];rfl) ?_))
 refine wpQuiet_nil ?_
 intro w9 hw'
 obtain⟨⟨dq,osq⟩,hw''⟩:=hw'
 have HB9:Hid (Below w.heap.size w w9):=Lib.hid (by rw[hw''];exact HA.out.trans ((below_regrown _ dq osq).mono HA.out.size))
 clear hw'' HX HY r2 q0 q1
 go_wp2_with fail
 go_ret
 exact⟨rfl,HB9.out⟩
theorem textC_7c (a1:Option Addr)(l1 c1 c2 b off:Nat)(cs:List Value)(ds:List Value)(kx:Int)(ky:Int)(T:ByteArray)(hsT:T.size≤1000000000)(U:ByteArray)(hsU:U.size≤1000000000)(w:World)
 (hl0:cs.length=3) (hk0:cs[0]? =some (.int .i64 kx)) (hc0:∀i v,cs[i]? =some v→w.cell? ((⟨b,off,none⟩:Addr).add i)=some v) (hl1:ds.length=3) (hk1:ds[0]? =some (.int .i64 ky)) (hc1:∀i v,ds[i]? =some v→w.cell? ((⟨b,off+3,none⟩:Addr).add i)=some v) (hbl:b<w.heap.size)
 (z:Bool) (hz:(kx == 8)=z) (hky:¬(ky=7∨ky=8)) (hX:ValAll 93 #[.agg cs.toArray,.bool z] (.string T) w) (hY:ValAll 93 #[.agg ds.toArray,.bool false] (.string U) w):
 Calls Tryz.prog 53 #[.agg #[.int .i64 7,.slice a1 l1 c1,.slice (some ⟨b,off,none⟩) 2 c2]] w fun r w'=>r= .returned (.string (T ++ ⟨#[32,38,38,32]⟩ ++ U))∧Below w.heap.size w w':=by
 have HA:Hid (Below w.heap.size w (w.alloc (.cells #[.int .i64 7,.slice a1 l1 c1,.slice (some ⟨b,off,none⟩) 2 c2] 41))):=box_low
 have HX:=(hX.up HA.out).reg
 have HY:=(hY.up HA.out).reg
 have HC0:Hid (∀W,Below (w.alloc (.cells #[.int .i64 7,.slice a1 l1 c1,.slice (some ⟨b,off,none⟩) 2 c2] 41)).heap.size (w.alloc (.cells #[.int .i64 7,.slice a1 l1 c1,.slice (some ⟨b,off,none⟩) 2 c2] 41)) W→∀i v,cs[i]? =some v→W.cell? ((⟨b,off,none⟩:Addr).add i)=some v):=Lib.hid fun W hW i v h=>((HA.out.trans (hW.mono HA.out.size)).cell (by unfold Addr.add;split<;>exact hbl)).trans (hc0 i v h)
 have HL0:=Lib.hid hl0
 have q0:=fun d os=>cell_regrown (w:=(w.alloc (.cells #[.int .i64 7,.slice a1 l1 c1,.slice (some ⟨b,off,none⟩) 2 c2] 41))) (a:=⟨b,off,none⟩) (HC0.out _ (Below.refl _ _) 0 _ hk0) d os
 have HC1:Hid (∀W,Below (w.alloc (.cells #[.int .i64 7,.slice a1 l1 c1,.slice (some ⟨b,off,none⟩) 2 c2] 41)).heap.size (w.alloc (.cells #[.int .i64 7,.slice a1 l1 c1,.slice (some ⟨b,off,none⟩) 2 c2] 41)) W→∀i v,ds[i]? =some v→W.cell? ((⟨b,off+3,none⟩:Addr).add i)=some v):=Lib.hid fun W hW i v h=>((HA.out.trans (hW.mono HA.out.size)).cell (by unfold Addr.add;split<;>exact hbl)).trans (hc1 i v h)
 have HL1:=Lib.hid hl1
 have q1:=fun d os=>cell_regrown (w:=(w.alloc (.cells #[.int .i64 7,.slice a1 l1 c1,.slice (some ⟨b,off,none⟩) 2 c2] 41))) (a:=⟨b,off+3,none⟩) (HC1.out _ (Below.refl _ _) 0 _ hk1) d os
 have r2:=fun d os=>cell_regrown ((Bx.start w [.int .i64 7,.slice a1 l1 c1,.slice (some ⟨b,off,none⟩) 2 c2] 41).at (o:=2) rfl) d os
 have gz:=hz
 clear hz
 have gky7:(ky == 7)=false:=by rw[Bool.eq_false_iff];simp only[ne_eq,beq_iff_eq];omega
 have gky8:(ky == 8)=false:=by rw[Bool.eq_false_iff];simp only[ne_eq,beq_iff_eq];omega
 have s1:¬(T.size+(⟨#[32,38,38,32]⟩:ByteArray).size > 9223372036854775807):=by
  simp only[size_app,size_lit,List.size_toArray,List.length_cons,List.length_nil];omega
 have s2:¬((T ++ ⟨#[32,38,38,32]⟩).size+U.size > 9223372036854775807):=by
  simp only[size_app,size_lit,List.size_toArray,List.length_cons,List.length_nil];omega
 clear hc0 hl0 hk0 hc1 hl1 hk1 hX hsT hY hsU
 go_enter Tryz.func53,Tryz.ntmps53
 go_wp2_with fail
 refine wp_region_quiet_below (by kernel_rfl) (by kernel_rfl) ?_
 repeat (first | (go_big_quiet_step (first | with_reducible exact HX _ _ | with_reducible exact HY _ _)) | (refine wpQuiet_load_c 41 _ rfl ⟨b,off,none⟩ rfl cs _ HC0.out rfl Tryz.underlying41 rfl (by rw[HL0.out];kernel_rfl) _ (by simp only[Act.put,List.setIfInBounds_toArray,List.set_cons_succ,List.set_cons_zero];rfl) ?_) | (refine wpQuiet_load_c 41 _ rfl ⟨b,off+3,none⟩ rfl ds _ HC1.out rfl Tryz.underlying41 rfl (by rw[HL1.out];kernel_rfl) _ (by simp only[Act.put,List.setIfInBounds_toArray,List.set_cons_succ,List.set_cons_zero];rfl) ?_))
 refine wpQuiet_nil ?_
 intro w9 hw'
 obtain⟨⟨dq,osq⟩,hw''⟩:=hw'
 have HB9:Hid (Below w.heap.size w w9):=Lib.hid (by rw[hw''];exact HA.out.trans ((below_regrown _ dq osq).mono HA.out.size))
 clear hw'' HX HY r2 q0 q1
 go_wp2_with fail
 go_ret
 exact⟨rfl,HB9.out⟩
theorem textC_8 (a1:Option Addr)(l1 c1 c2 b off:Nat)(cs:List Value)(ds:List Value)(kx:Int)(ky:Int)(T:ByteArray)(hsT:T.size≤1000000000)(U:ByteArray)(hsU:U.size≤1000000000)(w:World)
 (hl0:cs.length=3) (hk0:cs[0]? =some (.int .i64 kx)) (hc0:∀i v,cs[i]? =some v→w.cell? ((⟨b,off,none⟩:Addr).add i)=some v) (hl1:ds.length=3) (hk1:ds[0]? =some (.int .i64 ky)) (hc1:∀i v,ds[i]? =some v→w.cell? ((⟨b,off+3,none⟩:Addr).add i)=some v) (hbl:b<w.heap.size)
 (z:Bool) (hz:(ky == 8)=z) (hX:ValAll 53 #[.agg cs.toArray] (.string T) w) (hY:ValAll 93 #[.agg ds.toArray,.bool z] (.string U) w):
 Calls Tryz.prog 53 #[.agg #[.int .i64 8,.slice a1 l1 c1,.slice (some ⟨b,off,none⟩) 2 c2]] w fun r w'=>r= .returned (.string (T ++ ⟨#[32,124,124,32]⟩ ++ U))∧Below w.heap.size w w':=by
 have HA:Hid (Below w.heap.size w (w.alloc (.cells #[.int .i64 8,.slice a1 l1 c1,.slice (some ⟨b,off,none⟩) 2 c2] 41))):=box_low
 have HX:=(hX.up HA.out).reg
 have HY:=(hY.up HA.out).reg
 have HC0:Hid (∀W,Below (w.alloc (.cells #[.int .i64 8,.slice a1 l1 c1,.slice (some ⟨b,off,none⟩) 2 c2] 41)).heap.size (w.alloc (.cells #[.int .i64 8,.slice a1 l1 c1,.slice (some ⟨b,off,none⟩) 2 c2] 41)) W→∀i v,cs[i]? =some v→W.cell? ((⟨b,off,none⟩:Addr).add i)=some v):=Lib.hid fun W hW i v h=>((HA.out.trans (hW.mono HA.out.size)).cell (by unfold Addr.add;split<;>exact hbl)).trans (hc0 i v h)
 have HL0:=Lib.hid hl0
 have q0:=fun d os=>cell_regrown (w:=(w.alloc (.cells #[.int .i64 8,.slice a1 l1 c1,.slice (some ⟨b,off,none⟩) 2 c2] 41))) (a:=⟨b,off,none⟩) (HC0.out _ (Below.refl _ _) 0 _ hk0) d os
 have HC1:Hid (∀W,Below (w.alloc (.cells #[.int .i64 8,.slice a1 l1 c1,.slice (some ⟨b,off,none⟩) 2 c2] 41)).heap.size (w.alloc (.cells #[.int .i64 8,.slice a1 l1 c1,.slice (some ⟨b,off,none⟩) 2 c2] 41)) W→∀i v,ds[i]? =some v→W.cell? ((⟨b,off+3,none⟩:Addr).add i)=some v):=Lib.hid fun W hW i v h=>((HA.out.trans (hW.mono HA.out.size)).cell (by unfold Addr.add;split<;>exact hbl)).trans (hc1 i v h)
 have HL1:=Lib.hid hl1
 have q1:=fun d os=>cell_regrown (w:=(w.alloc (.cells #[.int .i64 8,.slice a1 l1 c1,.slice (some ⟨b,off,none⟩) 2 c2] 41))) (a:=⟨b,off+3,none⟩) (HC1.out _ (Below.refl _ _) 0 _ hk1) d os
 have r2:=fun d os=>cell_regrown ((Bx.start w [.int .i64 8,.slice a1 l1 c1,.slice (some ⟨b,off,none⟩) 2 c2] 41).at (o:=2) rfl) d os
 have gz:=hz
 clear hz
 have s1:¬(T.size+(⟨#[32,124,124,32]⟩:ByteArray).size > 9223372036854775807):=by
  simp only[size_app,size_lit,List.size_toArray,List.length_cons,List.length_nil];omega
 have s2:¬((T ++ ⟨#[32,124,124,32]⟩).size+U.size > 9223372036854775807):=by
  simp only[size_app,size_lit,List.size_toArray,List.length_cons,List.length_nil];omega
 clear hc0 hl0 hk0 hc1 hl1 hk1 hX hsT hY hsU
 go_enter Tryz.func53,Tryz.ntmps53
 go_wp2_with fail
 refine wp_region_quiet_below (by kernel_rfl) (by kernel_rfl) ?_
 repeat (first | (go_big_quiet_step (first | with_reducible exact HX _ _ | with_reducible exact HY _ _)) | (refine wpQuiet_load_c 41 _ rfl ⟨b,off,none⟩ rfl cs _ HC0.out rfl Tryz.underlying41 rfl (by rw[HL0.out];kernel_rfl) _ (by simp only[Act.put,List.setIfInBounds_toArray,List.set_cons_succ,List.set_cons_zero];rfl) ?_) | (refine wpQuiet_load_c 41 _ rfl ⟨b,off+3,none⟩ rfl ds _ HC1.out rfl Tryz.underlying41 rfl (by rw[HL1.out];kernel_rfl) _ (by simp only[Act.put,List.setIfInBounds_toArray,List.set_cons_succ,List.set_cons_zero];rfl) ?_))
 refine wpQuiet_nil ?_
 intro w9 hw'
 obtain⟨⟨dq,osq⟩,hw''⟩:=hw'
 have HB9:Hid (Below w.heap.size w w9):=Lib.hid (by rw[hw''];exact HA.out.trans ((below_regrown _ dq osq).mono HA.out.size))
 clear hw'' HX HY r2 q0 q1
 go_wp2_with fail
 go_ret
 exact⟨rfl,HB9.out⟩
theorem textC_2 (a2:Option Addr)(l2 c1 c2 b off:Nat)(cs ds:List Value)(hl:cs.length=4)(hl2:ds.length=4)(D T:ByteArray)(hD:D.size≤1000000000)(hT:T.size≤1000000000)(w:World)
 (hc:∀i v,cs[i]? =some v→w.cell? ((⟨b,off,none⟩:Addr).add i)=some v) (hc2:∀i v,ds[i]? =some v→w.cell? ((⟨b,off+4,none⟩:Addr).add i)=some v) (hbl:b<w.heap.size)
 (hd:ValAll 54 #[.agg cs.toArray] (.string D) w) (hi:ValAll 54 #[.agg ds.toArray] (.string T) w):
 Calls Tryz.prog 53 #[.agg #[.int .i64 2,.slice (some ⟨b,off,none⟩) 2 c1,.slice a2 l2 c2]] w fun r w'=>r= .returned (.string (D ++ ⟨#[32,61,61,32]⟩ ++ T))∧Below w.heap.size w w':=by
 have HA:Hid (Below w.heap.size w (w.alloc (.cells #[.int .i64 2,.slice (some ⟨b,off,none⟩) 2 c1,.slice a2 l2 c2] 41))):=box_low
 have HD:=(hd.up HA.out).reg
 have HI:=(hi.up HA.out).reg
 have HC:Hid (∀W,Below (w.alloc (.cells #[.int .i64 2,.slice (some ⟨b,off,none⟩) 2 c1,.slice a2 l2 c2] 41)).heap.size (w.alloc (.cells #[.int .i64 2,.slice (some ⟨b,off,none⟩) 2 c1,.slice a2 l2 c2] 41)) W→∀i v,cs[i]? =some v→W.cell? ((⟨b,off,none⟩:Addr).add i)=some v):=Lib.hid fun W hW i v h=>((HA.out.trans (hW.mono HA.out.size)).cell (by unfold Addr.add;split<;>exact hbl)).trans (hc i v h)
 have HC2:Hid (∀W,Below (w.alloc (.cells #[.int .i64 2,.slice (some ⟨b,off,none⟩) 2 c1,.slice a2 l2 c2] 41)).heap.size (w.alloc (.cells #[.int .i64 2,.slice (some ⟨b,off,none⟩) 2 c1,.slice a2 l2 c2] 41)) W→∀i v,ds[i]? =some v→W.cell? ((⟨b,off+4,none⟩:Addr).add i)=some v):=Lib.hid fun W hW i v h=>((HA.out.trans (hW.mono HA.out.size)).cell (by unfold Addr.add;split<;>exact hbl)).trans (hc2 i v h)
 have c3:=fun d os=>cell_regrown ((Bx.start w [.int .i64 2,.slice (some ⟨b,off,none⟩) 2 c1,.slice a2 l2 c2] 41).at (o:=1) rfl) d os
 have HL:=Lib.hid hl
 have HL2:=Lib.hid hl2
 have s1:¬(D.size+(⟨#[32,61,61,32]⟩:ByteArray).size > 9223372036854775807):=by
  simp only[size_app,size_lit,List.size_toArray,List.length_cons,List.length_nil];omega
 have s2:¬((D ++ ⟨#[32,61,61,32]⟩).size+T.size > 9223372036854775807):=by
  simp only[size_app,size_lit,List.size_toArray,List.length_cons,List.length_nil];omega
 clear hd hi hc hc2 hl hl2 hD hT
 go_enter Tryz.func53,Tryz.ntmps53
 go_wp2_with fail
 refine wp_region_quiet_below (by kernel_rfl) (by kernel_rfl) ?_
 repeat (first | (go_big_quiet_step (first | with_reducible exact HD _ _ | with_reducible exact HI _ _)) | (refine wpQuiet_load_c 37 _ rfl ⟨b,off,none⟩ rfl cs _ HC.out rfl Tryz.underlying37 rfl (by rw[HL.out];kernel_rfl) _ (by simp only[Act.put,List.setIfInBounds_toArray,List.set_cons_succ,List.set_cons_zero];rfl) ?_) | (refine wpQuiet_load_c 37 _ rfl ⟨b,off+4,none⟩ rfl ds _ HC2.out rfl Tryz.underlying37 rfl (by rw[HL2.out];kernel_rfl) _ (by simp only[Act.put,List.setIfInBounds_toArray,List.set_cons_succ,List.set_cons_zero];rfl) ?_))
 refine wpQuiet_nil ?_
 intro w9 hw'
 obtain⟨⟨dq,osq⟩,hw''⟩:=hw'
 have HB9:Hid (Below w.heap.size w w9):=Lib.hid (by rw[hw''];exact HA.out.trans ((below_regrown _ dq osq).mono HA.out.size))
 clear hw'' HD HI c3
 go_wp2_with fail
 go_ret
 exact⟨rfl,HB9.out⟩
theorem textC_3 (a2:Option Addr)(l2 c1 c2 b off:Nat)(cs ds:List Value)(hl:cs.length=4)(hl2:ds.length=4)(D T:ByteArray)(hD:D.size≤1000000000)(hT:T.size≤1000000000)(w:World)
 (hc:∀i v,cs[i]? =some v→w.cell? ((⟨b,off,none⟩:Addr).add i)=some v) (hc2:∀i v,ds[i]? =some v→w.cell? ((⟨b,off+4,none⟩:Addr).add i)=some v) (hbl:b<w.heap.size)
 (hd:ValAll 54 #[.agg cs.toArray] (.string D) w) (hi:ValAll 54 #[.agg ds.toArray] (.string T) w):
 Calls Tryz.prog 53 #[.agg #[.int .i64 3,.slice (some ⟨b,off,none⟩) 2 c1,.slice a2 l2 c2]] w fun r w'=>r= .returned (.string (D ++ ⟨#[32,33,61,32]⟩ ++ T))∧Below w.heap.size w w':=by
 have HA:Hid (Below w.heap.size w (w.alloc (.cells #[.int .i64 3,.slice (some ⟨b,off,none⟩) 2 c1,.slice a2 l2 c2] 41))):=box_low
 have HD:=(hd.up HA.out).reg
 have HI:=(hi.up HA.out).reg
 have HC:Hid (∀W,Below (w.alloc (.cells #[.int .i64 3,.slice (some ⟨b,off,none⟩) 2 c1,.slice a2 l2 c2] 41)).heap.size (w.alloc (.cells #[.int .i64 3,.slice (some ⟨b,off,none⟩) 2 c1,.slice a2 l2 c2] 41)) W→∀i v,cs[i]? =some v→W.cell? ((⟨b,off,none⟩:Addr).add i)=some v):=Lib.hid fun W hW i v h=>((HA.out.trans (hW.mono HA.out.size)).cell (by unfold Addr.add;split<;>exact hbl)).trans (hc i v h)
 have HC2:Hid (∀W,Below (w.alloc (.cells #[.int .i64 3,.slice (some ⟨b,off,none⟩) 2 c1,.slice a2 l2 c2] 41)).heap.size (w.alloc (.cells #[.int .i64 3,.slice (some ⟨b,off,none⟩) 2 c1,.slice a2 l2 c2] 41)) W→∀i v,ds[i]? =some v→W.cell? ((⟨b,off+4,none⟩:Addr).add i)=some v):=Lib.hid fun W hW i v h=>((HA.out.trans (hW.mono HA.out.size)).cell (by unfold Addr.add;split<;>exact hbl)).trans (hc2 i v h)
 have c3:=fun d os=>cell_regrown ((Bx.start w [.int .i64 3,.slice (some ⟨b,off,none⟩) 2 c1,.slice a2 l2 c2] 41).at (o:=1) rfl) d os
 have HL:=Lib.hid hl
 have HL2:=Lib.hid hl2
 have s1:¬(D.size+(⟨#[32,33,61,32]⟩:ByteArray).size > 9223372036854775807):=by
  simp only[size_app,size_lit,List.size_toArray,List.length_cons,List.length_nil];omega
 have s2:¬((D ++ ⟨#[32,33,61,32]⟩).size+T.size > 9223372036854775807):=by
  simp only[size_app,size_lit,List.size_toArray,List.length_cons,List.length_nil];omega
 clear hd hi hc hc2 hl hl2 hD hT
 go_enter Tryz.func53,Tryz.ntmps53
 go_wp2_with fail
 refine wp_region_quiet_below (by kernel_rfl) (by kernel_rfl) ?_
 repeat (first | (go_big_quiet_step (first | with_reducible exact HD _ _ | with_reducible exact HI _ _)) | (refine wpQuiet_load_c 37 _ rfl ⟨b,off,none⟩ rfl cs _ HC.out rfl Tryz.underlying37 rfl (by rw[HL.out];kernel_rfl) _ (by simp only[Act.put,List.setIfInBounds_toArray,List.set_cons_succ,List.set_cons_zero];rfl) ?_) | (refine wpQuiet_load_c 37 _ rfl ⟨b,off+4,none⟩ rfl ds _ HC2.out rfl Tryz.underlying37 rfl (by rw[HL2.out];kernel_rfl) _ (by simp only[Act.put,List.setIfInBounds_toArray,List.set_cons_succ,List.set_cons_zero];rfl) ?_))
 refine wpQuiet_nil ?_
 intro w9 hw'
 obtain⟨⟨dq,osq⟩,hw''⟩:=hw'
 have HB9:Hid (Below w.heap.size w w9):=Lib.hid (by rw[hw''];exact HA.out.trans ((below_regrown _ dq osq).mono HA.out.size))
 clear hw'' HD HI c3
 go_wp2_with fail
 go_ret
 exact⟨rfl,HB9.out⟩
theorem textC_4 (a2:Option Addr)(l2 c1 c2 b off:Nat)(cs ds:List Value)(hl:cs.length=4)(hl2:ds.length=4)(D T:ByteArray)(hD:D.size≤1000000000)(hT:T.size≤1000000000)(w:World)
 (hc:∀i v,cs[i]? =some v→w.cell? ((⟨b,off,none⟩:Addr).add i)=some v) (hc2:∀i v,ds[i]? =some v→w.cell? ((⟨b,off+4,none⟩:Addr).add i)=some v) (hbl:b<w.heap.size)
 (hd:ValAll 54 #[.agg cs.toArray] (.string D) w) (hi:ValAll 54 #[.agg ds.toArray] (.string T) w):
 Calls Tryz.prog 53 #[.agg #[.int .i64 4,.slice (some ⟨b,off,none⟩) 2 c1,.slice a2 l2 c2]] w fun r w'=>r= .returned (.string (D ++ ⟨#[32,60,32]⟩ ++ T))∧Below w.heap.size w w':=by
 have HA:Hid (Below w.heap.size w (w.alloc (.cells #[.int .i64 4,.slice (some ⟨b,off,none⟩) 2 c1,.slice a2 l2 c2] 41))):=box_low
 have HD:=(hd.up HA.out).reg
 have HI:=(hi.up HA.out).reg
 have HC:Hid (∀W,Below (w.alloc (.cells #[.int .i64 4,.slice (some ⟨b,off,none⟩) 2 c1,.slice a2 l2 c2] 41)).heap.size (w.alloc (.cells #[.int .i64 4,.slice (some ⟨b,off,none⟩) 2 c1,.slice a2 l2 c2] 41)) W→∀i v,cs[i]? =some v→W.cell? ((⟨b,off,none⟩:Addr).add i)=some v):=Lib.hid fun W hW i v h=>((HA.out.trans (hW.mono HA.out.size)).cell (by unfold Addr.add;split<;>exact hbl)).trans (hc i v h)
 have HC2:Hid (∀W,Below (w.alloc (.cells #[.int .i64 4,.slice (some ⟨b,off,none⟩) 2 c1,.slice a2 l2 c2] 41)).heap.size (w.alloc (.cells #[.int .i64 4,.slice (some ⟨b,off,none⟩) 2 c1,.slice a2 l2 c2] 41)) W→∀i v,ds[i]? =some v→W.cell? ((⟨b,off+4,none⟩:Addr).add i)=some v):=Lib.hid fun W hW i v h=>((HA.out.trans (hW.mono HA.out.size)).cell (by unfold Addr.add;split<;>exact hbl)).trans (hc2 i v h)
 have c3:=fun d os=>cell_regrown ((Bx.start w [.int .i64 4,.slice (some ⟨b,off,none⟩) 2 c1,.slice a2 l2 c2] 41).at (o:=1) rfl) d os
 have HL:=Lib.hid hl
 have HL2:=Lib.hid hl2
 have s1:¬(D.size+(⟨#[32,60,32]⟩:ByteArray).size > 9223372036854775807):=by
  simp only[size_app,size_lit,List.size_toArray,List.length_cons,List.length_nil];omega
 have s2:¬((D ++ ⟨#[32,60,32]⟩).size+T.size > 9223372036854775807):=by
  simp only[size_app,size_lit,List.size_toArray,List.length_cons,List.length_nil];omega
 clear hd hi hc hc2 hl hl2 hD hT
 go_enter Tryz.func53,Tryz.ntmps53
 go_wp2_with fail
 refine wp_region_quiet_below (by kernel_rfl) (by kernel_rfl) ?_
 repeat (first | (go_big_quiet_step (first | with_reducible exact HD _ _ | with_reducible exact HI _ _)) | (refine wpQuiet_load_c 37 _ rfl ⟨b,off,none⟩ rfl cs _ HC.out rfl Tryz.underlying37 rfl (by rw[HL.out];kernel_rfl) _ (by simp only[Act.put,List.setIfInBounds_toArray,List.set_cons_succ,List.set_cons_zero];rfl) ?_) | (refine wpQuiet_load_c 37 _ rfl ⟨b,off+4,none⟩ rfl ds _ HC2.out rfl Tryz.underlying37 rfl (by rw[HL2.out];kernel_rfl) _ (by simp only[Act.put,List.setIfInBounds_toArray,List.set_cons_succ,List.set_cons_zero];rfl) ?_))
 refine wpQuiet_nil ?_
 intro w9 hw'
 obtain⟨⟨dq,osq⟩,hw''⟩:=hw'
 have HB9:Hid (Below w.heap.size w w9):=Lib.hid (by rw[hw''];exact HA.out.trans ((below_regrown _ dq osq).mono HA.out.size))
 clear hw'' HD HI c3
 go_wp2_with fail
 go_ret
 exact⟨rfl,HB9.out⟩
theorem textC_5 (a2:Option Addr)(l2 c1 c2 b off:Nat)(cs ds:List Value)(hl:cs.length=4)(hl2:ds.length=4)(D T:ByteArray)(hD:D.size≤1000000000)(hT:T.size≤1000000000)(w:World)
 (hc:∀i v,cs[i]? =some v→w.cell? ((⟨b,off,none⟩:Addr).add i)=some v) (hc2:∀i v,ds[i]? =some v→w.cell? ((⟨b,off+4,none⟩:Addr).add i)=some v) (hbl:b<w.heap.size)
 (hd:ValAll 54 #[.agg cs.toArray] (.string D) w) (hi:ValAll 54 #[.agg ds.toArray] (.string T) w):
 Calls Tryz.prog 53 #[.agg #[.int .i64 5,.slice (some ⟨b,off,none⟩) 2 c1,.slice a2 l2 c2]] w fun r w'=>r= .returned (.string (D ++ ⟨#[32,60,61,32]⟩ ++ T))∧Below w.heap.size w w':=by
 have HA:Hid (Below w.heap.size w (w.alloc (.cells #[.int .i64 5,.slice (some ⟨b,off,none⟩) 2 c1,.slice a2 l2 c2] 41))):=box_low
 have HD:=(hd.up HA.out).reg
 have HI:=(hi.up HA.out).reg
 have HC:Hid (∀W,Below (w.alloc (.cells #[.int .i64 5,.slice (some ⟨b,off,none⟩) 2 c1,.slice a2 l2 c2] 41)).heap.size (w.alloc (.cells #[.int .i64 5,.slice (some ⟨b,off,none⟩) 2 c1,.slice a2 l2 c2] 41)) W→∀i v,cs[i]? =some v→W.cell? ((⟨b,off,none⟩:Addr).add i)=some v):=Lib.hid fun W hW i v h=>((HA.out.trans (hW.mono HA.out.size)).cell (by unfold Addr.add;split<;>exact hbl)).trans (hc i v h)
 have HC2:Hid (∀W,Below (w.alloc (.cells #[.int .i64 5,.slice (some ⟨b,off,none⟩) 2 c1,.slice a2 l2 c2] 41)).heap.size (w.alloc (.cells #[.int .i64 5,.slice (some ⟨b,off,none⟩) 2 c1,.slice a2 l2 c2] 41)) W→∀i v,ds[i]? =some v→W.cell? ((⟨b,off+4,none⟩:Addr).add i)=some v):=Lib.hid fun W hW i v h=>((HA.out.trans (hW.mono HA.out.size)).cell (by unfold Addr.add;split<;>exact hbl)).trans (hc2 i v h)
 have c3:=fun d os=>cell_regrown ((Bx.start w [.int .i64 5,.slice (some ⟨b,off,none⟩) 2 c1,.slice a2 l2 c2] 41).at (o:=1) rfl) d os
 have HL:=Lib.hid hl
 have HL2:=Lib.hid hl2
 have s1:¬(D.size+(⟨#[32,60,61,32]⟩:ByteArray).size > 9223372036854775807):=by
  simp only[size_app,size_lit,List.size_toArray,List.length_cons,List.length_nil];omega
 have s2:¬((D ++ ⟨#[32,60,61,32]⟩).size+T.size > 9223372036854775807):=by
  simp only[size_app,size_lit,List.size_toArray,List.length_cons,List.length_nil];omega
 clear hd hi hc hc2 hl hl2 hD hT
 go_enter Tryz.func53,Tryz.ntmps53
 go_wp2_with fail
 refine wp_region_quiet_below (by kernel_rfl) (by kernel_rfl) ?_
 repeat (first | (go_big_quiet_step (first | with_reducible exact HD _ _ | with_reducible exact HI _ _)) | (refine wpQuiet_load_c 37 _ rfl ⟨b,off,none⟩ rfl cs _ HC.out rfl Tryz.underlying37 rfl (by rw[HL.out];kernel_rfl) _ (by simp only[Act.put,List.setIfInBounds_toArray,List.set_cons_succ,List.set_cons_zero];rfl) ?_) | (refine wpQuiet_load_c 37 _ rfl ⟨b,off+4,none⟩ rfl ds _ HC2.out rfl Tryz.underlying37 rfl (by rw[HL2.out];kernel_rfl) _ (by simp only[Act.put,List.setIfInBounds_toArray,List.set_cons_succ,List.set_cons_zero];rfl) ?_))
 refine wpQuiet_nil ?_
 intro w9 hw'
 obtain⟨⟨dq,osq⟩,hw''⟩:=hw'
 have HB9:Hid (Below w.heap.size w w9):=Lib.hid (by rw[hw''];exact HA.out.trans ((below_regrown _ dq osq).mono HA.out.size))
 clear hw'' HD HI c3
 go_wp2_with fail
 go_ret
 exact⟨rfl,HB9.out⟩
end
section
open Go.RowKit
theorem snC_inv {nm:ByteArray→Bool}{n:Nat}{c:CT}(h:snC nm (n+1) c=true):(0≤c.kind∧c.kind≤8)∧c.es.length=esC c.kind∧c.ks.length=ksC c.kind∧(∀x∈c.es,snE nm n x=true)∧(∀x∈c.ks,snC nm n x=true):=by
 unfold snC at h
 split at h
 ·rename_i h2
  simp only[Bool.and_eq_true,beq_iff_eq,List.all_eq_true]at h
  exact⟨h2,h.1.1.1,h.1.1.2,h.1.2,h.2⟩
 ·cases h
theorem ptC_mem {n:Nat}{l:List CT}{x:CT}(h:x∈l):ptC n x≤ptCs n l:=by
 unfold ptCs
 induction l with
 | nil=>cases h
 | cons y l ih=>
   rw[List.map_cons,List.sum_cons]
   rcases List.mem_cons.1 h with rfl | h
   ·omega
   ·have:=ih h;omega
theorem ptCs_two (n:Nat)(e v:CT):ptCs n [e,v]=ptC n e+ptC n v:=by simp[ptCs]
theorem opC_le (k:Int):(opC k).size≤4:=by
 unfold opC
 split
 ·simp only[size_lit,List.size_toArray,List.length_cons,List.length_nil];omega
 ·split
  ·simp only[size_lit,List.size_toArray,List.length_cons,List.length_nil];omega
  ·split<;>(simp only[size_lit,List.size_toArray,List.length_cons,List.length_nil];omega)
theorem txC_le {nm:ByteArray→Bool}(hnm:∀s,nm s=true→s.size≤32):∀(n:Nat) (c:CT),snC nm n c=true→(txC n c).size≤64*ptC n c
 | 0,_,h=>by cases h
 | n+1,c,h=>by
   obtain⟨hk,hle,hlk,hes,hks⟩:=snC_inv h
   have IH:=fun x hx=>txC_le hnm n x (hks x hx)
   have IE:=fun x hx=>txE_le hnm n x (hes x hx)
   rw[ptC_succ]
   unfold txC
   by_cases k0:c.kind=0
   ·rw[if_pos k0];simp only[size_lit,List.size_toArray,List.length_cons,List.length_nil];omega
   rw[if_neg k0]
   by_cases k1:c.kind=1
   ·rw[if_pos k1];simp only[size_lit,List.size_toArray,List.length_cons,List.length_nil];omega
   rw[if_neg k1]
   by_cases k6:c.kind=6
   ·rw[if_pos k6]
    rw[k6]at hlk
    obtain⟨x,hx⟩:=list_one hlk
    rw[hx]at IH⊢
    have h2:=IH x (by simp)
    have h3:=bxd_le (rowK x.kind) (txC n x)
    rw[show[x].getD 0 default=x from rfl,ptCs_one]
    simp only[size_app,size_lit,List.size_toArray,List.length_cons,List.length_nil]
    omega
   rw[if_neg k6]
   by_cases k7:c.kind=7
   ·rw[if_pos k7]
    rw[k7]at hlk
    obtain⟨x,y,hx⟩:=list_two hlk
    rw[hx]at IH⊢
    have h2:=IH x (by simp)
    have h4:=IH y (by simp)
    have h3:=bxd_le (orK x.kind) (txC n x)
    have h5:=bxd_le (rowK y.kind) (txC n y)
    rw[show[x,y].getD 0 default=x from rfl,show[x,y].getD 1 default=y from rfl,ptCs_two]
    simp only[size_app,size_lit,List.size_toArray,List.length_cons,List.length_nil]
    omega
   rw[if_neg k7]
   by_cases k8:c.kind=8
   ·rw[if_pos k8]
    rw[k8]at hlk
    obtain⟨x,y,hx⟩:=list_two hlk
    rw[hx]at IH⊢
    have h2:=IH x (by simp)
    have h4:=IH y (by simp)
    have h5:=bxd_le (orK y.kind) (txC n y)
    rw[show[x,y].getD 0 default=x from rfl,show[x,y].getD 1 default=y from rfl,ptCs_two]
    simp only[size_app,size_lit,List.size_toArray,List.length_cons,List.length_nil]
    omega
   rw[if_neg k8]
   have hl2:c.es.length=2:=by
    rw[hle]
    obtain h | h | h | h:c.kind=2∨c.kind=3∨c.kind=4∨c.kind=5:=by omega
    all_goals rw[h];rfl
   obtain⟨x,y,hx⟩:=list_two hl2
   rw[hx]at IE⊢
   have h2:=IE x (by simp)
   have h4:=IE y (by simp)
   have h5:=opC_le c.kind
   rw[show[x,y].getD 0 default=x from rfl,show[x,y].getD 1 default=y from rfl,ptEs_two]
   simp only[size_app]
   omega
theorem boxed_any (n:Nat)(c:CT)(cs:List Value)(w:World)(b:Bool)(D:ByteArray)(h:(condSh n).rel (Pak.Lo w.heap.size) w cs c)(hD:D.size≤1000000000)(hd:ValAll 53 #[.agg cs.toArray] (.string D) w):
 ValAll 93 #[.agg cs.toArray,.bool b] (.string (bxd b D)) w:=fun W hW=>by
 cases n with
 | zero=>exact h.elim
 | succ n=>
   obtain⟨u,v,rfl,_,⟨a1,c1,rfl,_⟩,⟨a2,c2,rfl,_⟩⟩:=h
   cases b with
   | true=>exact boxed_t _ _ _ _ _ _ _ _ hD W (hd.up hW)
   | false=>exact boxed_f _ _ _ _ _ _ _ _ hD W (hd.up hW)
theorem cond_kind {n:Nat}{c:CT}{cs:List Value}{S:Nat→Prop}{w:World}(h:(condSh n).rel S w cs c):cs[0]? =some (.int .i64 c.kind):=by
 cases n with
 | zero=>exact h.elim
 | succ n=>
   obtain⟨u,v,rfl,_⟩:=h
   rfl
theorem textC_any {nm:ByteArray→Bool}(hnm:∀s,nm s=true→s.size≤32):∀(n:Nat) (c:CT) (cs:List Value) (w:World),(condSh n).rel (Pak.Lo w.heap.size) w cs c→snC nm n c=true→ptC n c≤100000→
 Calls Tryz.prog 53 #[.agg cs.toArray] w fun r w'=>r= .returned (.string (txC n c))∧Below w.heap.size w w'
 | 0,_,_,_,h,_,_=>h.elim
 | n+1,c,cs,w,h,hsn,hpt=>by
   obtain⟨hk,hle,hlk,hes,hks⟩:=snC_inv hsn
   obtain⟨u,v,rfl,_,⟨a1,c1,rfl,hs1⟩,⟨a2,c2,rfl,hs2⟩⟩:=h
   rw[ptC_succ]at hpt
   have hp:∀x∈c.ks,ptC n x≤100000∧(txC n x).size≤10000000:=fun x hx=>by
    have p1:=ptC_mem (n:=n) hx
    have p2:=txC_le hnm n x (hks x hx)
    exact⟨by omega,by omega⟩
   have hpe:∀x∈c.es,ptE n x≤100000∧(txE n x).size≤10000000:=fun x hx=>by
    have p1:=pt_mem (n:=n) hx
    have p2:=txE_le hnm n x (hes x hx)
    exact⟨by omega,by omega⟩
   have IH:∀x∈c.ks,∀cs,(condSh n).rel (Pak.Lo w.heap.size) w cs x→ValAll 53 #[.agg cs.toArray] (.string (txC n x)) w:=fun x hx cs hr W hW=>
    textC_any hnm n x cs W (rel_low hr hW) (hks x hx) (hp x hx).1
   have IN:∀x∈c.ks,∀cs b,(condSh n).rel (Pak.Lo w.heap.size) w cs x→ValAll 93 #[.agg cs.toArray,.bool b] (.string (bxd b (txC n x))) w:=fun x hx cs b hr=>
    boxed_any n x cs w b _ hr (by have:=(hp x hx).2;omega) (IH x hx cs hr)
   have IE:∀x∈c.es,∀cs,(exprSh n).rel (Pak.Lo w.heap.size) w cs x→ValAll 54 #[.agg cs.toArray] (.string (txE n x)) w:=fun x hx cs hr W hW=>
    textE_any hnm n x cs W (rel_low hr hW) (hes x hx) (hpe x hx).1
   unfold txC
   by_cases k0:c.kind=0
   ·rw[if_pos k0,k0]
    exact textC_0 _ _ _ _ _ _ w
   rw[if_neg k0]
   by_cases k1:c.kind=1
   ·rw[if_pos k1,k1]
    exact textC_1 _ _ _ _ _ _ w
   rw[if_neg k1]
   by_cases k6:c.kind=6
   ·rw[if_pos k6,k6]
    rw[k6]at hlk
    obtain⟨x,hx⟩:=list_one hlk
    have hm:x∈c.ks:=by rw[hx];simp
    rw[hx]at hs2⊢
    obtain⟨b,off,ds,rfl,hbl,hc,hr⟩:=hs2.2 0 (by simp)
    rw[Nat.zero_mul,Nat.add_zero]at hc
    have hsz:=(hp x hm).2
    have hin:=fun z=>bxd_le z (txC n x)
    have HT:=fun z=>IN x hm ds z hr
    have hlen:=((condSh n).len hr).trans (condSh_k n)
    have hkk:=cond_kind hr
    rw[show[x].getD 0 default=x from rfl]
    by_cases x7:x.kind=7
    ·rw[show rowK x.kind=true by rw[x7];rfl]
     exact textC_6a _ _ _ _ b off ds _ _ (by have:=hin true;omega) w hlen hkk (cell_add hc) hbl x7 (HT true)
    by_cases x8:x.kind=8
    ·rw[show rowK x.kind=true by rw[x8];rfl]
     exact textC_6b _ _ _ _ b off ds _ _ (by have:=hin true;omega) w hlen hkk (cell_add hc) hbl x8 (HT true)
    have hx2:¬(x.kind=7∨x.kind=8):=fun h=>h.elim x7 x8
    rw[show rowK x.kind=false from decide_eq_false hx2]
    exact textC_6c _ _ _ _ b off ds _ _ (by have:=hin false;omega) w hlen hkk (cell_add hc) hbl hx2 (HT false)
   rw[if_neg k6]
   by_cases k7:c.kind=7
   ·rw[if_pos k7,k7]
    rw[k7]at hlk
    obtain⟨x,y,hx⟩:=list_two hlk
    have hm:x∈c.ks:=by rw[hx];simp
    have hm2:y∈c.ks:=by rw[hx];simp
    rw[hx]at hs2⊢
    obtain⟨b,off,ds,rfl,hbl,hc,hr⟩:=hs2.2 0 (by simp)
    obtain⟨b2,off2,gs,e2,_,hc2,hr2⟩:=hs2.2 1 (by simp)
    injection e2 with e2
    injection e2 with e3 e4 e5
    subst e3 e4
    rw[Nat.zero_mul,Nat.add_zero]at hc
    rw[Nat.one_mul,condSh_k]at hc2
    have hsz:=(hp x hm).2
    have hsz2:=(hp y hm2).2
    have hin:=fun z=>bxd_le z (txC n x)
    have hin2:=fun z=>bxd_le z (txC n y)
    have HT:=fun z=>IN x hm ds z hr
    have HU:=fun z=>IN y hm2 gs z hr2
    have hlen:=((condSh n).len hr).trans (condSh_k n)
    have hlen2:=((condSh n).len hr2).trans (condSh_k n)
    have hkk:=cond_kind hr
    have hkk2:=cond_kind hr2
    have hz:(x.kind == 8)=orK x.kind:=by unfold orK;rw[Bool.eq_iff_iff];simp
    rw[show[x,y].getD 0 default=x from rfl,show[x,y].getD 1 default=y from rfl]
    by_cases x7:y.kind=7
    ·rw[show rowK y.kind=true by rw[x7];rfl]
     exact textC_7a _ _ _ _ b off ds gs _ _ _ (by have:=hin (orK x.kind);omega) _ (by have:=hin2 true;omega) w hlen hkk (cell_add hc) hlen2 hkk2 (cell_add hc2) hbl _ hz x7 (HT _) (HU true)
    by_cases x8:y.kind=8
    ·rw[show rowK y.kind=true by rw[x8];rfl]
     exact textC_7b _ _ _ _ b off ds gs _ _ _ (by have:=hin (orK x.kind);omega) _ (by have:=hin2 true;omega) w hlen hkk (cell_add hc) hlen2 hkk2 (cell_add hc2) hbl _ hz x8 (HT _) (HU true)
    have hx2:¬(y.kind=7∨y.kind=8):=fun h=>h.elim x7 x8
    rw[show rowK y.kind=false from decide_eq_false hx2]
    exact textC_7c _ _ _ _ b off ds gs _ _ _ (by have:=hin (orK x.kind);omega) _ (by have:=hin2 false;omega) w hlen hkk (cell_add hc) hlen2 hkk2 (cell_add hc2) hbl _ hz hx2 (HT _) (HU false)
   rw[if_neg k7]
   by_cases k8:c.kind=8
   ·rw[if_pos k8,k8]
    rw[k8]at hlk
    obtain⟨x,y,hx⟩:=list_two hlk
    have hm:x∈c.ks:=by rw[hx];simp
    have hm2:y∈c.ks:=by rw[hx];simp
    rw[hx]at hs2⊢
    obtain⟨b,off,ds,rfl,hbl,hc,hr⟩:=hs2.2 0 (by simp)
    obtain⟨b2,off2,gs,e2,_,hc2,hr2⟩:=hs2.2 1 (by simp)
    injection e2 with e2
    injection e2 with e3 e4 e5
    subst e3 e4
    rw[Nat.zero_mul,Nat.add_zero]at hc
    rw[Nat.one_mul,condSh_k]at hc2
    have hsz:=(hp x hm).2
    have hsz2:=(hp y hm2).2
    have hin2:=bxd_le (orK y.kind) (txC n y)
    have hz:(y.kind == 8)=orK y.kind:=by unfold orK;rw[Bool.eq_iff_iff];simp
    rw[show[x,y].getD 0 default=x from rfl,show[x,y].getD 1 default=y from rfl]
    exact textC_8 _ _ _ _ b off ds gs _ _ _ (by omega) _ (by omega) w (((condSh n).len hr).trans (condSh_k n)) (cond_kind hr) (cell_add hc) (((condSh n).len hr2).trans (condSh_k n)) (cond_kind hr2) (cell_add hc2) hbl _ hz (IH x hm ds hr) (IN y hm2 gs _ hr2)
   rw[if_neg k8]
   have hk4:c.kind=2∨c.kind=3∨c.kind=4∨c.kind=5:=by omega
   have hl2:c.es.length=2:=by
    rw[hle]
    rcases hk4 with h | h | h | h
    all_goals rw[h];rfl
   obtain⟨x,y,hx⟩:=list_two hl2
   have hm:x∈c.es:=by rw[hx];simp
   have hm2:y∈c.es:=by rw[hx];simp
   rw[hx]at hs1⊢
   obtain⟨b,off,ds,rfl,hbl,hc,hr⟩:=hs1.2 0 (by simp)
   obtain⟨b2,off2,gs,e2,_,hc2,hr2⟩:=hs1.2 1 (by simp)
   injection e2 with e2
   injection e2 with e3 e4 e5
   subst e3 e4
   rw[Nat.zero_mul,Nat.add_zero]at hc
   rw[Nat.one_mul,exprSh_k]at hc2
   have hsz:=(hpe x hm).2
   have hsz2:=(hpe y hm2).2
   have hlen:=((exprSh n).len hr).trans (exprSh_k n)
   have hlen2:=((exprSh n).len hr2).trans (exprSh_k n)
   rw[show[x,y].getD 0 default=x from rfl,show[x,y].getD 1 default=y from rfl]
   rcases hk4 with h | h | h | h
   ·rw[h]
    exact textC_2 _ _ _ _ b off ds gs hlen hlen2 _ _ (by omega) (by omega) w (cell_add hc) (cell_add hc2) hbl (IE x hm ds hr) (IE y hm2 gs hr2)
   ·rw[h]
    exact textC_3 _ _ _ _ b off ds gs hlen hlen2 _ _ (by omega) (by omega) w (cell_add hc) (cell_add hc2) hbl (IE x hm ds hr) (IE y hm2 gs hr2)
   ·rw[h]
    exact textC_4 _ _ _ _ b off ds gs hlen hlen2 _ _ (by omega) (by omega) w (cell_add hc) (cell_add hc2) hbl (IE x hm ds hr) (IE y hm2 gs hr2)
   ·rw[h]
    exact textC_5 _ _ _ _ b off ds gs hlen hlen2 _ _ (by omega) (by omega) w (cell_add hc) (cell_add hc2) hbl (IE x hm ds hr) (IE y hm2 gs hr2)
end
end Go.Proofs.YtfcaclmcnlflfaaGreatDoor
