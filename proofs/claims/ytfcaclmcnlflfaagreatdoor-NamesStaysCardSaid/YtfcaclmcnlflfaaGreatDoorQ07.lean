/- Parts of a proof. -/
import Derived.Test.YtfcaclmcnlflfaaGreatDoorQ05
import Derived.Lib.Strings
set_option linter.unusedVariables false
set_option linter.unusedSimpArgs false
set_option maxHeartbeats 60000000
set_option maxRecDepth 100000
namespace Go.Proofs.YtfcaclmcnlflfaaGreatDoor
section
open Go.RowKit
def ksA (k:Int):Nat:=if k=4∨k=5 then 2 else 0
def shA (nm:ByteArray→Bool)(n:Nat)(a:AT):Bool:=
 if a.kind=2 then noE a.v && (snE nm n a.e && nm a.field && (decide (0≤a.n) && decide (a.n≤1073741824)))
 else if a.kind=3 then snE nm n a.v && (snE nm n a.e && nm a.field && (decide (0≤a.n) && decide (a.n≤1073741824)))
 else noE a.e && noE a.v && a.field.toList.isEmpty && a.n == 0
def snA (nm:ByteArray→Bool):Nat→AT→Bool
 | 0,_=>false
 | n+1,a=>
   if 0≤a.kind∧a.kind≤5 then
    a.ks.length == ksA a.kind && (a.ks.all (snA nm n) && (shA nm n a && (if a.kind=1∨a.kind=5 then snC nm n a.c else noC a.c)))
   else false
theorem soundA_0 (ck:Int)(a1:Option Addr)(l1 c1:Nat)(a2:Option Addr)(l2 c2:Nat)(ek en:Int)(es:ByteArray)(a3:Option Addr)(l3 c3:Nat)(vk vn:Int)(vs:ByteArray)(a4:Option Addr)(l4 c4:Nat)(fs:ByteArray)(m:Int)(a5:Option Addr)(l5 c5:Nat)(z1 z2 z3:Bool)(w:World)
 (h1:∀W,Below w.heap.size w W→Calls Tryz.prog 101 #[.slice a5 l5 c5,.func (.func 71) #[] #[]] W fun r w'=>r= .returned (.bool z1)∧Below W.heap.size W w')
 (h2:∀W,Below w.heap.size w W→Calls Tryz.prog 102 #[.agg #[.int .i64 0,.int .i64 ck,.slice a1 l1 c1,.slice a2 l2 c2,.int .i64 ek,.int .i64 en,.string es,.slice a3 l3 c3,.int .i64 vk,.int .i64 vn,.string vs,.slice a4 l4 c4,.string fs,.int .i64 m,.slice a5 l5 c5],.bool false] W (SoundEnd z2 W))
 (h3:∀W,Below w.heap.size w W→Calls Tryz.prog 104 #[.agg #[.int .i64 ck,.slice a1 l1 c1,.slice a2 l2 c2]] W fun r w'=>r= .returned (.bool z3)∧Below W.heap.size W w'):
 Calls Tryz.prog 71 #[.agg #[.int .i64 0,.int .i64 ck,.slice a1 l1 c1,.slice a2 l2 c2,.int .i64 ek,.int .i64 en,.string es,.slice a3 l3 c3,.int .i64 vk,.int .i64 vn,.string vs,.slice a4 l4 c4,.string fs,.int .i64 m,.slice a5 l5 c5]] w (SoundEnd (l5 == 0 && (z1 && (z2 && z3))) w):=by
 have H2:=Lib.hid h2
 have H3:=Lib.hid h3
 have HA:Hid (Below w.heap.size w (w.alloc (.cells #[.int .i64 0,.int .i64 ck,.slice a1 l1 c1,.slice a2 l2 c2,.int .i64 ek,.int .i64 en,.string es,.slice a3 l3 c3,.int .i64 vk,.int .i64 vn,.string vs,.slice a4 l4 c4,.string fs,.int .i64 m,.slice a5 l5 c5] 44))):=box_low
 have HCL:Hid (∀W,Below (w.alloc (.cells #[.int .i64 0,.int .i64 ck,.slice a1 l1 c1,.slice a2 l2 c2,.int .i64 ek,.int .i64 en,.string es,.slice a3 l3 c3,.int .i64 vk,.int .i64 vn,.string vs,.slice a4 l4 c4,.string fs,.int .i64 m,.slice a5 l5 c5] 44)).heap.size (w.alloc (.cells #[.int .i64 0,.int .i64 ck,.slice a1 l1 c1,.slice a2 l2 c2,.int .i64 ek,.int .i64 en,.string es,.slice a3 l3 c3,.int .i64 vk,.int .i64 vn,.string vs,.slice a4 l4 c4,.string fs,.int .i64 m,.slice a5 l5 c5] 44)) W→W.cell? ⟨w.heap.size,0,none⟩=some (.int .i64 0)∧W.cell? ⟨w.heap.size,1,none⟩=some (.int .i64 ck)∧W.cell? ⟨w.heap.size,2,none⟩=some (.slice a1 l1 c1)∧W.cell? ⟨w.heap.size,3,none⟩=some (.slice a2 l2 c2)∧W.cell? ⟨w.heap.size,4,none⟩=some (.int .i64 ek)∧W.cell? ⟨w.heap.size,5,none⟩=some (.int .i64 en)∧W.cell? ⟨w.heap.size,6,none⟩=some (.string es)∧W.cell? ⟨w.heap.size,7,none⟩=some (.slice a3 l3 c3)∧W.cell? ⟨w.heap.size,8,none⟩=some (.int .i64 vk)∧W.cell? ⟨w.heap.size,9,none⟩=some (.int .i64 vn)∧W.cell? ⟨w.heap.size,10,none⟩=some (.string vs)∧W.cell? ⟨w.heap.size,11,none⟩=some (.slice a4 l4 c4)∧W.cell? ⟨w.heap.size,12,none⟩=some (.string fs)∧W.cell? ⟨w.heap.size,13,none⟩=some (.int .i64 m)∧W.cell? ⟨w.heap.size,14,none⟩=some (.slice a5 l5 c5)):=fun W hb=>by
  have hn:=heap_alloc_new w (.cells #[.int .i64 0,.int .i64 ck,.slice a1 l1 c1,.slice a2 l2 c2,.int .i64 ek,.int .i64 en,.string es,.slice a3 l3 c3,.int .i64 vk,.int .i64 vn,.string vs,.slice a4 l4 c4,.string fs,.int .i64 m,.slice a5 l5 c5] 44)
  have hl:w.heap.size<(w.alloc (.cells #[.int .i64 0,.int .i64 ck,.slice a1 l1 c1,.slice a2 l2 c2,.int .i64 ek,.int .i64 en,.string es,.slice a3 l3 c3,.int .i64 vk,.int .i64 vn,.string vs,.slice a4 l4 c4,.string fs,.int .i64 m,.slice a5 l5 c5] 44)).heap.size:=by simp
  exact⟨(hb.cell (p:=⟨w.heap.size,0,none⟩) hl).trans ((cell_of_row _ _ _ _ _ _ hn).trans rfl),(hb.cell (p:=⟨w.heap.size,1,none⟩) hl).trans ((cell_of_row _ _ _ _ _ _ hn).trans rfl),(hb.cell (p:=⟨w.heap.size,2,none⟩) hl).trans ((cell_of_row _ _ _ _ _ _ hn).trans rfl),(hb.cell (p:=⟨w.heap.size,3,none⟩) hl).trans ((cell_of_row _ _ _ _ _ _ hn).trans rfl),(hb.cell (p:=⟨w.heap.size,4,none⟩) hl).trans ((cell_of_row _ _ _ _ _ _ hn).trans rfl),(hb.cell (p:=⟨w.heap.size,5,none⟩) hl).trans ((cell_of_row _ _ _ _ _ _ hn).trans rfl),(hb.cell (p:=⟨w.heap.size,6,none⟩) hl).trans ((cell_of_row _ _ _ _ _ _ hn).trans rfl),(hb.cell (p:=⟨w.heap.size,7,none⟩) hl).trans ((cell_of_row _ _ _ _ _ _ hn).trans rfl),(hb.cell (p:=⟨w.heap.size,8,none⟩) hl).trans ((cell_of_row _ _ _ _ _ _ hn).trans rfl),(hb.cell (p:=⟨w.heap.size,9,none⟩) hl).trans ((cell_of_row _ _ _ _ _ _ hn).trans rfl),(hb.cell (p:=⟨w.heap.size,10,none⟩) hl).trans ((cell_of_row _ _ _ _ _ _ hn).trans rfl),(hb.cell (p:=⟨w.heap.size,11,none⟩) hl).trans ((cell_of_row _ _ _ _ _ _ hn).trans rfl),(hb.cell (p:=⟨w.heap.size,12,none⟩) hl).trans ((cell_of_row _ _ _ _ _ _ hn).trans rfl),(hb.cell (p:=⟨w.heap.size,13,none⟩) hl).trans ((cell_of_row _ _ _ _ _ _ hn).trans rfl),(hb.cell (p:=⟨w.heap.size,14,none⟩) hl).trans ((cell_of_row _ _ _ _ _ _ hn).trans rfl)⟩
 have X1:=Lib.hid (h1 _ HA.out)
 clear h1 h2 h3
 by_cases hl1:l5=0
 ·have e1:((l5:Int) != 0)=false:=by rw[hl1];rfl
  have f1:(l5 == 0)=true:=by rw[hl1];rfl
  rw[f1]
  clear hl1 f1
  go_enter Tryz.func71,Tryz.ntmps71
  go_wp2_with fail
  refine X1.out.mono ?_
  rintro r w2 ⟨rfl,hb⟩
  have HB2:=Lib.hid (HA.out.trans (hb.mono HA.out.size))
  have HN2:=Lib.hid (hb)
  clear hb X1
  obtain⟨q0,q1,q2,q3,q4,q5,q6,q7,q8,q9,q10,q11,q12,q13,q14⟩:=HCL.out _ HN2.out
  have X2:=Lib.hid (H2.out _ HB2.out)
  cases z1 with
  | false=>
    clear X2
    go_wp2_with fail
    go_ret
    exact⟨rfl,HB2.out⟩
  | true=>
    go_wp2_with fail
    clear q0 q1 q2 q3 q4 q5 q6 q7 q8 q9 q10 q11 q12 q13 q14
    refine X2.out.mono ?_
    rintro r w3 ⟨rfl,hb⟩
    have HB3:=Lib.hid (HB2.out.trans (hb.mono HB2.out.size))
    have HN3:=Lib.hid (HN2.out.trans (hb.mono HN2.out.size))
    clear hb X2
    obtain⟨q0,q1,q2,q3,q4,q5,q6,q7,q8,q9,q10,q11,q12,q13,q14⟩:=HCL.out _ HN3.out
    have X3:=Lib.hid (H3.out _ HB3.out)
    cases z2 with
    | false=>
      clear X3
      go_wp2_with fail
      go_ret
      exact⟨rfl,HB3.out⟩
    | true=>
      go_wp2_with fail
      clear q0 q1 q2 q3 q4 q5 q6 q7 q8 q9 q10 q11 q12 q13 q14
      refine X3.out.mono ?_
      rintro r w4 ⟨rfl,hb⟩
      have HB4:=Lib.hid (HB3.out.trans (hb.mono HB3.out.size))
      have HN4:=Lib.hid (HN3.out.trans (hb.mono HN3.out.size))
      clear hb X3
      cases z3<;>
      ·go_wp2_with fail
       go_ret
       exact⟨rfl,HB4.out⟩
 ·have e1:((l5:Int) != 0)=true:=by simp;omega
  have f1:(l5 == 0)=false:=by simp;omega
  rw[f1]
  clear hl1 f1
  go_enter Tryz.func71,Tryz.ntmps71
  go_wp2_with fail
  go_ret
  exact⟨rfl,box_low⟩
theorem soundA_1 (ck:Int)(a1:Option Addr)(l1 c1:Nat)(a2:Option Addr)(l2 c2:Nat)(ek en:Int)(es:ByteArray)(a3:Option Addr)(l3 c3:Nat)(vk vn:Int)(vs:ByteArray)(a4:Option Addr)(l4 c4:Nat)(fs:ByteArray)(m:Int)(a5:Option Addr)(l5 c5:Nat)(z1 z2 z3:Bool)(w:World)
 (h1:∀W,Below w.heap.size w W→Calls Tryz.prog 101 #[.slice a5 l5 c5,.func (.func 71) #[] #[]] W fun r w'=>r= .returned (.bool z1)∧Below W.heap.size W w')
 (h2:∀W,Below w.heap.size w W→Calls Tryz.prog 102 #[.agg #[.int .i64 1,.int .i64 ck,.slice a1 l1 c1,.slice a2 l2 c2,.int .i64 ek,.int .i64 en,.string es,.slice a3 l3 c3,.int .i64 vk,.int .i64 vn,.string vs,.slice a4 l4 c4,.string fs,.int .i64 m,.slice a5 l5 c5],.bool false] W (SoundEnd z2 W))
 (h3:∀W,Below w.heap.size w W→Calls Tryz.prog 103 #[.agg #[.int .i64 ck,.slice a1 l1 c1,.slice a2 l2 c2]] W fun r w'=>r= .returned (.bool z3)∧Below W.heap.size W w'):
 Calls Tryz.prog 71 #[.agg #[.int .i64 1,.int .i64 ck,.slice a1 l1 c1,.slice a2 l2 c2,.int .i64 ek,.int .i64 en,.string es,.slice a3 l3 c3,.int .i64 vk,.int .i64 vn,.string vs,.slice a4 l4 c4,.string fs,.int .i64 m,.slice a5 l5 c5]] w (SoundEnd (l5 == 0 && (z1 && (z2 && z3))) w):=by
 have H2:=Lib.hid h2
 have H3:=Lib.hid h3
 have HA:Hid (Below w.heap.size w (w.alloc (.cells #[.int .i64 1,.int .i64 ck,.slice a1 l1 c1,.slice a2 l2 c2,.int .i64 ek,.int .i64 en,.string es,.slice a3 l3 c3,.int .i64 vk,.int .i64 vn,.string vs,.slice a4 l4 c4,.string fs,.int .i64 m,.slice a5 l5 c5] 44))):=box_low
 have HCL:Hid (∀W,Below (w.alloc (.cells #[.int .i64 1,.int .i64 ck,.slice a1 l1 c1,.slice a2 l2 c2,.int .i64 ek,.int .i64 en,.string es,.slice a3 l3 c3,.int .i64 vk,.int .i64 vn,.string vs,.slice a4 l4 c4,.string fs,.int .i64 m,.slice a5 l5 c5] 44)).heap.size (w.alloc (.cells #[.int .i64 1,.int .i64 ck,.slice a1 l1 c1,.slice a2 l2 c2,.int .i64 ek,.int .i64 en,.string es,.slice a3 l3 c3,.int .i64 vk,.int .i64 vn,.string vs,.slice a4 l4 c4,.string fs,.int .i64 m,.slice a5 l5 c5] 44)) W→W.cell? ⟨w.heap.size,0,none⟩=some (.int .i64 1)∧W.cell? ⟨w.heap.size,1,none⟩=some (.int .i64 ck)∧W.cell? ⟨w.heap.size,2,none⟩=some (.slice a1 l1 c1)∧W.cell? ⟨w.heap.size,3,none⟩=some (.slice a2 l2 c2)∧W.cell? ⟨w.heap.size,4,none⟩=some (.int .i64 ek)∧W.cell? ⟨w.heap.size,5,none⟩=some (.int .i64 en)∧W.cell? ⟨w.heap.size,6,none⟩=some (.string es)∧W.cell? ⟨w.heap.size,7,none⟩=some (.slice a3 l3 c3)∧W.cell? ⟨w.heap.size,8,none⟩=some (.int .i64 vk)∧W.cell? ⟨w.heap.size,9,none⟩=some (.int .i64 vn)∧W.cell? ⟨w.heap.size,10,none⟩=some (.string vs)∧W.cell? ⟨w.heap.size,11,none⟩=some (.slice a4 l4 c4)∧W.cell? ⟨w.heap.size,12,none⟩=some (.string fs)∧W.cell? ⟨w.heap.size,13,none⟩=some (.int .i64 m)∧W.cell? ⟨w.heap.size,14,none⟩=some (.slice a5 l5 c5)):=fun W hb=>by
  have hn:=heap_alloc_new w (.cells #[.int .i64 1,.int .i64 ck,.slice a1 l1 c1,.slice a2 l2 c2,.int .i64 ek,.int .i64 en,.string es,.slice a3 l3 c3,.int .i64 vk,.int .i64 vn,.string vs,.slice a4 l4 c4,.string fs,.int .i64 m,.slice a5 l5 c5] 44)
  have hl:w.heap.size<(w.alloc (.cells #[.int .i64 1,.int .i64 ck,.slice a1 l1 c1,.slice a2 l2 c2,.int .i64 ek,.int .i64 en,.string es,.slice a3 l3 c3,.int .i64 vk,.int .i64 vn,.string vs,.slice a4 l4 c4,.string fs,.int .i64 m,.slice a5 l5 c5] 44)).heap.size:=by simp
  exact⟨(hb.cell (p:=⟨w.heap.size,0,none⟩) hl).trans ((cell_of_row _ _ _ _ _ _ hn).trans rfl),(hb.cell (p:=⟨w.heap.size,1,none⟩) hl).trans ((cell_of_row _ _ _ _ _ _ hn).trans rfl),(hb.cell (p:=⟨w.heap.size,2,none⟩) hl).trans ((cell_of_row _ _ _ _ _ _ hn).trans rfl),(hb.cell (p:=⟨w.heap.size,3,none⟩) hl).trans ((cell_of_row _ _ _ _ _ _ hn).trans rfl),(hb.cell (p:=⟨w.heap.size,4,none⟩) hl).trans ((cell_of_row _ _ _ _ _ _ hn).trans rfl),(hb.cell (p:=⟨w.heap.size,5,none⟩) hl).trans ((cell_of_row _ _ _ _ _ _ hn).trans rfl),(hb.cell (p:=⟨w.heap.size,6,none⟩) hl).trans ((cell_of_row _ _ _ _ _ _ hn).trans rfl),(hb.cell (p:=⟨w.heap.size,7,none⟩) hl).trans ((cell_of_row _ _ _ _ _ _ hn).trans rfl),(hb.cell (p:=⟨w.heap.size,8,none⟩) hl).trans ((cell_of_row _ _ _ _ _ _ hn).trans rfl),(hb.cell (p:=⟨w.heap.size,9,none⟩) hl).trans ((cell_of_row _ _ _ _ _ _ hn).trans rfl),(hb.cell (p:=⟨w.heap.size,10,none⟩) hl).trans ((cell_of_row _ _ _ _ _ _ hn).trans rfl),(hb.cell (p:=⟨w.heap.size,11,none⟩) hl).trans ((cell_of_row _ _ _ _ _ _ hn).trans rfl),(hb.cell (p:=⟨w.heap.size,12,none⟩) hl).trans ((cell_of_row _ _ _ _ _ _ hn).trans rfl),(hb.cell (p:=⟨w.heap.size,13,none⟩) hl).trans ((cell_of_row _ _ _ _ _ _ hn).trans rfl),(hb.cell (p:=⟨w.heap.size,14,none⟩) hl).trans ((cell_of_row _ _ _ _ _ _ hn).trans rfl)⟩
 have X1:=Lib.hid (h1 _ HA.out)
 clear h1 h2 h3
 by_cases hl1:l5=0
 ·have e1:((l5:Int) != 0)=false:=by rw[hl1];rfl
  have f1:(l5 == 0)=true:=by rw[hl1];rfl
  rw[f1]
  clear hl1 f1
  go_enter Tryz.func71,Tryz.ntmps71
  go_wp2_with fail
  refine X1.out.mono ?_
  rintro r w2 ⟨rfl,hb⟩
  have HB2:=Lib.hid (HA.out.trans (hb.mono HA.out.size))
  have HN2:=Lib.hid (hb)
  clear hb X1
  obtain⟨q0,q1,q2,q3,q4,q5,q6,q7,q8,q9,q10,q11,q12,q13,q14⟩:=HCL.out _ HN2.out
  have X2:=Lib.hid (H2.out _ HB2.out)
  cases z1 with
  | false=>
    clear X2
    go_wp2_with fail
    go_ret
    exact⟨rfl,HB2.out⟩
  | true=>
    go_wp2_with fail
    clear q0 q1 q2 q3 q4 q5 q6 q7 q8 q9 q10 q11 q12 q13 q14
    refine X2.out.mono ?_
    rintro r w3 ⟨rfl,hb⟩
    have HB3:=Lib.hid (HB2.out.trans (hb.mono HB2.out.size))
    have HN3:=Lib.hid (HN2.out.trans (hb.mono HN2.out.size))
    clear hb X2
    obtain⟨q0,q1,q2,q3,q4,q5,q6,q7,q8,q9,q10,q11,q12,q13,q14⟩:=HCL.out _ HN3.out
    have X3:=Lib.hid (H3.out _ HB3.out)
    cases z2 with
    | false=>
      clear X3
      go_wp2_with fail
      go_ret
      exact⟨rfl,HB3.out⟩
    | true=>
      go_wp2_with fail
      clear q0 q1 q2 q3 q4 q5 q6 q7 q8 q9 q10 q11 q12 q13 q14
      refine X3.out.mono ?_
      rintro r w4 ⟨rfl,hb⟩
      have HB4:=Lib.hid (HB3.out.trans (hb.mono HB3.out.size))
      have HN4:=Lib.hid (HN3.out.trans (hb.mono HN3.out.size))
      clear hb X3
      cases z3<;>
      ·go_wp2_with fail
       go_ret
       exact⟨rfl,HB4.out⟩
 ·have e1:((l5:Int) != 0)=true:=by simp;omega
  have f1:(l5 == 0)=false:=by simp;omega
  rw[f1]
  clear hl1 f1
  go_enter Tryz.func71,Tryz.ntmps71
  go_wp2_with fail
  go_ret
  exact⟨rfl,box_low⟩
theorem soundA_2 (ck:Int)(a1:Option Addr)(l1 c1:Nat)(a2:Option Addr)(l2 c2:Nat)(ek en:Int)(es:ByteArray)(a3:Option Addr)(l3 c3:Nat)(vk vn:Int)(vs:ByteArray)(a4:Option Addr)(l4 c4:Nat)(fs:ByteArray)(m:Int)(a5:Option Addr)(l5 c5:Nat)(z1 z2 z3:Bool)(w:World)
 (h1:∀W,Below w.heap.size w W→Calls Tryz.prog 101 #[.slice a5 l5 c5,.func (.func 71) #[] #[]] W fun r w'=>r= .returned (.bool z1)∧Below W.heap.size W w')
 (h2:∀W,Below w.heap.size w W→Calls Tryz.prog 102 #[.agg #[.int .i64 2,.int .i64 ck,.slice a1 l1 c1,.slice a2 l2 c2,.int .i64 ek,.int .i64 en,.string es,.slice a3 l3 c3,.int .i64 vk,.int .i64 vn,.string vs,.slice a4 l4 c4,.string fs,.int .i64 m,.slice a5 l5 c5],.bool true] W (SoundEnd z2 W))
 (h3:∀W,Below w.heap.size w W→Calls Tryz.prog 104 #[.agg #[.int .i64 ck,.slice a1 l1 c1,.slice a2 l2 c2]] W fun r w'=>r= .returned (.bool z3)∧Below W.heap.size W w'):
 Calls Tryz.prog 71 #[.agg #[.int .i64 2,.int .i64 ck,.slice a1 l1 c1,.slice a2 l2 c2,.int .i64 ek,.int .i64 en,.string es,.slice a3 l3 c3,.int .i64 vk,.int .i64 vn,.string vs,.slice a4 l4 c4,.string fs,.int .i64 m,.slice a5 l5 c5]] w (SoundEnd (l5 == 0 && (z1 && (z2 && z3))) w):=by
 have H2:=Lib.hid h2
 have H3:=Lib.hid h3
 have HA:Hid (Below w.heap.size w (w.alloc (.cells #[.int .i64 2,.int .i64 ck,.slice a1 l1 c1,.slice a2 l2 c2,.int .i64 ek,.int .i64 en,.string es,.slice a3 l3 c3,.int .i64 vk,.int .i64 vn,.string vs,.slice a4 l4 c4,.string fs,.int .i64 m,.slice a5 l5 c5] 44))):=box_low
 have HCL:Hid (∀W,Below (w.alloc (.cells #[.int .i64 2,.int .i64 ck,.slice a1 l1 c1,.slice a2 l2 c2,.int .i64 ek,.int .i64 en,.string es,.slice a3 l3 c3,.int .i64 vk,.int .i64 vn,.string vs,.slice a4 l4 c4,.string fs,.int .i64 m,.slice a5 l5 c5] 44)).heap.size (w.alloc (.cells #[.int .i64 2,.int .i64 ck,.slice a1 l1 c1,.slice a2 l2 c2,.int .i64 ek,.int .i64 en,.string es,.slice a3 l3 c3,.int .i64 vk,.int .i64 vn,.string vs,.slice a4 l4 c4,.string fs,.int .i64 m,.slice a5 l5 c5] 44)) W→W.cell? ⟨w.heap.size,0,none⟩=some (.int .i64 2)∧W.cell? ⟨w.heap.size,1,none⟩=some (.int .i64 ck)∧W.cell? ⟨w.heap.size,2,none⟩=some (.slice a1 l1 c1)∧W.cell? ⟨w.heap.size,3,none⟩=some (.slice a2 l2 c2)∧W.cell? ⟨w.heap.size,4,none⟩=some (.int .i64 ek)∧W.cell? ⟨w.heap.size,5,none⟩=some (.int .i64 en)∧W.cell? ⟨w.heap.size,6,none⟩=some (.string es)∧W.cell? ⟨w.heap.size,7,none⟩=some (.slice a3 l3 c3)∧W.cell? ⟨w.heap.size,8,none⟩=some (.int .i64 vk)∧W.cell? ⟨w.heap.size,9,none⟩=some (.int .i64 vn)∧W.cell? ⟨w.heap.size,10,none⟩=some (.string vs)∧W.cell? ⟨w.heap.size,11,none⟩=some (.slice a4 l4 c4)∧W.cell? ⟨w.heap.size,12,none⟩=some (.string fs)∧W.cell? ⟨w.heap.size,13,none⟩=some (.int .i64 m)∧W.cell? ⟨w.heap.size,14,none⟩=some (.slice a5 l5 c5)):=fun W hb=>by
  have hn:=heap_alloc_new w (.cells #[.int .i64 2,.int .i64 ck,.slice a1 l1 c1,.slice a2 l2 c2,.int .i64 ek,.int .i64 en,.string es,.slice a3 l3 c3,.int .i64 vk,.int .i64 vn,.string vs,.slice a4 l4 c4,.string fs,.int .i64 m,.slice a5 l5 c5] 44)
  have hl:w.heap.size<(w.alloc (.cells #[.int .i64 2,.int .i64 ck,.slice a1 l1 c1,.slice a2 l2 c2,.int .i64 ek,.int .i64 en,.string es,.slice a3 l3 c3,.int .i64 vk,.int .i64 vn,.string vs,.slice a4 l4 c4,.string fs,.int .i64 m,.slice a5 l5 c5] 44)).heap.size:=by simp
  exact⟨(hb.cell (p:=⟨w.heap.size,0,none⟩) hl).trans ((cell_of_row _ _ _ _ _ _ hn).trans rfl),(hb.cell (p:=⟨w.heap.size,1,none⟩) hl).trans ((cell_of_row _ _ _ _ _ _ hn).trans rfl),(hb.cell (p:=⟨w.heap.size,2,none⟩) hl).trans ((cell_of_row _ _ _ _ _ _ hn).trans rfl),(hb.cell (p:=⟨w.heap.size,3,none⟩) hl).trans ((cell_of_row _ _ _ _ _ _ hn).trans rfl),(hb.cell (p:=⟨w.heap.size,4,none⟩) hl).trans ((cell_of_row _ _ _ _ _ _ hn).trans rfl),(hb.cell (p:=⟨w.heap.size,5,none⟩) hl).trans ((cell_of_row _ _ _ _ _ _ hn).trans rfl),(hb.cell (p:=⟨w.heap.size,6,none⟩) hl).trans ((cell_of_row _ _ _ _ _ _ hn).trans rfl),(hb.cell (p:=⟨w.heap.size,7,none⟩) hl).trans ((cell_of_row _ _ _ _ _ _ hn).trans rfl),(hb.cell (p:=⟨w.heap.size,8,none⟩) hl).trans ((cell_of_row _ _ _ _ _ _ hn).trans rfl),(hb.cell (p:=⟨w.heap.size,9,none⟩) hl).trans ((cell_of_row _ _ _ _ _ _ hn).trans rfl),(hb.cell (p:=⟨w.heap.size,10,none⟩) hl).trans ((cell_of_row _ _ _ _ _ _ hn).trans rfl),(hb.cell (p:=⟨w.heap.size,11,none⟩) hl).trans ((cell_of_row _ _ _ _ _ _ hn).trans rfl),(hb.cell (p:=⟨w.heap.size,12,none⟩) hl).trans ((cell_of_row _ _ _ _ _ _ hn).trans rfl),(hb.cell (p:=⟨w.heap.size,13,none⟩) hl).trans ((cell_of_row _ _ _ _ _ _ hn).trans rfl),(hb.cell (p:=⟨w.heap.size,14,none⟩) hl).trans ((cell_of_row _ _ _ _ _ _ hn).trans rfl)⟩
 have X1:=Lib.hid (h1 _ HA.out)
 clear h1 h2 h3
 by_cases hl1:l5=0
 ·have e1:((l5:Int) != 0)=false:=by rw[hl1];rfl
  have f1:(l5 == 0)=true:=by rw[hl1];rfl
  rw[f1]
  clear hl1 f1
  go_enter Tryz.func71,Tryz.ntmps71
  go_wp2_with fail
  refine X1.out.mono ?_
  rintro r w2 ⟨rfl,hb⟩
  have HB2:=Lib.hid (HA.out.trans (hb.mono HA.out.size))
  have HN2:=Lib.hid (hb)
  clear hb X1
  obtain⟨q0,q1,q2,q3,q4,q5,q6,q7,q8,q9,q10,q11,q12,q13,q14⟩:=HCL.out _ HN2.out
  have X2:=Lib.hid (H2.out _ HB2.out)
  cases z1 with
  | false=>
    clear X2
    go_wp2_with fail
    go_ret
    exact⟨rfl,HB2.out⟩
  | true=>
    go_wp2_with fail
    clear q0 q1 q2 q3 q4 q5 q6 q7 q8 q9 q10 q11 q12 q13 q14
    refine X2.out.mono ?_
    rintro r w3 ⟨rfl,hb⟩
    have HB3:=Lib.hid (HB2.out.trans (hb.mono HB2.out.size))
    have HN3:=Lib.hid (HN2.out.trans (hb.mono HN2.out.size))
    clear hb X2
    obtain⟨q0,q1,q2,q3,q4,q5,q6,q7,q8,q9,q10,q11,q12,q13,q14⟩:=HCL.out _ HN3.out
    have X3:=Lib.hid (H3.out _ HB3.out)
    cases z2 with
    | false=>
      clear X3
      go_wp2_with fail
      go_ret
      exact⟨rfl,HB3.out⟩
    | true=>
      go_wp2_with fail
      clear q0 q1 q2 q3 q4 q5 q6 q7 q8 q9 q10 q11 q12 q13 q14
      refine X3.out.mono ?_
      rintro r w4 ⟨rfl,hb⟩
      have HB4:=Lib.hid (HB3.out.trans (hb.mono HB3.out.size))
      have HN4:=Lib.hid (HN3.out.trans (hb.mono HN3.out.size))
      clear hb X3
      cases z3<;>
      ·go_wp2_with fail
       go_ret
       exact⟨rfl,HB4.out⟩
 ·have e1:((l5:Int) != 0)=true:=by simp;omega
  have f1:(l5 == 0)=false:=by simp;omega
  rw[f1]
  clear hl1 f1
  go_enter Tryz.func71,Tryz.ntmps71
  go_wp2_with fail
  go_ret
  exact⟨rfl,box_low⟩
theorem soundA_3 (ck:Int)(a1:Option Addr)(l1 c1:Nat)(a2:Option Addr)(l2 c2:Nat)(ek en:Int)(es:ByteArray)(a3:Option Addr)(l3 c3:Nat)(vk vn:Int)(vs:ByteArray)(a4:Option Addr)(l4 c4:Nat)(fs:ByteArray)(m:Int)(a5:Option Addr)(l5 c5:Nat)(z1 z2 z3:Bool)(w:World)
 (h1:∀W,Below w.heap.size w W→Calls Tryz.prog 101 #[.slice a5 l5 c5,.func (.func 71) #[] #[]] W fun r w'=>r= .returned (.bool z1)∧Below W.heap.size W w')
 (h2:∀W,Below w.heap.size w W→Calls Tryz.prog 102 #[.agg #[.int .i64 3,.int .i64 ck,.slice a1 l1 c1,.slice a2 l2 c2,.int .i64 ek,.int .i64 en,.string es,.slice a3 l3 c3,.int .i64 vk,.int .i64 vn,.string vs,.slice a4 l4 c4,.string fs,.int .i64 m,.slice a5 l5 c5],.bool true] W (SoundEnd z2 W))
 (h3:∀W,Below w.heap.size w W→Calls Tryz.prog 104 #[.agg #[.int .i64 ck,.slice a1 l1 c1,.slice a2 l2 c2]] W fun r w'=>r= .returned (.bool z3)∧Below W.heap.size W w'):
 Calls Tryz.prog 71 #[.agg #[.int .i64 3,.int .i64 ck,.slice a1 l1 c1,.slice a2 l2 c2,.int .i64 ek,.int .i64 en,.string es,.slice a3 l3 c3,.int .i64 vk,.int .i64 vn,.string vs,.slice a4 l4 c4,.string fs,.int .i64 m,.slice a5 l5 c5]] w (SoundEnd (l5 == 0 && (z1 && (z2 && z3))) w):=by
 have H2:=Lib.hid h2
 have H3:=Lib.hid h3
 have HA:Hid (Below w.heap.size w (w.alloc (.cells #[.int .i64 3,.int .i64 ck,.slice a1 l1 c1,.slice a2 l2 c2,.int .i64 ek,.int .i64 en,.string es,.slice a3 l3 c3,.int .i64 vk,.int .i64 vn,.string vs,.slice a4 l4 c4,.string fs,.int .i64 m,.slice a5 l5 c5] 44))):=box_low
 have HCL:Hid (∀W,Below (w.alloc (.cells #[.int .i64 3,.int .i64 ck,.slice a1 l1 c1,.slice a2 l2 c2,.int .i64 ek,.int .i64 en,.string es,.slice a3 l3 c3,.int .i64 vk,.int .i64 vn,.string vs,.slice a4 l4 c4,.string fs,.int .i64 m,.slice a5 l5 c5] 44)).heap.size (w.alloc (.cells #[.int .i64 3,.int .i64 ck,.slice a1 l1 c1,.slice a2 l2 c2,.int .i64 ek,.int .i64 en,.string es,.slice a3 l3 c3,.int .i64 vk,.int .i64 vn,.string vs,.slice a4 l4 c4,.string fs,.int .i64 m,.slice a5 l5 c5] 44)) W→W.cell? ⟨w.heap.size,0,none⟩=some (.int .i64 3)∧W.cell? ⟨w.heap.size,1,none⟩=some (.int .i64 ck)∧W.cell? ⟨w.heap.size,2,none⟩=some (.slice a1 l1 c1)∧W.cell? ⟨w.heap.size,3,none⟩=some (.slice a2 l2 c2)∧W.cell? ⟨w.heap.size,4,none⟩=some (.int .i64 ek)∧W.cell? ⟨w.heap.size,5,none⟩=some (.int .i64 en)∧W.cell? ⟨w.heap.size,6,none⟩=some (.string es)∧W.cell? ⟨w.heap.size,7,none⟩=some (.slice a3 l3 c3)∧W.cell? ⟨w.heap.size,8,none⟩=some (.int .i64 vk)∧W.cell? ⟨w.heap.size,9,none⟩=some (.int .i64 vn)∧W.cell? ⟨w.heap.size,10,none⟩=some (.string vs)∧W.cell? ⟨w.heap.size,11,none⟩=some (.slice a4 l4 c4)∧W.cell? ⟨w.heap.size,12,none⟩=some (.string fs)∧W.cell? ⟨w.heap.size,13,none⟩=some (.int .i64 m)∧W.cell? ⟨w.heap.size,14,none⟩=some (.slice a5 l5 c5)):=fun W hb=>by
  have hn:=heap_alloc_new w (.cells #[.int .i64 3,.int .i64 ck,.slice a1 l1 c1,.slice a2 l2 c2,.int .i64 ek,.int .i64 en,.string es,.slice a3 l3 c3,.int .i64 vk,.int .i64 vn,.string vs,.slice a4 l4 c4,.string fs,.int .i64 m,.slice a5 l5 c5] 44)
  have hl:w.heap.size<(w.alloc (.cells #[.int .i64 3,.int .i64 ck,.slice a1 l1 c1,.slice a2 l2 c2,.int .i64 ek,.int .i64 en,.string es,.slice a3 l3 c3,.int .i64 vk,.int .i64 vn,.string vs,.slice a4 l4 c4,.string fs,.int .i64 m,.slice a5 l5 c5] 44)).heap.size:=by simp
  exact⟨(hb.cell (p:=⟨w.heap.size,0,none⟩) hl).trans ((cell_of_row _ _ _ _ _ _ hn).trans rfl),(hb.cell (p:=⟨w.heap.size,1,none⟩) hl).trans ((cell_of_row _ _ _ _ _ _ hn).trans rfl),(hb.cell (p:=⟨w.heap.size,2,none⟩) hl).trans ((cell_of_row _ _ _ _ _ _ hn).trans rfl),(hb.cell (p:=⟨w.heap.size,3,none⟩) hl).trans ((cell_of_row _ _ _ _ _ _ hn).trans rfl),(hb.cell (p:=⟨w.heap.size,4,none⟩) hl).trans ((cell_of_row _ _ _ _ _ _ hn).trans rfl),(hb.cell (p:=⟨w.heap.size,5,none⟩) hl).trans ((cell_of_row _ _ _ _ _ _ hn).trans rfl),(hb.cell (p:=⟨w.heap.size,6,none⟩) hl).trans ((cell_of_row _ _ _ _ _ _ hn).trans rfl),(hb.cell (p:=⟨w.heap.size,7,none⟩) hl).trans ((cell_of_row _ _ _ _ _ _ hn).trans rfl),(hb.cell (p:=⟨w.heap.size,8,none⟩) hl).trans ((cell_of_row _ _ _ _ _ _ hn).trans rfl),(hb.cell (p:=⟨w.heap.size,9,none⟩) hl).trans ((cell_of_row _ _ _ _ _ _ hn).trans rfl),(hb.cell (p:=⟨w.heap.size,10,none⟩) hl).trans ((cell_of_row _ _ _ _ _ _ hn).trans rfl),(hb.cell (p:=⟨w.heap.size,11,none⟩) hl).trans ((cell_of_row _ _ _ _ _ _ hn).trans rfl),(hb.cell (p:=⟨w.heap.size,12,none⟩) hl).trans ((cell_of_row _ _ _ _ _ _ hn).trans rfl),(hb.cell (p:=⟨w.heap.size,13,none⟩) hl).trans ((cell_of_row _ _ _ _ _ _ hn).trans rfl),(hb.cell (p:=⟨w.heap.size,14,none⟩) hl).trans ((cell_of_row _ _ _ _ _ _ hn).trans rfl)⟩
 have X1:=Lib.hid (h1 _ HA.out)
 clear h1 h2 h3
 by_cases hl1:l5=0
 ·have e1:((l5:Int) != 0)=false:=by rw[hl1];rfl
  have f1:(l5 == 0)=true:=by rw[hl1];rfl
  rw[f1]
  clear hl1 f1
  go_enter Tryz.func71,Tryz.ntmps71
  go_wp2_with fail
  refine X1.out.mono ?_
  rintro r w2 ⟨rfl,hb⟩
  have HB2:=Lib.hid (HA.out.trans (hb.mono HA.out.size))
  have HN2:=Lib.hid (hb)
  clear hb X1
  obtain⟨q0,q1,q2,q3,q4,q5,q6,q7,q8,q9,q10,q11,q12,q13,q14⟩:=HCL.out _ HN2.out
  have X2:=Lib.hid (H2.out _ HB2.out)
  cases z1 with
  | false=>
    clear X2
    go_wp2_with fail
    go_ret
    exact⟨rfl,HB2.out⟩
  | true=>
    go_wp2_with fail
    clear q0 q1 q2 q3 q4 q5 q6 q7 q8 q9 q10 q11 q12 q13 q14
    refine X2.out.mono ?_
    rintro r w3 ⟨rfl,hb⟩
    have HB3:=Lib.hid (HB2.out.trans (hb.mono HB2.out.size))
    have HN3:=Lib.hid (HN2.out.trans (hb.mono HN2.out.size))
    clear hb X2
    obtain⟨q0,q1,q2,q3,q4,q5,q6,q7,q8,q9,q10,q11,q12,q13,q14⟩:=HCL.out _ HN3.out
    have X3:=Lib.hid (H3.out _ HB3.out)
    cases z2 with
    | false=>
      clear X3
      go_wp2_with fail
      go_ret
      exact⟨rfl,HB3.out⟩
    | true=>
      go_wp2_with fail
      clear q0 q1 q2 q3 q4 q5 q6 q7 q8 q9 q10 q11 q12 q13 q14
      refine X3.out.mono ?_
      rintro r w4 ⟨rfl,hb⟩
      have HB4:=Lib.hid (HB3.out.trans (hb.mono HB3.out.size))
      have HN4:=Lib.hid (HN3.out.trans (hb.mono HN3.out.size))
      clear hb X3
      cases z3<;>
      ·go_wp2_with fail
       go_ret
       exact⟨rfl,HB4.out⟩
 ·have e1:((l5:Int) != 0)=true:=by simp;omega
  have f1:(l5 == 0)=false:=by simp;omega
  rw[f1]
  clear hl1 f1
  go_enter Tryz.func71,Tryz.ntmps71
  go_wp2_with fail
  go_ret
  exact⟨rfl,box_low⟩
theorem soundA_4 (ck:Int)(a1:Option Addr)(l1 c1:Nat)(a2:Option Addr)(l2 c2:Nat)(ek en:Int)(es:ByteArray)(a3:Option Addr)(l3 c3:Nat)(vk vn:Int)(vs:ByteArray)(a4:Option Addr)(l4 c4:Nat)(fs:ByteArray)(m:Int)(a5:Option Addr)(l5 c5:Nat)(z1 z2 z3:Bool)(w:World)
 (h1:∀W,Below w.heap.size w W→Calls Tryz.prog 101 #[.slice a5 l5 c5,.func (.func 71) #[] #[]] W fun r w'=>r= .returned (.bool z1)∧Below W.heap.size W w')
 (h2:∀W,Below w.heap.size w W→Calls Tryz.prog 102 #[.agg #[.int .i64 4,.int .i64 ck,.slice a1 l1 c1,.slice a2 l2 c2,.int .i64 ek,.int .i64 en,.string es,.slice a3 l3 c3,.int .i64 vk,.int .i64 vn,.string vs,.slice a4 l4 c4,.string fs,.int .i64 m,.slice a5 l5 c5],.bool false] W (SoundEnd z2 W))
 (h3:∀W,Below w.heap.size w W→Calls Tryz.prog 104 #[.agg #[.int .i64 ck,.slice a1 l1 c1,.slice a2 l2 c2]] W fun r w'=>r= .returned (.bool z3)∧Below W.heap.size W w'):
 Calls Tryz.prog 71 #[.agg #[.int .i64 4,.int .i64 ck,.slice a1 l1 c1,.slice a2 l2 c2,.int .i64 ek,.int .i64 en,.string es,.slice a3 l3 c3,.int .i64 vk,.int .i64 vn,.string vs,.slice a4 l4 c4,.string fs,.int .i64 m,.slice a5 l5 c5]] w (SoundEnd (l5 == 2 && (z1 && (z2 && z3))) w):=by
 have H2:=Lib.hid h2
 have H3:=Lib.hid h3
 have HA:Hid (Below w.heap.size w (w.alloc (.cells #[.int .i64 4,.int .i64 ck,.slice a1 l1 c1,.slice a2 l2 c2,.int .i64 ek,.int .i64 en,.string es,.slice a3 l3 c3,.int .i64 vk,.int .i64 vn,.string vs,.slice a4 l4 c4,.string fs,.int .i64 m,.slice a5 l5 c5] 44))):=box_low
 have HCL:Hid (∀W,Below (w.alloc (.cells #[.int .i64 4,.int .i64 ck,.slice a1 l1 c1,.slice a2 l2 c2,.int .i64 ek,.int .i64 en,.string es,.slice a3 l3 c3,.int .i64 vk,.int .i64 vn,.string vs,.slice a4 l4 c4,.string fs,.int .i64 m,.slice a5 l5 c5] 44)).heap.size (w.alloc (.cells #[.int .i64 4,.int .i64 ck,.slice a1 l1 c1,.slice a2 l2 c2,.int .i64 ek,.int .i64 en,.string es,.slice a3 l3 c3,.int .i64 vk,.int .i64 vn,.string vs,.slice a4 l4 c4,.string fs,.int .i64 m,.slice a5 l5 c5] 44)) W→W.cell? ⟨w.heap.size,0,none⟩=some (.int .i64 4)∧W.cell? ⟨w.heap.size,1,none⟩=some (.int .i64 ck)∧W.cell? ⟨w.heap.size,2,none⟩=some (.slice a1 l1 c1)∧W.cell? ⟨w.heap.size,3,none⟩=some (.slice a2 l2 c2)∧W.cell? ⟨w.heap.size,4,none⟩=some (.int .i64 ek)∧W.cell? ⟨w.heap.size,5,none⟩=some (.int .i64 en)∧W.cell? ⟨w.heap.size,6,none⟩=some (.string es)∧W.cell? ⟨w.heap.size,7,none⟩=some (.slice a3 l3 c3)∧W.cell? ⟨w.heap.size,8,none⟩=some (.int .i64 vk)∧W.cell? ⟨w.heap.size,9,none⟩=some (.int .i64 vn)∧W.cell? ⟨w.heap.size,10,none⟩=some (.string vs)∧W.cell? ⟨w.heap.size,11,none⟩=some (.slice a4 l4 c4)∧W.cell? ⟨w.heap.size,12,none⟩=some (.string fs)∧W.cell? ⟨w.heap.size,13,none⟩=some (.int .i64 m)∧W.cell? ⟨w.heap.size,14,none⟩=some (.slice a5 l5 c5)):=fun W hb=>by
  have hn:=heap_alloc_new w (.cells #[.int .i64 4,.int .i64 ck,.slice a1 l1 c1,.slice a2 l2 c2,.int .i64 ek,.int .i64 en,.string es,.slice a3 l3 c3,.int .i64 vk,.int .i64 vn,.string vs,.slice a4 l4 c4,.string fs,.int .i64 m,.slice a5 l5 c5] 44)
  have hl:w.heap.size<(w.alloc (.cells #[.int .i64 4,.int .i64 ck,.slice a1 l1 c1,.slice a2 l2 c2,.int .i64 ek,.int .i64 en,.string es,.slice a3 l3 c3,.int .i64 vk,.int .i64 vn,.string vs,.slice a4 l4 c4,.string fs,.int .i64 m,.slice a5 l5 c5] 44)).heap.size:=by simp
  exact⟨(hb.cell (p:=⟨w.heap.size,0,none⟩) hl).trans ((cell_of_row _ _ _ _ _ _ hn).trans rfl),(hb.cell (p:=⟨w.heap.size,1,none⟩) hl).trans ((cell_of_row _ _ _ _ _ _ hn).trans rfl),(hb.cell (p:=⟨w.heap.size,2,none⟩) hl).trans ((cell_of_row _ _ _ _ _ _ hn).trans rfl),(hb.cell (p:=⟨w.heap.size,3,none⟩) hl).trans ((cell_of_row _ _ _ _ _ _ hn).trans rfl),(hb.cell (p:=⟨w.heap.size,4,none⟩) hl).trans ((cell_of_row _ _ _ _ _ _ hn).trans rfl),(hb.cell (p:=⟨w.heap.size,5,none⟩) hl).trans ((cell_of_row _ _ _ _ _ _ hn).trans rfl),(hb.cell (p:=⟨w.heap.size,6,none⟩) hl).trans ((cell_of_row _ _ _ _ _ _ hn).trans rfl),(hb.cell (p:=⟨w.heap.size,7,none⟩) hl).trans ((cell_of_row _ _ _ _ _ _ hn).trans rfl),(hb.cell (p:=⟨w.heap.size,8,none⟩) hl).trans ((cell_of_row _ _ _ _ _ _ hn).trans rfl),(hb.cell (p:=⟨w.heap.size,9,none⟩) hl).trans ((cell_of_row _ _ _ _ _ _ hn).trans rfl),(hb.cell (p:=⟨w.heap.size,10,none⟩) hl).trans ((cell_of_row _ _ _ _ _ _ hn).trans rfl),(hb.cell (p:=⟨w.heap.size,11,none⟩) hl).trans ((cell_of_row _ _ _ _ _ _ hn).trans rfl),(hb.cell (p:=⟨w.heap.size,12,none⟩) hl).trans ((cell_of_row _ _ _ _ _ _ hn).trans rfl),(hb.cell (p:=⟨w.heap.size,13,none⟩) hl).trans ((cell_of_row _ _ _ _ _ _ hn).trans rfl),(hb.cell (p:=⟨w.heap.size,14,none⟩) hl).trans ((cell_of_row _ _ _ _ _ _ hn).trans rfl)⟩
 have X1:=Lib.hid (h1 _ HA.out)
 clear h1 h2 h3
 by_cases hl1:l5=2
 ·have e1:((l5:Int) != 2)=false:=by rw[hl1];rfl
  have f1:(l5 == 2)=true:=by rw[hl1];rfl
  rw[f1]
  clear hl1 f1
  go_enter Tryz.func71,Tryz.ntmps71
  go_wp2_with fail
  refine X1.out.mono ?_
  rintro r w2 ⟨rfl,hb⟩
  have HB2:=Lib.hid (HA.out.trans (hb.mono HA.out.size))
  have HN2:=Lib.hid (hb)
  clear hb X1
  obtain⟨q0,q1,q2,q3,q4,q5,q6,q7,q8,q9,q10,q11,q12,q13,q14⟩:=HCL.out _ HN2.out
  have X2:=Lib.hid (H2.out _ HB2.out)
  cases z1 with
  | false=>
    clear X2
    go_wp2_with fail
    go_ret
    exact⟨rfl,HB2.out⟩
  | true=>
    go_wp2_with fail
    clear q0 q1 q2 q3 q4 q5 q6 q7 q8 q9 q10 q11 q12 q13 q14
    refine X2.out.mono ?_
    rintro r w3 ⟨rfl,hb⟩
    have HB3:=Lib.hid (HB2.out.trans (hb.mono HB2.out.size))
    have HN3:=Lib.hid (HN2.out.trans (hb.mono HN2.out.size))
    clear hb X2
    obtain⟨q0,q1,q2,q3,q4,q5,q6,q7,q8,q9,q10,q11,q12,q13,q14⟩:=HCL.out _ HN3.out
    have X3:=Lib.hid (H3.out _ HB3.out)
    cases z2 with
    | false=>
      clear X3
      go_wp2_with fail
      go_ret
      exact⟨rfl,HB3.out⟩
    | true=>
      go_wp2_with fail
      clear q0 q1 q2 q3 q4 q5 q6 q7 q8 q9 q10 q11 q12 q13 q14
      refine X3.out.mono ?_
      rintro r w4 ⟨rfl,hb⟩
      have HB4:=Lib.hid (HB3.out.trans (hb.mono HB3.out.size))
      have HN4:=Lib.hid (HN3.out.trans (hb.mono HN3.out.size))
      clear hb X3
      cases z3<;>
      ·go_wp2_with fail
       go_ret
       exact⟨rfl,HB4.out⟩
 ·have e1:((l5:Int) != 2)=true:=by simp;omega
  have f1:(l5 == 2)=false:=by simp;omega
  rw[f1]
  clear hl1 f1
  go_enter Tryz.func71,Tryz.ntmps71
  go_wp2_with fail
  go_ret
  exact⟨rfl,box_low⟩
theorem soundA_5 (ck:Int)(a1:Option Addr)(l1 c1:Nat)(a2:Option Addr)(l2 c2:Nat)(ek en:Int)(es:ByteArray)(a3:Option Addr)(l3 c3:Nat)(vk vn:Int)(vs:ByteArray)(a4:Option Addr)(l4 c4:Nat)(fs:ByteArray)(m:Int)(a5:Option Addr)(l5 c5:Nat)(z1 z2 z3:Bool)(w:World)
 (h1:∀W,Below w.heap.size w W→Calls Tryz.prog 101 #[.slice a5 l5 c5,.func (.func 71) #[] #[]] W fun r w'=>r= .returned (.bool z1)∧Below W.heap.size W w')
 (h2:∀W,Below w.heap.size w W→Calls Tryz.prog 102 #[.agg #[.int .i64 5,.int .i64 ck,.slice a1 l1 c1,.slice a2 l2 c2,.int .i64 ek,.int .i64 en,.string es,.slice a3 l3 c3,.int .i64 vk,.int .i64 vn,.string vs,.slice a4 l4 c4,.string fs,.int .i64 m,.slice a5 l5 c5],.bool false] W (SoundEnd z2 W))
 (h3:∀W,Below w.heap.size w W→Calls Tryz.prog 103 #[.agg #[.int .i64 ck,.slice a1 l1 c1,.slice a2 l2 c2]] W fun r w'=>r= .returned (.bool z3)∧Below W.heap.size W w'):
 Calls Tryz.prog 71 #[.agg #[.int .i64 5,.int .i64 ck,.slice a1 l1 c1,.slice a2 l2 c2,.int .i64 ek,.int .i64 en,.string es,.slice a3 l3 c3,.int .i64 vk,.int .i64 vn,.string vs,.slice a4 l4 c4,.string fs,.int .i64 m,.slice a5 l5 c5]] w (SoundEnd (l5 == 2 && (z1 && (z2 && z3))) w):=by
 have H2:=Lib.hid h2
 have H3:=Lib.hid h3
 have HA:Hid (Below w.heap.size w (w.alloc (.cells #[.int .i64 5,.int .i64 ck,.slice a1 l1 c1,.slice a2 l2 c2,.int .i64 ek,.int .i64 en,.string es,.slice a3 l3 c3,.int .i64 vk,.int .i64 vn,.string vs,.slice a4 l4 c4,.string fs,.int .i64 m,.slice a5 l5 c5] 44))):=box_low
 have HCL:Hid (∀W,Below (w.alloc (.cells #[.int .i64 5,.int .i64 ck,.slice a1 l1 c1,.slice a2 l2 c2,.int .i64 ek,.int .i64 en,.string es,.slice a3 l3 c3,.int .i64 vk,.int .i64 vn,.string vs,.slice a4 l4 c4,.string fs,.int .i64 m,.slice a5 l5 c5] 44)).heap.size (w.alloc (.cells #[.int .i64 5,.int .i64 ck,.slice a1 l1 c1,.slice a2 l2 c2,.int .i64 ek,.int .i64 en,.string es,.slice a3 l3 c3,.int .i64 vk,.int .i64 vn,.string vs,.slice a4 l4 c4,.string fs,.int .i64 m,.slice a5 l5 c5] 44)) W→W.cell? ⟨w.heap.size,0,none⟩=some (.int .i64 5)∧W.cell? ⟨w.heap.size,1,none⟩=some (.int .i64 ck)∧W.cell? ⟨w.heap.size,2,none⟩=some (.slice a1 l1 c1)∧W.cell? ⟨w.heap.size,3,none⟩=some (.slice a2 l2 c2)∧W.cell? ⟨w.heap.size,4,none⟩=some (.int .i64 ek)∧W.cell? ⟨w.heap.size,5,none⟩=some (.int .i64 en)∧W.cell? ⟨w.heap.size,6,none⟩=some (.string es)∧W.cell? ⟨w.heap.size,7,none⟩=some (.slice a3 l3 c3)∧W.cell? ⟨w.heap.size,8,none⟩=some (.int .i64 vk)∧W.cell? ⟨w.heap.size,9,none⟩=some (.int .i64 vn)∧W.cell? ⟨w.heap.size,10,none⟩=some (.string vs)∧W.cell? ⟨w.heap.size,11,none⟩=some (.slice a4 l4 c4)∧W.cell? ⟨w.heap.size,12,none⟩=some (.string fs)∧W.cell? ⟨w.heap.size,13,none⟩=some (.int .i64 m)∧W.cell? ⟨w.heap.size,14,none⟩=some (.slice a5 l5 c5)):=fun W hb=>by
  have hn:=heap_alloc_new w (.cells #[.int .i64 5,.int .i64 ck,.slice a1 l1 c1,.slice a2 l2 c2,.int .i64 ek,.int .i64 en,.string es,.slice a3 l3 c3,.int .i64 vk,.int .i64 vn,.string vs,.slice a4 l4 c4,.string fs,.int .i64 m,.slice a5 l5 c5] 44)
  have hl:w.heap.size<(w.alloc (.cells #[.int .i64 5,.int .i64 ck,.slice a1 l1 c1,.slice a2 l2 c2,.int .i64 ek,.int .i64 en,.string es,.slice a3 l3 c3,.int .i64 vk,.int .i64 vn,.string vs,.slice a4 l4 c4,.string fs,.int .i64 m,.slice a5 l5 c5] 44)).heap.size:=by simp
  exact⟨(hb.cell (p:=⟨w.heap.size,0,none⟩) hl).trans ((cell_of_row _ _ _ _ _ _ hn).trans rfl),(hb.cell (p:=⟨w.heap.size,1,none⟩) hl).trans ((cell_of_row _ _ _ _ _ _ hn).trans rfl),(hb.cell (p:=⟨w.heap.size,2,none⟩) hl).trans ((cell_of_row _ _ _ _ _ _ hn).trans rfl),(hb.cell (p:=⟨w.heap.size,3,none⟩) hl).trans ((cell_of_row _ _ _ _ _ _ hn).trans rfl),(hb.cell (p:=⟨w.heap.size,4,none⟩) hl).trans ((cell_of_row _ _ _ _ _ _ hn).trans rfl),(hb.cell (p:=⟨w.heap.size,5,none⟩) hl).trans ((cell_of_row _ _ _ _ _ _ hn).trans rfl),(hb.cell (p:=⟨w.heap.size,6,none⟩) hl).trans ((cell_of_row _ _ _ _ _ _ hn).trans rfl),(hb.cell (p:=⟨w.heap.size,7,none⟩) hl).trans ((cell_of_row _ _ _ _ _ _ hn).trans rfl),(hb.cell (p:=⟨w.heap.size,8,none⟩) hl).trans ((cell_of_row _ _ _ _ _ _ hn).trans rfl),(hb.cell (p:=⟨w.heap.size,9,none⟩) hl).trans ((cell_of_row _ _ _ _ _ _ hn).trans rfl),(hb.cell (p:=⟨w.heap.size,10,none⟩) hl).trans ((cell_of_row _ _ _ _ _ _ hn).trans rfl),(hb.cell (p:=⟨w.heap.size,11,none⟩) hl).trans ((cell_of_row _ _ _ _ _ _ hn).trans rfl),(hb.cell (p:=⟨w.heap.size,12,none⟩) hl).trans ((cell_of_row _ _ _ _ _ _ hn).trans rfl),(hb.cell (p:=⟨w.heap.size,13,none⟩) hl).trans ((cell_of_row _ _ _ _ _ _ hn).trans rfl),(hb.cell (p:=⟨w.heap.size,14,none⟩) hl).trans ((cell_of_row _ _ _ _ _ _ hn).trans rfl)⟩
 have X1:=Lib.hid (h1 _ HA.out)
 clear h1 h2 h3
 by_cases hl1:l5=2
 ·have e1:((l5:Int) != 2)=false:=by rw[hl1];rfl
  have f1:(l5 == 2)=true:=by rw[hl1];rfl
  rw[f1]
  clear hl1 f1
  go_enter Tryz.func71,Tryz.ntmps71
  go_wp2_with fail
  refine X1.out.mono ?_
  rintro r w2 ⟨rfl,hb⟩
  have HB2:=Lib.hid (HA.out.trans (hb.mono HA.out.size))
  have HN2:=Lib.hid (hb)
  clear hb X1
  obtain⟨q0,q1,q2,q3,q4,q5,q6,q7,q8,q9,q10,q11,q12,q13,q14⟩:=HCL.out _ HN2.out
  have X2:=Lib.hid (H2.out _ HB2.out)
  cases z1 with
  | false=>
    clear X2
    go_wp2_with fail
    go_ret
    exact⟨rfl,HB2.out⟩
  | true=>
    go_wp2_with fail
    clear q0 q1 q2 q3 q4 q5 q6 q7 q8 q9 q10 q11 q12 q13 q14
    refine X2.out.mono ?_
    rintro r w3 ⟨rfl,hb⟩
    have HB3:=Lib.hid (HB2.out.trans (hb.mono HB2.out.size))
    have HN3:=Lib.hid (HN2.out.trans (hb.mono HN2.out.size))
    clear hb X2
    obtain⟨q0,q1,q2,q3,q4,q5,q6,q7,q8,q9,q10,q11,q12,q13,q14⟩:=HCL.out _ HN3.out
    have X3:=Lib.hid (H3.out _ HB3.out)
    cases z2 with
    | false=>
      clear X3
      go_wp2_with fail
      go_ret
      exact⟨rfl,HB3.out⟩
    | true=>
      go_wp2_with fail
      clear q0 q1 q2 q3 q4 q5 q6 q7 q8 q9 q10 q11 q12 q13 q14
      refine X3.out.mono ?_
      rintro r w4 ⟨rfl,hb⟩
      have HB4:=Lib.hid (HB3.out.trans (hb.mono HB3.out.size))
      have HN4:=Lib.hid (HN3.out.trans (hb.mono HN3.out.size))
      clear hb X3
      cases z3<;>
      ·go_wp2_with fail
       go_ret
       exact⟨rfl,HB4.out⟩
 ·have e1:((l5:Int) != 2)=true:=by simp;omega
  have f1:(l5 == 2)=false:=by simp;omega
  rw[f1]
  clear hl1 f1
  go_enter Tryz.func71,Tryz.ntmps71
  go_wp2_with fail
  go_ret
  exact⟨rfl,box_low⟩
theorem soundA_x (k:Int)(ck:Int)(a1:Option Addr)(l1 c1:Nat)(a2:Option Addr)(l2 c2:Nat)(ek en:Int)(es:ByteArray)(a3:Option Addr)(l3 c3:Nat)(vk vn:Int)(vs:ByteArray)(a4:Option Addr)(l4 c4:Nat)(fs:ByteArray)(m:Int)(a5:Option Addr)(l5 c5:Nat)(w:World)(h:¬(0≤k∧k≤5)):Calls Tryz.prog 71 #[.agg #[.int .i64 k,.int .i64 ck,.slice a1 l1 c1,.slice a2 l2 c2,.int .i64 ek,.int .i64 en,.string es,.slice a3 l3 c3,.int .i64 vk,.int .i64 vn,.string vs,.slice a4 l4 c4,.string fs,.int .i64 m,.slice a5 l5 c5]] w (SoundEnd false w):=by
 have h0:(k == 0)=false:=by simp;omega
 have h1:(k == 1)=false:=by simp;omega
 have h2:(k == 2)=false:=by simp;omega
 have h3:(k == 3)=false:=by simp;omega
 have h4:(k == 4)=false:=by simp;omega
 have h5:(k == 5)=false:=by simp;omega
 clear h
 go_enter Tryz.func71,Tryz.ntmps71
 go_wp2_with fail
 go_ret
 exact⟨rfl,box_low⟩
theorem soundA_any {nm:ByteArray→Bool}{L:World→Prop}(hN:NameLaw nm L):∀(n:Nat) (a:AT) (cs:List Value) (w:World),(assnSh n).rel (Pak.Lo w.heap.size) w cs a→L w→
 Calls Tryz.prog 71 #[.agg cs.toArray] w (SoundEnd (snA nm n a) w)
 | 0,_,_,_,h,_=>h.elim
 | n+1,a,cs,w,h,hL=>by
   have IH:=soundA_any hN n
   obtain⟨k,a1,c1,a2,c2,a3,c3,a4,c4,a5,c5,rfl,rfl,⟨_,_,hfz⟩,hc,he,hv,hs⟩:=assn_form h
   have hL':=fun W (hb:Below w.heap.size w W)=>hN.keep hL hb
   have h1:=fun W (hb:Below w.heap.size w W)=>allA_any (k+1) 71 (snA nm (k+1)) a5 a.ks.length c5 a.ks W (fun args w=>by kernel_rfl) rfl (hs.below hb hb.size) (fun cs x W' hx hb' hr=>IH x cs W' hr (hN.keep (hL' W hb) hb'))
   have hsc:=fun W (hb:Below w.heap.size w W)=>soundC_any hN (k+1) a.c _ W (rel_low hc hb) (hL' W hb)
   have hnc:=fun W (hb:Below w.heap.size w W)=>noC_any (k+1) a.c _ W (rel_low hc hb)
   have hse:=fun W (hb:Below w.heap.size w W)=>soundE_any hN (k+1) a.e _ W (rel_low he hb) (hL' W hb)
   have hne:=fun W (hb:Below w.heap.size w W)=>noE_any (k+1) a.e _ W (rel_low he hb)
   have hsv:=fun W (hb:Below w.heap.size w W)=>soundE_any hN (k+1) a.v _ W (rel_low hv hb) (hL' W hb)
   have hnv:=fun W (hb:Below w.heap.size w W)=>noE_any (k+1) a.v _ W (rel_low hv hb)
   have hnf:=fun W (hb:Below w.heap.size w W)=>hN.run a.field W hfz (hL' W hb)
   have hsn:=fun W (hb:Below w.heap.size w W)=>share_no a.kind a.c.kind a1 a.c.es.length c1 a2 a.c.ks.length c2 a.e.kind a.e.n a.e.name a3 a.e.ks.length c3 a.v.kind a.v.n a.v.name a4 a.v.ks.length c4 a.field a.n a5 a.ks.length c5 _ _ W (fun W' hb'=>hne W' (hb.trans (hb'.mono hb.size))) (fun W' hb'=>hnv W' (hb.trans (hb'.mono hb.size)))
   have hs2:=fun W (hb:Below w.heap.size w W)=>share_2 a.c.kind a1 a.c.es.length c1 a2 a.c.ks.length c2 a.e.kind a.e.n a.e.name a3 a.e.ks.length c3 a.v.kind a.v.n a.v.name a4 a.v.ks.length c4 a.field a.n a5 a.ks.length c5 _ _ _ W (fun W' hb'=>hnv W' (hb.trans (hb'.mono hb.size))) (fun W' hb'=>hse W' (hb.trans (hb'.mono hb.size))) (fun W' hb'=>hnf W' (hb.trans (hb'.mono hb.size)))
   have hs3:=fun W (hb:Below w.heap.size w W)=>share_3 a.c.kind a1 a.c.es.length c1 a2 a.c.ks.length c2 a.e.kind a.e.n a.e.name a3 a.e.ks.length c3 a.v.kind a.v.n a.v.name a4 a.v.ks.length c4 a.field a.n a5 a.ks.length c5 _ _ _ W (fun W' hb'=>hsv W' (hb.trans (hb'.mono hb.size))) (fun W' hb'=>hse W' (hb.trans (hb'.mono hb.size))) (fun W' hb'=>hnf W' (hb.trans (hb'.mono hb.size)))
   unfold snA
   by_cases hk:0≤a.kind∧a.kind≤5
   ·rw[if_pos hk]
    unfold shA
    have hkk:a.kind=0∨a.kind=1∨a.kind=2∨a.kind=3∨a.kind=4∨a.kind=5:=by omega
    rcases hkk with hk | hk | hk | hk | hk | hk
    ·rw[hk]at hsn⊢
     exact soundA_0 _ _ _ _ _ _ _ _ _ _ _ _ _ _ _ _ _ _ _ _ _ _ _ _ _ _ _ w h1 hsn hnc
    ·rw[hk]at hsn⊢
     exact soundA_1 _ _ _ _ _ _ _ _ _ _ _ _ _ _ _ _ _ _ _ _ _ _ _ _ _ _ _ w h1 hsn hsc
    ·rw[hk]at hsn⊢
     exact soundA_2 _ _ _ _ _ _ _ _ _ _ _ _ _ _ _ _ _ _ _ _ _ _ _ _ _ _ _ w h1 hs2 hnc
    ·rw[hk]at hsn⊢
     exact soundA_3 _ _ _ _ _ _ _ _ _ _ _ _ _ _ _ _ _ _ _ _ _ _ _ _ _ _ _ w h1 hs3 hnc
    ·rw[hk]at hsn⊢
     exact soundA_4 _ _ _ _ _ _ _ _ _ _ _ _ _ _ _ _ _ _ _ _ _ _ _ _ _ _ _ w h1 hsn hnc
    ·rw[hk]at hsn⊢
     exact soundA_5 _ _ _ _ _ _ _ _ _ _ _ _ _ _ _ _ _ _ _ _ _ _ _ _ _ _ _ w h1 hsn hsc
   ·rw[if_neg hk]
    exact soundA_x _ _ _ _ _ _ _ _ _ _ _ _ _ _ _ _ _ _ _ _ _ _ _ _ _ w hk
end
section
open Go.RowKit
theorem noA_box (k:Int)(ck:Int)(a1:Option Addr)(l1 c1:Nat)(a2:Option Addr)(l2 c2:Nat)(ek en:Int)(es:ByteArray)(a3:Option Addr)(l3 c3:Nat)(vk vn:Int)(vs:ByteArray)(a4:Option Addr)(l4 c4:Nat)(fs:ByteArray)(m:Int)(a5:Option Addr)(l5 c5:Nat)(z:Bool)(w:World)(h1:∀W,Below w.heap.size w W→Calls Tryz.prog 71 #[.agg #[.int .i64 k,.int .i64 ck,.slice a1 l1 c1,.slice a2 l2 c2,.int .i64 ek,.int .i64 en,.string es,.slice a3 l3 c3,.int .i64 vk,.int .i64 vn,.string vs,.slice a4 l4 c4,.string fs,.int .i64 m,.slice a5 l5 c5]] W (SoundEnd z W)):
 Calls Tryz.prog 112 #[.agg #[.int .i64 k,.int .i64 ck,.slice a1 l1 c1,.slice a2 l2 c2,.int .i64 ek,.int .i64 en,.string es,.slice a3 l3 c3,.int .i64 vk,.int .i64 vn,.string vs,.slice a4 l4 c4,.string fs,.int .i64 m,.slice a5 l5 c5]] w (SoundEnd (k == 0 && z) w):=by
 have HA:Hid (Below w.heap.size w (w.alloc (.cells #[.int .i64 k,.int .i64 ck,.slice a1 l1 c1,.slice a2 l2 c2,.int .i64 ek,.int .i64 en,.string es,.slice a3 l3 c3,.int .i64 vk,.int .i64 vn,.string vs,.slice a4 l4 c4,.string fs,.int .i64 m,.slice a5 l5 c5] 44))):=box_low
 have X1:=Lib.hid (h1 _ HA.out)
 clear h1
 by_cases hk:k=0
 ·subst hk
  go_enter Tryz.func112,Tryz.ntmps112
  go_wp2_with fail
  refine X1.out.mono ?_
  rintro r w2 ⟨rfl,hb⟩
  have HB2:=Lib.hid (HA.out.trans (hb.mono HA.out.size))
  clear hb X1
  go_wp2_with fail
  go_ret
  exact⟨by simp,HB2.out⟩
 ·have e1:(k == 0)=false:=by simp[hk]
  rw[e1]
  go_enter Tryz.func112,Tryz.ntmps112
  go_wp2_with fail
  go_ret
  exact⟨rfl,box_low⟩
def noA (nm:ByteArray→Bool)(n:Nat)(a:AT):Bool:=a.kind == 0 && snA nm n a
theorem noA_any {nm:ByteArray→Bool}{L:World→Prop}(hN:NameLaw nm L)(n:Nat)(a:AT)(cs:List Value)(w:World)(h:(assnSh n).rel (Pak.Lo w.heap.size) w cs a)(hL:L w):
 Calls Tryz.prog 112 #[.agg cs.toArray] w (SoundEnd (noA nm n a) w):=by
 cases n with
 | zero=>exact h.elim
 | succ n=>
   have h1:=fun W (hb:Below w.heap.size w W)=>soundA_any hN (n+1) a cs W (rel_low h hb) (hN.keep hL hb)
   obtain⟨k,a1,c1,a2,c2,a3,c3,a4,c4,a5,c5,rfl,rfl, -⟩:=assn_form h
   exact noA_box _ _ _ _ _ _ _ _ _ _ _ _ _ _ _ _ _ _ _ _ _ _ _ _ _ _ w h1
end
section
open Go.RowKit
def ptC:Nat→CT→Nat
 | 0,_=>0
 | n+1,c=>1+ptEs n c.es+(c.ks.map (ptC n)).sum
def ptCs (n:Nat)(l:List CT):Nat:=(l.map (ptC n)).sum
theorem ptC_succ (n:Nat)(c:CT):ptC (n+1) c=1+ptEs n c.es+ptCs n c.ks:=rfl
theorem ptCs_snoc {n:Nat}{l:List CT}{j:Nat}(h:j<l.length):ptCs n (l.take (j+1))=ptCs n (l.take j)+ptC n l[j]:=by
 unfold ptCs
 rw[List.take_succ_eq_append_getElem h,List.map_append,List.sum_append]
 simp
def nmC2:Nat→CT→Prop
 | 0,_=>True
 | n+1,c=>(∀e∈c.es,nmE2 n e)∧∀k∈c.ks,nmC2 n k
theorem sizeC_box (n:Nat)(es:List CT)(a:Option Addr)(m cap:Nat)(l dd:Int)(w:World)(hm:es.length=m)(hd0:0≤dd)(hd1:dd≤300)(hl0: -1≤l)(hl1:l≤1000000)(hs:Pak.Sits (condSh (n+1)) (Pak.Lo w.heap.size) w a es)
 (hk:∀(x:CT) (u:Option Addr) (c:Nat) (q:Int) (W:World),x∈es→1≤dd→ -1≤q→q≤1000000→Below w.heap.size w W→Pak.Sits (condSh n) (Pak.Lo W.heap.size) W u x.ks→Calls Tryz.prog 63 #[.slice u x.ks.length c,.int .i64 q,.int .i64 (dd - 1)] W (SzP (∀k∈x.ks,nmC2 n k) (ptCs n x.ks) q W)):
 Calls Tryz.prog 63 #[.slice a m cap,.int .i64 l,.int .i64 dd] w (SzP (∀x∈es,nmC2 (n+1) x) (ptCs (n+1) es) l w):=by
 have HS:=Lib.hid hs
 have HM:=Lib.hid hm
 have hmm:m≤9223372036854775807:=by rw[←hm];exact hs.1
 have HK:=Lib.hid hk
 have HD0:=Lib.hid hd0
 have HD1:=Lib.hid hd1
 have HL0:=Lib.hid hl0
 have HL1:=Lib.hid hl1
 clear hs hm hk hd0 hd1 hl0 hl1
 by_cases hz:dd=0
 ·have e0:(dd == 0)=true:=by rw[hz];rfl
  clear hz
  go_enter Tryz.func63,Tryz.ntmps63
  go_wp2_with fail
  go_ret
  exact⟨-1,rfl,by omega,HL0.out,fun h=>absurd h (by decide),Below.refl _ _⟩
 ·have e0:(dd == 0)=false:=beq_eq_false_iff_ne.2 hz
  have HD2:Hid (1≤dd):=Lib.hid (by have:=HD0.out;omega)
  have ed:IntKind.i64.wrap (dd - 1)=dd - 1:=IntWalk.i64_in _ (by have:=HD0.out;have:=HD1.out;omega)
  clear hz
  go_enter Tryz.func63,Tryz.ntmps63
  go_wp2_with fail
  go_loopw [1,7] (fun t i wr=>∃(j:Nat) (x:Int),j≤m∧t= .int .i64 x∧i= .int .i64 j∧Hid (-1≤x∧x≤l∧(0≤x→x+ptCs (n+1) (es.take j)≤l∧∀y∈es.take j,nmC2 (n+1) y))∧Hid (Below w.heap.size w wr)) (fun _ i _=>m - (intOf i).toNat)
  case atStart=>exact⟨0,l,Nat.zero_le _,rfl,rfl,Lib.hid ⟨HL0.out,Int.le_refl _,fun _=>⟨by simp[ptCs],fun y h=>by simp at h⟩⟩,Below.refl _ _⟩
  case round=>
   obtain⟨j,x,hj,rfl,rfl,hin,hbr⟩:=hrel
   by_cases hx:0≤x
   ·have g1:decide (x ≥ 0)=true:=decide_eq_true hx
    have g2:decide (0≤x)=true:=decide_eq_true hx
    have ex:IntKind.i64.wrap (x - 1)=x - 1:=IntWalk.i64_in _ (by have:=hin.out;have:=HL1.out;omega)
    have HX:=Lib.hid hx
    clear hx
    by_cases hlt:j<m
    ·have hlx:j<es.length:=by rw[HM.out];exact hlt
     obtain⟨b,off,cs,rfl,hbl,hc,hrl⟩:=HS.out.2 j hlx
     obtain⟨v1,v2,rfl,_,⟨u1,d1,rfl,hs1⟩,⟨u2,d2,rfl,hs2⟩⟩:=hrl
     have HQ1:Hid (∀W,Below w.heap.size w W→W.cell? ⟨b,off+j*3+1,none⟩=some (.slice u1 es[j].es.length d1)):=Lib.hid fun W hW=>by
      have:=(hW.cell (p:=⟨b,_,none⟩) hbl).trans (hc 1 _ rfl)
      rwa [condSh_k]at this
     have HQ2:Hid (∀W,Below w.heap.size w W→W.cell? ⟨b,off+j*3+2,none⟩=some (.slice u2 es[j].ks.length d2)):=Lib.hid fun W hW=>by
      have:=(hW.cell (p:=⟨b,_,none⟩) hbl).trans (hc 2 _ rfl)
      rwa [condSh_k]at this
     have HC1:=Lib.hid (fun q W hq0 hq1 (hW:Below w.heap.size w W)=>sizeE_any n es[j].es u1 d1 q (dd - 1) W (by have:=HD2.out;omega) (by have:=HD1.out;omega) hq0 hq1 (hs1.below hW hW.size))
     have HC2:=Lib.hid (fun q W hq0 hq1 (hW:Below w.heap.size w W)=>HK.out es[j] u2 d2 q W (List.getElem_mem hlx) HD2.out hq0 hq1 hW (hs2.below hW hW.size))
     have hji:(j:Int)<(m:Int):=by omega
     have c1:=HQ1.out _ hbr.out
     have HSN:=Lib.hid (And.intro (ptCs_snoc (n:=n+1) hlx) (fun(h1:∀y∈es.take j,nmC2 (n+1) y) (h2:nmC2 (n+1) es[j])=>take_snoc_all hlx h1 h2))
     have HPT:Hid (ptC (n+1) es[j]=1+ptEs n es[j].es+ptCs n es[j].ks∧((∀e∈es[j].es,nmE2 n e)→(∀k∈es[j].ks,nmC2 n k)→nmC2 (n+1) es[j])):=Lib.hid ⟨ptC_succ n _,fun h1 h2=>⟨h1,h2⟩⟩
     clear hc hs1 hs2
     generalize es[j]=y at c1 HQ1 HQ2 HC1 HC2 HSN HPT
     obtain⟨n1,hn1⟩:∃n1,y.es.length=n1:=⟨_,rfl⟩
     obtain⟨n2,hn2⟩:∃n2,y.ks.length=n2:=⟨_,rfl⟩
     rw[hn1]at c1 HQ1 HC1
     rw[hn2]at HQ2 HC2
     clear hn1 hn2
     go_wp2_with fail
     refine(HC1.out (x - 1) _ (by have:=HX.out;omega) (by have:=hin.out;have:=HL1.out;omega) hbr.out).mono ?_
     rintro r w3 ⟨x2,rfl,h1,h2,h3,hb⟩
     have HB3:=Lib.hid (hbr.out.trans (hb.mono hbr.out.size))
     have H12:=Lib.hid (And.intro h1 h2)
     have H3:=Lib.hid h3
     clear h1 h2 h3 hb HC1 c1
     by_cases hx2:0≤x2
     ·have p1:decide (x2 ≥ 0)=true:=decide_eq_true hx2
      have p2:decide (0≤x2)=true:=decide_eq_true hx2
      have HX2:=Lib.hid hx2
      have c2:=HQ2.out _ HB3.out
      clear hx2
      go_wp2_with fail
      refine(HC2.out x2 _ H12.out.1 (by have:=H12.out;have:=hin.out;have:=HL1.out;omega) HB3.out).mono ?_
      rintro r w4 ⟨x3,rfl,h1,h2,h3,hb⟩
      have HB4:=Lib.hid (HB3.out.trans (hb.mono HB3.out.size))
      have HN:Hid (-1≤x3∧x3≤l∧(0≤x3→x3+ptCs (n+1) (es.take (j+1))≤l∧∀y∈es.take (j+1),nmC2 (n+1) y)):=Lib.hid (by have q0:=H12.out;have q9:=hin.out.2.1;refine⟨h1,by omega,fun h=> ?_⟩;have q1:=h3 h;have q2:=hin.out.2.2 HX.out;have q3:=HSN.out.1;have q4:=HPT.out.1;have q5:=H3.out HX2.out;exact⟨(by omega),HSN.out.2 q2.2 (HPT.out.2 q5.2 q1.2)⟩)
      clear h1 h2 h3 hb HC2 hin hbr c2
      go_wp2_with fail
      go_roundw
      case rel=>exact⟨j+1,x3,by omega,rfl,by go_num,HN,HB4⟩
      case measure=>simp[intOf];omega
     ·have p1:decide (x2 ≥ 0)=false:=decide_eq_false hx2
      have p2:decide (0≤x2)=false:=decide_eq_false hx2
      have HN:Hid (-1≤x2∧x2≤l∧(0≤x2→x2+ptCs (n+1) (es.take (j+1))≤l∧∀y∈es.take (j+1),nmC2 (n+1) y)):=Lib.hid (by have q0:=H12.out;have q9:=hin.out.2.1;exact⟨by omega,by omega,fun h=>absurd h hx2⟩)
      clear hx2 HC2 hin hbr
      go_wp2_with fail
      go_roundw
      case rel=>exact⟨j+1,x2,by omega,rfl,by go_num,HN,HB3⟩
      case measure=>simp[intOf];omega
    ·obtain rfl:j=m:=by omega
     have HE:Hid (SzP (∀x∈es,nmC2 (n+1) x) (ptCs (n+1) es) l w (.returned (.int .i64 x)) wr):=Lib.hid ⟨x,rfl,hin.out.1,hin.out.2.1,(by have h:=hin.out.2.2;rwa [←HM.out,List.take_length]at h),hbr.out⟩
     go_wp2_with fail
     go_ret
     exact HE.out
   ·have g1:decide (x ≥ 0)=false:=decide_eq_false hx
    have g2:decide (0≤x)=false:=decide_eq_false hx
    have HE:Hid (SzP (∀x∈es,nmC2 (n+1) x) (ptCs (n+1) es) l w (.returned (.int .i64 x)) wr):=Lib.hid ⟨x,rfl,hin.out.1,hin.out.2.1,fun h=>absurd h hx,hbr.out⟩
    clear hx
    by_cases hlt:j<m
    ·have hji:(j:Int)<(m:Int):=by omega
     go_wp2_with fail
     go_ret
     exact HE.out
    ·obtain rfl:j=m:=by omega
     go_wp2_with fail
     go_ret
     exact HE.out
theorem sizeC_any:∀(n:Nat) (es:List CT) (a:Option Addr) (cap:Nat) (l dd:Int) (w:World),0≤dd→dd≤300→ -1≤l→l≤1000000→Pak.Sits (condSh n) (Pak.Lo w.heap.size) w a es→
 Calls Tryz.prog 63 #[.slice a es.length cap,.int .i64 l,.int .i64 dd] w (SzP (∀x∈es,nmC2 n x) (ptCs n es) l w)
 | 0,es,a,cap,l,dd,w,h1,h2,h3,h4,hs=>by
   have he:es=[]:=by
    cases es with
    | nil=>rfl
    | cons x xs=>
      obtain⟨_,_,_,_,_,_,hr⟩:=hs.2 0 (by simp)
      exact hr.elim
   subst he
   have h:=sizeC_box 0 [] a 0 cap l dd w rfl h1 h2 h3 h4 (Pak.Sits.nil _ _ _ _) fun x u c q W hx _ _ _ _ _=>absurd hx (by simp)
   exact h.mono fun r w2 ⟨x,e1,e2,e3,e4,e5⟩=>⟨x,e1,e2,e3,fun h=>⟨by simpa [ptCs]using(e4 h).1,fun y hy=>by simp at hy⟩,e5⟩
 | n+1,es,a,cap,l,dd,w,h1,h2,h3,h4,hs=>
   sizeC_box n es a es.length cap l dd w rfl h1 h2 h3 h4 hs fun x u c q W _ hd hq0 hq1 hW hsx=>
    sizeC_any n x.ks u c q (dd - 1) W (by omega) (by omega) hq0 hq1 hsx
end
end Go.Proofs.YtfcaclmcnlflfaaGreatDoor
