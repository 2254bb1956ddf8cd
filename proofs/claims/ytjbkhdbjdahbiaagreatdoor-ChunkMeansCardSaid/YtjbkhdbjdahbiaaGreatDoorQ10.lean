/- Parts of a proof. -/
import Derived.Test.YtjbkhdbjdahbiaaGreatDoorQ08
import Derived.Lib.Strings
set_option linter.unusedVariables false
set_option linter.unusedSimpArgs false
set_option maxHeartbeats 60000000
set_option maxRecDepth 100000
namespace Go.Proofs.YtjbkhdbjdahbiaaGreatDoor
section
open Go.RowKit
def ksA (k:Int):Nat:=if k=4∨k=5 then 2 else 0
def shA (nm:ByteArray→Bool)(n:Nat)(a:AT):Bool:=
 if a.kind=2 then noE a.v && (snE nm n a.e && nm a.field && (decide (0≤a.n) && decide (a.n≤1073741824)))
 else if a.kind=3 then snE nm n a.v && (snE nm n a.e && nm a.field && (decide (0≤a.n) && decide (a.n≤1073741824)))
 else noE a.e && noE a.v && a.field.toList.isEmpty && a.n == 0
def snA (nm:ByteArray→Bool):Nat→AT→Bool
 | 0,_=>false
 | n+1,a=>
   if 0≤a.kind∧a.kind≤5 then
    a.ks.length == ksA a.kind && (a.ks.all (snA nm n) && (shA nm n a && (if a.kind=1∨a.kind=5 then snC nm n a.c else noC a.c)))
   else false
theorem soundA_0 (ck:Int)(a1:Option Addr)(l1 c1:Nat)(a2:Option Addr)(l2 c2:Nat)(ek en:Int)(es:ByteArray)(a3:Option Addr)(l3 c3:Nat)(vk vn:Int)(vs:ByteArray)(a4:Option Addr)(l4 c4:Nat)(fs:ByteArray)(m:Int)(a5:Option Addr)(l5 c5:Nat)(z1 z2 z3:Bool)(w:World)
 (h1:∀W,Below w.heap.size w W→Calls Tryz.prog 103 #[.slice a5 l5 c5,.func (.func 94) #[] #[]] W fun r w'=>r= .returned (.bool z1)∧Below W.heap.size W w')
 (h2:∀W,Below w.heap.size w W→Calls Tryz.prog 104 #[.agg #[.int .i64 0,.int .i64 ck,.slice a1 l1 c1,.slice a2 l2 c2,.int .i64 ek,.int .i64 en,.string es,.slice a3 l3 c3,.int .i64 vk,.int .i64 vn,.string vs,.slice a4 l4 c4,.string fs,.int .i64 m,.slice a5 l5 c5],.bool false] W (SoundEnd z2 W))
 (h3:∀W,Below w.heap.size w W→Calls Tryz.prog 106 #[.agg #[.int .i64 ck,.slice a1 l1 c1,.slice a2 l2 c2]] W fun r w'=>r= .returned (.bool z3)∧Below W.heap.size W w'):
 Calls Tryz.prog 94 #[.agg #[.int .i64 0,.int .i64 ck,.slice a1 l1 c1,.slice a2 l2 c2,.int .i64 ek,.int .i64 en,.string es,.slice a3 l3 c3,.int .i64 vk,.int .i64 vn,.string vs,.slice a4 l4 c4,.string fs,.int .i64 m,.slice a5 l5 c5]] w (SoundEnd (l5 == 0 && (z1 && (z2 && z3))) w):=by
 have H2:=Lib.hid h2
 have H3:=Lib.hid h3
 have HA:Hid (Below w.heap.size w (w.alloc (.cells #[.int .i64 0,.int .i64 ck,.slice a1 l1 c1,.slice a2 l2 c2,.int .i64 ek,.int .i64 en,.string es,.slice a3 l3 c3,.int .i64 vk,.int .i64 vn,.string vs,.slice a4 l4 c4,.string fs,.int .i64 m,.slice a5 l5 c5] 100))):=box_low
 have HCL:Hid (∀W,Below (w.alloc (.cells #[.int .i64 0,.int .i64 ck,.slice a1 l1 c1,.slice a2 l2 c2,.int .i64 ek,.int .i64 en,.string es,.slice a3 l3 c3,.int .i64 vk,.int .i64 vn,.string vs,.slice a4 l4 c4,.string fs,.int .i64 m,.slice a5 l5 c5] 100)).heap.size (w.alloc (.cells #[.int .i64 0,.int .i64 ck,.slice a1 l1 c1,.slice a2 l2 c2,.int .i64 ek,.int .i64 en,.string es,.slice a3 l3 c3,.int .i64 vk,.int .i64 vn,.string vs,.slice a4 l4 c4,.string fs,.int .i64 m,.slice a5 l5 c5] 100)) W→W.cell? ⟨w.heap.size,0,none⟩=some (.int .i64 0)∧W.cell? ⟨w.heap.size,1,none⟩=some (.int .i64 ck)∧W.cell? ⟨w.heap.size,2,none⟩=some (.slice a1 l1 c1)∧W.cell? ⟨w.heap.size,3,none⟩=some (.slice a2 l2 c2)∧W.cell? ⟨w.heap.size,4,none⟩=some (.int .i64 ek)∧W.cell? ⟨w.heap.size,5,none⟩=some (.int .i64 en)∧W.cell? ⟨w.heap.size,6,none⟩=some (.string es)∧W.cell? ⟨w.heap.size,7,none⟩=some (.slice a3 l3 c3)∧W.cell? ⟨w.heap.size,8,none⟩=some (.int .i64 vk)∧W.cell? ⟨w.heap.size,9,none⟩=some (.int .i64 vn)∧W.cell? ⟨w.heap.size,10,none⟩=some (.string vs)∧W.cell? ⟨w.heap.size,11,none⟩=some (.slice a4 l4 c4)∧W.cell? ⟨w.heap.size,12,none⟩=some (.string fs)∧W.cell? ⟨w.heap.size,13,none⟩=some (.int .i64 m)∧W.cell? ⟨w.heap.size,14,none⟩=some (.slice a5 l5 c5)):=fun W hb=>by
  have hn:=heap_alloc_new w (.cells #[.int .i64 0,.int .i64 ck,.slice a1 l1 c1,.slice a2 l2 c2,.int .i64 ek,.int .i64 en,.string es,.slice a3 l3 c3,.int .i64 vk,.int .i64 vn,.string vs,.slice a4 l4 c4,.string fs,.int .i64 m,.slice a5 l5 c5] 100)
  have hl:w.heap.size<(w.alloc (.cells #[.int .i64 0,.int .i64 ck,.slice a1 l1 c1,.slice a2 l2 c2,.int .i64 ek,.int .i64 en,.string es,.slice a3 l3 c3,.int .i64 vk,.int .i64 vn,.string vs,.slice a4 l4 c4,.string fs,.int .i64 m,.slice a5 l5 c5] 100)).heap.size:=by simp
  exact⟨(hb.cell (p:=⟨w.heap.size,0,none⟩) hl).trans ((cell_of_row _ _ _ _ _ _ hn).trans rfl),(hb.cell (p:=⟨w.heap.size,1,none⟩) hl).trans ((cell_of_row _ _ _ _ _ _ hn).trans rfl),(hb.cell (p:=⟨w.heap.size,2,none⟩) hl).trans ((cell_of_row _ _ _ _ _ _ hn).trans rfl),(hb.cell (p:=⟨w.heap.size,3,none⟩) hl).trans ((cell_of_row _ _ _ _ _ _ hn).trans rfl),(hb.cell (p:=⟨w.heap.size,4,none⟩) hl).trans ((cell_of_row _ _ _ _ _ _ hn).trans rfl),(hb.cell (p:=⟨w.heap.size,5,none⟩) hl).trans ((cell_of_row _ _ _ _ _ _ hn).trans rfl),(hb.cell (p:=⟨w.heap.size,6,none⟩) hl).trans ((cell_of_row _ _ _ _ _ _ hn).trans rfl),(hb.cell (p:=⟨w.heap.size,7,none⟩) hl).trans ((cell_of_row _ _ _ _ _ _ hn).trans rfl),(hb.cell (p:=⟨w.heap.size,8,none⟩) hl).trans ((cell_of_row _ _ _ _ _ _ hn).trans rfl),(hb.cell (p:=⟨w.heap.size,9,none⟩) hl).trans ((cell_of_row _ _ _ _ _ _ hn).trans rfl),(hb.cell (p:=⟨w.heap.size,10,none⟩) hl).trans ((cell_of_row _ _ _ _ _ _ hn).trans rfl),(hb.cell (p:=⟨w.heap.size,11,none⟩) hl).trans ((cell_of_row _ _ _ _ _ _ hn).trans rfl),(hb.cell (p:=⟨w.heap.size,12,none⟩) hl).trans ((cell_of_row _ _ _ _ _ _ hn).trans rfl),(hb.cell (p:=⟨w.heap.size,13,none⟩) hl).trans ((cell_of_row _ _ _ _ _ _ hn).trans rfl),(hb.cell (p:=⟨w.heap.size,14,none⟩) hl).trans ((cell_of_row _ _ _ _ _ _ hn).trans rfl)⟩
 have X1:=Lib.hid (h1 _ HA.out)
 clear h1 h2 h3
 by_cases hl1:l5=0
 ·have e1:((l5:Int) != 0)=false:=by rw[hl1];rfl
  have f1:(l5 == 0)=true:=by rw[hl1];rfl
  rw[f1]
  clear hl1 f1
  go_enter Tryz.func94,Tryz.ntmps94
  go_wp2_with fail
  refine X1.out.mono ?_
  rintro r w2 ⟨rfl,hb⟩
  have HB2:=Lib.hid (HA.out.trans (hb.mono HA.out.size))
  have HN2:=Lib.hid (hb)
  clear hb X1
  obtain⟨q0,q1,q2,q3,q4,q5,q6,q7,q8,q9,q10,q11,q12,q13,q14⟩:=HCL.out _ HN2.out
  have X2:=Lib.hid (H2.out _ HB2.out)
  cases z1 with
  | false=>
    clear X2
    go_wp2_with fail
    go_ret
    exact⟨rfl,HB2.out⟩
  | true=>
    go_wp2_with fail
    clear q0 q1 q2 q3 q4 q5 q6 q7 q8 q9 q10 q11 q12 q13 q14
    refine X2.out.mono ?_
    rintro r w3 ⟨rfl,hb⟩
    have HB3:=Lib.hid (HB2.out.trans (hb.mono HB2.out.size))
    have HN3:=Lib.hid (HN2.out.trans (hb.mono HN2.out.size))
    clear hb X2
    obtain⟨q0,q1,q2,q3,q4,q5,q6,q7,q8,q9,q10,q11,q12,q13,q14⟩:=HCL.out _ HN3.out
    have X3:=Lib.hid (H3.out _ HB3.out)
    cases z2 with
    | false=>
      clear X3
      go_wp2_with fail
      go_ret
      exact⟨rfl,HB3.out⟩
    | true=>
      go_wp2_with fail
      clear q0 q1 q2 q3 q4 q5 q6 q7 q8 q9 q10 q11 q12 q13 q14
      refine X3.out.mono ?_
      rintro r w4 ⟨rfl,hb⟩
      have HB4:=Lib.hid (HB3.out.trans (hb.mono HB3.out.size))
      have HN4:=Lib.hid (HN3.out.trans (hb.mono HN3.out.size))
      clear hb X3
      cases z3<;>
      ·go_wp2_with fail
       go_ret
       exact⟨rfl,HB4.out⟩
 ·have e1:((l5:Int) != 0)=true:=by simp;omega
  have f1:(l5 == 0)=false:=by simp;omega
  rw[f1]
  clear hl1 f1
  go_enter Tryz.func94,Tryz.ntmps94
  go_wp2_with fail
  go_ret
  exact⟨rfl,box_low⟩
theorem soundA_1 (ck:Int)(a1:Option Addr)(l1 c1:Nat)(a2:Option Addr)(l2 c2:Nat)(ek en:Int)(es:ByteArray)(a3:Option Addr)(l3 c3:Nat)(vk vn:Int)(vs:ByteArray)(a4:Option Addr)(l4 c4:Nat)(fs:ByteArray)(m:Int)(a5:Option Addr)(l5 c5:Nat)(z1 z2 z3:Bool)(w:World)
 (h1:∀W,Below w.heap.size w W→Calls Tryz.prog 103 #[.slice a5 l5 c5,.func (.func 94) #[] #[]] W fun r w'=>r= .returned (.bool z1)∧Below W.heap.size W w')
 (h2:∀W,Below w.heap.size w W→Calls Tryz.prog 104 #[.agg #[.int .i64 1,.int .i64 ck,.slice a1 l1 c1,.slice a2 l2 c2,.int .i64 ek,.int .i64 en,.string es,.slice a3 l3 c3,.int .i64 vk,.int .i64 vn,.string vs,.slice a4 l4 c4,.string fs,.int .i64 m,.slice a5 l5 c5],.bool false] W (SoundEnd z2 W))
 (h3:∀W,Below w.heap.size w W→Calls Tryz.prog 105 #[.agg #[.int .i64 ck,.slice a1 l1 c1,.slice a2 l2 c2]] W fun r w'=>r= .returned (.bool z3)∧Below W.heap.size W w'):
 Calls Tryz.prog 94 #[.agg #[.int .i64 1,.int .i64 ck,.slice a1 l1 c1,.slice a2 l2 c2,.int .i64 ek,.int .i64 en,.string es,.slice a3 l3 c3,.int .i64 vk,.int .i64 vn,.string vs,.slice a4 l4 c4,.string fs,.int .i64 m,.slice a5 l5 c5]] w (SoundEnd (l5 == 0 && (z1 && (z2 && z3))) w):=by
 have H2:=Lib.hid h2
 have H3:=Lib.hid h3
 have HA:Hid (Below w.heap.size w (w.alloc (.cells #[.int .i64 1,.int .i64 ck,.slice a1 l1 c1,.slice a2 l2 c2,.int .i64 ek,.int .i64 en,.string es,.slice a3 l3 c3,.int .i64 vk,.int .i64 vn,.string vs,.slice a4 l4 c4,.string fs,.int .i64 m,.slice a5 l5 c5] 100))):=box_low
 have HCL:Hid (∀W,Below (w.alloc (.cells #[.int .i64 1,.int .i64 ck,.slice a1 l1 c1,.slice a2 l2 c2,.int .i64 ek,.int .i64 en,.string es,.slice a3 l3 c3,.int .i64 vk,.int .i64 vn,.string vs,.slice a4 l4 c4,.string fs,.int .i64 m,.slice a5 l5 c5] 100)).heap.size (w.alloc (.cells #[.int .i64 1,.int .i64 ck,.slice a1 l1 c1,.slice a2 l2 c2,.int .i64 ek,.int .i64 en,.string es,.slice a3 l3 c3,.int .i64 vk,.int .i64 vn,.string vs,.slice a4 l4 c4,.string fs,.int .i64 m,.slice a5 l5 c5] 100)) W→W.cell? ⟨w.heap.size,0,none⟩=some (.int .i64 1)∧W.cell? ⟨w.heap.size,1,none⟩=some (.int .i64 ck)∧W.cell? ⟨w.heap.size,2,none⟩=some (.slice a1 l1 c1)∧W.cell? ⟨w.heap.size,3,none⟩=some (.slice a2 l2 c2)∧W.cell? ⟨w.heap.size,4,none⟩=some (.int .i64 ek)∧W.cell? ⟨w.heap.size,5,none⟩=some (.int .i64 en)∧W.cell? ⟨w.heap.size,6,none⟩=some (.string es)∧W.cell? ⟨w.heap.size,7,none⟩=some (.slice a3 l3 c3)∧W.cell? ⟨w.heap.size,8,none⟩=some (.int .i64 vk)∧W.cell? ⟨w.heap.size,9,none⟩=some (.int .i64 vn)∧W.cell? ⟨w.heap.size,10,none⟩=some (.string vs)∧W.cell? ⟨w.heap.size,11,none⟩=some (.slice a4 l4 c4)∧W.cell? ⟨w.heap.size,12,none⟩=some (.string fs)∧W.cell? ⟨w.heap.size,13,none⟩=some (.int .i64 m)∧W.cell? ⟨w.heap.size,14,none⟩=some (.slice a5 l5 c5)):=fun W hb=>by
  have hn:=heap_alloc_new w (.cells #[.int .i64 1,.int .i64 ck,.slice a1 l1 c1,.slice a2 l2 c2,.int .i64 ek,.int .i64 en,.string es,.slice a3 l3 c3,.int .i64 vk,.int .i64 vn,.string vs,.slice a4 l4 c4,.string fs,.int .i64 m,.slice a5 l5 c5] 100)
  have hl:w.heap.size<(w.alloc (.cells #[.int .i64 1,.int .i64 ck,.slice a1 l1 c1,.slice a2 l2 c2,.int .i64 ek,.int .i64 en,.string es,.slice a3 l3 c3,.int .i64 vk,.int .i64 vn,.string vs,.slice a4 l4 c4,.string fs,.int .i64 m,.slice a5 l5 c5] 100)).heap.size:=by simp
  exact⟨(hb.cell (p:=⟨w.heap.size,0,none⟩) hl).trans ((cell_of_row _ _ _ _ _ _ hn).trans rfl),(hb.cell (p:=⟨w.heap.size,1,none⟩) hl).trans ((cell_of_row _ _ _ _ _ _ hn).trans rfl),(hb.cell (p:=⟨w.heap.size,2,none⟩) hl).trans ((cell_of_row _ _ _ _ _ _ hn).trans rfl),(hb.cell (p:=⟨w.heap.size,3,none⟩) hl).trans ((cell_of_row _ _ _ _ _ _ hn).trans rfl),(hb.cell (p:=⟨w.heap.size,4,none⟩) hl).trans ((cell_of_row _ _ _ _ _ _ hn).trans rfl),(hb.cell (p:=⟨w.heap.size,5,none⟩) hl).trans ((cell_of_row _ _ _ _ _ _ hn).trans rfl),(hb.cell (p:=⟨w.heap.size,6,none⟩) hl).trans ((cell_of_row _ _ _ _ _ _ hn).trans rfl),(hb.cell (p:=⟨w.heap.size,7,none⟩) hl).trans ((cell_of_row _ _ _ _ _ _ hn).trans rfl),(hb.cell (p:=⟨w.heap.size,8,none⟩) hl).trans ((cell_of_row _ _ _ _ _ _ hn).trans rfl),(hb.cell (p:=⟨w.heap.size,9,none⟩) hl).trans ((cell_of_row _ _ _ _ _ _ hn).trans rfl),(hb.cell (p:=⟨w.heap.size,10,none⟩) hl).trans ((cell_of_row _ _ _ _ _ _ hn).trans rfl),(hb.cell (p:=⟨w.heap.size,11,none⟩) hl).trans ((cell_of_row _ _ _ _ _ _ hn).trans rfl),(hb.cell (p:=⟨w.heap.size,12,none⟩) hl).trans ((cell_of_row _ _ _ _ _ _ hn).trans rfl),(hb.cell (p:=⟨w.heap.size,13,none⟩) hl).trans ((cell_of_row _ _ _ _ _ _ hn).trans rfl),(hb.cell (p:=⟨w.heap.size,14,none⟩) hl).trans ((cell_of_row _ _ _ _ _ _ hn).trans rfl)⟩
 have X1:=Lib.hid (h1 _ HA.out)
 clear h1 h2 h3
 by_cases hl1:l5=0
 ·have e1:((l5:Int) != 0)=false:=by rw[hl1];rfl
  have f1:(l5 == 0)=true:=by rw[hl1];rfl
  rw[f1]
  clear hl1 f1
  go_enter Tryz.func94,Tryz.ntmps94
  go_wp2_with fail
  refine X1.out.mono ?_
  rintro r w2 ⟨rfl,hb⟩
  have HB2:=Lib.hid (HA.out.trans (hb.mono HA.out.size))
  have HN2:=Lib.hid (hb)
  clear hb X1
  obtain⟨q0,q1,q2,q3,q4,q5,q6,q7,q8,q9,q10,q11,q12,q13,q14⟩:=HCL.out _ HN2.out
  have X2:=Lib.hid (H2.out _ HB2.out)
  cases z1 with
  | false=>
    clear X2
    go_wp2_with fail
    go_ret
    exact⟨rfl,HB2.out⟩
  | true=>
    go_wp2_with fail
    clear q0 q1 q2 q3 q4 q5 q6 q7 q8 q9 q10 q11 q12 q13 q14
    refine X2.out.mono ?_
    rintro r w3 ⟨rfl,hb⟩
    have HB3:=Lib.hid (HB2.out.trans (hb.mono HB2.out.size))
    have HN3:=Lib.hid (HN2.out.trans (hb.mono HN2.out.size))
    clear hb X2
    obtain⟨q0,q1,q2,q3,q4,q5,q6,q7,q8,q9,q10,q11,q12,q13,q14⟩:=HCL.out _ HN3.out
    have X3:=Lib.hid (H3.out _ HB3.out)
    cases z2 with
    | false=>
      clear X3
      go_wp2_with fail
      go_ret
      exact⟨rfl,HB3.out⟩
    | true=>
      go_wp2_with fail
      clear q0 q1 q2 q3 q4 q5 q6 q7 q8 q9 q10 q11 q12 q13 q14
      refine X3.out.mono ?_
      rintro r w4 ⟨rfl,hb⟩
      have HB4:=Lib.hid (HB3.out.trans (hb.mono HB3.out.size))
      have HN4:=Lib.hid (HN3.out.trans (hb.mono HN3.out.size))
      clear hb X3
      cases z3<;>
      ·go_wp2_with fail
       go_ret
       exact⟨rfl,HB4.out⟩
 ·have e1:((l5:Int) != 0)=true:=by simp;omega
  have f1:(l5 == 0)=false:=by simp;omega
  rw[f1]
  clear hl1 f1
  go_enter Tryz.func94,Tryz.ntmps94
  go_wp2_with fail
  go_ret
  exact⟨rfl,box_low⟩
theorem soundA_2 (ck:Int)(a1:Option Addr)(l1 c1:Nat)(a2:Option Addr)(l2 c2:Nat)(ek en:Int)(es:ByteArray)(a3:Option Addr)(l3 c3:Nat)(vk vn:Int)(vs:ByteArray)(a4:Option Addr)(l4 c4:Nat)(fs:ByteArray)(m:Int)(a5:Option Addr)(l5 c5:Nat)(z1 z2 z3:Bool)(w:World)
 (h1:∀W,Below w.heap.size w W→Calls Tryz.prog 103 #[.slice a5 l5 c5,.func (.func 94) #[] #[]] W fun r w'=>r= .returned (.bool z1)∧Below W.heap.size W w')
 (h2:∀W,Below w.heap.size w W→Calls Tryz.prog 104 #[.agg #[.int .i64 2,.int .i64 ck,.slice a1 l1 c1,.slice a2 l2 c2,.int .i64 ek,.int .i64 en,.string es,.slice a3 l3 c3,.int .i64 vk,.int .i64 vn,.string vs,.slice a4 l4 c4,.string fs,.int .i64 m,.slice a5 l5 c5],.bool true] W (SoundEnd z2 W))
 (h3:∀W,Below w.heap.size w W→Calls Tryz.prog 106 #[.agg #[.int .i64 ck,.slice a1 l1 c1,.slice a2 l2 c2]] W fun r w'=>r= .returned (.bool z3)∧Below W.heap.size W w'):
 Calls Tryz.prog 94 #[.agg #[.int .i64 2,.int .i64 ck,.slice a1 l1 c1,.slice a2 l2 c2,.int .i64 ek,.int .i64 en,.string es,.slice a3 l3 c3,.int .i64 vk,.int .i64 vn,.string vs,.slice a4 l4 c4,.string fs,.int .i64 m,.slice a5 l5 c5]] w (SoundEnd (l5 == 0 && (z1 && (z2 && z3))) w):=by
 have H2:=Lib.hid h2
 have H3:=Lib.hid h3
 have HA:Hid (Below w.heap.size w (w.alloc (.cells #[.int .i64 2,.int .i64 ck,.slice a1 l1 c1,.slice a2 l2 c2,.int .i64 ek,.int .i64 en,.string es,.slice a3 l3 c3,.int .i64 vk,.int .i64 vn,.string vs,.slice a4 l4 c4,.string fs,.int .i64 m,.slice a5 l5 c5] 100))):=box_low
 have HCL:Hid (∀W,Below (w.alloc (.cells #[.int .i64 2,.int .i64 ck,.slice a1 l1 c1,.slice a2 l2 c2,.int .i64 ek,.int .i64 en,.string es,.slice a3 l3 c3,.int .i64 vk,.int .i64 vn,.string vs,.slice a4 l4 c4,.string fs,.int .i64 m,.slice a5 l5 c5] 100)).heap.size (w.alloc (.cells #[.int .i64 2,.int .i64 ck,.slice a1 l1 c1,.slice a2 l2 c2,.int .i64 ek,.int .i64 en,.string es,.slice a3 l3 c3,.int .i64 vk,.int .i64 vn,.string vs,.slice a4 l4 c4,.string fs,.int .i64 m,.slice a5 l5 c5] 100)) W→W.cell? ⟨w.heap.size,0,none⟩=some (.int .i64 2)∧W.cell? ⟨w.heap.size,1,none⟩=some (.int .i64 ck)∧W.cell? ⟨w.heap.size,2,none⟩=some (.slice a1 l1 c1)∧W.cell? ⟨w.heap.size,3,none⟩=some (.slice a2 l2 c2)∧W.cell? ⟨w.heap.size,4,none⟩=some (.int .i64 ek)∧W.cell? ⟨w.heap.size,5,none⟩=some (.int .i64 en)∧W.cell? ⟨w.heap.size,6,none⟩=some (.string es)∧W.cell? ⟨w.heap.size,7,none⟩=some (.slice a3 l3 c3)∧W.cell? ⟨w.heap.size,8,none⟩=some (.int .i64 vk)∧W.cell? ⟨w.heap.size,9,none⟩=some (.int .i64 vn)∧W.cell? ⟨w.heap.size,10,none⟩=some (.string vs)∧W.cell? ⟨w.heap.size,11,none⟩=some (.slice a4 l4 c4)∧W.cell? ⟨w.heap.size,12,none⟩=some (.string fs)∧W.cell? ⟨w.heap.size,13,none⟩=some (.int .i64 m)∧W.cell? ⟨w.heap.size,14,none⟩=some (.slice a5 l5 c5)):=fun W hb=>by
  have hn:=heap_alloc_new w (.cells #[.int .i64 2,.int .i64 ck,.slice a1 l1 c1,.slice a2 l2 c2,.int .i64 ek,.int .i64 en,.string es,.slice a3 l3 c3,.int .i64 vk,.int .i64 vn,.string vs,.slice a4 l4 c4,.string fs,.int .i64 m,.slice a5 l5 c5] 100)
  have hl:w.heap.size<(w.alloc (.cells #[.int .i64 2,.int .i64 ck,.slice a1 l1 c1,.slice a2 l2 c2,.int .i64 ek,.int .i64 en,.string es,.slice a3 l3 c3,.int .i64 vk,.int .i64 vn,.string vs,.slice a4 l4 c4,.string fs,.int .i64 m,.slice a5 l5 c5] 100)).heap.size:=by simp
  exact⟨(hb.cell (p:=⟨w.heap.size,0,none⟩) hl).trans ((cell_of_row _ _ _ _ _ _ hn).trans rfl),(hb.cell (p:=⟨w.heap.size,1,none⟩) hl).trans ((cell_of_row _ _ _ _ _ _ hn).trans rfl),(hb.cell (p:=⟨w.heap.size,2,none⟩) hl).trans ((cell_of_row _ _ _ _ _ _ hn).trans rfl),(hb.cell (p:=⟨w.heap.size,3,none⟩) hl).trans ((cell_of_row _ _ _ _ _ _ hn).trans rfl),(hb.cell (p:=⟨w.heap.size,4,none⟩) hl).trans ((cell_of_row _ _ _ _ _ _ hn).trans rfl),(hb.cell (p:=⟨w.heap.size,5,none⟩) hl).trans ((cell_of_row _ _ _ _ _ _ hn).trans rfl),(hb.cell (p:=⟨w.heap.size,6,none⟩) hl).trans ((cell_of_row _ _ _ _ _ _ hn).trans rfl),(hb.cell (p:=⟨w.heap.size,7,none⟩) hl).trans ((cell_of_row _ _ _ _ _ _ hn).trans rfl),(hb.cell (p:=⟨w.heap.size,8,none⟩) hl).trans ((cell_of_row _ _ _ _ _ _ hn).trans rfl),(hb.cell (p:=⟨w.heap.size,9,none⟩) hl).trans ((cell_of_row _ _ _ _ _ _ hn).trans rfl),(hb.cell (p:=⟨w.heap.size,10,none⟩) hl).trans ((cell_of_row _ _ _ _ _ _ hn).trans rfl),(hb.cell (p:=⟨w.heap.size,11,none⟩) hl).trans ((cell_of_row _ _ _ _ _ _ hn).trans rfl),(hb.cell (p:=⟨w.heap.size,12,none⟩) hl).trans ((cell_of_row _ _ _ _ _ _ hn).trans rfl),(hb.cell (p:=⟨w.heap.size,13,none⟩) hl).trans ((cell_of_row _ _ _ _ _ _ hn).trans rfl),(hb.cell (p:=⟨w.heap.size,14,none⟩) hl).trans ((cell_of_row _ _ _ _ _ _ hn).trans rfl)⟩
 have X1:=Lib.hid (h1 _ HA.out)
 clear h1 h2 h3
 by_cases hl1:l5=0
 ·have e1:((l5:Int) != 0)=false:=by rw[hl1];rfl
  have f1:(l5 == 0)=true:=by rw[hl1];rfl
  rw[f1]
  clear hl1 f1
  go_enter Tryz.func94,Tryz.ntmps94
  go_wp2_with fail
  refine X1.out.mono ?_
  rintro r w2 ⟨rfl,hb⟩
  have HB2:=Lib.hid (HA.out.trans (hb.mono HA.out.size))
  have HN2:=Lib.hid (hb)
  clear hb X1
  obtain⟨q0,q1,q2,q3,q4,q5,q6,q7,q8,q9,q10,q11,q12,q13,q14⟩:=HCL.out _ HN2.out
  have X2:=Lib.hid (H2.out _ HB2.out)
  cases z1 with
  | false=>
    clear X2
    go_wp2_with fail
    go_ret
    exact⟨rfl,HB2.out⟩
  | true=>
    go_wp2_with fail
    clear q0 q1 q2 q3 q4 q5 q6 q7 q8 q9 q10 q11 q12 q13 q14
    refine X2.out.mono ?_
    rintro r w3 ⟨rfl,hb⟩
    have HB3:=Lib.hid (HB2.out.trans (hb.mono HB2.out.size))
    have HN3:=Lib.hid (HN2.out.trans (hb.mono HN2.out.size))
    clear hb X2
    obtain⟨q0,q1,q2,q3,q4,q5,q6,q7,q8,q9,q10,q11,q12,q13,q14⟩:=HCL.out _ HN3.out
    have X3:=Lib.hid (H3.out _ HB3.out)
    cases z2 with
    | false=>
      clear X3
      go_wp2_with fail
      go_ret
      exact⟨rfl,HB3.out⟩
    | true=>
      go_wp2_with fail
      clear q0 q1 q2 q3 q4 q5 q6 q7 q8 q9 q10 q11 q12 q13 q14
      refine X3.out.mono ?_
      rintro r w4 ⟨rfl,hb⟩
      have HB4:=Lib.hid (HB3.out.trans (hb.mono HB3.out.size))
      have HN4:=Lib.hid (HN3.out.trans (hb.mono HN3.out.size))
      clear hb X3
      cases z3<;>
      ·go_wp2_with fail
       go_ret
       exact⟨rfl,HB4.out⟩
 ·have e1:((l5:Int) != 0)=true:=by simp;omega
  have f1:(l5 == 0)=false:=by simp;omega
  rw[f1]
  clear hl1 f1
  go_enter Tryz.func94,Tryz.ntmps94
  go_wp2_with fail
  go_ret
  exact⟨rfl,box_low⟩
theorem soundA_3 (ck:Int)(a1:Option Addr)(l1 c1:Nat)(a2:Option Addr)(l2 c2:Nat)(ek en:Int)(es:ByteArray)(a3:Option Addr)(l3 c3:Nat)(vk vn:Int)(vs:ByteArray)(a4:Option Addr)(l4 c4:Nat)(fs:ByteArray)(m:Int)(a5:Option Addr)(l5 c5:Nat)(z1 z2 z3:Bool)(w:World)
 (h1:∀W,Below w.heap.size w W→Calls Tryz.prog 103 #[.slice a5 l5 c5,.func (.func 94) #[] #[]] W fun r w'=>r= .returned (.bool z1)∧Below W.heap.size W w')
 (h2:∀W,Below w.heap.size w W→Calls Tryz.prog 104 #[.agg #[.int .i64 3,.int .i64 ck,.slice a1 l1 c1,.slice a2 l2 c2,.int .i64 ek,.int .i64 en,.string es,.slice a3 l3 c3,.int .i64 vk,.int .i64 vn,.string vs,.slice a4 l4 c4,.string fs,.int .i64 m,.slice a5 l5 c5],.bool true] W (SoundEnd z2 W))
 (h3:∀W,Below w.heap.size w W→Calls Tryz.prog 106 #[.agg #[.int .i64 ck,.slice a1 l1 c1,.slice a2 l2 c2]] W fun r w'=>r= .returned (.bool z3)∧Below W.heap.size W w'):
 Calls Tryz.prog 94 #[.agg #[.int .i64 3,.int .i64 ck,.slice a1 l1 c1,.slice a2 l2 c2,.int .i64 ek,.int .i64 en,.string es,.slice a3 l3 c3,.int .i64 vk,.int .i64 vn,.string vs,.slice a4 l4 c4,.string fs,.int .i64 m,.slice a5 l5 c5]] w (SoundEnd (l5 == 0 && (z1 && (z2 && z3))) w):=by
 have H2:=Lib.hid h2
 have H3:=Lib.hid h3
 have HA:Hid (Below w.heap.size w (w.alloc (.cells #[.int .i64 3,.int .i64 ck,.slice a1 l1 c1,.slice a2 l2 c2,.int .i64 ek,.int .i64 en,.string es,.slice a3 l3 c3,.int .i64 vk,.int .i64 vn,.string vs,.slice a4 l4 c4,.string fs,.int .i64 m,.slice a5 l5 c5] 100))):=box_low
 have HCL:Hid (∀W,Below (w.alloc (.cells #[.int .i64 3,.int .i64 ck,.slice a1 l1 c1,.slice a2 l2 c2,.int .i64 ek,.int .i64 en,.string es,.slice a3 l3 c3,.int .i64 vk,.int .i64 vn,.string vs,.slice a4 l4 c4,.string fs,.int .i64 m,.slice a5 l5 c5] 100)).heap.size (w.alloc (.cells #[.int .i64 3,.int .i64 ck,.slice a1 l1 c1,.slice a2 l2 c2,.int .i64 ek,.int .i64 en,.string es,.slice a3 l3 c3,.int .i64 vk,.int .i64 vn,.string vs,.slice a4 l4 c4,.string fs,.int .i64 m,.slice a5 l5 c5] 100)) W→W.cell? ⟨w.heap.size,0,none⟩=some (.int .i64 3)∧W.cell? ⟨w.heap.size,1,none⟩=some (.int .i64 ck)∧W.cell? ⟨w.heap.size,2,none⟩=some (.slice a1 l1 c1)∧W.cell? ⟨w.heap.size,3,none⟩=some (.slice a2 l2 c2)∧W.cell? ⟨w.heap.size,4,none⟩=some (.int .i64 ek)∧W.cell? ⟨w.heap.size,5,none⟩=some (.int .i64 en)∧W.cell? ⟨w.heap.size,6,none⟩=some (.string es)∧W.cell? ⟨w.heap.size,7,none⟩=some (.slice a3 l3 c3)∧W.cell? ⟨w.heap.size,8,none⟩=some (.int .i64 vk)∧W.cell? ⟨w.heap.size,9,none⟩=some (.int .i64 vn)∧W.cell? ⟨w.heap.size,10,none⟩=some (.string vs)∧W.cell? ⟨w.heap.size,11,none⟩=some (.slice a4 l4 c4)∧W.cell? ⟨w.heap.size,12,none⟩=some (.string fs)∧W.cell? ⟨w.heap.size,13,none⟩=some (.int .i64 m)∧W.cell? ⟨w.heap.size,14,none⟩=some (.slice a5 l5 c5)):=fun W hb=>by
  have hn:=heap_alloc_new w (.cells #[.int .i64 3,.int .i64 ck,.slice a1 l1 c1,.slice a2 l2 c2,.int .i64 ek,.int .i64 en,.string es,.slice a3 l3 c3,.int .i64 vk,.int .i64 vn,.string vs,.slice a4 l4 c4,.string fs,.int .i64 m,.slice a5 l5 c5] 100)
  have hl:w.heap.size<(w.alloc (.cells #[.int .i64 3,.int .i64 ck,.slice a1 l1 c1,.slice a2 l2 c2,.int .i64 ek,.int .i64 en,.string es,.slice a3 l3 c3,.int .i64 vk,.int .i64 vn,.string vs,.slice a4 l4 c4,.string fs,.int .i64 m,.slice a5 l5 c5] 100)).heap.size:=by simp
  exact⟨(hb.cell (p:=⟨w.heap.size,0,none⟩) hl).trans ((cell_of_row _ _ _ _ _ _ hn).trans rfl),(hb.cell (p:=⟨w.heap.size,1,none⟩) hl).trans ((cell_of_row _ _ _ _ _ _ hn).trans rfl),(hb.cell (p:=⟨w.heap.size,2,none⟩) hl).trans ((cell_of_row _ _ _ _ _ _ hn).trans rfl),(hb.cell (p:=⟨w.heap.size,3,none⟩) hl).trans ((cell_of_row _ _ _ _ _ _ hn).trans rfl),(hb.cell (p:=⟨w.heap.size,4,none⟩) hl).trans ((cell_of_row _ _ _ _ _ _ hn).trans rfl),(hb.cell (p:=⟨w.heap.size,5,none⟩) hl).trans ((cell_of_row _ _ _ _ _ _ hn).trans rfl),(hb.cell (p:=⟨w.heap.size,6,none⟩) hl).trans ((cell_of_row _ _ _ _ _ _ hn).trans rfl),(hb.cell (p:=⟨w.heap.size,7,none⟩) hl).trans ((cell_of_row _ _ _ _ _ _ hn).trans rfl),(hb.cell (p:=⟨w.heap.size,8,none⟩) hl).trans ((cell_of_row _ _ _ _ _ _ hn).trans rfl),(hb.cell (p:=⟨w.heap.size,9,none⟩) hl).trans ((cell_of_row _ _ _ _ _ _ hn).trans rfl),(hb.cell (p:=⟨w.heap.size,10,none⟩) hl).trans ((cell_of_row _ _ _ _ _ _ hn).trans rfl),(hb.cell (p:=⟨w.heap.size,11,none⟩) hl).trans ((cell_of_row _ _ _ _ _ _ hn).trans rfl),(hb.cell (p:=⟨w.heap.size,12,none⟩) hl).trans ((cell_of_row _ _ _ _ _ _ hn).trans rfl),(hb.cell (p:=⟨w.heap.size,13,none⟩) hl).trans ((cell_of_row _ _ _ _ _ _ hn).trans rfl),(hb.cell (p:=⟨w.heap.size,14,none⟩) hl).trans ((cell_of_row _ _ _ _ _ _ hn).trans rfl)⟩
 have X1:=Lib.hid (h1 _ HA.out)
 clear h1 h2 h3
 by_cases hl1:l5=0
 ·have e1:((l5:Int) != 0)=false:=by rw[hl1];rfl
  have f1:(l5 == 0)=true:=by rw[hl1];rfl
  rw[f1]
  clear hl1 f1
  go_enter Tryz.func94,Tryz.ntmps94
  go_wp2_with fail
  refine X1.out.mono ?_
  rintro r w2 ⟨rfl,hb⟩
  have HB2:=Lib.hid (HA.out.trans (hb.mono HA.out.size))
  have HN2:=Lib.hid (hb)
  clear hb X1
  obtain⟨q0,q1,q2,q3,q4,q5,q6,q7,q8,q9,q10,q11,q12,q13,q14⟩:=HCL.out _ HN2.out
  have X2:=Lib.hid (H2.out _ HB2.out)
  cases z1 with
  | false=>
    clear X2
    go_wp2_with fail
    go_ret
    exact⟨rfl,HB2.out⟩
  | true=>
    go_wp2_with fail
    clear q0 q1 q2 q3 q4 q5 q6 q7 q8 q9 q10 q11 q12 q13 q14
    refine X2.out.mono ?_
    rintro r w3 ⟨rfl,hb⟩
    have HB3:=Lib.hid (HB2.out.trans (hb.mono HB2.out.size))
    have HN3:=Lib.hid (HN2.out.trans (hb.mono HN2.out.size))
    clear hb X2
    obtain⟨q0,q1,q2,q3,q4,q5,q6,q7,q8,q9,q10,q11,q12,q13,q14⟩:=HCL.out _ HN3.out
    have X3:=Lib.hid (H3.out _ HB3.out)
    cases z2 with
    | false=>
      clear X3
      go_wp2_with fail
      go_ret
      exact⟨rfl,HB3.out⟩
    | true=>
      go_wp2_with fail
      clear q0 q1 q2 q3 q4 q5 q6 q7 q8 q9 q10 q11 q12 q13 q14
      refine X3.out.mono ?_
      rintro r w4 ⟨rfl,hb⟩
      have HB4:=Lib.hid (HB3.out.trans (hb.mono HB3.out.size))
      have HN4:=Lib.hid (HN3.out.trans (hb.mono HN3.out.size))
      clear hb X3
      cases z3<;>
      ·go_wp2_with fail
       go_ret
       exact⟨rfl,HB4.out⟩
 ·have e1:((l5:Int) != 0)=true:=by simp;omega
  have f1:(l5 == 0)=false:=by simp;omega
  rw[f1]
  clear hl1 f1
  go_enter Tryz.func94,Tryz.ntmps94
  go_wp2_with fail
  go_ret
  exact⟨rfl,box_low⟩
theorem soundA_4 (ck:Int)(a1:Option Addr)(l1 c1:Nat)(a2:Option Addr)(l2 c2:Nat)(ek en:Int)(es:ByteArray)(a3:Option Addr)(l3 c3:Nat)(vk vn:Int)(vs:ByteArray)(a4:Option Addr)(l4 c4:Nat)(fs:ByteArray)(m:Int)(a5:Option Addr)(l5 c5:Nat)(z1 z2 z3:Bool)(w:World)
 (h1:∀W,Below w.heap.size w W→Calls Tryz.prog 103 #[.slice a5 l5 c5,.func (.func 94) #[] #[]] W fun r w'=>r= .returned (.bool z1)∧Below W.heap.size W w')
 (h2:∀W,Below w.heap.size w W→Calls Tryz.prog 104 #[.agg #[.int .i64 4,.int .i64 ck,.slice a1 l1 c1,.slice a2 l2 c2,.int .i64 ek,.int .i64 en,.string es,.slice a3 l3 c3,.int .i64 vk,.int .i64 vn,.string vs,.slice a4 l4 c4,.string fs,.int .i64 m,.slice a5 l5 c5],.bool false] W (SoundEnd z2 W))
 (h3:∀W,Below w.heap.size w W→Calls Tryz.prog 106 #[.agg #[.int .i64 ck,.slice a1 l1 c1,.slice a2 l2 c2]] W fun r w'=>r= .returned (.bool z3)∧Below W.heap.size W w'):
 Calls Tryz.prog 94 #[.agg #[.int .i64 4,.int .i64 ck,.slice a1 l1 c1,.slice a2 l2 c2,.int .i64 ek,.int .i64 en,.string es,.slice a3 l3 c3,.int .i64 vk,.int .i64 vn,.string vs,.slice a4 l4 c4,.string fs,.int .i64 m,.slice a5 l5 c5]] w (SoundEnd (l5 == 2 && (z1 && (z2 && z3))) w):=by
 have H2:=Lib.hid h2
 have H3:=Lib.hid h3
 have HA:Hid (Below w.heap.size w (w.alloc (.cells #[.int .i64 4,.int .i64 ck,.slice a1 l1 c1,.slice a2 l2 c2,.int .i64 ek,.int .i64 en,.string es,.slice a3 l3 c3,.int .i64 vk,.int .i64 vn,.string vs,.slice a4 l4 c4,.string fs,.int .i64 m,.slice a5 l5 c5] 100))):=box_low
 have HCL:Hid (∀W,Below (w.alloc (.cells #[.int .i64 4,.int .i64 ck,.slice a1 l1 c1,.slice a2 l2 c2,.int .i64 ek,.int .i64 en,.string es,.slice a3 l3 c3,.int .i64 vk,.int .i64 vn,.string vs,.slice a4 l4 c4,.string fs,.int .i64 m,.slice a5 l5 c5] 100)).heap.size (w.alloc (.cells #[.int .i64 4,.int .i64 ck,.slice a1 l1 c1,.slice a2 l2 c2,.int .i64 ek,.int .i64 en,.string es,.slice a3 l3 c3,.int .i64 vk,.int .i64 vn,.string vs,.slice a4 l4 c4,.string fs,.int .i64 m,.slice a5 l5 c5] 100)) W→W.cell? ⟨w.heap.size,0,none⟩=some (.int .i64 4)∧W.cell? ⟨w.heap.size,1,none⟩=some (.int .i64 ck)∧W.cell? ⟨w.heap.size,2,none⟩=some (.slice a1 l1 c1)∧W.cell? ⟨w.heap.size,3,none⟩=some (.slice a2 l2 c2)∧W.cell? ⟨w.heap.size,4,none⟩=some (.int .i64 ek)∧W.cell? ⟨w.heap.size,5,none⟩=some (.int .i64 en)∧W.cell? ⟨w.heap.size,6,none⟩=some (.string es)∧W.cell? ⟨w.heap.size,7,none⟩=some (.slice a3 l3 c3)∧W.cell? ⟨w.heap.size,8,none⟩=some (.int .i64 vk)∧W.cell? ⟨w.heap.size,9,none⟩=some (.int .i64 vn)∧W.cell? ⟨w.heap.size,10,none⟩=some (.string vs)∧W.cell? ⟨w.heap.size,11,none⟩=some (.slice a4 l4 c4)∧W.cell? ⟨w.heap.size,12,none⟩=some (.string fs)∧W.cell? ⟨w.heap.size,13,none⟩=some (.int .i64 m)∧W.cell? ⟨w.heap.size,14,none⟩=some (.slice a5 l5 c5)):=fun W hb=>by
  have hn:=heap_alloc_new w (.cells #[.int .i64 4,.int .i64 ck,.slice a1 l1 c1,.slice a2 l2 c2,.int .i64 ek,.int .i64 en,.string es,.slice a3 l3 c3,.int .i64 vk,.int .i64 vn,.string vs,.slice a4 l4 c4,.string fs,.int .i64 m,.slice a5 l5 c5] 100)
  have hl:w.heap.size<(w.alloc (.cells #[.int .i64 4,.int .i64 ck,.slice a1 l1 c1,.slice a2 l2 c2,.int .i64 ek,.int .i64 en,.string es,.slice a3 l3 c3,.int .i64 vk,.int .i64 vn,.string vs,.slice a4 l4 c4,.string fs,.int .i64 m,.slice a5 l5 c5] 100)).heap.size:=by simp
  exact⟨(hb.cell (p:=⟨w.heap.size,0,none⟩) hl).trans ((cell_of_row _ _ _ _ _ _ hn).trans rfl),(hb.cell (p:=⟨w.heap.size,1,none⟩) hl).trans ((cell_of_row _ _ _ _ _ _ hn).trans rfl),(hb.cell (p:=⟨w.heap.size,2,none⟩) hl).trans ((cell_of_row _ _ _ _ _ _ hn).trans rfl),(hb.cell (p:=⟨w.heap.size,3,none⟩) hl).trans ((cell_of_row _ _ _ _ _ _ hn).trans rfl),(hb.cell (p:=⟨w.heap.size,4,none⟩) hl).trans ((cell_of_row _ _ _ _ _ _ hn).trans rfl),(hb.cell (p:=⟨w.heap.size,5,none⟩) hl).trans ((cell_of_row _ _ _ _ _ _ hn).trans rfl),(hb.cell (p:=⟨w.heap.size,6,none⟩) hl).trans ((cell_of_row _ _ _ _ _ _ hn).trans rfl),(hb.cell (p:=⟨w.heap.size,7,none⟩) hl).trans ((cell_of_row _ _ _ _ _ _ hn).trans rfl),(hb.cell (p:=⟨w.heap.size,8,none⟩) hl).trans ((cell_of_row _ _ _ _ _ _ hn).trans rfl),(hb.cell (p:=⟨w.heap.size,9,none⟩) hl).trans ((cell_of_row _ _ _ _ _ _ hn).trans rfl),(hb.cell (p:=⟨w.heap.size,10,none⟩) hl).trans ((cell_of_row _ _ _ _ _ _ hn).trans rfl),(hb.cell (p:=⟨w.heap.size,11,none⟩) hl).trans ((cell_of_row _ _ _ _ _ _ hn).trans rfl),(hb.cell (p:=⟨w.heap.size,12,none⟩) hl).trans ((cell_of_row _ _ _ _ _ _ hn).trans rfl),(hb.cell (p:=⟨w.heap.size,13,none⟩) hl).trans ((cell_of_row _ _ _ _ _ _ hn).trans rfl),(hb.cell (p:=⟨w.heap.size,14,none⟩) hl).trans ((cell_of_row _ _ _ _ _ _ hn).trans rfl)⟩
 have X1:=Lib.hid (h1 _ HA.out)
 clear h1 h2 h3
 by_cases hl1:l5=2
 ·have e1:((l5:Int) != 2)=false:=by rw[hl1];rfl
  have f1:(l5 == 2)=true:=by rw[hl1];rfl
  rw[f1]
  clear hl1 f1
  go_enter Tryz.func94,Tryz.ntmps94
  go_wp2_with fail
  refine X1.out.mono ?_
  rintro r w2 ⟨rfl,hb⟩
  have HB2:=Lib.hid (HA.out.trans (hb.mono HA.out.size))
  have HN2:=Lib.hid (hb)
  clear hb X1
  obtain⟨q0,q1,q2,q3,q4,q5,q6,q7,q8,q9,q10,q11,q12,q13,q14⟩:=HCL.out _ HN2.out
  have X2:=Lib.hid (H2.out _ HB2.out)
  cases z1 with
  | false=>
    clear X2
    go_wp2_with fail
    go_ret
    exact⟨rfl,HB2.out⟩
  | true=>
    go_wp2_with fail
    clear q0 q1 q2 q3 q4 q5 q6 q7 q8 q9 q10 q11 q12 q13 q14
    refine X2.out.mono ?_
    rintro r w3 ⟨rfl,hb⟩
    have HB3:=Lib.hid (HB2.out.trans (hb.mono HB2.out.size))
    have HN3:=Lib.hid (HN2.out.trans (hb.mono HN2.out.size))
    clear hb X2
    obtain⟨q0,q1,q2,q3,q4,q5,q6,q7,q8,q9,q10,q11,q12,q13,q14⟩:=HCL.out _ HN3.out
    have X3:=Lib.hid (H3.out _ HB3.out)
    cases z2 with
    | false=>
      clear X3
      go_wp2_with fail
      go_ret
      exact⟨rfl,HB3.out⟩
    | true=>
      go_wp2_with fail
      clear q0 q1 q2 q3 q4 q5 q6 q7 q8 q9 q10 q11 q12 q13 q14
      refine X3.out.mono ?_
      rintro r w4 ⟨rfl,hb⟩
      have HB4:=Lib.hid (HB3.out.trans (hb.mono HB3.out.size))
      have HN4:=Lib.hid (HN3.out.trans (hb.mono HN3.out.size))
      clear hb X3
      cases z3<;>
      ·go_wp2_with fail
       go_ret
       exact⟨rfl,HB4.out⟩
 ·have e1:((l5:Int) != 2)=true:=by simp;omega
  have f1:(l5 == 2)=false:=by simp;omega
  rw[f1]
  clear hl1 f1
  go_enter Tryz.func94,Tryz.ntmps94
  go_wp2_with fail
  go_ret
  exact⟨rfl,box_low⟩
theorem soundA_5 (ck:Int)(a1:Option Addr)(l1 c1:Nat)(a2:Option Addr)(l2 c2:Nat)(ek en:Int)(es:ByteArray)(a3:Option Addr)(l3 c3:Nat)(vk vn:Int)(vs:ByteArray)(a4:Option Addr)(l4 c4:Nat)(fs:ByteArray)(m:Int)(a5:Option Addr)(l5 c5:Nat)(z1 z2 z3:Bool)(w:World)
 (h1:∀W,Below w.heap.size w W→Calls Tryz.prog 103 #[.slice a5 l5 c5,.func (.func 94) #[] #[]] W fun r w'=>r= .returned (.bool z1)∧Below W.heap.size W w')
 (h2:∀W,Below w.heap.size w W→Calls Tryz.prog 104 #[.agg #[.int .i64 5,.int .i64 ck,.slice a1 l1 c1,.slice a2 l2 c2,.int .i64 ek,.int .i64 en,.string es,.slice a3 l3 c3,.int .i64 vk,.int .i64 vn,.string vs,.slice a4 l4 c4,.string fs,.int .i64 m,.slice a5 l5 c5],.bool false] W (SoundEnd z2 W))
 (h3:∀W,Below w.heap.size w W→Calls Tryz.prog 105 #[.agg #[.int .i64 ck,.slice a1 l1 c1,.slice a2 l2 c2]] W fun r w'=>r= .returned (.bool z3)∧Below W.heap.size W w'):
 Calls Tryz.prog 94 #[.agg #[.int .i64 5,.int .i64 ck,.slice a1 l1 c1,.slice a2 l2 c2,.int .i64 ek,.int .i64 en,.string es,.slice a3 l3 c3,.int .i64 vk,.int .i64 vn,.string vs,.slice a4 l4 c4,.string fs,.int .i64 m,.slice a5 l5 c5]] w (SoundEnd (l5 == 2 && (z1 && (z2 && z3))) w):=by
 have H2:=Lib.hid h2
 have H3:=Lib.hid h3
 have HA:Hid (Below w.heap.size w (w.alloc (.cells #[.int .i64 5,.int .i64 ck,.slice a1 l1 c1,.slice a2 l2 c2,.int .i64 ek,.int .i64 en,.string es,.slice a3 l3 c3,.int .i64 vk,.int .i64 vn,.string vs,.slice a4 l4 c4,.string fs,.int .i64 m,.slice a5 l5 c5] 100))):=box_low
 have HCL:Hid (∀W,Below (w.alloc (.cells #[.int .i64 5,.int .i64 ck,.slice a1 l1 c1,.slice a2 l2 c2,.int .i64 ek,.int .i64 en,.string es,.slice a3 l3 c3,.int .i64 vk,.int .i64 vn,.string vs,.slice a4 l4 c4,.string fs,.int .i64 m,.slice a5 l5 c5] 100)).heap.size (w.alloc (.cells #[.int .i64 5,.int .i64 ck,.slice a1 l1 c1,.slice a2 l2 c2,.int .i64 ek,.int .i64 en,.string es,.slice a3 l3 c3,.int .i64 vk,.int .i64 vn,.string vs,.slice a4 l4 c4,.string fs,.int .i64 m,.slice a5 l5 c5] 100)) W→W.cell? ⟨w.heap.size,0,none⟩=some (.int .i64 5)∧W.cell? ⟨w.heap.size,1,none⟩=some (.int .i64 ck)∧W.cell? ⟨w.heap.size,2,none⟩=some (.slice a1 l1 c1)∧W.cell? ⟨w.heap.size,3,none⟩=some (.slice a2 l2 c2)∧W.cell? ⟨w.heap.size,4,none⟩=some (.int .i64 ek)∧W.cell? ⟨w.heap.size,5,none⟩=some (.int .i64 en)∧W.cell? ⟨w.heap.size,6,none⟩=some (.string es)∧W.cell? ⟨w.heap.size,7,none⟩=some (.slice a3 l3 c3)∧W.cell? ⟨w.heap.size,8,none⟩=some (.int .i64 vk)∧W.cell? ⟨w.heap.size,9,none⟩=some (.int .i64 vn)∧W.cell? ⟨w.heap.size,10,none⟩=some (.string vs)∧W.cell? ⟨w.heap.size,11,none⟩=some (.slice a4 l4 c4)∧W.cell? ⟨w.heap.size,12,none⟩=some (.string fs)∧W.cell? ⟨w.heap.size,13,none⟩=some (.int .i64 m)∧W.cell? ⟨w.heap.size,14,none⟩=some (.slice a5 l5 c5)):=fun W hb=>by
  have hn:=heap_alloc_new w (.cells #[.int .i64 5,.int .i64 ck,.slice a1 l1 c1,.slice a2 l2 c2,.int .i64 ek,.int .i64 en,.string es,.slice a3 l3 c3,.int .i64 vk,.int .i64 vn,.string vs,.slice a4 l4 c4,.string fs,.int .i64 m,.slice a5 l5 c5] 100)
  have hl:w.heap.size<(w.alloc (.cells #[.int .i64 5,.int .i64 ck,.slice a1 l1 c1,.slice a2 l2 c2,.int .i64 ek,.int .i64 en,.string es,.slice a3 l3 c3,.int .i64 vk,.int .i64 vn,.string vs,.slice a4 l4 c4,.string fs,.int .i64 m,.slice a5 l5 c5] 100)).heap.size:=by simp
  exact⟨(hb.cell (p:=⟨w.heap.size,0,none⟩) hl).trans ((cell_of_row _ _ _ _ _ _ hn).trans rfl),(hb.cell (p:=⟨w.heap.size,1,none⟩) hl).trans ((cell_of_row _ _ _ _ _ _ hn).trans rfl),(hb.cell (p:=⟨w.heap.size,2,none⟩) hl).trans ((cell_of_row _ _ _ _ _ _ hn).trans rfl),(hb.cell (p:=⟨w.heap.size,3,none⟩) hl).trans ((cell_of_row _ _ _ _ _ _ hn).trans rfl),(hb.cell (p:=⟨w.heap.size,4,none⟩) hl).trans ((cell_of_row _ _ _ _ _ _ hn).trans rfl),(hb.cell (p:=⟨w.heap.size,5,none⟩) hl).trans ((cell_of_row _ _ _ _ _ _ hn).trans rfl),(hb.cell (p:=⟨w.heap.size,6,none⟩) hl).trans ((cell_of_row _ _ _ _ _ _ hn).trans rfl),(hb.cell (p:=⟨w.heap.size,7,none⟩) hl).trans ((cell_of_row _ _ _ _ _ _ hn).trans rfl),(hb.cell (p:=⟨w.heap.size,8,none⟩) hl).trans ((cell_of_row _ _ _ _ _ _ hn).trans rfl),(hb.cell (p:=⟨w.heap.size,9,none⟩) hl).trans ((cell_of_row _ _ _ _ _ _ hn).trans rfl),(hb.cell (p:=⟨w.heap.size,10,none⟩) hl).trans ((cell_of_row _ _ _ _ _ _ hn).trans rfl),(hb.cell (p:=⟨w.heap.size,11,none⟩) hl).trans ((cell_of_row _ _ _ _ _ _ hn).trans rfl),(hb.cell (p:=⟨w.heap.size,12,none⟩) hl).trans ((cell_of_row _ _ _ _ _ _ hn).trans rfl),(hb.cell (p:=⟨w.heap.size,13,none⟩) hl).trans ((cell_of_row _ _ _ _ _ _ hn).trans rfl),(hb.cell (p:=⟨w.heap.size,14,none⟩) hl).trans ((cell_of_row _ _ _ _ _ _ hn).trans rfl)⟩
 have X1:=Lib.hid (h1 _ HA.out)
 clear h1 h2 h3
 by_cases hl1:l5=2
 ·have e1:((l5:Int) != 2)=false:=by rw[hl1];rfl
  have f1:(l5 == 2)=true:=by rw[hl1];rfl
  rw[f1]
  clear hl1 f1
  go_enter Tryz.func94,Tryz.ntmps94
  go_wp2_with fail
  refine X1.out.mono ?_
  rintro r w2 ⟨rfl,hb⟩
  have HB2:=Lib.hid (HA.out.trans (hb.mono HA.out.size))
  have HN2:=Lib.hid (hb)
  clear hb X1
  obtain⟨q0,q1,q2,q3,q4,q5,q6,q7,q8,q9,q10,q11,q12,q13,q14⟩:=HCL.out _ HN2.out
  have X2:=Lib.hid (H2.out _ HB2.out)
  cases z1 with
  | false=>
    clear X2
    go_wp2_with fail
    go_ret
    exact⟨rfl,HB2.out⟩
  | true=>
    go_wp2_with fail
    clear q0 q1 q2 q3 q4 q5 q6 q7 q8 q9 q10 q11 q12 q13 q14
    refine X2.out.mono ?_
    rintro r w3 ⟨rfl,hb⟩
    have HB3:=Lib.hid (HB2.out.trans (hb.mono HB2.out.size))
    have HN3:=Lib.hid (HN2.out.trans (hb.mono HN2.out.size))
    clear hb X2
    obtain⟨q0,q1,q2,q3,q4,q5,q6,q7,q8,q9,q10,q11,q12,q13,q14⟩:=HCL.out _ HN3.out
    have X3:=Lib.hid (H3.out _ HB3.out)
    cases z2 with
    | false=>
      clear X3
      go_wp2_with fail
      go_ret
      exact⟨rfl,HB3.out⟩
    | true=>
      go_wp2_with fail
      clear q0 q1 q2 q3 q4 q5 q6 q7 q8 q9 q10 q11 q12 q13 q14
      refine X3.out.mono ?_
      rintro r w4 ⟨rfl,hb⟩
      have HB4:=Lib.hid (HB3.out.trans (hb.mono HB3.out.size))
      have HN4:=Lib.hid (HN3.out.trans (hb.mono HN3.out.size))
      clear hb X3
      cases z3<;>
      ·go_wp2_with fail
       go_ret
       exact⟨rfl,HB4.out⟩
 ·have e1:((l5:Int) != 2)=true:=by simp;omega
  have f1:(l5 == 2)=false:=by simp;omega
  rw[f1]
  clear hl1 f1
  go_enter Tryz.func94,Tryz.ntmps94
  go_wp2_with fail
  go_ret
  exact⟨rfl,box_low⟩
theorem soundA_x (k:Int)(ck:Int)(a1:Option Addr)(l1 c1:Nat)(a2:Option Addr)(l2 c2:Nat)(ek en:Int)(es:ByteArray)(a3:Option Addr)(l3 c3:Nat)(vk vn:Int)(vs:ByteArray)(a4:Option Addr)(l4 c4:Nat)(fs:ByteArray)(m:Int)(a5:Option Addr)(l5 c5:Nat)(w:World)(h:¬(0≤k∧k≤5)):Calls Tryz.prog 94 #[.agg #[.int .i64 k,.int .i64 ck,.slice a1 l1 c1,.slice a2 l2 c2,.int .i64 ek,.int .i64 en,.string es,.slice a3 l3 c3,.int .i64 vk,.int .i64 vn,.string vs,.slice a4 l4 c4,.string fs,.int .i64 m,.slice a5 l5 c5]] w (SoundEnd false w):=by
 have h0:(k == 0)=false:=by simp;omega
 have h1:(k == 1)=false:=by simp;omega
 have h2:(k == 2)=false:=by simp;omega
 have h3:(k == 3)=false:=by simp;omega
 have h4:(k == 4)=false:=by simp;omega
 have h5:(k == 5)=false:=by simp;omega
 clear h
 go_enter Tryz.func94,Tryz.ntmps94
 go_wp2_with fail
 go_ret
 exact⟨rfl,box_low⟩
theorem soundA_any {nm:ByteArray→Bool}{L:World→Prop}(hN:NameLaw nm L):∀(n:Nat) (a:AT) (cs:List Value) (w:World),(assnSh n).rel (Pak.Lo w.heap.size) w cs a→L w→
 Calls Tryz.prog 94 #[.agg cs.toArray] w (SoundEnd (snA nm n a) w)
 | 0,_,_,_,h,_=>h.elim
 | n+1,a,cs,w,h,hL=>by
   have IH:=soundA_any hN n
   obtain⟨k,a1,c1,a2,c2,a3,c3,a4,c4,a5,c5,rfl,rfl,⟨_,_,hfz⟩,hc,he,hv,hs⟩:=assn_form h
   have hL':=fun W (hb:Below w.heap.size w W)=>hN.keep hL hb
   have h1:=fun W (hb:Below w.heap.size w W)=>allA_any (k+1) 94 (snA nm (k+1)) a5 a.ks.length c5 a.ks W (fun args w=>by kernel_rfl) rfl (hs.below hb hb.size) (fun cs x W' hx hb' hr=>IH x cs W' hr (hN.keep (hL' W hb) hb'))
   have hsc:=fun W (hb:Below w.heap.size w W)=>soundC_any hN (k+1) a.c _ W (rel_low hc hb) (hL' W hb)
   have hnc:=fun W (hb:Below w.heap.size w W)=>noC_any (k+1) a.c _ W (rel_low hc hb)
   have hse:=fun W (hb:Below w.heap.size w W)=>soundE_any hN (k+1) a.e _ W (rel_low he hb) (hL' W hb)
   have hne:=fun W (hb:Below w.heap.size w W)=>noE_any (k+1) a.e _ W (rel_low he hb)
   have hsv:=fun W (hb:Below w.heap.size w W)=>soundE_any hN (k+1) a.v _ W (rel_low hv hb) (hL' W hb)
   have hnv:=fun W (hb:Below w.heap.size w W)=>noE_any (k+1) a.v _ W (rel_low hv hb)
   have hnf:=fun W (hb:Below w.heap.size w W)=>hN.run a.field W hfz (hL' W hb)
   have hsn:=fun W (hb:Below w.heap.size w W)=>share_no a.kind a.c.kind a1 a.c.es.length c1 a2 a.c.ks.length c2 a.e.kind a.e.n a.e.name a3 a.e.ks.length c3 a.v.kind a.v.n a.v.name a4 a.v.ks.length c4 a.field a.n a5 a.ks.length c5 _ _ W (fun W' hb'=>hne W' (hb.trans (hb'.mono hb.size))) (fun W' hb'=>hnv W' (hb.trans (hb'.mono hb.size)))
   have hs2:=fun W (hb:Below w.heap.size w W)=>share_2 a.c.kind a1 a.c.es.length c1 a2 a.c.ks.length c2 a.e.kind a.e.n a.e.name a3 a.e.ks.length c3 a.v.kind a.v.n a.v.name a4 a.v.ks.length c4 a.field a.n a5 a.ks.length c5 _ _ _ W (fun W' hb'=>hnv W' (hb.trans (hb'.mono hb.size))) (fun W' hb'=>hse W' (hb.trans (hb'.mono hb.size))) (fun W' hb'=>hnf W' (hb.trans (hb'.mono hb.size)))
   have hs3:=fun W (hb:Below w.heap.size w W)=>share_3 a.c.kind a1 a.c.es.length c1 a2 a.c.ks.length c2 a.e.kind a.e.n a.e.name a3 a.e.ks.length c3 a.v.kind a.v.n a.v.name a4 a.v.ks.length c4 a.field a.n a5 a.ks.length c5 _ _ _ W (fun W' hb'=>hsv W' (hb.trans (hb'.mono hb.size))) (fun W' hb'=>hse W' (hb.trans (hb'.mono hb.size))) (fun W' hb'=>hnf W' (hb.trans (hb'.mono hb.size)))
   unfold snA
   by_cases hk:0≤a.kind∧a.kind≤5
   ·rw[if_pos hk]
    unfold shA
    have hkk:a.kind=0∨a.kind=1∨a.kind=2∨a.kind=3∨a.kind=4∨a.kind=5:=by omega
    rcases hkk with hk | hk | hk | hk | hk | hk
    ·rw[hk]at hsn⊢
     exact soundA_0 _ _ _ _ _ _ _ _ _ _ _ _ _ _ _ _ _ _ _ _ _ _ _ _ _ _ _ w h1 hsn hnc
    ·rw[hk]at hsn⊢
     exact soundA_1 _ _ _ _ _ _ _ _ _ _ _ _ _ _ _ _ _ _ _ _ _ _ _ _ _ _ _ w h1 hsn hsc
    ·rw[hk]at hsn⊢
     exact soundA_2 _ _ _ _ _ _ _ _ _ _ _ _ _ _ _ _ _ _ _ _ _ _ _ _ _ _ _ w h1 hs2 hnc
    ·rw[hk]at hsn⊢
     exact soundA_3 _ _ _ _ _ _ _ _ _ _ _ _ _ _ _ _ _ _ _ _ _ _ _ _ _ _ _ w h1 hs3 hnc
    ·rw[hk]at hsn⊢
     exact soundA_4 _ _ _ _ _ _ _ _ _ _ _ _ _ _ _ _ _ _ _ _ _ _ _ _ _ _ _ w h1 hsn hnc
    ·rw[hk]at hsn⊢
     exact soundA_5 _ _ _ _ _ _ _ _ _ _ _ _ _ _ _ _ _ _ _ _ _ _ _ _ _ _ _ w h1 hsn hsc
   ·rw[if_neg hk]
    exact soundA_x _ _ _ _ _ _ _ _ _ _ _ _ _ _ _ _ _ _ _ _ _ _ _ _ _ w hk
end
section
open Go.RowKit
theorem noA_box (k:Int)(ck:Int)(a1:Option Addr)(l1 c1:Nat)(a2:Option Addr)(l2 c2:Nat)(ek en:Int)(es:ByteArray)(a3:Option Addr)(l3 c3:Nat)(vk vn:Int)(vs:ByteArray)(a4:Option Addr)(l4 c4:Nat)(fs:ByteArray)(m:Int)(a5:Option Addr)(l5 c5:Nat)(z:Bool)(w:World)(h1:∀W,Below w.heap.size w W→Calls Tryz.prog 94 #[.agg #[.int .i64 k,.int .i64 ck,.slice a1 l1 c1,.slice a2 l2 c2,.int .i64 ek,.int .i64 en,.string es,.slice a3 l3 c3,.int .i64 vk,.int .i64 vn,.string vs,.slice a4 l4 c4,.string fs,.int .i64 m,.slice a5 l5 c5]] W (SoundEnd z W)):
 Calls Tryz.prog 114 #[.agg #[.int .i64 k,.int .i64 ck,.slice a1 l1 c1,.slice a2 l2 c2,.int .i64 ek,.int .i64 en,.string es,.slice a3 l3 c3,.int .i64 vk,.int .i64 vn,.string vs,.slice a4 l4 c4,.string fs,.int .i64 m,.slice a5 l5 c5]] w (SoundEnd (k == 0 && z) w):=by
 have HA:Hid (Below w.heap.size w (w.alloc (.cells #[.int .i64 k,.int .i64 ck,.slice a1 l1 c1,.slice a2 l2 c2,.int .i64 ek,.int .i64 en,.string es,.slice a3 l3 c3,.int .i64 vk,.int .i64 vn,.string vs,.slice a4 l4 c4,.string fs,.int .i64 m,.slice a5 l5 c5] 100))):=box_low
 have X1:=Lib.hid (h1 _ HA.out)
 clear h1
 by_cases hk:k=0
 ·subst hk
  go_enter Tryz.func114,Tryz.ntmps114
  go_wp2_with fail
  refine X1.out.mono ?_
  rintro r w2 ⟨rfl,hb⟩
  have HB2:=Lib.hid (HA.out.trans (hb.mono HA.out.size))
  clear hb X1
  go_wp2_with fail
  go_ret
  exact⟨by simp,HB2.out⟩
 ·have e1:(k == 0)=false:=by simp[hk]
  rw[e1]
  go_enter Tryz.func114,Tryz.ntmps114
  go_wp2_with fail
  go_ret
  exact⟨rfl,box_low⟩
def noA (nm:ByteArray→Bool)(n:Nat)(a:AT):Bool:=a.kind == 0 && snA nm n a
theorem noA_any {nm:ByteArray→Bool}{L:World→Prop}(hN:NameLaw nm L)(n:Nat)(a:AT)(cs:List Value)(w:World)(h:(assnSh n).rel (Pak.Lo w.heap.size) w cs a)(hL:L w):
 Calls Tryz.prog 114 #[.agg cs.toArray] w (SoundEnd (noA nm n a) w):=by
 cases n with
 | zero=>exact h.elim
 | succ n=>
   have h1:=fun W (hb:Below w.heap.size w W)=>soundA_any hN (n+1) a cs W (rel_low h hb) (hN.keep hL hb)
   obtain⟨k,a1,c1,a2,c2,a3,c3,a4,c4,a5,c5,rfl,rfl, -⟩:=assn_form h
   exact noA_box _ _ _ _ _ _ _ _ _ _ _ _ _ _ _ _ _ _ _ _ _ _ _ _ _ _ w h1
end
section
open Go.RowKit
theorem bs_ne {f g:ByteArray}(h:¬f=g):(f.toList == g.toList)=false:=by
 refine beq_eq_false_iff_ne.2 fun e=>h ?_
 rw[Lib.toList_data,Lib.toList_data]at e
 cases f;cases g
 simp only[ByteArray.mk.injEq]
 exact Array.toList_inj.1 e
end
end Go.Proofs.YtjbkhdbjdahbiaaGreatDoor
