/- Parts of a proof. -/
import Derived.Test.YtjbkhdbjdahbiaaGreatDoorQ06
set_option linter.unusedVariables false
set_option linter.unusedSimpArgs false
set_option maxHeartbeats 60000000
set_option maxRecDepth 100000
namespace Go.Proofs.YtjbkhdbjdahbiaaGreatDoor
section
open Go.RowKit
def esC (k:Int):Nat:=if 2≤k∧k≤5 then 2 else 0
def ksC (k:Int):Nat:=if k=6 then 1 else if k=7∨k=8 then 2 else 0
def snC (nm:ByteArray→Bool):Nat→CT→Bool
 | 0,_=>false
 | n+1,c=>if 0≤c.kind∧c.kind≤8 then c.es.length == esC c.kind && c.ks.length == ksC c.kind && c.es.all (snE nm n) && c.ks.all (snC nm n) else false
theorem soundC_0 (a1 a2:Option Addr)(l1 c1 l2 c2:Nat)(z1 z2:Bool)(w:World)
 (h1:Calls Tryz.prog 134 #[.slice a1 l1 c1,.func (.func 110) #[] #[]] (w.alloc (.cells #[.int .i64 0,.slice a1 l1 c1,.slice a2 l2 c2] 52)) fun r w'=>r= .returned (.bool z1)∧Below (w.alloc (.cells #[.int .i64 0,.slice a1 l1 c1,.slice a2 l2 c2] 52)).heap.size (w.alloc (.cells #[.int .i64 0,.slice a1 l1 c1,.slice a2 l2 c2] 52)) w')
 (h2:∀W,Below w.heap.size w W→Below (w.alloc (.cells #[.int .i64 0,.slice a1 l1 c1,.slice a2 l2 c2] 52)).heap.size (w.alloc (.cells #[.int .i64 0,.slice a1 l1 c1,.slice a2 l2 c2] 52)) W→Calls Tryz.prog 135 #[.slice a2 l2 c2,.func (.func 105) #[] #[]] W fun r w'=>r= .returned (.bool z2)∧Below W.heap.size W w'):
 Calls Tryz.prog 105 #[.agg #[.int .i64 0,.slice a1 l1 c1,.slice a2 l2 c2]] w (SoundEnd (l1 == 0 && l2 == 0 && z1 && z2) w):=by
 have H1:=Lib.hid h1
 have H2:=Lib.hid h2
 clear h1 h2
 have HA:Hid (Below w.heap.size w (w.alloc (.cells #[.int .i64 0,.slice a1 l1 c1,.slice a2 l2 c2] 52))):=box_low
 have HCL:Hid (∀W,Below (w.alloc (.cells #[.int .i64 0,.slice a1 l1 c1,.slice a2 l2 c2] 52)).heap.size (w.alloc (.cells #[.int .i64 0,.slice a1 l1 c1,.slice a2 l2 c2] 52)) W→W.cell? ⟨w.heap.size,2,none⟩=some (.slice a2 l2 c2)):=fun W hb=>by
  have hn:=heap_alloc_new w (.cells #[.int .i64 0,.slice a1 l1 c1,.slice a2 l2 c2] 52)
  have hl:w.heap.size<(w.alloc (.cells #[.int .i64 0,.slice a1 l1 c1,.slice a2 l2 c2] 52)).heap.size:=by simp
  exact(hb.cell (p:=⟨w.heap.size,2,none⟩) hl).trans ((cell_of_row _ _ _ _ _ _ hn).trans rfl)
 by_cases hl1:l1=0
 ·have e1:((l1:Int) == 0)=true:=by rw[hl1];rfl
  have f1:(l1 == 0)=true:=by rw[hl1];rfl
  rw[f1]
  clear hl1 f1
  by_cases hl2:l2=0
  ·have e2:((l2:Int) == 0)=true:=by rw[hl2];rfl
   have f2:(l2 == 0)=true:=by rw[hl2];rfl
   rw[f2]
   clear hl2 f2
   go_enter Tryz.func105,Tryz.ntmps105
   go_wp2_with fail
   refine H1.out.mono ?_
   rintro r w2 ⟨rfl,hb⟩
   have q2:=HCL.out _ hb
   have HB:=Lib.hid (HA.out.trans (hb.mono HA.out.size))
   have H3:=Lib.hid (H2.out _ HB.out hb)
   clear hb H1 H2 HCL HA
   cases z1 with
   | false=>
     go_wp2_with fail
     go_ret
     exact⟨rfl,HB.out⟩
   | true=>
     go_wp2_with fail
     refine H3.out.mono ?_
     rintro r w3 ⟨rfl,hb3⟩
     have HB3:=Lib.hid (HB.out.trans (hb3.mono HB.out.size))
     clear hb3 H3 q2 HB
     go_wp2_with fail
     go_ret
     exact⟨rfl,HB3.out⟩
  ·have e2:((l2:Int) == 0)=false:=by simp;omega
   have f2:(l2 == 0)=false:=by simp;omega
   rw[f2]
   clear hl2 f2
   go_enter Tryz.func105,Tryz.ntmps105
   go_wp2_with fail
   go_ret
   exact⟨rfl,box_low⟩
 ·have e1:((l1:Int) == 0)=false:=by simp;omega
  have f1:(l1 == 0)=false:=by simp;omega
  rw[f1]
  clear hl1 f1
  go_enter Tryz.func105,Tryz.ntmps105
  go_wp2_with fail
  go_ret
  exact⟨rfl,box_low⟩
theorem soundC_1 (a1 a2:Option Addr)(l1 c1 l2 c2:Nat)(z1 z2:Bool)(w:World)
 (h1:Calls Tryz.prog 134 #[.slice a1 l1 c1,.func (.func 110) #[] #[]] (w.alloc (.cells #[.int .i64 1,.slice a1 l1 c1,.slice a2 l2 c2] 52)) fun r w'=>r= .returned (.bool z1)∧Below (w.alloc (.cells #[.int .i64 1,.slice a1 l1 c1,.slice a2 l2 c2] 52)).heap.size (w.alloc (.cells #[.int .i64 1,.slice a1 l1 c1,.slice a2 l2 c2] 52)) w')
 (h2:∀W,Below w.heap.size w W→Below (w.alloc (.cells #[.int .i64 1,.slice a1 l1 c1,.slice a2 l2 c2] 52)).heap.size (w.alloc (.cells #[.int .i64 1,.slice a1 l1 c1,.slice a2 l2 c2] 52)) W→Calls Tryz.prog 135 #[.slice a2 l2 c2,.func (.func 105) #[] #[]] W fun r w'=>r= .returned (.bool z2)∧Below W.heap.size W w'):
 Calls Tryz.prog 105 #[.agg #[.int .i64 1,.slice a1 l1 c1,.slice a2 l2 c2]] w (SoundEnd (l1 == 0 && l2 == 0 && z1 && z2) w):=by
 have H1:=Lib.hid h1
 have H2:=Lib.hid h2
 clear h1 h2
 have HA:Hid (Below w.heap.size w (w.alloc (.cells #[.int .i64 1,.slice a1 l1 c1,.slice a2 l2 c2] 52))):=box_low
 have HCL:Hid (∀W,Below (w.alloc (.cells #[.int .i64 1,.slice a1 l1 c1,.slice a2 l2 c2] 52)).heap.size (w.alloc (.cells #[.int .i64 1,.slice a1 l1 c1,.slice a2 l2 c2] 52)) W→W.cell? ⟨w.heap.size,2,none⟩=some (.slice a2 l2 c2)):=fun W hb=>by
  have hn:=heap_alloc_new w (.cells #[.int .i64 1,.slice a1 l1 c1,.slice a2 l2 c2] 52)
  have hl:w.heap.size<(w.alloc (.cells #[.int .i64 1,.slice a1 l1 c1,.slice a2 l2 c2] 52)).heap.size:=by simp
  exact(hb.cell (p:=⟨w.heap.size,2,none⟩) hl).trans ((cell_of_row _ _ _ _ _ _ hn).trans rfl)
 by_cases hl1:l1=0
 ·have e1:((l1:Int) == 0)=true:=by rw[hl1];rfl
  have f1:(l1 == 0)=true:=by rw[hl1];rfl
  rw[f1]
  clear hl1 f1
  by_cases hl2:l2=0
  ·have e2:((l2:Int) == 0)=true:=by rw[hl2];rfl
   have f2:(l2 == 0)=true:=by rw[hl2];rfl
   rw[f2]
   clear hl2 f2
   go_enter Tryz.func105,Tryz.ntmps105
   go_wp2_with fail
   refine H1.out.mono ?_
   rintro r w2 ⟨rfl,hb⟩
   have q2:=HCL.out _ hb
   have HB:=Lib.hid (HA.out.trans (hb.mono HA.out.size))
   have H3:=Lib.hid (H2.out _ HB.out hb)
   clear hb H1 H2 HCL HA
   cases z1 with
   | false=>
     go_wp2_with fail
     go_ret
     exact⟨rfl,HB.out⟩
   | true=>
     go_wp2_with fail
     refine H3.out.mono ?_
     rintro r w3 ⟨rfl,hb3⟩
     have HB3:=Lib.hid (HB.out.trans (hb3.mono HB.out.size))
     clear hb3 H3 q2 HB
     go_wp2_with fail
     go_ret
     exact⟨rfl,HB3.out⟩
  ·have e2:((l2:Int) == 0)=false:=by simp;omega
   have f2:(l2 == 0)=false:=by simp;omega
   rw[f2]
   clear hl2 f2
   go_enter Tryz.func105,Tryz.ntmps105
   go_wp2_with fail
   go_ret
   exact⟨rfl,box_low⟩
 ·have e1:((l1:Int) == 0)=false:=by simp;omega
  have f1:(l1 == 0)=false:=by simp;omega
  rw[f1]
  clear hl1 f1
  go_enter Tryz.func105,Tryz.ntmps105
  go_wp2_with fail
  go_ret
  exact⟨rfl,box_low⟩
theorem soundC_2 (a1 a2:Option Addr)(l1 c1 l2 c2:Nat)(z1 z2:Bool)(w:World)
 (h1:Calls Tryz.prog 134 #[.slice a1 l1 c1,.func (.func 110) #[] #[]] (w.alloc (.cells #[.int .i64 2,.slice a1 l1 c1,.slice a2 l2 c2] 52)) fun r w'=>r= .returned (.bool z1)∧Below (w.alloc (.cells #[.int .i64 2,.slice a1 l1 c1,.slice a2 l2 c2] 52)).heap.size (w.alloc (.cells #[.int .i64 2,.slice a1 l1 c1,.slice a2 l2 c2] 52)) w')
 (h2:∀W,Below w.heap.size w W→Below (w.alloc (.cells #[.int .i64 2,.slice a1 l1 c1,.slice a2 l2 c2] 52)).heap.size (w.alloc (.cells #[.int .i64 2,.slice a1 l1 c1,.slice a2 l2 c2] 52)) W→Calls Tryz.prog 135 #[.slice a2 l2 c2,.func (.func 105) #[] #[]] W fun r w'=>r= .returned (.bool z2)∧Below W.heap.size W w'):
 Calls Tryz.prog 105 #[.agg #[.int .i64 2,.slice a1 l1 c1,.slice a2 l2 c2]] w (SoundEnd (l1 == 2 && l2 == 0 && z1 && z2) w):=by
 have H1:=Lib.hid h1
 have H2:=Lib.hid h2
 clear h1 h2
 have HA:Hid (Below w.heap.size w (w.alloc (.cells #[.int .i64 2,.slice a1 l1 c1,.slice a2 l2 c2] 52))):=box_low
 have HCL:Hid (∀W,Below (w.alloc (.cells #[.int .i64 2,.slice a1 l1 c1,.slice a2 l2 c2] 52)).heap.size (w.alloc (.cells #[.int .i64 2,.slice a1 l1 c1,.slice a2 l2 c2] 52)) W→W.cell? ⟨w.heap.size,2,none⟩=some (.slice a2 l2 c2)):=fun W hb=>by
  have hn:=heap_alloc_new w (.cells #[.int .i64 2,.slice a1 l1 c1,.slice a2 l2 c2] 52)
  have hl:w.heap.size<(w.alloc (.cells #[.int .i64 2,.slice a1 l1 c1,.slice a2 l2 c2] 52)).heap.size:=by simp
  exact(hb.cell (p:=⟨w.heap.size,2,none⟩) hl).trans ((cell_of_row _ _ _ _ _ _ hn).trans rfl)
 by_cases hl1:l1=2
 ·have e1:((l1:Int) == 2)=true:=by rw[hl1];rfl
  have f1:(l1 == 2)=true:=by rw[hl1];rfl
  rw[f1]
  clear hl1 f1
  by_cases hl2:l2=0
  ·have e2:((l2:Int) == 0)=true:=by rw[hl2];rfl
   have f2:(l2 == 0)=true:=by rw[hl2];rfl
   rw[f2]
   clear hl2 f2
   go_enter Tryz.func105,Tryz.ntmps105
   go_wp2_with fail
   refine H1.out.mono ?_
   rintro r w2 ⟨rfl,hb⟩
   have q2:=HCL.out _ hb
   have HB:=Lib.hid (HA.out.trans (hb.mono HA.out.size))
   have H3:=Lib.hid (H2.out _ HB.out hb)
   clear hb H1 H2 HCL HA
   cases z1 with
   | false=>
     go_wp2_with fail
     go_ret
     exact⟨rfl,HB.out⟩
   | true=>
     go_wp2_with fail
     refine H3.out.mono ?_
     rintro r w3 ⟨rfl,hb3⟩
     have HB3:=Lib.hid (HB.out.trans (hb3.mono HB.out.size))
     clear hb3 H3 q2 HB
     go_wp2_with fail
     go_ret
     exact⟨rfl,HB3.out⟩
  ·have e2:((l2:Int) == 0)=false:=by simp;omega
   have f2:(l2 == 0)=false:=by simp;omega
   rw[f2]
   clear hl2 f2
   go_enter Tryz.func105,Tryz.ntmps105
   go_wp2_with fail
   go_ret
   exact⟨rfl,box_low⟩
 ·have e1:((l1:Int) == 2)=false:=by simp;omega
  have f1:(l1 == 2)=false:=by simp;omega
  rw[f1]
  clear hl1 f1
  go_enter Tryz.func105,Tryz.ntmps105
  go_wp2_with fail
  go_ret
  exact⟨rfl,box_low⟩
theorem soundC_3 (a1 a2:Option Addr)(l1 c1 l2 c2:Nat)(z1 z2:Bool)(w:World)
 (h1:Calls Tryz.prog 134 #[.slice a1 l1 c1,.func (.func 110) #[] #[]] (w.alloc (.cells #[.int .i64 3,.slice a1 l1 c1,.slice a2 l2 c2] 52)) fun r w'=>r= .returned (.bool z1)∧Below (w.alloc (.cells #[.int .i64 3,.slice a1 l1 c1,.slice a2 l2 c2] 52)).heap.size (w.alloc (.cells #[.int .i64 3,.slice a1 l1 c1,.slice a2 l2 c2] 52)) w')
 (h2:∀W,Below w.heap.size w W→Below (w.alloc (.cells #[.int .i64 3,.slice a1 l1 c1,.slice a2 l2 c2] 52)).heap.size (w.alloc (.cells #[.int .i64 3,.slice a1 l1 c1,.slice a2 l2 c2] 52)) W→Calls Tryz.prog 135 #[.slice a2 l2 c2,.func (.func 105) #[] #[]] W fun r w'=>r= .returned (.bool z2)∧Below W.heap.size W w'):
 Calls Tryz.prog 105 #[.agg #[.int .i64 3,.slice a1 l1 c1,.slice a2 l2 c2]] w (SoundEnd (l1 == 2 && l2 == 0 && z1 && z2) w):=by
 have H1:=Lib.hid h1
 have H2:=Lib.hid h2
 clear h1 h2
 have HA:Hid (Below w.heap.size w (w.alloc (.cells #[.int .i64 3,.slice a1 l1 c1,.slice a2 l2 c2] 52))):=box_low
 have HCL:Hid (∀W,Below (w.alloc (.cells #[.int .i64 3,.slice a1 l1 c1,.slice a2 l2 c2] 52)).heap.size (w.alloc (.cells #[.int .i64 3,.slice a1 l1 c1,.slice a2 l2 c2] 52)) W→W.cell? ⟨w.heap.size,2,none⟩=some (.slice a2 l2 c2)):=fun W hb=>by
  have hn:=heap_alloc_new w (.cells #[.int .i64 3,.slice a1 l1 c1,.slice a2 l2 c2] 52)
  have hl:w.heap.size<(w.alloc (.cells #[.int .i64 3,.slice a1 l1 c1,.slice a2 l2 c2] 52)).heap.size:=by simp
  exact(hb.cell (p:=⟨w.heap.size,2,none⟩) hl).trans ((cell_of_row _ _ _ _ _ _ hn).trans rfl)
 by_cases hl1:l1=2
 ·have e1:((l1:Int) == 2)=true:=by rw[hl1];rfl
  have f1:(l1 == 2)=true:=by rw[hl1];rfl
  rw[f1]
  clear hl1 f1
  by_cases hl2:l2=0
  ·have e2:((l2:Int) == 0)=true:=by rw[hl2];rfl
   have f2:(l2 == 0)=true:=by rw[hl2];rfl
   rw[f2]
   clear hl2 f2
   go_enter Tryz.func105,Tryz.ntmps105
   go_wp2_with fail
   refine H1.out.mono ?_
   rintro r w2 ⟨rfl,hb⟩
   have q2:=HCL.out _ hb
   have HB:=Lib.hid (HA.out.trans (hb.mono HA.out.size))
   have H3:=Lib.hid (H2.out _ HB.out hb)
   clear hb H1 H2 HCL HA
   cases z1 with
   | false=>
     go_wp2_with fail
     go_ret
     exact⟨rfl,HB.out⟩
   | true=>
     go_wp2_with fail
     refine H3.out.mono ?_
     rintro r w3 ⟨rfl,hb3⟩
     have HB3:=Lib.hid (HB.out.trans (hb3.mono HB.out.size))
     clear hb3 H3 q2 HB
     go_wp2_with fail
     go_ret
     exact⟨rfl,HB3.out⟩
  ·have e2:((l2:Int) == 0)=false:=by simp;omega
   have f2:(l2 == 0)=false:=by simp;omega
   rw[f2]
   clear hl2 f2
   go_enter Tryz.func105,Tryz.ntmps105
   go_wp2_with fail
   go_ret
   exact⟨rfl,box_low⟩
 ·have e1:((l1:Int) == 2)=false:=by simp;omega
  have f1:(l1 == 2)=false:=by simp;omega
  rw[f1]
  clear hl1 f1
  go_enter Tryz.func105,Tryz.ntmps105
  go_wp2_with fail
  go_ret
  exact⟨rfl,box_low⟩
theorem soundC_4 (a1 a2:Option Addr)(l1 c1 l2 c2:Nat)(z1 z2:Bool)(w:World)
 (h1:Calls Tryz.prog 134 #[.slice a1 l1 c1,.func (.func 110) #[] #[]] (w.alloc (.cells #[.int .i64 4,.slice a1 l1 c1,.slice a2 l2 c2] 52)) fun r w'=>r= .returned (.bool z1)∧Below (w.alloc (.cells #[.int .i64 4,.slice a1 l1 c1,.slice a2 l2 c2] 52)).heap.size (w.alloc (.cells #[.int .i64 4,.slice a1 l1 c1,.slice a2 l2 c2] 52)) w')
 (h2:∀W,Below w.heap.size w W→Below (w.alloc (.cells #[.int .i64 4,.slice a1 l1 c1,.slice a2 l2 c2] 52)).heap.size (w.alloc (.cells #[.int .i64 4,.slice a1 l1 c1,.slice a2 l2 c2] 52)) W→Calls Tryz.prog 135 #[.slice a2 l2 c2,.func (.func 105) #[] #[]] W fun r w'=>r= .returned (.bool z2)∧Below W.heap.size W w'):
 Calls Tryz.prog 105 #[.agg #[.int .i64 4,.slice a1 l1 c1,.slice a2 l2 c2]] w (SoundEnd (l1 == 2 && l2 == 0 && z1 && z2) w):=by
 have H1:=Lib.hid h1
 have H2:=Lib.hid h2
 clear h1 h2
 have HA:Hid (Below w.heap.size w (w.alloc (.cells #[.int .i64 4,.slice a1 l1 c1,.slice a2 l2 c2] 52))):=box_low
 have HCL:Hid (∀W,Below (w.alloc (.cells #[.int .i64 4,.slice a1 l1 c1,.slice a2 l2 c2] 52)).heap.size (w.alloc (.cells #[.int .i64 4,.slice a1 l1 c1,.slice a2 l2 c2] 52)) W→W.cell? ⟨w.heap.size,2,none⟩=some (.slice a2 l2 c2)):=fun W hb=>by
  have hn:=heap_alloc_new w (.cells #[.int .i64 4,.slice a1 l1 c1,.slice a2 l2 c2] 52)
  have hl:w.heap.size<(w.alloc (.cells #[.int .i64 4,.slice a1 l1 c1,.slice a2 l2 c2] 52)).heap.size:=by simp
  exact(hb.cell (p:=⟨w.heap.size,2,none⟩) hl).trans ((cell_of_row _ _ _ _ _ _ hn).trans rfl)
 by_cases hl1:l1=2
 ·have e1:((l1:Int) == 2)=true:=by rw[hl1];rfl
  have f1:(l1 == 2)=true:=by rw[hl1];rfl
  rw[f1]
  clear hl1 f1
  by_cases hl2:l2=0
  ·have e2:((l2:Int) == 0)=true:=by rw[hl2];rfl
   have f2:(l2 == 0)=true:=by rw[hl2];rfl
   rw[f2]
   clear hl2 f2
   go_enter Tryz.func105,Tryz.ntmps105
   go_wp2_with fail
   refine H1.out.mono ?_
   rintro r w2 ⟨rfl,hb⟩
   have q2:=HCL.out _ hb
   have HB:=Lib.hid (HA.out.trans (hb.mono HA.out.size))
   have H3:=Lib.hid (H2.out _ HB.out hb)
   clear hb H1 H2 HCL HA
   cases z1 with
   | false=>
     go_wp2_with fail
     go_ret
     exact⟨rfl,HB.out⟩
   | true=>
     go_wp2_with fail
     refine H3.out.mono ?_
     rintro r w3 ⟨rfl,hb3⟩
     have HB3:=Lib.hid (HB.out.trans (hb3.mono HB.out.size))
     clear hb3 H3 q2 HB
     go_wp2_with fail
     go_ret
     exact⟨rfl,HB3.out⟩
  ·have e2:((l2:Int) == 0)=false:=by simp;omega
   have f2:(l2 == 0)=false:=by simp;omega
   rw[f2]
   clear hl2 f2
   go_enter Tryz.func105,Tryz.ntmps105
   go_wp2_with fail
   go_ret
   exact⟨rfl,box_low⟩
 ·have e1:((l1:Int) == 2)=false:=by simp;omega
  have f1:(l1 == 2)=false:=by simp;omega
  rw[f1]
  clear hl1 f1
  go_enter Tryz.func105,Tryz.ntmps105
  go_wp2_with fail
  go_ret
  exact⟨rfl,box_low⟩
theorem soundC_5 (a1 a2:Option Addr)(l1 c1 l2 c2:Nat)(z1 z2:Bool)(w:World)
 (h1:Calls Tryz.prog 134 #[.slice a1 l1 c1,.func (.func 110) #[] #[]] (w.alloc (.cells #[.int .i64 5,.slice a1 l1 c1,.slice a2 l2 c2] 52)) fun r w'=>r= .returned (.bool z1)∧Below (w.alloc (.cells #[.int .i64 5,.slice a1 l1 c1,.slice a2 l2 c2] 52)).heap.size (w.alloc (.cells #[.int .i64 5,.slice a1 l1 c1,.slice a2 l2 c2] 52)) w')
 (h2:∀W,Below w.heap.size w W→Below (w.alloc (.cells #[.int .i64 5,.slice a1 l1 c1,.slice a2 l2 c2] 52)).heap.size (w.alloc (.cells #[.int .i64 5,.slice a1 l1 c1,.slice a2 l2 c2] 52)) W→Calls Tryz.prog 135 #[.slice a2 l2 c2,.func (.func 105) #[] #[]] W fun r w'=>r= .returned (.bool z2)∧Below W.heap.size W w'):
 Calls Tryz.prog 105 #[.agg #[.int .i64 5,.slice a1 l1 c1,.slice a2 l2 c2]] w (SoundEnd (l1 == 2 && l2 == 0 && z1 && z2) w):=by
 have H1:=Lib.hid h1
 have H2:=Lib.hid h2
 clear h1 h2
 have HA:Hid (Below w.heap.size w (w.alloc (.cells #[.int .i64 5,.slice a1 l1 c1,.slice a2 l2 c2] 52))):=box_low
 have HCL:Hid (∀W,Below (w.alloc (.cells #[.int .i64 5,.slice a1 l1 c1,.slice a2 l2 c2] 52)).heap.size (w.alloc (.cells #[.int .i64 5,.slice a1 l1 c1,.slice a2 l2 c2] 52)) W→W.cell? ⟨w.heap.size,2,none⟩=some (.slice a2 l2 c2)):=fun W hb=>by
  have hn:=heap_alloc_new w (.cells #[.int .i64 5,.slice a1 l1 c1,.slice a2 l2 c2] 52)
  have hl:w.heap.size<(w.alloc (.cells #[.int .i64 5,.slice a1 l1 c1,.slice a2 l2 c2] 52)).heap.size:=by simp
  exact(hb.cell (p:=⟨w.heap.size,2,none⟩) hl).trans ((cell_of_row _ _ _ _ _ _ hn).trans rfl)
 by_cases hl1:l1=2
 ·have e1:((l1:Int) == 2)=true:=by rw[hl1];rfl
  have f1:(l1 == 2)=true:=by rw[hl1];rfl
  rw[f1]
  clear hl1 f1
  by_cases hl2:l2=0
  ·have e2:((l2:Int) == 0)=true:=by rw[hl2];rfl
   have f2:(l2 == 0)=true:=by rw[hl2];rfl
   rw[f2]
   clear hl2 f2
   go_enter Tryz.func105,Tryz.ntmps105
   go_wp2_with fail
   refine H1.out.mono ?_
   rintro r w2 ⟨rfl,hb⟩
   have q2:=HCL.out _ hb
   have HB:=Lib.hid (HA.out.trans (hb.mono HA.out.size))
   have H3:=Lib.hid (H2.out _ HB.out hb)
   clear hb H1 H2 HCL HA
   cases z1 with
   | false=>
     go_wp2_with fail
     go_ret
     exact⟨rfl,HB.out⟩
   | true=>
     go_wp2_with fail
     refine H3.out.mono ?_
     rintro r w3 ⟨rfl,hb3⟩
     have HB3:=Lib.hid (HB.out.trans (hb3.mono HB.out.size))
     clear hb3 H3 q2 HB
     go_wp2_with fail
     go_ret
     exact⟨rfl,HB3.out⟩
  ·have e2:((l2:Int) == 0)=false:=by simp;omega
   have f2:(l2 == 0)=false:=by simp;omega
   rw[f2]
   clear hl2 f2
   go_enter Tryz.func105,Tryz.ntmps105
   go_wp2_with fail
   go_ret
   exact⟨rfl,box_low⟩
 ·have e1:((l1:Int) == 2)=false:=by simp;omega
  have f1:(l1 == 2)=false:=by simp;omega
  rw[f1]
  clear hl1 f1
  go_enter Tryz.func105,Tryz.ntmps105
  go_wp2_with fail
  go_ret
  exact⟨rfl,box_low⟩
theorem soundC_6 (a1 a2:Option Addr)(l1 c1 l2 c2:Nat)(z1 z2:Bool)(w:World)
 (h1:Calls Tryz.prog 134 #[.slice a1 l1 c1,.func (.func 110) #[] #[]] (w.alloc (.cells #[.int .i64 6,.slice a1 l1 c1,.slice a2 l2 c2] 52)) fun r w'=>r= .returned (.bool z1)∧Below (w.alloc (.cells #[.int .i64 6,.slice a1 l1 c1,.slice a2 l2 c2] 52)).heap.size (w.alloc (.cells #[.int .i64 6,.slice a1 l1 c1,.slice a2 l2 c2] 52)) w')
 (h2:∀W,Below w.heap.size w W→Below (w.alloc (.cells #[.int .i64 6,.slice a1 l1 c1,.slice a2 l2 c2] 52)).heap.size (w.alloc (.cells #[.int .i64 6,.slice a1 l1 c1,.slice a2 l2 c2] 52)) W→Calls Tryz.prog 135 #[.slice a2 l2 c2,.func (.func 105) #[] #[]] W fun r w'=>r= .returned (.bool z2)∧Below W.heap.size W w'):
 Calls Tryz.prog 105 #[.agg #[.int .i64 6,.slice a1 l1 c1,.slice a2 l2 c2]] w (SoundEnd (l1 == 0 && l2 == 1 && z1 && z2) w):=by
 have H1:=Lib.hid h1
 have H2:=Lib.hid h2
 clear h1 h2
 have HA:Hid (Below w.heap.size w (w.alloc (.cells #[.int .i64 6,.slice a1 l1 c1,.slice a2 l2 c2] 52))):=box_low
 have HCL:Hid (∀W,Below (w.alloc (.cells #[.int .i64 6,.slice a1 l1 c1,.slice a2 l2 c2] 52)).heap.size (w.alloc (.cells #[.int .i64 6,.slice a1 l1 c1,.slice a2 l2 c2] 52)) W→W.cell? ⟨w.heap.size,2,none⟩=some (.slice a2 l2 c2)):=fun W hb=>by
  have hn:=heap_alloc_new w (.cells #[.int .i64 6,.slice a1 l1 c1,.slice a2 l2 c2] 52)
  have hl:w.heap.size<(w.alloc (.cells #[.int .i64 6,.slice a1 l1 c1,.slice a2 l2 c2] 52)).heap.size:=by simp
  exact(hb.cell (p:=⟨w.heap.size,2,none⟩) hl).trans ((cell_of_row _ _ _ _ _ _ hn).trans rfl)
 by_cases hl1:l1=0
 ·have e1:((l1:Int) == 0)=true:=by rw[hl1];rfl
  have f1:(l1 == 0)=true:=by rw[hl1];rfl
  rw[f1]
  clear hl1 f1
  by_cases hl2:l2=1
  ·have e2:((l2:Int) == 1)=true:=by rw[hl2];rfl
   have f2:(l2 == 1)=true:=by rw[hl2];rfl
   rw[f2]
   clear hl2 f2
   go_enter Tryz.func105,Tryz.ntmps105
   go_wp2_with fail
   refine H1.out.mono ?_
   rintro r w2 ⟨rfl,hb⟩
   have q2:=HCL.out _ hb
   have HB:=Lib.hid (HA.out.trans (hb.mono HA.out.size))
   have H3:=Lib.hid (H2.out _ HB.out hb)
   clear hb H1 H2 HCL HA
   cases z1 with
   | false=>
     go_wp2_with fail
     go_ret
     exact⟨rfl,HB.out⟩
   | true=>
     go_wp2_with fail
     refine H3.out.mono ?_
     rintro r w3 ⟨rfl,hb3⟩
     have HB3:=Lib.hid (HB.out.trans (hb3.mono HB.out.size))
     clear hb3 H3 q2 HB
     go_wp2_with fail
     go_ret
     exact⟨rfl,HB3.out⟩
  ·have e2:((l2:Int) == 1)=false:=by simp;omega
   have f2:(l2 == 1)=false:=by simp;omega
   rw[f2]
   clear hl2 f2
   go_enter Tryz.func105,Tryz.ntmps105
   go_wp2_with fail
   go_ret
   exact⟨rfl,box_low⟩
 ·have e1:((l1:Int) == 0)=false:=by simp;omega
  have f1:(l1 == 0)=false:=by simp;omega
  rw[f1]
  clear hl1 f1
  go_enter Tryz.func105,Tryz.ntmps105
  go_wp2_with fail
  go_ret
  exact⟨rfl,box_low⟩
theorem soundC_7 (a1 a2:Option Addr)(l1 c1 l2 c2:Nat)(z1 z2:Bool)(w:World)
 (h1:Calls Tryz.prog 134 #[.slice a1 l1 c1,.func (.func 110) #[] #[]] (w.alloc (.cells #[.int .i64 7,.slice a1 l1 c1,.slice a2 l2 c2] 52)) fun r w'=>r= .returned (.bool z1)∧Below (w.alloc (.cells #[.int .i64 7,.slice a1 l1 c1,.slice a2 l2 c2] 52)).heap.size (w.alloc (.cells #[.int .i64 7,.slice a1 l1 c1,.slice a2 l2 c2] 52)) w')
 (h2:∀W,Below w.heap.size w W→Below (w.alloc (.cells #[.int .i64 7,.slice a1 l1 c1,.slice a2 l2 c2] 52)).heap.size (w.alloc (.cells #[.int .i64 7,.slice a1 l1 c1,.slice a2 l2 c2] 52)) W→Calls Tryz.prog 135 #[.slice a2 l2 c2,.func (.func 105) #[] #[]] W fun r w'=>r= .returned (.bool z2)∧Below W.heap.size W w'):
 Calls Tryz.prog 105 #[.agg #[.int .i64 7,.slice a1 l1 c1,.slice a2 l2 c2]] w (SoundEnd (l1 == 0 && l2 == 2 && z1 && z2) w):=by
 have H1:=Lib.hid h1
 have H2:=Lib.hid h2
 clear h1 h2
 have HA:Hid (Below w.heap.size w (w.alloc (.cells #[.int .i64 7,.slice a1 l1 c1,.slice a2 l2 c2] 52))):=box_low
 have HCL:Hid (∀W,Below (w.alloc (.cells #[.int .i64 7,.slice a1 l1 c1,.slice a2 l2 c2] 52)).heap.size (w.alloc (.cells #[.int .i64 7,.slice a1 l1 c1,.slice a2 l2 c2] 52)) W→W.cell? ⟨w.heap.size,2,none⟩=some (.slice a2 l2 c2)):=fun W hb=>by
  have hn:=heap_alloc_new w (.cells #[.int .i64 7,.slice a1 l1 c1,.slice a2 l2 c2] 52)
  have hl:w.heap.size<(w.alloc (.cells #[.int .i64 7,.slice a1 l1 c1,.slice a2 l2 c2] 52)).heap.size:=by simp
  exact(hb.cell (p:=⟨w.heap.size,2,none⟩) hl).trans ((cell_of_row _ _ _ _ _ _ hn).trans rfl)
 by_cases hl1:l1=0
 ·have e1:((l1:Int) == 0)=true:=by rw[hl1];rfl
  have f1:(l1 == 0)=true:=by rw[hl1];rfl
  rw[f1]
  clear hl1 f1
  by_cases hl2:l2=2
  ·have e2:((l2:Int) == 2)=true:=by rw[hl2];rfl
   have f2:(l2 == 2)=true:=by rw[hl2];rfl
   rw[f2]
   clear hl2 f2
   go_enter Tryz.func105,Tryz.ntmps105
   go_wp2_with fail
   refine H1.out.mono ?_
   rintro r w2 ⟨rfl,hb⟩
   have q2:=HCL.out _ hb
   have HB:=Lib.hid (HA.out.trans (hb.mono HA.out.size))
   have H3:=Lib.hid (H2.out _ HB.out hb)
   clear hb H1 H2 HCL HA
   cases z1 with
   | false=>
     go_wp2_with fail
     go_ret
     exact⟨rfl,HB.out⟩
   | true=>
     go_wp2_with fail
     refine H3.out.mono ?_
     rintro r w3 ⟨rfl,hb3⟩
     have HB3:=Lib.hid (HB.out.trans (hb3.mono HB.out.size))
     clear hb3 H3 q2 HB
     go_wp2_with fail
     go_ret
     exact⟨rfl,HB3.out⟩
  ·have e2:((l2:Int) == 2)=false:=by simp;omega
   have f2:(l2 == 2)=false:=by simp;omega
   rw[f2]
   clear hl2 f2
   go_enter Tryz.func105,Tryz.ntmps105
   go_wp2_with fail
   go_ret
   exact⟨rfl,box_low⟩
 ·have e1:((l1:Int) == 0)=false:=by simp;omega
  have f1:(l1 == 0)=false:=by simp;omega
  rw[f1]
  clear hl1 f1
  go_enter Tryz.func105,Tryz.ntmps105
  go_wp2_with fail
  go_ret
  exact⟨rfl,box_low⟩
theorem soundC_8 (a1 a2:Option Addr)(l1 c1 l2 c2:Nat)(z1 z2:Bool)(w:World)
 (h1:Calls Tryz.prog 134 #[.slice a1 l1 c1,.func (.func 110) #[] #[]] (w.alloc (.cells #[.int .i64 8,.slice a1 l1 c1,.slice a2 l2 c2] 52)) fun r w'=>r= .returned (.bool z1)∧Below (w.alloc (.cells #[.int .i64 8,.slice a1 l1 c1,.slice a2 l2 c2] 52)).heap.size (w.alloc (.cells #[.int .i64 8,.slice a1 l1 c1,.slice a2 l2 c2] 52)) w')
 (h2:∀W,Below w.heap.size w W→Below (w.alloc (.cells #[.int .i64 8,.slice a1 l1 c1,.slice a2 l2 c2] 52)).heap.size (w.alloc (.cells #[.int .i64 8,.slice a1 l1 c1,.slice a2 l2 c2] 52)) W→Calls Tryz.prog 135 #[.slice a2 l2 c2,.func (.func 105) #[] #[]] W fun r w'=>r= .returned (.bool z2)∧Below W.heap.size W w'):
 Calls Tryz.prog 105 #[.agg #[.int .i64 8,.slice a1 l1 c1,.slice a2 l2 c2]] w (SoundEnd (l1 == 0 && l2 == 2 && z1 && z2) w):=by
 have H1:=Lib.hid h1
 have H2:=Lib.hid h2
 clear h1 h2
 have HA:Hid (Below w.heap.size w (w.alloc (.cells #[.int .i64 8,.slice a1 l1 c1,.slice a2 l2 c2] 52))):=box_low
 have HCL:Hid (∀W,Below (w.alloc (.cells #[.int .i64 8,.slice a1 l1 c1,.slice a2 l2 c2] 52)).heap.size (w.alloc (.cells #[.int .i64 8,.slice a1 l1 c1,.slice a2 l2 c2] 52)) W→W.cell? ⟨w.heap.size,2,none⟩=some (.slice a2 l2 c2)):=fun W hb=>by
  have hn:=heap_alloc_new w (.cells #[.int .i64 8,.slice a1 l1 c1,.slice a2 l2 c2] 52)
  have hl:w.heap.size<(w.alloc (.cells #[.int .i64 8,.slice a1 l1 c1,.slice a2 l2 c2] 52)).heap.size:=by simp
  exact(hb.cell (p:=⟨w.heap.size,2,none⟩) hl).trans ((cell_of_row _ _ _ _ _ _ hn).trans rfl)
 by_cases hl1:l1=0
 ·have e1:((l1:Int) == 0)=true:=by rw[hl1];rfl
  have f1:(l1 == 0)=true:=by rw[hl1];rfl
  rw[f1]
  clear hl1 f1
  by_cases hl2:l2=2
  ·have e2:((l2:Int) == 2)=true:=by rw[hl2];rfl
   have f2:(l2 == 2)=true:=by rw[hl2];rfl
   rw[f2]
   clear hl2 f2
   go_enter Tryz.func105,Tryz.ntmps105
   go_wp2_with fail
   refine H1.out.mono ?_
   rintro r w2 ⟨rfl,hb⟩
   have q2:=HCL.out _ hb
   have HB:=Lib.hid (HA.out.trans (hb.mono HA.out.size))
   have H3:=Lib.hid (H2.out _ HB.out hb)
   clear hb H1 H2 HCL HA
   cases z1 with
   | false=>
     go_wp2_with fail
     go_ret
     exact⟨rfl,HB.out⟩
   | true=>
     go_wp2_with fail
     refine H3.out.mono ?_
     rintro r w3 ⟨rfl,hb3⟩
     have HB3:=Lib.hid (HB.out.trans (hb3.mono HB.out.size))
     clear hb3 H3 q2 HB
     go_wp2_with fail
     go_ret
     exact⟨rfl,HB3.out⟩
  ·have e2:((l2:Int) == 2)=false:=by simp;omega
   have f2:(l2 == 2)=false:=by simp;omega
   rw[f2]
   clear hl2 f2
   go_enter Tryz.func105,Tryz.ntmps105
   go_wp2_with fail
   go_ret
   exact⟨rfl,box_low⟩
 ·have e1:((l1:Int) == 0)=false:=by simp;omega
  have f1:(l1 == 0)=false:=by simp;omega
  rw[f1]
  clear hl1 f1
  go_enter Tryz.func105,Tryz.ntmps105
  go_wp2_with fail
  go_ret
  exact⟨rfl,box_low⟩
theorem soundC_x (k:Int)(a1 a2:Option Addr)(l1 c1 l2 c2:Nat)(w:World)(h:¬(0≤k∧k≤8)):
 Calls Tryz.prog 105 #[.agg #[.int .i64 k,.slice a1 l1 c1,.slice a2 l2 c2]] w (SoundEnd false w):=by
 have h0:(k == 0)=false:=by simp;omega
 have h1:(k == 1)=false:=by simp;omega
 have h2:(k == 2)=false:=by simp;omega
 have h3:(k == 3)=false:=by simp;omega
 have h4:(k == 4)=false:=by simp;omega
 have h5:(k == 5)=false:=by simp;omega
 have h6:(k == 6)=false:=by simp;omega
 have h7:(k == 7)=false:=by simp;omega
 have h8:(k == 8)=false:=by simp;omega
 clear h
 go_enter Tryz.func105,Tryz.ntmps105
 go_wp2_with fail
 go_ret
 exact⟨rfl,box_low⟩
theorem soundC_any {nm:ByteArray→Bool}{L:World→Prop}(hN:NameLaw nm L):∀(n:Nat) (c:CT) (cs:List Value) (w:World),(condSh n).rel (Pak.Lo w.heap.size) w cs c→L w→
 Calls Tryz.prog 105 #[.agg cs.toArray] w (SoundEnd (snC nm n c) w)
 | 0,_,_,_,h,_=>h.elim
 | n+1,c,cs,w,h,hL=>by
   obtain⟨u,v,rfl,_,⟨a1,c1,rfl,hs1⟩,⟨a2,c2,rfl,hs2⟩⟩:=h
   have hA:Below w.heap.size w (w.alloc (.cells #[.int .i64 c.kind,.slice a1 c.es.length c1,.slice a2 c.ks.length c2] 52)):=box_low
   have h1:=allE_any n 110 (snE nm n) a1 c.es.length c1 c.es _ (fun args w=>by kernel_rfl) rfl (hs1.below hA hA.size) (fun cs x W hx hb hr=>soundE_any hN n x cs W hr (hN.keep (hN.keep hL hA) hb))
   have h2:=fun W (hb:Below w.heap.size w W)=>allC_any n 105 (snC nm n) a2 c.ks.length c2 c.ks W (fun args w=>by kernel_rfl) rfl (hs2.below hb hb.size) (fun cs x W' hx hb' hr=>soundC_any hN n x cs W' hr (hN.keep (hN.keep hL hb) hb'))
   unfold snC
   by_cases hk:0≤c.kind∧c.kind≤8
   ·rw[if_pos hk]
    have hkk:c.kind=0∨c.kind=1∨c.kind=2∨c.kind=3∨c.kind=4∨c.kind=5∨c.kind=6∨c.kind=7∨c.kind=8:=by omega
    rcases hkk with hk | hk | hk | hk | hk | hk | hk | hk | hk
    ·rw[hk]at h1⊢
     exact soundC_0 a1 a2 _ c1 _ c2 _ _ w h1 (fun W hb _=>h2 W hb)
    ·rw[hk]at h1⊢
     exact soundC_1 a1 a2 _ c1 _ c2 _ _ w h1 (fun W hb _=>h2 W hb)
    ·rw[hk]at h1⊢
     exact soundC_2 a1 a2 _ c1 _ c2 _ _ w h1 (fun W hb _=>h2 W hb)
    ·rw[hk]at h1⊢
     exact soundC_3 a1 a2 _ c1 _ c2 _ _ w h1 (fun W hb _=>h2 W hb)
    ·rw[hk]at h1⊢
     exact soundC_4 a1 a2 _ c1 _ c2 _ _ w h1 (fun W hb _=>h2 W hb)
    ·rw[hk]at h1⊢
     exact soundC_5 a1 a2 _ c1 _ c2 _ _ w h1 (fun W hb _=>h2 W hb)
    ·rw[hk]at h1⊢
     exact soundC_6 a1 a2 _ c1 _ c2 _ _ w h1 (fun W hb _=>h2 W hb)
    ·rw[hk]at h1⊢
     exact soundC_7 a1 a2 _ c1 _ c2 _ _ w h1 (fun W hb _=>h2 W hb)
    ·rw[hk]at h1⊢
     exact soundC_8 a1 a2 _ c1 _ c2 _ _ w h1 (fun W hb _=>h2 W hb)
   ·rw[if_neg hk]
    exact soundC_x _ _ _ _ _ _ _ w hk
end
section
open Go.RowKit
theorem share_no (k:Int)(ck:Int)(a1:Option Addr)(l1 c1:Nat)(a2:Option Addr)(l2 c2:Nat)(ek en:Int)(es:ByteArray)(a3:Option Addr)(l3 c3:Nat)(vk vn:Int)(vs:ByteArray)(a4:Option Addr)(l4 c4:Nat)(fs:ByteArray)(m:Int)(a5:Option Addr)(l5 c5:Nat)(z1 z2:Bool)(w:World)
 (h1:∀W,Below w.heap.size w W→Calls Tryz.prog 111 #[.agg #[.int .i64 ek,.int .i64 en,.string es,.slice a3 l3 c3]] W (SoundEnd z1 W)) (h2:∀W,Below w.heap.size w W→Calls Tryz.prog 111 #[.agg #[.int .i64 vk,.int .i64 vn,.string vs,.slice a4 l4 c4]] W (SoundEnd z2 W)):
 Calls Tryz.prog 104 #[.agg #[.int .i64 k,.int .i64 ck,.slice a1 l1 c1,.slice a2 l2 c2,.int .i64 ek,.int .i64 en,.string es,.slice a3 l3 c3,.int .i64 vk,.int .i64 vn,.string vs,.slice a4 l4 c4,.string fs,.int .i64 m,.slice a5 l5 c5],.bool false] w (SoundEnd (z1 && z2 && fs.toList.isEmpty && m == 0) w):=by
 have H2:=Lib.hid h2
 have HA:Hid (Below w.heap.size w (w.alloc (.cells #[.int .i64 k,.int .i64 ck,.slice a1 l1 c1,.slice a2 l2 c2,.int .i64 ek,.int .i64 en,.string es,.slice a3 l3 c3,.int .i64 vk,.int .i64 vn,.string vs,.slice a4 l4 c4,.string fs,.int .i64 m,.slice a5 l5 c5] 100))):=box_low
 have HCL:Hid (∀W,Below (w.alloc (.cells #[.int .i64 k,.int .i64 ck,.slice a1 l1 c1,.slice a2 l2 c2,.int .i64 ek,.int .i64 en,.string es,.slice a3 l3 c3,.int .i64 vk,.int .i64 vn,.string vs,.slice a4 l4 c4,.string fs,.int .i64 m,.slice a5 l5 c5] 100)).heap.size (w.alloc (.cells #[.int .i64 k,.int .i64 ck,.slice a1 l1 c1,.slice a2 l2 c2,.int .i64 ek,.int .i64 en,.string es,.slice a3 l3 c3,.int .i64 vk,.int .i64 vn,.string vs,.slice a4 l4 c4,.string fs,.int .i64 m,.slice a5 l5 c5] 100)) W→W.cell? ⟨w.heap.size,0,none⟩=some (.int .i64 k)∧W.cell? ⟨w.heap.size,1,none⟩=some (.int .i64 ck)∧W.cell? ⟨w.heap.size,2,none⟩=some (.slice a1 l1 c1)∧W.cell? ⟨w.heap.size,3,none⟩=some (.slice a2 l2 c2)∧W.cell? ⟨w.heap.size,4,none⟩=some (.int .i64 ek)∧W.cell? ⟨w.heap.size,5,none⟩=some (.int .i64 en)∧W.cell? ⟨w.heap.size,6,none⟩=some (.string es)∧W.cell? ⟨w.heap.size,7,none⟩=some (.slice a3 l3 c3)∧W.cell? ⟨w.heap.size,8,none⟩=some (.int .i64 vk)∧W.cell? ⟨w.heap.size,9,none⟩=some (.int .i64 vn)∧W.cell? ⟨w.heap.size,10,none⟩=some (.string vs)∧W.cell? ⟨w.heap.size,11,none⟩=some (.slice a4 l4 c4)∧W.cell? ⟨w.heap.size,12,none⟩=some (.string fs)∧W.cell? ⟨w.heap.size,13,none⟩=some (.int .i64 m)∧W.cell? ⟨w.heap.size,14,none⟩=some (.slice a5 l5 c5)):=fun W hb=>by
  have hn:=heap_alloc_new w (.cells #[.int .i64 k,.int .i64 ck,.slice a1 l1 c1,.slice a2 l2 c2,.int .i64 ek,.int .i64 en,.string es,.slice a3 l3 c3,.int .i64 vk,.int .i64 vn,.string vs,.slice a4 l4 c4,.string fs,.int .i64 m,.slice a5 l5 c5] 100)
  have hl:w.heap.size<(w.alloc (.cells #[.int .i64 k,.int .i64 ck,.slice a1 l1 c1,.slice a2 l2 c2,.int .i64 ek,.int .i64 en,.string es,.slice a3 l3 c3,.int .i64 vk,.int .i64 vn,.string vs,.slice a4 l4 c4,.string fs,.int .i64 m,.slice a5 l5 c5] 100)).heap.size:=by simp
  exact⟨(hb.cell (p:=⟨w.heap.size,0,none⟩) hl).trans ((cell_of_row _ _ _ _ _ _ hn).trans rfl),(hb.cell (p:=⟨w.heap.size,1,none⟩) hl).trans ((cell_of_row _ _ _ _ _ _ hn).trans rfl),(hb.cell (p:=⟨w.heap.size,2,none⟩) hl).trans ((cell_of_row _ _ _ _ _ _ hn).trans rfl),(hb.cell (p:=⟨w.heap.size,3,none⟩) hl).trans ((cell_of_row _ _ _ _ _ _ hn).trans rfl),(hb.cell (p:=⟨w.heap.size,4,none⟩) hl).trans ((cell_of_row _ _ _ _ _ _ hn).trans rfl),(hb.cell (p:=⟨w.heap.size,5,none⟩) hl).trans ((cell_of_row _ _ _ _ _ _ hn).trans rfl),(hb.cell (p:=⟨w.heap.size,6,none⟩) hl).trans ((cell_of_row _ _ _ _ _ _ hn).trans rfl),(hb.cell (p:=⟨w.heap.size,7,none⟩) hl).trans ((cell_of_row _ _ _ _ _ _ hn).trans rfl),(hb.cell (p:=⟨w.heap.size,8,none⟩) hl).trans ((cell_of_row _ _ _ _ _ _ hn).trans rfl),(hb.cell (p:=⟨w.heap.size,9,none⟩) hl).trans ((cell_of_row _ _ _ _ _ _ hn).trans rfl),(hb.cell (p:=⟨w.heap.size,10,none⟩) hl).trans ((cell_of_row _ _ _ _ _ _ hn).trans rfl),(hb.cell (p:=⟨w.heap.size,11,none⟩) hl).trans ((cell_of_row _ _ _ _ _ _ hn).trans rfl),(hb.cell (p:=⟨w.heap.size,12,none⟩) hl).trans ((cell_of_row _ _ _ _ _ _ hn).trans rfl),(hb.cell (p:=⟨w.heap.size,13,none⟩) hl).trans ((cell_of_row _ _ _ _ _ _ hn).trans rfl),(hb.cell (p:=⟨w.heap.size,14,none⟩) hl).trans ((cell_of_row _ _ _ _ _ _ hn).trans rfl)⟩
 have X1:=Lib.hid (h1 _ HA.out)
 clear h1 h2
 go_enter Tryz.func104,Tryz.ntmps104
 go_wp2_with fail
 refine X1.out.mono ?_
 rintro r w2 ⟨rfl,hb⟩
 have HB2:=Lib.hid (HA.out.trans (hb.mono HA.out.size))
 have HN2:=Lib.hid (hb)
 clear hb X1
 obtain⟨q0,q1,q2,q3,q4,q5,q6,q7,q8,q9,q10,q11,q12,q13,q14⟩:=HCL.out _ HN2.out
 have X2:=Lib.hid (H2.out _ HB2.out)
 cases z1 with
 | false=>
   clear X2
   go_wp2_with fail
   go_ret
   exact⟨rfl,HB2.out⟩
 | true=>
   go_wp2_with fail
   clear q0 q1 q2 q3 q4 q5 q6 q7 q8 q9 q10 q11 q12 q13 q14
   refine X2.out.mono ?_
   rintro r w3 ⟨rfl,hb⟩
   have HB3:=Lib.hid (HB2.out.trans (hb.mono HB2.out.size))
   have HN3:=Lib.hid (HN2.out.trans (hb.mono HN2.out.size))
   clear hb X2
   obtain⟨q0,q1,q2,q3,q4,q5,q6,q7,q8,q9,q10,q11,q12,q13,q14⟩:=HCL.out _ HN3.out
   cases z2 with
   | false=>
     go_wp2_with fail
     go_ret
     exact⟨rfl,HB3.out⟩
   | true=>
     go_wp2_with fail
     all_goals
      go_ret
      refine⟨?_,HB3.out⟩
      simp_all
theorem share_2 (ck:Int)(a1:Option Addr)(l1 c1:Nat)(a2:Option Addr)(l2 c2:Nat)(ek en:Int)(es:ByteArray)(a3:Option Addr)(l3 c3:Nat)(vk vn:Int)(vs:ByteArray)(a4:Option Addr)(l4 c4:Nat)(fs:ByteArray)(m:Int)(a5:Option Addr)(l5 c5:Nat)(z1 z2 z3:Bool)(w:World)
 (h1:∀W,Below w.heap.size w W→Calls Tryz.prog 111 #[.agg #[.int .i64 vk,.int .i64 vn,.string vs,.slice a4 l4 c4]] W (SoundEnd z1 W)) (h2:∀W,Below w.heap.size w W→Calls Tryz.prog 110 #[.agg #[.int .i64 ek,.int .i64 en,.string es,.slice a3 l3 c3]] W (SoundEnd z2 W)) (h3:∀W,Below w.heap.size w W→Calls Tryz.prog 92 #[.string fs] W (SoundEnd z3 W)):
 Calls Tryz.prog 104 #[.agg #[.int .i64 2,.int .i64 ck,.slice a1 l1 c1,.slice a2 l2 c2,.int .i64 ek,.int .i64 en,.string es,.slice a3 l3 c3,.int .i64 vk,.int .i64 vn,.string vs,.slice a4 l4 c4,.string fs,.int .i64 m,.slice a5 l5 c5],.bool true] w (SoundEnd (z1 && (z2 && z3 && (decide (0≤m) && decide (m≤1073741824)))) w):=by
 have H2:=Lib.hid h2
 have H3:=Lib.hid h3
 have HA:Hid (Below w.heap.size w (w.alloc (.cells #[.int .i64 2,.int .i64 ck,.slice a1 l1 c1,.slice a2 l2 c2,.int .i64 ek,.int .i64 en,.string es,.slice a3 l3 c3,.int .i64 vk,.int .i64 vn,.string vs,.slice a4 l4 c4,.string fs,.int .i64 m,.slice a5 l5 c5] 100))):=box_low
 have HCL:Hid (∀W,Below (w.alloc (.cells #[.int .i64 2,.int .i64 ck,.slice a1 l1 c1,.slice a2 l2 c2,.int .i64 ek,.int .i64 en,.string es,.slice a3 l3 c3,.int .i64 vk,.int .i64 vn,.string vs,.slice a4 l4 c4,.string fs,.int .i64 m,.slice a5 l5 c5] 100)).heap.size (w.alloc (.cells #[.int .i64 2,.int .i64 ck,.slice a1 l1 c1,.slice a2 l2 c2,.int .i64 ek,.int .i64 en,.string es,.slice a3 l3 c3,.int .i64 vk,.int .i64 vn,.string vs,.slice a4 l4 c4,.string fs,.int .i64 m,.slice a5 l5 c5] 100)) W→W.cell? ⟨w.heap.size,0,none⟩=some (.int .i64 2)∧W.cell? ⟨w.heap.size,1,none⟩=some (.int .i64 ck)∧W.cell? ⟨w.heap.size,2,none⟩=some (.slice a1 l1 c1)∧W.cell? ⟨w.heap.size,3,none⟩=some (.slice a2 l2 c2)∧W.cell? ⟨w.heap.size,4,none⟩=some (.int .i64 ek)∧W.cell? ⟨w.heap.size,5,none⟩=some (.int .i64 en)∧W.cell? ⟨w.heap.size,6,none⟩=some (.string es)∧W.cell? ⟨w.heap.size,7,none⟩=some (.slice a3 l3 c3)∧W.cell? ⟨w.heap.size,8,none⟩=some (.int .i64 vk)∧W.cell? ⟨w.heap.size,9,none⟩=some (.int .i64 vn)∧W.cell? ⟨w.heap.size,10,none⟩=some (.string vs)∧W.cell? ⟨w.heap.size,11,none⟩=some (.slice a4 l4 c4)∧W.cell? ⟨w.heap.size,12,none⟩=some (.string fs)∧W.cell? ⟨w.heap.size,13,none⟩=some (.int .i64 m)∧W.cell? ⟨w.heap.size,14,none⟩=some (.slice a5 l5 c5)):=fun W hb=>by
  have hn:=heap_alloc_new w (.cells #[.int .i64 2,.int .i64 ck,.slice a1 l1 c1,.slice a2 l2 c2,.int .i64 ek,.int .i64 en,.string es,.slice a3 l3 c3,.int .i64 vk,.int .i64 vn,.string vs,.slice a4 l4 c4,.string fs,.int .i64 m,.slice a5 l5 c5] 100)
  have hl:w.heap.size<(w.alloc (.cells #[.int .i64 2,.int .i64 ck,.slice a1 l1 c1,.slice a2 l2 c2,.int .i64 ek,.int .i64 en,.string es,.slice a3 l3 c3,.int .i64 vk,.int .i64 vn,.string vs,.slice a4 l4 c4,.string fs,.int .i64 m,.slice a5 l5 c5] 100)).heap.size:=by simp
  exact⟨(hb.cell (p:=⟨w.heap.size,0,none⟩) hl).trans ((cell_of_row _ _ _ _ _ _ hn).trans rfl),(hb.cell (p:=⟨w.heap.size,1,none⟩) hl).trans ((cell_of_row _ _ _ _ _ _ hn).trans rfl),(hb.cell (p:=⟨w.heap.size,2,none⟩) hl).trans ((cell_of_row _ _ _ _ _ _ hn).trans rfl),(hb.cell (p:=⟨w.heap.size,3,none⟩) hl).trans ((cell_of_row _ _ _ _ _ _ hn).trans rfl),(hb.cell (p:=⟨w.heap.size,4,none⟩) hl).trans ((cell_of_row _ _ _ _ _ _ hn).trans rfl),(hb.cell (p:=⟨w.heap.size,5,none⟩) hl).trans ((cell_of_row _ _ _ _ _ _ hn).trans rfl),(hb.cell (p:=⟨w.heap.size,6,none⟩) hl).trans ((cell_of_row _ _ _ _ _ _ hn).trans rfl),(hb.cell (p:=⟨w.heap.size,7,none⟩) hl).trans ((cell_of_row _ _ _ _ _ _ hn).trans rfl),(hb.cell (p:=⟨w.heap.size,8,none⟩) hl).trans ((cell_of_row _ _ _ _ _ _ hn).trans rfl),(hb.cell (p:=⟨w.heap.size,9,none⟩) hl).trans ((cell_of_row _ _ _ _ _ _ hn).trans rfl),(hb.cell (p:=⟨w.heap.size,10,none⟩) hl).trans ((cell_of_row _ _ _ _ _ _ hn).trans rfl),(hb.cell (p:=⟨w.heap.size,11,none⟩) hl).trans ((cell_of_row _ _ _ _ _ _ hn).trans rfl),(hb.cell (p:=⟨w.heap.size,12,none⟩) hl).trans ((cell_of_row _ _ _ _ _ _ hn).trans rfl),(hb.cell (p:=⟨w.heap.size,13,none⟩) hl).trans ((cell_of_row _ _ _ _ _ _ hn).trans rfl),(hb.cell (p:=⟨w.heap.size,14,none⟩) hl).trans ((cell_of_row _ _ _ _ _ _ hn).trans rfl)⟩
 have X1:=Lib.hid (h1 _ HA.out)
 clear h1 h2 h3
 go_enter Tryz.func104,Tryz.ntmps104
 go_wp2_with fail
 refine X1.out.mono ?_
 rintro r w2 ⟨rfl,hb⟩
 have HB2:=Lib.hid (HA.out.trans (hb.mono HA.out.size))
 have HN2:=Lib.hid (hb)
 clear hb X1
 obtain⟨q0,q1,q2,q3,q4,q5,q6,q7,q8,q9,q10,q11,q12,q13,q14⟩:=HCL.out _ HN2.out
 have X2:=Lib.hid (H2.out _ HB2.out)
 cases z1 with
 | false=>
   clear X2
   go_wp2_with fail
   go_ret
   exact⟨rfl,HB2.out⟩
 | true=>
   go_wp2_with fail
   clear q0 q1 q2 q3 q4 q5 q6 q7 q8 q9 q10 q11 q12 q13 q14
   refine X2.out.mono ?_
   rintro r w3 ⟨rfl,hb⟩
   have HB3:=Lib.hid (HB2.out.trans (hb.mono HB2.out.size))
   have HN3:=Lib.hid (HN2.out.trans (hb.mono HN2.out.size))
   clear hb X2
   obtain⟨q0,q1,q2,q3,q4,q5,q6,q7,q8,q9,q10,q11,q12,q13,q14⟩:=HCL.out _ HN3.out
   have X3:=Lib.hid (H3.out _ HB3.out)
   cases z2 with
   | false=>
     clear X3
     go_wp2_with fail
     go_ret
     exact⟨rfl,HB3.out⟩
   | true=>
     go_wp2_with fail
     clear q0 q1 q2 q3 q4 q5 q6 q7 q8 q9 q10 q11 q12 q13 q14
     refine X3.out.mono ?_
     rintro r w4 ⟨rfl,hb⟩
     have HB4:=Lib.hid (HB3.out.trans (hb.mono HB3.out.size))
     have HN4:=Lib.hid (HN3.out.trans (hb.mono HN3.out.size))
     clear hb X3
     obtain⟨q0,q1,q2,q3,q4,q5,q6,q7,q8,q9,q10,q11,q12,q13,q14⟩:=HCL.out _ HN4.out
     cases z3 with
     | false=>
       go_wp2_with fail
       go_ret
       exact⟨rfl,HB4.out⟩
     | true=>
       go_wp2_with fail
       all_goals
        go_ret
        refine⟨?_,HB4.out⟩
        simp_all<;>(intros;omega)
theorem share_3 (ck:Int)(a1:Option Addr)(l1 c1:Nat)(a2:Option Addr)(l2 c2:Nat)(ek en:Int)(es:ByteArray)(a3:Option Addr)(l3 c3:Nat)(vk vn:Int)(vs:ByteArray)(a4:Option Addr)(l4 c4:Nat)(fs:ByteArray)(m:Int)(a5:Option Addr)(l5 c5:Nat)(z1 z2 z3:Bool)(w:World)
 (h1:∀W,Below w.heap.size w W→Calls Tryz.prog 110 #[.agg #[.int .i64 vk,.int .i64 vn,.string vs,.slice a4 l4 c4]] W (SoundEnd z1 W)) (h2:∀W,Below w.heap.size w W→Calls Tryz.prog 110 #[.agg #[.int .i64 ek,.int .i64 en,.string es,.slice a3 l3 c3]] W (SoundEnd z2 W)) (h3:∀W,Below w.heap.size w W→Calls Tryz.prog 92 #[.string fs] W (SoundEnd z3 W)):
 Calls Tryz.prog 104 #[.agg #[.int .i64 3,.int .i64 ck,.slice a1 l1 c1,.slice a2 l2 c2,.int .i64 ek,.int .i64 en,.string es,.slice a3 l3 c3,.int .i64 vk,.int .i64 vn,.string vs,.slice a4 l4 c4,.string fs,.int .i64 m,.slice a5 l5 c5],.bool true] w (SoundEnd (z1 && (z2 && z3 && (decide (0≤m) && decide (m≤1073741824)))) w):=by
 have H2:=Lib.hid h2
 have H3:=Lib.hid h3
 have HA:Hid (Below w.heap.size w (w.alloc (.cells #[.int .i64 3,.int .i64 ck,.slice a1 l1 c1,.slice a2 l2 c2,.int .i64 ek,.int .i64 en,.string es,.slice a3 l3 c3,.int .i64 vk,.int .i64 vn,.string vs,.slice a4 l4 c4,.string fs,.int .i64 m,.slice a5 l5 c5] 100))):=box_low
 have HCL:Hid (∀W,Below (w.alloc (.cells #[.int .i64 3,.int .i64 ck,.slice a1 l1 c1,.slice a2 l2 c2,.int .i64 ek,.int .i64 en,.string es,.slice a3 l3 c3,.int .i64 vk,.int .i64 vn,.string vs,.slice a4 l4 c4,.string fs,.int .i64 m,.slice a5 l5 c5] 100)).heap.size (w.alloc (.cells #[.int .i64 3,.int .i64 ck,.slice a1 l1 c1,.slice a2 l2 c2,.int .i64 ek,.int .i64 en,.string es,.slice a3 l3 c3,.int .i64 vk,.int .i64 vn,.string vs,.slice a4 l4 c4,.string fs,.int .i64 m,.slice a5 l5 c5] 100)) W→W.cell? ⟨w.heap.size,0,none⟩=some (.int .i64 3)∧W.cell? ⟨w.heap.size,1,none⟩=some (.int .i64 ck)∧W.cell? ⟨w.heap.size,2,none⟩=some (.slice a1 l1 c1)∧W.cell? ⟨w.heap.size,3,none⟩=some (.slice a2 l2 c2)∧W.cell? ⟨w.heap.size,4,none⟩=some (.int .i64 ek)∧W.cell? ⟨w.heap.size,5,none⟩=some (.int .i64 en)∧W.cell? ⟨w.heap.size,6,none⟩=some (.string es)∧W.cell? ⟨w.heap.size,7,none⟩=some (.slice a3 l3 c3)∧W.cell? ⟨w.heap.size,8,none⟩=some (.int .i64 vk)∧W.cell? ⟨w.heap.size,9,none⟩=some (.int .i64 vn)∧W.cell? ⟨w.heap.size,10,none⟩=some (.string vs)∧W.cell? ⟨w.heap.size,11,none⟩=some (.slice a4 l4 c4)∧W.cell? ⟨w.heap.size,12,none⟩=some (.string fs)∧W.cell? ⟨w.heap.size,13,none⟩=some (.int .i64 m)∧W.cell? ⟨w.heap.size,14,none⟩=some (.slice a5 l5 c5)):=fun W hb=>by
  have hn:=heap_alloc_new w (.cells #[.int .i64 3,.int .i64 ck,.slice a1 l1 c1,.slice a2 l2 c2,.int .i64 ek,.int .i64 en,.string es,.slice a3 l3 c3,.int .i64 vk,.int .i64 vn,.string vs,.slice a4 l4 c4,.string fs,.int .i64 m,.slice a5 l5 c5] 100)
  have hl:w.heap.size<(w.alloc (.cells #[.int .i64 3,.int .i64 ck,.slice a1 l1 c1,.slice a2 l2 c2,.int .i64 ek,.int .i64 en,.string es,.slice a3 l3 c3,.int .i64 vk,.int .i64 vn,.string vs,.slice a4 l4 c4,.string fs,.int .i64 m,.slice a5 l5 c5] 100)).heap.size:=by simp
  exact⟨(hb.cell (p:=⟨w.heap.size,0,none⟩) hl).trans ((cell_of_row _ _ _ _ _ _ hn).trans rfl),(hb.cell (p:=⟨w.heap.size,1,none⟩) hl).trans ((cell_of_row _ _ _ _ _ _ hn).trans rfl),(hb.cell (p:=⟨w.heap.size,2,none⟩) hl).trans ((cell_of_row _ _ _ _ _ _ hn).trans rfl),(hb.cell (p:=⟨w.heap.size,3,none⟩) hl).trans ((cell_of_row _ _ _ _ _ _ hn).trans rfl),(hb.cell (p:=⟨w.heap.size,4,none⟩) hl).trans ((cell_of_row _ _ _ _ _ _ hn).trans rfl),(hb.cell (p:=⟨w.heap.size,5,none⟩) hl).trans ((cell_of_row _ _ _ _ _ _ hn).trans rfl),(hb.cell (p:=⟨w.heap.size,6,none⟩) hl).trans ((cell_of_row _ _ _ _ _ _ hn).trans rfl),(hb.cell (p:=⟨w.heap.size,7,none⟩) hl).trans ((cell_of_row _ _ _ _ _ _ hn).trans rfl),(hb.cell (p:=⟨w.heap.size,8,none⟩) hl).trans ((cell_of_row _ _ _ _ _ _ hn).trans rfl),(hb.cell (p:=⟨w.heap.size,9,none⟩) hl).trans ((cell_of_row _ _ _ _ _ _ hn).trans rfl),(hb.cell (p:=⟨w.heap.size,10,none⟩) hl).trans ((cell_of_row _ _ _ _ _ _ hn).trans rfl),(hb.cell (p:=⟨w.heap.size,11,none⟩) hl).trans ((cell_of_row _ _ _ _ _ _ hn).trans rfl),(hb.cell (p:=⟨w.heap.size,12,none⟩) hl).trans ((cell_of_row _ _ _ _ _ _ hn).trans rfl),(hb.cell (p:=⟨w.heap.size,13,none⟩) hl).trans ((cell_of_row _ _ _ _ _ _ hn).trans rfl),(hb.cell (p:=⟨w.heap.size,14,none⟩) hl).trans ((cell_of_row _ _ _ _ _ _ hn).trans rfl)⟩
 have X1:=Lib.hid (h1 _ HA.out)
 clear h1 h2 h3
 go_enter Tryz.func104,Tryz.ntmps104
 go_wp2_with fail
 refine X1.out.mono ?_
 rintro r w2 ⟨rfl,hb⟩
 have HB2:=Lib.hid (HA.out.trans (hb.mono HA.out.size))
 have HN2:=Lib.hid (hb)
 clear hb X1
 obtain⟨q0,q1,q2,q3,q4,q5,q6,q7,q8,q9,q10,q11,q12,q13,q14⟩:=HCL.out _ HN2.out
 have X2:=Lib.hid (H2.out _ HB2.out)
 cases z1 with
 | false=>
   clear X2
   go_wp2_with fail
   go_ret
   exact⟨rfl,HB2.out⟩
 | true=>
   go_wp2_with fail
   clear q0 q1 q2 q3 q4 q5 q6 q7 q8 q9 q10 q11 q12 q13 q14
   refine X2.out.mono ?_
   rintro r w3 ⟨rfl,hb⟩
   have HB3:=Lib.hid (HB2.out.trans (hb.mono HB2.out.size))
   have HN3:=Lib.hid (HN2.out.trans (hb.mono HN2.out.size))
   clear hb X2
   obtain⟨q0,q1,q2,q3,q4,q5,q6,q7,q8,q9,q10,q11,q12,q13,q14⟩:=HCL.out _ HN3.out
   have X3:=Lib.hid (H3.out _ HB3.out)
   cases z2 with
   | false=>
     clear X3
     go_wp2_with fail
     go_ret
     exact⟨rfl,HB3.out⟩
   | true=>
     go_wp2_with fail
     clear q0 q1 q2 q3 q4 q5 q6 q7 q8 q9 q10 q11 q12 q13 q14
     refine X3.out.mono ?_
     rintro r w4 ⟨rfl,hb⟩
     have HB4:=Lib.hid (HB3.out.trans (hb.mono HB3.out.size))
     have HN4:=Lib.hid (HN3.out.trans (hb.mono HN3.out.size))
     clear hb X3
     obtain⟨q0,q1,q2,q3,q4,q5,q6,q7,q8,q9,q10,q11,q12,q13,q14⟩:=HCL.out _ HN4.out
     cases z3 with
     | false=>
       go_wp2_with fail
       go_ret
       exact⟨rfl,HB4.out⟩
     | true=>
       go_wp2_with fail
       all_goals
        go_ret
        refine⟨?_,HB4.out⟩
        simp_all<;>(intros;omega)
end
section
open Go.RowKit
theorem deepS_box (k:Nat)(cs ce cv cc ca:List Value)(a1 a2 a4 a5:Option Addr)(m1 m2 m4 m5 c1 c2 c4 c5:Nat)(z1 z2 z3 z4 z5 z6 z7 z8:Bool)(w:World)(hk:k≤1000000)
 (p1:Part cs 4 ce) (p2:Part cs 8 cv) (p3:Part cs 12 cc) (p4:Part cs 15 ca) (p5:cs[30]? =some (.slice a1 m1 c1)) (p6:cs[31]? =some (.slice a2 m2 c2)) (p7:cs[33]? =some (.slice a4 m4 c4)) (p8:cs[34]? =some (.slice a5 m5 c5))
 (l1:ce.length=4) (l2:cv.length=4) (l3:cc.length=3) (l4:ca.length=15)
 (h1:BoolAll 89 #[.agg ce.toArray,.int .i64 k] z1 w) (h2:BoolAll 89 #[.agg cv.toArray,.int .i64 k] z2 w) (h3:BoolAll 88 #[.agg cc.toArray,.int .i64 k] z3 w) (h4:BoolAll 76 #[.agg ca.toArray,.int .i64 k] z4 w)
 (h5:BoolAll 91 #[.slice a1 m1 c1,.int .i64 k,.func (.func 89) #[] #[]] z5 w) (h6:BoolAll 91 #[.slice a2 m2 c2,.int .i64 k,.func (.func 89) #[] #[]] z6 w)
 (h7:BoolAll 77 #[.slice a4 m4 c4,.int .i64 k,.func (.func 78) #[] #[]] z7 w) (h8:BoolAll 77 #[.slice a5 m5 c5,.int .i64 k,.func (.func 78) #[] #[]] z8 w):
 Calls Tryz.prog 78 #[.agg cs.toArray,.int .i64 ((k:Int)+1)] w (SoundEnd (z1 || z2 || z3 || z4 || z5 || z6 || z7 || z8) w):=by
 have HA:Hid (Below w.heap.size w (w.alloc (.cells cs.toArray 104))):=box_low
 have HB0:Hid (Below (w.alloc (.cells cs.toArray 104)).heap.size (w.alloc (.cells cs.toArray 104)) (w.alloc (.cells cs.toArray 104))):=Below.refl _ _
 have P1:=Lib.hid (fun W (hb:Below (w.alloc (.cells cs.toArray 104)).heap.size (w.alloc (.cells cs.toArray 104)) W)=>box_part p1 hb)
 have L1:=Lib.hid l1
 have X1:=Lib.hid h1
 have P2:=Lib.hid (fun W (hb:Below (w.alloc (.cells cs.toArray 104)).heap.size (w.alloc (.cells cs.toArray 104)) W)=>box_part p2 hb)
 have L2:=Lib.hid l2
 have X2:=Lib.hid h2
 have P3:=Lib.hid (fun W (hb:Below (w.alloc (.cells cs.toArray 104)).heap.size (w.alloc (.cells cs.toArray 104)) W)=>box_part p3 hb)
 have L3:=Lib.hid l3
 have X3:=Lib.hid h3
 have P4:=Lib.hid (fun W (hb:Below (w.alloc (.cells cs.toArray 104)).heap.size (w.alloc (.cells cs.toArray 104)) W)=>box_part p4 hb)
 have L4:=Lib.hid l4
 have X4:=Lib.hid h4
 have P5:=Lib.hid (fun W (hb:Below (w.alloc (.cells cs.toArray 104)).heap.size (w.alloc (.cells cs.toArray 104)) W)=>box_at p5 hb)
 have X5:=Lib.hid h5
 have P6:=Lib.hid (fun W (hb:Below (w.alloc (.cells cs.toArray 104)).heap.size (w.alloc (.cells cs.toArray 104)) W)=>box_at p6 hb)
 have X6:=Lib.hid h6
 have P7:=Lib.hid (fun W (hb:Below (w.alloc (.cells cs.toArray 104)).heap.size (w.alloc (.cells cs.toArray 104)) W)=>box_at p7 hb)
 have X7:=Lib.hid h7
 have P8:=Lib.hid (fun W (hb:Below (w.alloc (.cells cs.toArray 104)).heap.size (w.alloc (.cells cs.toArray 104)) W)=>box_at p8 hb)
 have X8:=Lib.hid h8
 have hk0:((k:Int)+1 == 0)=false:=by simp;omega
 clear h1 p1 h2 p2 h3 p3 h4 p4 h5 p5 h6 p6 h7 p7 h8 p8 l1 l2 l3 l4
 go_enter Tryz.func78,Tryz.ntmps78
 go_wp2_with (refine wpList_load_w rfl 49 _ rfl ⟨w.heap.size,4,none⟩ rfl ce _ (P1.out _ HB0.out) Tryz.underlying49 rfl (by rw[L1.out];kernel_rfl) ?_)
 refine(X1.out.at HA.out).mono ?_
 rintro r w1 ⟨rfl,hb⟩
 have HB1:=Lib.hid (HB0.out.trans (hb.mono HB0.out.size))
 have HW1:=Lib.hid (HA.out.trans (hb.mono HA.out.size))
 clear hb X1 P1
 cases z1 with
 | true=>
   clear X2 P2 X3 P3 X4 P4 X5 P5 X6 P6 X7 P7 X8 P8
   go_wp2_with fail
   go_ret
   exact⟨by simp,HW1.out⟩
 | false=>
 skip
 go_wp2_with (refine wpList_load_w rfl 49 _ rfl ⟨w.heap.size,8,none⟩ rfl cv _ (P2.out _ HB1.out) Tryz.underlying49 rfl (by rw[L2.out];kernel_rfl) ?_)
 refine(X2.out.at HW1.out).mono ?_
 rintro r w2 ⟨rfl,hb⟩
 have HB2:=Lib.hid (HB1.out.trans (hb.mono HB1.out.size))
 have HW2:=Lib.hid (HW1.out.trans (hb.mono HW1.out.size))
 clear hb X2 P2
 cases z2 with
 | true=>
   clear X3 P3 X4 P4 X5 P5 X6 P6 X7 P7 X8 P8
   go_wp2_with fail
   go_ret
   exact⟨by simp,HW2.out⟩
 | false=>
 skip
 go_wp2_with (refine wpList_load_w rfl 52 _ rfl ⟨w.heap.size,12,none⟩ rfl cc _ (P3.out _ HB2.out) Tryz.underlying52 rfl (by rw[L3.out];kernel_rfl) ?_)
 refine(X3.out.at HW2.out).mono ?_
 rintro r w3 ⟨rfl,hb⟩
 have HB3:=Lib.hid (HB2.out.trans (hb.mono HB2.out.size))
 have HW3:=Lib.hid (HW2.out.trans (hb.mono HW2.out.size))
 clear hb X3 P3
 cases z3 with
 | true=>
   clear X4 P4 X5 P5 X6 P6 X7 P7 X8 P8
   go_wp2_with fail
   go_ret
   exact⟨by simp,HW3.out⟩
 | false=>
 skip
 go_wp2_with (refine wpList_load_w rfl 100 _ rfl ⟨w.heap.size,15,none⟩ rfl ca _ (P4.out _ HB3.out) Tryz.underlying100 rfl (by rw[L4.out];kernel_rfl) ?_)
 refine(X4.out.at HW3.out).mono ?_
 rintro r w4 ⟨rfl,hb⟩
 have HB4:=Lib.hid (HB3.out.trans (hb.mono HB3.out.size))
 have HW4:=Lib.hid (HW3.out.trans (hb.mono HW3.out.size))
 clear hb X4 P4
 cases z4 with
 | true=>
   clear X5 P5 X6 P6 X7 P7 X8 P8
   go_wp2_with fail
   go_ret
   exact⟨by simp,HW4.out⟩
 | false=>
 skip
 have q5:=P5.out _ HB4.out
 go_wp2_with fail
 refine(X5.out.at HW4.out).mono ?_
 rintro r w5 ⟨rfl,hb⟩
 have HB5:=Lib.hid (HB4.out.trans (hb.mono HB4.out.size))
 have HW5:=Lib.hid (HW4.out.trans (hb.mono HW4.out.size))
 clear q5
 clear hb X5 P5
 cases z5 with
 | true=>
   clear X6 P6 X7 P7 X8 P8
   go_wp2_with fail
   go_ret
   exact⟨by simp,HW5.out⟩
 | false=>
 skip
 have q6:=P6.out _ HB5.out
 go_wp2_with fail
 refine(X6.out.at HW5.out).mono ?_
 rintro r w6 ⟨rfl,hb⟩
 have HB6:=Lib.hid (HB5.out.trans (hb.mono HB5.out.size))
 have HW6:=Lib.hid (HW5.out.trans (hb.mono HW5.out.size))
 clear q6
 clear hb X6 P6
 cases z6 with
 | true=>
   clear X7 P7 X8 P8
   go_wp2_with fail
   go_ret
   exact⟨by simp,HW6.out⟩
 | false=>
 skip
 have q7:=P7.out _ HB6.out
 go_wp2_with fail
 refine(X7.out.at HW6.out).mono ?_
 rintro r w7 ⟨rfl,hb⟩
 have HB7:=Lib.hid (HB6.out.trans (hb.mono HB6.out.size))
 have HW7:=Lib.hid (HW6.out.trans (hb.mono HW6.out.size))
 clear q7
 clear hb X7 P7
 cases z7 with
 | true=>
   clear X8 P8
   go_wp2_with fail
   go_ret
   exact⟨by simp,HW7.out⟩
 | false=>
 skip
 have q8:=P8.out _ HB7.out
 go_wp2_with fail
 refine(X8.out.at HW7.out).mono ?_
 rintro r w8 ⟨rfl,hb⟩
 have HB8:=Lib.hid (HB7.out.trans (hb.mono HB7.out.size))
 have HW8:=Lib.hid (HW7.out.trans (hb.mono HW7.out.size))
 clear q8
 clear hb X8 P8
 go_wp2_with fail
 go_ret
 exact⟨by simp,HW8.out⟩
def dpS:Nat→ST→Bool
 | 0,_=>true
 | m+1,s=>dpE m s.p.e || dpE m s.p.v || dpC m s.p.c || dpA m s.p.a || s.p.args.any (dpE m) || s.p.ghosts.any (dpE m) || s.body.any (dpS m) || s.els.any (dpS m)
theorem deepS_any:∀(n m:Nat) (s:ST) (cs:List Value) (w:World),m≤1000000→(stmtSh n).rel (Pak.Lo w.heap.size) w cs s→
 Calls Tryz.prog 78 #[.agg cs.toArray,.int .i64 m] w (SoundEnd (dpS m s) w)
 | 0,_,_,_,_,_,h=>h.elim
 | n+1,0,s,cs,w,hm,h=>by
   have hd:dpS 0 s=true:=rfl
   rw[hd]
   clear h
   go_enter Tryz.func78,Tryz.ntmps78
   go_wp2_with fail
   go_ret
   exact⟨rfl,box_low⟩
 | n+1,m+1,s,cs,w,hm,h=>by
   have IH:=deepS_any n
   obtain⟨ce,cv,cc,ca,a1,a2,a3,a4,a5,c1,c2,c3,c4,c5,H⟩:=stmt_is h
   exact deepS_box m cs ce cv cc ca a1 a2 a4 a5 _ _ _ _ c1 c2 c4 c5 _ _ _ _ _ _ _ _ w (by omega) H.pe H.pv H.pc H.pa H.args H.ghosts H.body H.els
    (((exprSh n).len H.re).trans (exprSh_k n)) (((exprSh n).len H.rv).trans (exprSh_k n)) (((condSh n).len H.rc).trans (condSh_k n)) (((assnSh n).len H.ra).trans (assnSh_k n))
    (fun W hb=>deepE_any n m _ _ W (by omega) (rel_low H.re hb)) (fun W hb=>deepE_any n m _ _ W (by omega) (rel_low H.rv hb)) (fun W hb=>deepC_any n m _ _ W (by omega) (rel_low H.rc hb)) (fun W hb=>deepA_any n m _ _ W (by omega) (rel_low H.ra hb))
    (fun W hb=>someE_any n 89 m (dpE m) a1 _ c1 s.p.args W (fun args w=>by kernel_rfl) rfl (H.rargs.below hb hb.size) (fun cs x V hx hv hr=>deepE_any n m x cs V (by omega) hr))
    (fun W hb=>someE_any n 89 m (dpE m) a2 _ c2 s.p.ghosts W (fun args w=>by kernel_rfl) rfl (H.rghosts.below hb hb.size) (fun cs x V hx hv hr=>deepE_any n m x cs V (by omega) hr))
    (fun W hb=>someS_any n 78 m (dpS m) a4 _ c4 s.body W (fun args w=>by kernel_rfl) rfl (H.rbody.below hb hb.size) (fun cs x V hx hv hr=>IH m x cs V (by omega) hr))
    (fun W hb=>someS_any n 78 m (dpS m) a5 _ c5 s.els W (fun args w=>by kernel_rfl) rfl (H.rels.below hb hb.size) (fun cs x V hx hv hr=>IH m x cs V (by omega) hr))
end
end Go.Proofs.YtjbkhdbjdahbiaaGreatDoor
