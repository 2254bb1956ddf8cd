/- Parts of a proof. -/
import Derived.Test.YtfcaclmcnlflfaaGreatDoorQ03
set_option linter.unusedVariables false
set_option linter.unusedSimpArgs false
set_option maxHeartbeats 60000000
set_option maxRecDepth 100000
namespace Go.Proofs.YtfcaclmcnlflfaaGreatDoor
section
open Go.RowKit
def esC (k:Int):Nat:=if 2≤k∧k≤5 then 2 else 0
def ksC (k:Int):Nat:=if k=6 then 1 else if k=7∨k=8 then 2 else 0
def snC (nm:ByteArray→Bool):Nat→CT→Bool
 | 0,_=>false
 | n+1,c=>if 0≤c.kind∧c.kind≤8 then c.es.length == esC c.kind && c.ks.length == ksC c.kind && c.es.all (snE nm n) && c.ks.all (snC nm n) else false
theorem soundC_0 (a1 a2:Option Addr)(l1 c1 l2 c2:Nat)(z1 z2:Bool)(w:World)
 (h1:Calls Tryz.prog 129 #[.slice a1 l1 c1,.func (.func 108) #[] #[]] (w.alloc (.cells #[.int .i64 0,.slice a1 l1 c1,.slice a2 l2 c2] 41)) fun r w'=>r= .returned (.bool z1)∧Below (w.alloc (.cells #[.int .i64 0,.slice a1 l1 c1,.slice a2 l2 c2] 41)).heap.size (w.alloc (.cells #[.int .i64 0,.slice a1 l1 c1,.slice a2 l2 c2] 41)) w')
 (h2:∀W,Below w.heap.size w W→Below (w.alloc (.cells #[.int .i64 0,.slice a1 l1 c1,.slice a2 l2 c2] 41)).heap.size (w.alloc (.cells #[.int .i64 0,.slice a1 l1 c1,.slice a2 l2 c2] 41)) W→Calls Tryz.prog 130 #[.slice a2 l2 c2,.func (.func 103) #[] #[]] W fun r w'=>r= .returned (.bool z2)∧Below W.heap.size W w'):
 Calls Tryz.prog 103 #[.agg #[.int .i64 0,.slice a1 l1 c1,.slice a2 l2 c2]] w (SoundEnd (l1 == 0 && l2 == 0 && z1 && z2) w):=by
 have H1:=Lib.hid h1
 have H2:=Lib.hid h2
 clear h1 h2
 have HA:Hid (Below w.heap.size w (w.alloc (.cells #[.int .i64 0,.slice a1 l1 c1,.slice a2 l2 c2] 41))):=box_low
 have HCL:Hid (∀W,Below (w.alloc (.cells #[.int .i64 0,.slice a1 l1 c1,.slice a2 l2 c2] 41)).heap.size (w.alloc (.cells #[.int .i64 0,.slice a1 l1 c1,.slice a2 l2 c2] 41)) W→W.cell? ⟨w.heap.size,2,none⟩=some (.slice a2 l2 c2)):=fun W hb=>by
  have hn:=heap_alloc_new w (.cells #[.int .i64 0,.slice a1 l1 c1,.slice a2 l2 c2] 41)
  have hl:w.heap.size<(w.alloc (.cells #[.int .i64 0,.slice a1 l1 c1,.slice a2 l2 c2] 41)).heap.size:=by simp
  exact(hb.cell (p:=⟨w.heap.size,2,none⟩) hl).trans ((cell_of_row _ _ _ _ _ _ hn).trans rfl)
 by_cases hl1:l1=0
 ·have e1:((l1:Int) == 0)=true:=by rw[hl1];rfl
  have f1:(l1 == 0)=true:=by rw[hl1];rfl
  rw[f1]
  clear hl1 f1
  by_cases hl2:l2=0
  ·have e2:((l2:Int) == 0)=true:=by rw[hl2];rfl
   have f2:(l2 == 0)=true:=by rw[hl2];rfl
   rw[f2]
   clear hl2 f2
   go_enter Tryz.func103,Tryz.ntmps103
   go_wp2_with fail
   refine H1.out.mono ?_
   rintro r w2 ⟨rfl,hb⟩
   have q2:=HCL.out _ hb
   have HB:=Lib.hid (HA.out.trans (hb.mono HA.out.size))
   have H3:=Lib.hid (H2.out _ HB.out hb)
   clear hb H1 H2 HCL HA
   cases z1 with
   | false=>
     go_wp2_with fail
     go_ret
     exact⟨rfl,HB.out⟩
   | true=>
     go_wp2_with fail
     refine H3.out.mono ?_
     rintro r w3 ⟨rfl,hb3⟩
     have HB3:=Lib.hid (HB.out.trans (hb3.mono HB.out.size))
     clear hb3 H3 q2 HB
     go_wp2_with fail
     go_ret
     exact⟨rfl,HB3.out⟩
  ·have e2:((l2:Int) == 0)=false:=by simp;omega
   have f2:(l2 == 0)=false:=by simp;omega
   rw[f2]
   clear hl2 f2
   go_enter Tryz.func103,Tryz.ntmps103
   go_wp2_with fail
   go_ret
   exact⟨rfl,box_low⟩
 ·have e1:((l1:Int) == 0)=false:=by simp;omega
  have f1:(l1 == 0)=false:=by simp;omega
  rw[f1]
  clear hl1 f1
  go_enter Tryz.func103,Tryz.ntmps103
  go_wp2_with fail
  go_ret
  exact⟨rfl,box_low⟩
theorem soundC_1 (a1 a2:Option Addr)(l1 c1 l2 c2:Nat)(z1 z2:Bool)(w:World)
 (h1:Calls Tryz.prog 129 #[.slice a1 l1 c1,.func (.func 108) #[] #[]] (w.alloc (.cells #[.int .i64 1,.slice a1 l1 c1,.slice a2 l2 c2] 41)) fun r w'=>r= .returned (.bool z1)∧Below (w.alloc (.cells #[.int .i64 1,.slice a1 l1 c1,.slice a2 l2 c2] 41)).heap.size (w.alloc (.cells #[.int .i64 1,.slice a1 l1 c1,.slice a2 l2 c2] 41)) w')
 (h2:∀W,Below w.heap.size w W→Below (w.alloc (.cells #[.int .i64 1,.slice a1 l1 c1,.slice a2 l2 c2] 41)).heap.size (w.alloc (.cells #[.int .i64 1,.slice a1 l1 c1,.slice a2 l2 c2] 41)) W→Calls Tryz.prog 130 #[.slice a2 l2 c2,.func (.func 103) #[] #[]] W fun r w'=>r= .returned (.bool z2)∧Below W.heap.size W w'):
 Calls Tryz.prog 103 #[.agg #[.int .i64 1,.slice a1 l1 c1,.slice a2 l2 c2]] w (SoundEnd (l1 == 0 && l2 == 0 && z1 && z2) w):=by
 have H1:=Lib.hid h1
 have H2:=Lib.hid h2
 clear h1 h2
 have HA:Hid (Below w.heap.size w (w.alloc (.cells #[.int .i64 1,.slice a1 l1 c1,.slice a2 l2 c2] 41))):=box_low
 have HCL:Hid (∀W,Below (w.alloc (.cells #[.int .i64 1,.slice a1 l1 c1,.slice a2 l2 c2] 41)).heap.size (w.alloc (.cells #[.int .i64 1,.slice a1 l1 c1,.slice a2 l2 c2] 41)) W→W.cell? ⟨w.heap.size,2,none⟩=some (.slice a2 l2 c2)):=fun W hb=>by
  have hn:=heap_alloc_new w (.cells #[.int .i64 1,.slice a1 l1 c1,.slice a2 l2 c2] 41)
  have hl:w.heap.size<(w.alloc (.cells #[.int .i64 1,.slice a1 l1 c1,.slice a2 l2 c2] 41)).heap.size:=by simp
  exact(hb.cell (p:=⟨w.heap.size,2,none⟩) hl).trans ((cell_of_row _ _ _ _ _ _ hn).trans rfl)
 by_cases hl1:l1=0
 ·have e1:((l1:Int) == 0)=true:=by rw[hl1];rfl
  have f1:(l1 == 0)=true:=by rw[hl1];rfl
  rw[f1]
  clear hl1 f1
  by_cases hl2:l2=0
  ·have e2:((l2:Int) == 0)=true:=by rw[hl2];rfl
   have f2:(l2 == 0)=true:=by rw[hl2];rfl
   rw[f2]
   clear hl2 f2
   go_enter Tryz.func103,Tryz.ntmps103
   go_wp2_with fail
   refine H1.out.mono ?_
   rintro r w2 ⟨rfl,hb⟩
   have q2:=HCL.out _ hb
   have HB:=Lib.hid (HA.out.trans (hb.mono HA.out.size))
   have H3:=Lib.hid (H2.out _ HB.out hb)
   clear hb H1 H2 HCL HA
   cases z1 with
   | false=>
     go_wp2_with fail
     go_ret
     exact⟨rfl,HB.out⟩
   | true=>
     go_wp2_with fail
     refine H3.out.mono ?_
     rintro r w3 ⟨rfl,hb3⟩
     have HB3:=Lib.hid (HB.out.trans (hb3.mono HB.out.size))
     clear hb3 H3 q2 HB
     go_wp2_with fail
     go_ret
     exact⟨rfl,HB3.out⟩
  ·have e2:((l2:Int) == 0)=false:=by simp;omega
   have f2:(l2 == 0)=false:=by simp;omega
   rw[f2]
   clear hl2 f2
   go_enter Tryz.func103,Tryz.ntmps103
   go_wp2_with fail
   go_ret
   exact⟨rfl,box_low⟩
 ·have e1:((l1:Int) == 0)=false:=by simp;omega
  have f1:(l1 == 0)=false:=by simp;omega
  rw[f1]
  clear hl1 f1
  go_enter Tryz.func103,Tryz.ntmps103
  go_wp2_with fail
  go_ret
  exact⟨rfl,box_low⟩
theorem soundC_2 (a1 a2:Option Addr)(l1 c1 l2 c2:Nat)(z1 z2:Bool)(w:World)
 (h1:Calls Tryz.prog 129 #[.slice a1 l1 c1,.func (.func 108) #[] #[]] (w.alloc (.cells #[.int .i64 2,.slice a1 l1 c1,.slice a2 l2 c2] 41)) fun r w'=>r= .returned (.bool z1)∧Below (w.alloc (.cells #[.int .i64 2,.slice a1 l1 c1,.slice a2 l2 c2] 41)).heap.size (w.alloc (.cells #[.int .i64 2,.slice a1 l1 c1,.slice a2 l2 c2] 41)) w')
 (h2:∀W,Below w.heap.size w W→Below (w.alloc (.cells #[.int .i64 2,.slice a1 l1 c1,.slice a2 l2 c2] 41)).heap.size (w.alloc (.cells #[.int .i64 2,.slice a1 l1 c1,.slice a2 l2 c2] 41)) W→Calls Tryz.prog 130 #[.slice a2 l2 c2,.func (.func 103) #[] #[]] W fun r w'=>r= .returned (.bool z2)∧Below W.heap.size W w'):
 Calls Tryz.prog 103 #[.agg #[.int .i64 2,.slice a1 l1 c1,.slice a2 l2 c2]] w (SoundEnd (l1 == 2 && l2 == 0 && z1 && z2) w):=by
 have H1:=Lib.hid h1
 have H2:=Lib.hid h2
 clear h1 h2
 have HA:Hid (Below w.heap.size w (w.alloc (.cells #[.int .i64 2,.slice a1 l1 c1,.slice a2 l2 c2] 41))):=box_low
 have HCL:Hid (∀W,Below (w.alloc (.cells #[.int .i64 2,.slice a1 l1 c1,.slice a2 l2 c2] 41)).heap.size (w.alloc (.cells #[.int .i64 2,.slice a1 l1 c1,.slice a2 l2 c2] 41)) W→W.cell? ⟨w.heap.size,2,none⟩=some (.slice a2 l2 c2)):=fun W hb=>by
  have hn:=heap_alloc_new w (.cells #[.int .i64 2,.slice a1 l1 c1,.slice a2 l2 c2] 41)
  have hl:w.heap.size<(w.alloc (.cells #[.int .i64 2,.slice a1 l1 c1,.slice a2 l2 c2] 41)).heap.size:=by simp
  exact(hb.cell (p:=⟨w.heap.size,2,none⟩) hl).trans ((cell_of_row _ _ _ _ _ _ hn).trans rfl)
 by_cases hl1:l1=2
 ·have e1:((l1:Int) == 2)=true:=by rw[hl1];rfl
  have f1:(l1 == 2)=true:=by rw[hl1];rfl
  rw[f1]
  clear hl1 f1
  by_cases hl2:l2=0
  ·have e2:((l2:Int) == 0)=true:=by rw[hl2];rfl
   have f2:(l2 == 0)=true:=by rw[hl2];rfl
   rw[f2]
   clear hl2 f2
   go_enter Tryz.func103,Tryz.ntmps103
   go_wp2_with fail
   refine H1.out.mono ?_
   rintro r w2 ⟨rfl,hb⟩
   have q2:=HCL.out _ hb
   have HB:=Lib.hid (HA.out.trans (hb.mono HA.out.size))
   have H3:=Lib.hid (H2.out _ HB.out hb)
   clear hb H1 H2 HCL HA
   cases z1 with
   | false=>
     go_wp2_with fail
     go_ret
     exact⟨rfl,HB.out⟩
   | true=>
     go_wp2_with fail
     refine H3.out.mono ?_
     rintro r w3 ⟨rfl,hb3⟩
     have HB3:=Lib.hid (HB.out.trans (hb3.mono HB.out.size))
     clear hb3 H3 q2 HB
     go_wp2_with fail
     go_ret
     exact⟨rfl,HB3.out⟩
  ·have e2:((l2:Int) == 0)=false:=by simp;omega
   have f2:(l2 == 0)=false:=by simp;omega
   rw[f2]
   clear hl2 f2
   go_enter Tryz.func103,Tryz.ntmps103
   go_wp2_with fail
   go_ret
   exact⟨rfl,box_low⟩
 ·have e1:((l1:Int) == 2)=false:=by simp;omega
  have f1:(l1 == 2)=false:=by simp;omega
  rw[f1]
  clear hl1 f1
  go_enter Tryz.func103,Tryz.ntmps103
  go_wp2_with fail
  go_ret
  exact⟨rfl,box_low⟩
theorem soundC_3 (a1 a2:Option Addr)(l1 c1 l2 c2:Nat)(z1 z2:Bool)(w:World)
 (h1:Calls Tryz.prog 129 #[.slice a1 l1 c1,.func (.func 108) #[] #[]] (w.alloc (.cells #[.int .i64 3,.slice a1 l1 c1,.slice a2 l2 c2] 41)) fun r w'=>r= .returned (.bool z1)∧Below (w.alloc (.cells #[.int .i64 3,.slice a1 l1 c1,.slice a2 l2 c2] 41)).heap.size (w.alloc (.cells #[.int .i64 3,.slice a1 l1 c1,.slice a2 l2 c2] 41)) w')
 (h2:∀W,Below w.heap.size w W→Below (w.alloc (.cells #[.int .i64 3,.slice a1 l1 c1,.slice a2 l2 c2] 41)).heap.size (w.alloc (.cells #[.int .i64 3,.slice a1 l1 c1,.slice a2 l2 c2] 41)) W→Calls Tryz.prog 130 #[.slice a2 l2 c2,.func (.func 103) #[] #[]] W fun r w'=>r= .returned (.bool z2)∧Below W.heap.size W w'):
 Calls Tryz.prog 103 #[.agg #[.int .i64 3,.slice a1 l1 c1,.slice a2 l2 c2]] w (SoundEnd (l1 == 2 && l2 == 0 && z1 && z2) w):=by
 have H1:=Lib.hid h1
 have H2:=Lib.hid h2
 clear h1 h2
 have HA:Hid (Below w.heap.size w (w.alloc (.cells #[.int .i64 3,.slice a1 l1 c1,.slice a2 l2 c2] 41))):=box_low
 have HCL:Hid (∀W,Below (w.alloc (.cells #[.int .i64 3,.slice a1 l1 c1,.slice a2 l2 c2] 41)).heap.size (w.alloc (.cells #[.int .i64 3,.slice a1 l1 c1,.slice a2 l2 c2] 41)) W→W.cell? ⟨w.heap.size,2,none⟩=some (.slice a2 l2 c2)):=fun W hb=>by
  have hn:=heap_alloc_new w (.cells #[.int .i64 3,.slice a1 l1 c1,.slice a2 l2 c2] 41)
  have hl:w.heap.size<(w.alloc (.cells #[.int .i64 3,.slice a1 l1 c1,.slice a2 l2 c2] 41)).heap.size:=by simp
  exact(hb.cell (p:=⟨w.heap.size,2,none⟩) hl).trans ((cell_of_row _ _ _ _ _ _ hn).trans rfl)
 by_cases hl1:l1=2
 ·have e1:((l1:Int) == 2)=true:=by rw[hl1];rfl
  have f1:(l1 == 2)=true:=by rw[hl1];rfl
  rw[f1]
  clear hl1 f1
  by_cases hl2:l2=0
  ·have e2:((l2:Int) == 0)=true:=by rw[hl2];rfl
   have f2:(l2 == 0)=true:=by rw[hl2];rfl
   rw[f2]
   clear hl2 f2
   go_enter Tryz.func103,Tryz.ntmps103
   go_wp2_with fail
   refine H1.out.mono ?_
   rintro r w2 ⟨rfl,hb⟩
   have q2:=HCL.out _ hb
   have HB:=Lib.hid (HA.out.trans (hb.mono HA.out.size))
   have H3:=Lib.hid (H2.out _ HB.out hb)
   clear hb H1 H2 HCL HA
   cases z1 with
   | false=>
     go_wp2_with fail
     go_ret
     exact⟨rfl,HB.out⟩
   | true=>
     go_wp2_with fail
     refine H3.out.mono ?_
     rintro r w3 ⟨rfl,hb3⟩
     have HB3:=Lib.hid (HB.out.trans (hb3.mono HB.out.size))
     clear hb3 H3 q2 HB
     go_wp2_with fail
     go_ret
     exact⟨rfl,HB3.out⟩
  ·have e2:((l2:Int) == 0)=false:=by simp;omega
   have f2:(l2 == 0)=false:=by simp;omega
   rw[f2]
   clear hl2 f2
   go_enter Tryz.func103,Tryz.ntmps103
   go_wp2_with fail
   go_ret
   exact⟨rfl,box_low⟩
 ·have e1:((l1:Int) == 2)=false:=by simp;omega
  have f1:(l1 == 2)=false:=by simp;omega
  rw[f1]
  clear hl1 f1
  go_enter Tryz.func103,Tryz.ntmps103
  go_wp2_with fail
  go_ret
  exact⟨rfl,box_low⟩
theorem soundC_4 (a1 a2:Option Addr)(l1 c1 l2 c2:Nat)(z1 z2:Bool)(w:World)
 (h1:Calls Tryz.prog 129 #[.slice a1 l1 c1,.func (.func 108) #[] #[]] (w.alloc (.cells #[.int .i64 4,.slice a1 l1 c1,.slice a2 l2 c2] 41)) fun r w'=>r= .returned (.bool z1)∧Below (w.alloc (.cells #[.int .i64 4,.slice a1 l1 c1,.slice a2 l2 c2] 41)).heap.size (w.alloc (.cells #[.int .i64 4,.slice a1 l1 c1,.slice a2 l2 c2] 41)) w')
 (h2:∀W,Below w.heap.size w W→Below (w.alloc (.cells #[.int .i64 4,.slice a1 l1 c1,.slice a2 l2 c2] 41)).heap.size (w.alloc (.cells #[.int .i64 4,.slice a1 l1 c1,.slice a2 l2 c2] 41)) W→Calls Tryz.prog 130 #[.slice a2 l2 c2,.func (.func 103) #[] #[]] W fun r w'=>r= .returned (.bool z2)∧Below W.heap.size W w'):
 Calls Tryz.prog 103 #[.agg #[.int .i64 4,.slice a1 l1 c1,.slice a2 l2 c2]] w (SoundEnd (l1 == 2 && l2 == 0 && z1 && z2) w):=by
 have H1:=Lib.hid h1
 have H2:=Lib.hid h2
 clear h1 h2
 have HA:Hid (Below w.heap.size w (w.alloc (.cells #[.int .i64 4,.slice a1 l1 c1,.slice a2 l2 c2] 41))):=box_low
 have HCL:Hid (∀W,Below (w.alloc (.cells #[.int .i64 4,.slice a1 l1 c1,.slice a2 l2 c2] 41)).heap.size (w.alloc (.cells #[.int .i64 4,.slice a1 l1 c1,.slice a2 l2 c2] 41)) W→W.cell? ⟨w.heap.size,2,none⟩=some (.slice a2 l2 c2)):=fun W hb=>by
  have hn:=heap_alloc_new w (.cells #[.int .i64 4,.slice a1 l1 c1,.slice a2 l2 c2] 41)
  have hl:w.heap.size<(w.alloc (.cells #[.int .i64 4,.slice a1 l1 c1,.slice a2 l2 c2] 41)).heap.size:=by simp
  exact(hb.cell (p:=⟨w.heap.size,2,none⟩) hl).trans ((cell_of_row _ _ _ _ _ _ hn).trans rfl)
 by_cases hl1:l1=2
 ·have e1:((l1:Int) == 2)=true:=by rw[hl1];rfl
  have f1:(l1 == 2)=true:=by rw[hl1];rfl
  rw[f1]
  clear hl1 f1
  by_cases hl2:l2=0
  ·have e2:((l2:Int) == 0)=true:=by rw[hl2];rfl
   have f2:(l2 == 0)=true:=by rw[hl2];rfl
   rw[f2]
   clear hl2 f2
   go_enter Tryz.func103,Tryz.ntmps103
   go_wp2_with fail
   refine H1.out.mono ?_
   rintro r w2 ⟨rfl,hb⟩
   have q2:=HCL.out _ hb
   have HB:=Lib.hid (HA.out.trans (hb.mono HA.out.size))
   have H3:=Lib.hid (H2.out _ HB.out hb)
   clear hb H1 H2 HCL HA
   cases z1 with
   | false=>
     go_wp2_with fail
     go_ret
     exact⟨rfl,HB.out⟩
   | true=>
     go_wp2_with fail
     refine H3.out.mono ?_
     rintro r w3 ⟨rfl,hb3⟩
     have HB3:=Lib.hid (HB.out.trans (hb3.mono HB.out.size))
     clear hb3 H3 q2 HB
     go_wp2_with fail
     go_ret
     exact⟨rfl,HB3.out⟩
  ·have e2:((l2:Int) == 0)=false:=by simp;omega
   have f2:(l2 == 0)=false:=by simp;omega
   rw[f2]
   clear hl2 f2
   go_enter Tryz.func103,Tryz.ntmps103
   go_wp2_with fail
   go_ret
   exact⟨rfl,box_low⟩
 ·have e1:((l1:Int) == 2)=false:=by simp;omega
  have f1:(l1 == 2)=false:=by simp;omega
  rw[f1]
  clear hl1 f1
  go_enter Tryz.func103,Tryz.ntmps103
  go_wp2_with fail
  go_ret
  exact⟨rfl,box_low⟩
theorem soundC_5 (a1 a2:Option Addr)(l1 c1 l2 c2:Nat)(z1 z2:Bool)(w:World)
 (h1:Calls Tryz.prog 129 #[.slice a1 l1 c1,.func (.func 108) #[] #[]] (w.alloc (.cells #[.int .i64 5,.slice a1 l1 c1,.slice a2 l2 c2] 41)) fun r w'=>r= .returned (.bool z1)∧Below (w.alloc (.cells #[.int .i64 5,.slice a1 l1 c1,.slice a2 l2 c2] 41)).heap.size (w.alloc (.cells #[.int .i64 5,.slice a1 l1 c1,.slice a2 l2 c2] 41)) w')
 (h2:∀W,Below w.heap.size w W→Below (w.alloc (.cells #[.int .i64 5,.slice a1 l1 c1,.slice a2 l2 c2] 41)).heap.size (w.alloc (.cells #[.int .i64 5,.slice a1 l1 c1,.slice a2 l2 c2] 41)) W→Calls Tryz.prog 130 #[.slice a2 l2 c2,.func (.func 103) #[] #[]] W fun r w'=>r= .returned (.bool z2)∧Below W.heap.size W w'):
 Calls Tryz.prog 103 #[.agg #[.int .i64 5,.slice a1 l1 c1,.slice a2 l2 c2]] w (SoundEnd (l1 == 2 && l2 == 0 && z1 && z2) w):=by
 have H1:=Lib.hid h1
 have H2:=Lib.hid h2
 clear h1 h2
 have HA:Hid (Below w.heap.size w (w.alloc (.cells #[.int .i64 5,.slice a1 l1 c1,.slice a2 l2 c2] 41))):=box_low
 have HCL:Hid (∀W,Below (w.alloc (.cells #[.int .i64 5,.slice a1 l1 c1,.slice a2 l2 c2] 41)).heap.size (w.alloc (.cells #[.int .i64 5,.slice a1 l1 c1,.slice a2 l2 c2] 41)) W→W.cell? ⟨w.heap.size,2,none⟩=some (.slice a2 l2 c2)):=fun W hb=>by
  have hn:=heap_alloc_new w (.cells #[.int .i64 5,.slice a1 l1 c1,.slice a2 l2 c2] 41)
  have hl:w.heap.size<(w.alloc (.cells #[.int .i64 5,.slice a1 l1 c1,.slice a2 l2 c2] 41)).heap.size:=by simp
  exact(hb.cell (p:=⟨w.heap.size,2,none⟩) hl).trans ((cell_of_row _ _ _ _ _ _ hn).trans rfl)
 by_cases hl1:l1=2
 ·have e1:((l1:Int) == 2)=true:=by rw[hl1];rfl
  have f1:(l1 == 2)=true:=by rw[hl1];rfl
  rw[f1]
  clear hl1 f1
  by_cases hl2:l2=0
  ·have e2:((l2:Int) == 0)=true:=by rw[hl2];rfl
   have f2:(l2 == 0)=true:=by rw[hl2];rfl
   rw[f2]
   clear hl2 f2
   go_enter Tryz.func103,Tryz.ntmps103
   go_wp2_with fail
   refine H1.out.mono ?_
   rintro r w2 ⟨rfl,hb⟩
   have q2:=HCL.out _ hb
   have HB:=Lib.hid (HA.out.trans (hb.mono HA.out.size))
   have H3:=Lib.hid (H2.out _ HB.out hb)
   clear hb H1 H2 HCL HA
   cases z1 with
   | false=>
     go_wp2_with fail
     go_ret
     exact⟨rfl,HB.out⟩
   | true=>
     go_wp2_with fail
     refine H3.out.mono ?_
     rintro r w3 ⟨rfl,hb3⟩
     have HB3:=Lib.hid (HB.out.trans (hb3.mono HB.out.size))
     clear hb3 H3 q2 HB
     go_wp2_with fail
     go_ret
     exact⟨rfl,HB3.out⟩
  ·have e2:((l2:Int) == 0)=false:=by simp;omega
   have f2:(l2 == 0)=false:=by simp;omega
   rw[f2]
   clear hl2 f2
   go_enter Tryz.func103,Tryz.ntmps103
   go_wp2_with fail
   go_ret
   exact⟨rfl,box_low⟩
 ·have e1:((l1:Int) == 2)=false:=by simp;omega
  have f1:(l1 == 2)=false:=by simp;omega
  rw[f1]
  clear hl1 f1
  go_enter Tryz.func103,Tryz.ntmps103
  go_wp2_with fail
  go_ret
  exact⟨rfl,box_low⟩
theorem soundC_6 (a1 a2:Option Addr)(l1 c1 l2 c2:Nat)(z1 z2:Bool)(w:World)
 (h1:Calls Tryz.prog 129 #[.slice a1 l1 c1,.func (.func 108) #[] #[]] (w.alloc (.cells #[.int .i64 6,.slice a1 l1 c1,.slice a2 l2 c2] 41)) fun r w'=>r= .returned (.bool z1)∧Below (w.alloc (.cells #[.int .i64 6,.slice a1 l1 c1,.slice a2 l2 c2] 41)).heap.size (w.alloc (.cells #[.int .i64 6,.slice a1 l1 c1,.slice a2 l2 c2] 41)) w')
 (h2:∀W,Below w.heap.size w W→Below (w.alloc (.cells #[.int .i64 6,.slice a1 l1 c1,.slice a2 l2 c2] 41)).heap.size (w.alloc (.cells #[.int .i64 6,.slice a1 l1 c1,.slice a2 l2 c2] 41)) W→Calls Tryz.prog 130 #[.slice a2 l2 c2,.func (.func 103) #[] #[]] W fun r w'=>r= .returned (.bool z2)∧Below W.heap.size W w'):
 Calls Tryz.prog 103 #[.agg #[.int .i64 6,.slice a1 l1 c1,.slice a2 l2 c2]] w (SoundEnd (l1 == 0 && l2 == 1 && z1 && z2) w):=by
 have H1:=Lib.hid h1
 have H2:=Lib.hid h2
 clear h1 h2
 have HA:Hid (Below w.heap.size w (w.alloc (.cells #[.int .i64 6,.slice a1 l1 c1,.slice a2 l2 c2] 41))):=box_low
 have HCL:Hid (∀W,Below (w.alloc (.cells #[.int .i64 6,.slice a1 l1 c1,.slice a2 l2 c2] 41)).heap.size (w.alloc (.cells #[.int .i64 6,.slice a1 l1 c1,.slice a2 l2 c2] 41)) W→W.cell? ⟨w.heap.size,2,none⟩=some (.slice a2 l2 c2)):=fun W hb=>by
  have hn:=heap_alloc_new w (.cells #[.int .i64 6,.slice a1 l1 c1,.slice a2 l2 c2] 41)
  have hl:w.heap.size<(w.alloc (.cells #[.int .i64 6,.slice a1 l1 c1,.slice a2 l2 c2] 41)).heap.size:=by simp
  exact(hb.cell (p:=⟨w.heap.size,2,none⟩) hl).trans ((cell_of_row _ _ _ _ _ _ hn).trans rfl)
 by_cases hl1:l1=0
 ·have e1:((l1:Int) == 0)=true:=by rw[hl1];rfl
  have f1:(l1 == 0)=true:=by rw[hl1];rfl
  rw[f1]
  clear hl1 f1
  by_cases hl2:l2=1
  ·have e2:((l2:Int) == 1)=true:=by rw[hl2];rfl
   have f2:(l2 == 1)=true:=by rw[hl2];rfl
   rw[f2]
   clear hl2 f2
   go_enter Tryz.func103,Tryz.ntmps103
   go_wp2_with fail
   refine H1.out.mono ?_
   rintro r w2 ⟨rfl,hb⟩
   have q2:=HCL.out _ hb
   have HB:=Lib.hid (HA.out.trans (hb.mono HA.out.size))
   have H3:=Lib.hid (H2.out _ HB.out hb)
   clear hb H1 H2 HCL HA
   cases z1 with
   | false=>
     go_wp2_with fail
     go_ret
     exact⟨rfl,HB.out⟩
   | true=>
     go_wp2_with fail
     refine H3.out.mono ?_
     rintro r w3 ⟨rfl,hb3⟩
     have HB3:=Lib.hid (HB.out.trans (hb3.mono HB.out.size))
     clear hb3 H3 q2 HB
     go_wp2_with fail
     go_ret
     exact⟨rfl,HB3.out⟩
  ·have e2:((l2:Int) == 1)=false:=by simp;omega
   have f2:(l2 == 1)=false:=by simp;omega
   rw[f2]
   clear hl2 f2
   go_enter Tryz.func103,Tryz.ntmps103
   go_wp2_with fail
   go_ret
   exact⟨rfl,box_low⟩
 ·have e1:((l1:Int) == 0)=false:=by simp;omega
  have f1:(l1 == 0)=false:=by simp;omega
  rw[f1]
  clear hl1 f1
  go_enter Tryz.func103,Tryz.ntmps103
  go_wp2_with fail
  go_ret
  exact⟨rfl,box_low⟩
theorem soundC_7 (a1 a2:Option Addr)(l1 c1 l2 c2:Nat)(z1 z2:Bool)(w:World)
 (h1:Calls Tryz.prog 129 #[.slice a1 l1 c1,.func (.func 108) #[] #[]] (w.alloc (.cells #[.int .i64 7,.slice a1 l1 c1,.slice a2 l2 c2] 41)) fun r w'=>r= .returned (.bool z1)∧Below (w.alloc (.cells #[.int .i64 7,.slice a1 l1 c1,.slice a2 l2 c2] 41)).heap.size (w.alloc (.cells #[.int .i64 7,.slice a1 l1 c1,.slice a2 l2 c2] 41)) w')
 (h2:∀W,Below w.heap.size w W→Below (w.alloc (.cells #[.int .i64 7,.slice a1 l1 c1,.slice a2 l2 c2] 41)).heap.size (w.alloc (.cells #[.int .i64 7,.slice a1 l1 c1,.slice a2 l2 c2] 41)) W→Calls Tryz.prog 130 #[.slice a2 l2 c2,.func (.func 103) #[] #[]] W fun r w'=>r= .returned (.bool z2)∧Below W.heap.size W w'):
 Calls Tryz.prog 103 #[.agg #[.int .i64 7,.slice a1 l1 c1,.slice a2 l2 c2]] w (SoundEnd (l1 == 0 && l2 == 2 && z1 && z2) w):=by
 have H1:=Lib.hid h1
 have H2:=Lib.hid h2
 clear h1 h2
 have HA:Hid (Below w.heap.size w (w.alloc (.cells #[.int .i64 7,.slice a1 l1 c1,.slice a2 l2 c2] 41))):=box_low
 have HCL:Hid (∀W,Below (w.alloc (.cells #[.int .i64 7,.slice a1 l1 c1,.slice a2 l2 c2] 41)).heap.size (w.alloc (.cells #[.int .i64 7,.slice a1 l1 c1,.slice a2 l2 c2] 41)) W→W.cell? ⟨w.heap.size,2,none⟩=some (.slice a2 l2 c2)):=fun W hb=>by
  have hn:=heap_alloc_new w (.cells #[.int .i64 7,.slice a1 l1 c1,.slice a2 l2 c2] 41)
  have hl:w.heap.size<(w.alloc (.cells #[.int .i64 7,.slice a1 l1 c1,.slice a2 l2 c2] 41)).heap.size:=by simp
  exact(hb.cell (p:=⟨w.heap.size,2,none⟩) hl).trans ((cell_of_row _ _ _ _ _ _ hn).trans rfl)
 by_cases hl1:l1=0
 ·have e1:((l1:Int) == 0)=true:=by rw[hl1];rfl
  have f1:(l1 == 0)=true:=by rw[hl1];rfl
  rw[f1]
  clear hl1 f1
  by_cases hl2:l2=2
  ·have e2:((l2:Int) == 2)=true:=by rw[hl2];rfl
   have f2:(l2 == 2)=true:=by rw[hl2];rfl
   rw[f2]
   clear hl2 f2
   go_enter Tryz.func103,Tryz.ntmps103
   go_wp2_with fail
   refine H1.out.mono ?_
   rintro r w2 ⟨rfl,hb⟩
   have q2:=HCL.out _ hb
   have HB:=Lib.hid (HA.out.trans (hb.mono HA.out.size))
   have H3:=Lib.hid (H2.out _ HB.out hb)
   clear hb H1 H2 HCL HA
   cases z1 with
   | false=>
     go_wp2_with fail
     go_ret
     exact⟨rfl,HB.out⟩
   | true=>
     go_wp2_with fail
     refine H3.out.mono ?_
     rintro r w3 ⟨rfl,hb3⟩
     have HB3:=Lib.hid (HB.out.trans (hb3.mono HB.out.size))
     clear hb3 H3 q2 HB
     go_wp2_with fail
     go_ret
     exact⟨rfl,HB3.out⟩
  ·have e2:((l2:Int) == 2)=false:=by simp;omega
   have f2:(l2 == 2)=false:=by simp;omega
   rw[f2]
   clear hl2 f2
   go_enter Tryz.func103,Tryz.ntmps103
   go_wp2_with fail
   go_ret
   exact⟨rfl,box_low⟩
 ·have e1:((l1:Int) == 0)=false:=by simp;omega
  have f1:(l1 == 0)=false:=by simp;omega
  rw[f1]
  clear hl1 f1
  go_enter Tryz.func103,Tryz.ntmps103
  go_wp2_with fail
  go_ret
  exact⟨rfl,box_low⟩
theorem soundC_8 (a1 a2:Option Addr)(l1 c1 l2 c2:Nat)(z1 z2:Bool)(w:World)
 (h1:Calls Tryz.prog 129 #[.slice a1 l1 c1,.func (.func 108) #[] #[]] (w.alloc (.cells #[.int .i64 8,.slice a1 l1 c1,.slice a2 l2 c2] 41)) fun r w'=>r= .returned (.bool z1)∧Below (w.alloc (.cells #[.int .i64 8,.slice a1 l1 c1,.slice a2 l2 c2] 41)).heap.size (w.alloc (.cells #[.int .i64 8,.slice a1 l1 c1,.slice a2 l2 c2] 41)) w')
 (h2:∀W,Below w.heap.size w W→Below (w.alloc (.cells #[.int .i64 8,.slice a1 l1 c1,.slice a2 l2 c2] 41)).heap.size (w.alloc (.cells #[.int .i64 8,.slice a1 l1 c1,.slice a2 l2 c2] 41)) W→Calls Tryz.prog 130 #[.slice a2 l2 c2,.func (.func 103) #[] #[]] W fun r w'=>r= .returned (.bool z2)∧Below W.heap.size W w'):
 Calls Tryz.prog 103 #[.agg #[.int .i64 8,.slice a1 l1 c1,.slice a2 l2 c2]] w (SoundEnd (l1 == 0 && l2 == 2 && z1 && z2) w):=by
 have H1:=Lib.hid h1
 have H2:=Lib.hid h2
 clear h1 h2
 have HA:Hid (Below w.heap.size w (w.alloc (.cells #[.int .i64 8,.slice a1 l1 c1,.slice a2 l2 c2] 41))):=box_low
 have HCL:Hid (∀W,Below (w.alloc (.cells #[.int .i64 8,.slice a1 l1 c1,.slice a2 l2 c2] 41)).heap.size (w.alloc (.cells #[.int .i64 8,.slice a1 l1 c1,.slice a2 l2 c2] 41)) W→W.cell? ⟨w.heap.size,2,none⟩=some (.slice a2 l2 c2)):=fun W hb=>by
  have hn:=heap_alloc_new w (.cells #[.int .i64 8,.slice a1 l1 c1,.slice a2 l2 c2] 41)
  have hl:w.heap.size<(w.alloc (.cells #[.int .i64 8,.slice a1 l1 c1,.slice a2 l2 c2] 41)).heap.size:=by simp
  exact(hb.cell (p:=⟨w.heap.size,2,none⟩) hl).trans ((cell_of_row _ _ _ _ _ _ hn).trans rfl)
 by_cases hl1:l1=0
 ·have e1:((l1:Int) == 0)=true:=by rw[hl1];rfl
  have f1:(l1 == 0)=true:=by rw[hl1];rfl
  rw[f1]
  clear hl1 f1
  by_cases hl2:l2=2
  ·have e2:((l2:Int) == 2)=true:=by rw[hl2];rfl
   have f2:(l2 == 2)=true:=by rw[hl2];rfl
   rw[f2]
   clear hl2 f2
   go_enter Tryz.func103,Tryz.ntmps103
   go_wp2_with fail
   refine H1.out.mono ?_
   rintro r w2 ⟨rfl,hb⟩
   have q2:=HCL.out _ hb
   have HB:=Lib.hid (HA.out.trans (hb.mono HA.out.size))
   have H3:=Lib.hid (H2.out _ HB.out hb)
   clear hb H1 H2 HCL HA
   cases z1 with
   | false=>
     go_wp2_with fail
     go_ret
     exact⟨rfl,HB.out⟩
   | true=>
     go_wp2_with fail
     refine H3.out.mono ?_
     rintro r w3 ⟨rfl,hb3⟩
     have HB3:=Lib.hid (HB.out.trans (hb3.mono HB.out.size))
     clear hb3 H3 q2 HB
     go_wp2_with fail
     go_ret
     exact⟨rfl,HB3.out⟩
  ·have e2:((l2:Int) == 2)=false:=by simp;omega
   have f2:(l2 == 2)=false:=by simp;omega
   rw[f2]
   clear hl2 f2
   go_enter Tryz.func103,Tryz.ntmps103
   go_wp2_with fail
   go_ret
   exact⟨rfl,box_low⟩
 ·have e1:((l1:Int) == 0)=false:=by simp;omega
  have f1:(l1 == 0)=false:=by simp;omega
  rw[f1]
  clear hl1 f1
  go_enter Tryz.func103,Tryz.ntmps103
  go_wp2_with fail
  go_ret
  exact⟨rfl,box_low⟩
theorem soundC_x (k:Int)(a1 a2:Option Addr)(l1 c1 l2 c2:Nat)(w:World)(h:¬(0≤k∧k≤8)):
 Calls Tryz.prog 103 #[.agg #[.int .i64 k,.slice a1 l1 c1,.slice a2 l2 c2]] w (SoundEnd false w):=by
 have h0:(k == 0)=false:=by simp;omega
 have h1:(k == 1)=false:=by simp;omega
 have h2:(k == 2)=false:=by simp;omega
 have h3:(k == 3)=false:=by simp;omega
 have h4:(k == 4)=false:=by simp;omega
 have h5:(k == 5)=false:=by simp;omega
 have h6:(k == 6)=false:=by simp;omega
 have h7:(k == 7)=false:=by simp;omega
 have h8:(k == 8)=false:=by simp;omega
 clear h
 go_enter Tryz.func103,Tryz.ntmps103
 go_wp2_with fail
 go_ret
 exact⟨rfl,box_low⟩
theorem soundC_any {nm:ByteArray→Bool}{L:World→Prop}(hN:NameLaw nm L):∀(n:Nat) (c:CT) (cs:List Value) (w:World),(condSh n).rel (Pak.Lo w.heap.size) w cs c→L w→
 Calls Tryz.prog 103 #[.agg cs.toArray] w (SoundEnd (snC nm n c) w)
 | 0,_,_,_,h,_=>h.elim
 | n+1,c,cs,w,h,hL=>by
   obtain⟨u,v,rfl,_,⟨a1,c1,rfl,hs1⟩,⟨a2,c2,rfl,hs2⟩⟩:=h
   have hA:Below w.heap.size w (w.alloc (.cells #[.int .i64 c.kind,.slice a1 c.es.length c1,.slice a2 c.ks.length c2] 41)):=box_low
   have h1:=allE_any n 108 (snE nm n) a1 c.es.length c1 c.es _ (fun args w=>by kernel_rfl) rfl (hs1.below hA hA.size) (fun cs x W hx hb hr=>soundE_any hN n x cs W hr (hN.keep (hN.keep hL hA) hb))
   have h2:=fun W (hb:Below w.heap.size w W)=>allC_any n 103 (snC nm n) a2 c.ks.length c2 c.ks W (fun args w=>by kernel_rfl) rfl (hs2.below hb hb.size) (fun cs x W' hx hb' hr=>soundC_any hN n x cs W' hr (hN.keep (hN.keep hL hb) hb'))
   unfold snC
   by_cases hk:0≤c.kind∧c.kind≤8
   ·rw[if_pos hk]
    have hkk:c.kind=0∨c.kind=1∨c.kind=2∨c.kind=3∨c.kind=4∨c.kind=5∨c.kind=6∨c.kind=7∨c.kind=8:=by omega
    rcases hkk with hk | hk | hk | hk | hk | hk | hk | hk | hk
    ·rw[hk]at h1⊢
     exact soundC_0 a1 a2 _ c1 _ c2 _ _ w h1 (fun W hb _=>h2 W hb)
    ·rw[hk]at h1⊢
     exact soundC_1 a1 a2 _ c1 _ c2 _ _ w h1 (fun W hb _=>h2 W hb)
    ·rw[hk]at h1⊢
     exact soundC_2 a1 a2 _ c1 _ c2 _ _ w h1 (fun W hb _=>h2 W hb)
    ·rw[hk]at h1⊢
     exact soundC_3 a1 a2 _ c1 _ c2 _ _ w h1 (fun W hb _=>h2 W hb)
    ·rw[hk]at h1⊢
     exact soundC_4 a1 a2 _ c1 _ c2 _ _ w h1 (fun W hb _=>h2 W hb)
    ·rw[hk]at h1⊢
     exact soundC_5 a1 a2 _ c1 _ c2 _ _ w h1 (fun W hb _=>h2 W hb)
    ·rw[hk]at h1⊢
     exact soundC_6 a1 a2 _ c1 _ c2 _ _ w h1 (fun W hb _=>h2 W hb)
    ·rw[hk]at h1⊢
     exact soundC_7 a1 a2 _ c1 _ c2 _ _ w h1 (fun W hb _=>h2 W hb)
    ·rw[hk]at h1⊢
     exact soundC_8 a1 a2 _ c1 _ c2 _ _ w h1 (fun W hb _=>h2 W hb)
   ·rw[if_neg hk]
    exact soundC_x _ _ _ _ _ _ _ w hk
end
section
open Go.RowKit
theorem share_no (k:Int)(ck:Int)(a1:Option Addr)(l1 c1:Nat)(a2:Option Addr)(l2 c2:Nat)(ek en:Int)(es:ByteArray)(a3:Option Addr)(l3 c3:Nat)(vk vn:Int)(vs:ByteArray)(a4:Option Addr)(l4 c4:Nat)(fs:ByteArray)(m:Int)(a5:Option Addr)(l5 c5:Nat)(z1 z2:Bool)(w:World)
 (h1:∀W,Below w.heap.size w W→Calls Tryz.prog 109 #[.agg #[.int .i64 ek,.int .i64 en,.string es,.slice a3 l3 c3]] W (SoundEnd z1 W)) (h2:∀W,Below w.heap.size w W→Calls Tryz.prog 109 #[.agg #[.int .i64 vk,.int .i64 vn,.string vs,.slice a4 l4 c4]] W (SoundEnd z2 W)):
 Calls Tryz.prog 102 #[.agg #[.int .i64 k,.int .i64 ck,.slice a1 l1 c1,.slice a2 l2 c2,.int .i64 ek,.int .i64 en,.string es,.slice a3 l3 c3,.int .i64 vk,.int .i64 vn,.string vs,.slice a4 l4 c4,.string fs,.int .i64 m,.slice a5 l5 c5],.bool false] w (SoundEnd (z1 && z2 && fs.toList.isEmpty && m == 0) w):=by
 have H2:=Lib.hid h2
 have HA:Hid (Below w.heap.size w (w.alloc (.cells #[.int .i64 k,.int .i64 ck,.slice a1 l1 c1,.slice a2 l2 c2,.int .i64 ek,.int .i64 en,.string es,.slice a3 l3 c3,.int .i64 vk,.int .i64 vn,.string vs,.slice a4 l4 c4,.string fs,.int .i64 m,.slice a5 l5 c5] 44))):=box_low
 have HCL:Hid (∀W,Below (w.alloc (.cells #[.int .i64 k,.int .i64 ck,.slice a1 l1 c1,.slice a2 l2 c2,.int .i64 ek,.int .i64 en,.string es,.slice a3 l3 c3,.int .i64 vk,.int .i64 vn,.string vs,.slice a4 l4 c4,.string fs,.int .i64 m,.slice a5 l5 c5] 44)).heap.size (w.alloc (.cells #[.int .i64 k,.int .i64 ck,.slice a1 l1 c1,.slice a2 l2 c2,.int .i64 ek,.int .i64 en,.string es,.slice a3 l3 c3,.int .i64 vk,.int .i64 vn,.string vs,.slice a4 l4 c4,.string fs,.int .i64 m,.slice a5 l5 c5] 44)) W→W.cell? ⟨w.heap.size,0,none⟩=some (.int .i64 k)∧W.cell? ⟨w.heap.size,1,none⟩=some (.int .i64 ck)∧W.cell? ⟨w.heap.size,2,none⟩=some (.slice a1 l1 c1)∧W.cell? ⟨w.heap.size,3,none⟩=some (.slice a2 l2 c2)∧W.cell? ⟨w.heap.size,4,none⟩=some (.int .i64 ek)∧W.cell? ⟨w.heap.size,5,none⟩=some (.int .i64 en)∧W.cell? ⟨w.heap.size,6,none⟩=some (.string es)∧W.cell? ⟨w.heap.size,7,none⟩=some (.slice a3 l3 c3)∧W.cell? ⟨w.heap.size,8,none⟩=some (.int .i64 vk)∧W.cell? ⟨w.heap.size,9,none⟩=some (.int .i64 vn)∧W.cell? ⟨w.heap.size,10,none⟩=some (.string vs)∧W.cell? ⟨w.heap.size,11,none⟩=some (.slice a4 l4 c4)∧W.cell? ⟨w.heap.size,12,none⟩=some (.string fs)∧W.cell? ⟨w.heap.size,13,none⟩=some (.int .i64 m)∧W.cell? ⟨w.heap.size,14,none⟩=some (.slice a5 l5 c5)):=fun W hb=>by
  have hn:=heap_alloc_new w (.cells #[.int .i64 k,.int .i64 ck,.slice a1 l1 c1,.slice a2 l2 c2,.int .i64 ek,.int .i64 en,.string es,.slice a3 l3 c3,.int .i64 vk,.int .i64 vn,.string vs,.slice a4 l4 c4,.string fs,.int .i64 m,.slice a5 l5 c5] 44)
  have hl:w.heap.size<(w.alloc (.cells #[.int .i64 k,.int .i64 ck,.slice a1 l1 c1,.slice a2 l2 c2,.int .i64 ek,.int .i64 en,.string es,.slice a3 l3 c3,.int .i64 vk,.int .i64 vn,.string vs,.slice a4 l4 c4,.string fs,.int .i64 m,.slice a5 l5 c5] 44)).heap.size:=by simp
  exact⟨(hb.cell (p:=⟨w.heap.size,0,none⟩) hl).trans ((cell_of_row _ _ _ _ _ _ hn).trans rfl),(hb.cell (p:=⟨w.heap.size,1,none⟩) hl).trans ((cell_of_row _ _ _ _ _ _ hn).trans rfl),(hb.cell (p:=⟨w.heap.size,2,none⟩) hl).trans ((cell_of_row _ _ _ _ _ _ hn).trans rfl),(hb.cell (p:=⟨w.heap.size,3,none⟩) hl).trans ((cell_of_row _ _ _ _ _ _ hn).trans rfl),(hb.cell (p:=⟨w.heap.size,4,none⟩) hl).trans ((cell_of_row _ _ _ _ _ _ hn).trans rfl),(hb.cell (p:=⟨w.heap.size,5,none⟩) hl).trans ((cell_of_row _ _ _ _ _ _ hn).trans rfl),(hb.cell (p:=⟨w.heap.size,6,none⟩) hl).trans ((cell_of_row _ _ _ _ _ _ hn).trans rfl),(hb.cell (p:=⟨w.heap.size,7,none⟩) hl).trans ((cell_of_row _ _ _ _ _ _ hn).trans rfl),(hb.cell (p:=⟨w.heap.size,8,none⟩) hl).trans ((cell_of_row _ _ _ _ _ _ hn).trans rfl),(hb.cell (p:=⟨w.heap.size,9,none⟩) hl).trans ((cell_of_row _ _ _ _ _ _ hn).trans rfl),(hb.cell (p:=⟨w.heap.size,10,none⟩) hl).trans ((cell_of_row _ _ _ _ _ _ hn).trans rfl),(hb.cell (p:=⟨w.heap.size,11,none⟩) hl).trans ((cell_of_row _ _ _ _ _ _ hn).trans rfl),(hb.cell (p:=⟨w.heap.size,12,none⟩) hl).trans ((cell_of_row _ _ _ _ _ _ hn).trans rfl),(hb.cell (p:=⟨w.heap.size,13,none⟩) hl).trans ((cell_of_row _ _ _ _ _ _ hn).trans rfl),(hb.cell (p:=⟨w.heap.size,14,none⟩) hl).trans ((cell_of_row _ _ _ _ _ _ hn).trans rfl)⟩
 have X1:=Lib.hid (h1 _ HA.out)
 clear h1 h2
 go_enter Tryz.func102,Tryz.ntmps102
 go_wp2_with fail
 refine X1.out.mono ?_
 rintro r w2 ⟨rfl,hb⟩
 have HB2:=Lib.hid (HA.out.trans (hb.mono HA.out.size))
 have HN2:=Lib.hid (hb)
 clear hb X1
 obtain⟨q0,q1,q2,q3,q4,q5,q6,q7,q8,q9,q10,q11,q12,q13,q14⟩:=HCL.out _ HN2.out
 have X2:=Lib.hid (H2.out _ HB2.out)
 cases z1 with
 | false=>
   clear X2
   go_wp2_with fail
   go_ret
   exact⟨rfl,HB2.out⟩
 | true=>
   go_wp2_with fail
   clear q0 q1 q2 q3 q4 q5 q6 q7 q8 q9 q10 q11 q12 q13 q14
   refine X2.out.mono ?_
   rintro r w3 ⟨rfl,hb⟩
   have HB3:=Lib.hid (HB2.out.trans (hb.mono HB2.out.size))
   have HN3:=Lib.hid (HN2.out.trans (hb.mono HN2.out.size))
   clear hb X2
   obtain⟨q0,q1,q2,q3,q4,q5,q6,q7,q8,q9,q10,q11,q12,q13,q14⟩:=HCL.out _ HN3.out
   cases z2 with
   | false=>
     go_wp2_with fail
     go_ret
     exact⟨rfl,HB3.out⟩
   | true=>
     go_wp2_with fail
     all_goals
      go_ret
      refine⟨?_,HB3.out⟩
      simp_all
theorem share_2 (ck:Int)(a1:Option Addr)(l1 c1:Nat)(a2:Option Addr)(l2 c2:Nat)(ek en:Int)(es:ByteArray)(a3:Option Addr)(l3 c3:Nat)(vk vn:Int)(vs:ByteArray)(a4:Option Addr)(l4 c4:Nat)(fs:ByteArray)(m:Int)(a5:Option Addr)(l5 c5:Nat)(z1 z2 z3:Bool)(w:World)
 (h1:∀W,Below w.heap.size w W→Calls Tryz.prog 109 #[.agg #[.int .i64 vk,.int .i64 vn,.string vs,.slice a4 l4 c4]] W (SoundEnd z1 W)) (h2:∀W,Below w.heap.size w W→Calls Tryz.prog 108 #[.agg #[.int .i64 ek,.int .i64 en,.string es,.slice a3 l3 c3]] W (SoundEnd z2 W)) (h3:∀W,Below w.heap.size w W→Calls Tryz.prog 69 #[.string fs] W (SoundEnd z3 W)):
 Calls Tryz.prog 102 #[.agg #[.int .i64 2,.int .i64 ck,.slice a1 l1 c1,.slice a2 l2 c2,.int .i64 ek,.int .i64 en,.string es,.slice a3 l3 c3,.int .i64 vk,.int .i64 vn,.string vs,.slice a4 l4 c4,.string fs,.int .i64 m,.slice a5 l5 c5],.bool true] w (SoundEnd (z1 && (z2 && z3 && (decide (0≤m) && decide (m≤1073741824)))) w):=by
 have H2:=Lib.hid h2
 have H3:=Lib.hid h3
 have HA:Hid (Below w.heap.size w (w.alloc (.cells #[.int .i64 2,.int .i64 ck,.slice a1 l1 c1,.slice a2 l2 c2,.int .i64 ek,.int .i64 en,.string es,.slice a3 l3 c3,.int .i64 vk,.int .i64 vn,.string vs,.slice a4 l4 c4,.string fs,.int .i64 m,.slice a5 l5 c5] 44))):=box_low
 have HCL:Hid (∀W,Below (w.alloc (.cells #[.int .i64 2,.int .i64 ck,.slice a1 l1 c1,.slice a2 l2 c2,.int .i64 ek,.int .i64 en,.string es,.slice a3 l3 c3,.int .i64 vk,.int .i64 vn,.string vs,.slice a4 l4 c4,.string fs,.int .i64 m,.slice a5 l5 c5] 44)).heap.size (w.alloc (.cells #[.int .i64 2,.int .i64 ck,.slice a1 l1 c1,.slice a2 l2 c2,.int .i64 ek,.int .i64 en,.string es,.slice a3 l3 c3,.int .i64 vk,.int .i64 vn,.string vs,.slice a4 l4 c4,.string fs,.int .i64 m,.slice a5 l5 c5] 44)) W→W.cell? ⟨w.heap.size,0,none⟩=some (.int .i64 2)∧W.cell? ⟨w.heap.size,1,none⟩=some (.int .i64 ck)∧W.cell? ⟨w.heap.size,2,none⟩=some (.slice a1 l1 c1)∧W.cell? ⟨w.heap.size,3,none⟩=some (.slice a2 l2 c2)∧W.cell? ⟨w.heap.size,4,none⟩=some (.int .i64 ek)∧W.cell? ⟨w.heap.size,5,none⟩=some (.int .i64 en)∧W.cell? ⟨w.heap.size,6,none⟩=some (.string es)∧W.cell? ⟨w.heap.size,7,none⟩=some (.slice a3 l3 c3)∧W.cell? ⟨w.heap.size,8,none⟩=some (.int .i64 vk)∧W.cell? ⟨w.heap.size,9,none⟩=some (.int .i64 vn)∧W.cell? ⟨w.heap.size,10,none⟩=some (.string vs)∧W.cell? ⟨w.heap.size,11,none⟩=some (.slice a4 l4 c4)∧W.cell? ⟨w.heap.size,12,none⟩=some (.string fs)∧W.cell? ⟨w.heap.size,13,none⟩=some (.int .i64 m)∧W.cell? ⟨w.heap.size,14,none⟩=some (.slice a5 l5 c5)):=fun W hb=>by
  have hn:=heap_alloc_new w (.cells #[.int .i64 2,.int .i64 ck,.slice a1 l1 c1,.slice a2 l2 c2,.int .i64 ek,.int .i64 en,.string es,.slice a3 l3 c3,.int .i64 vk,.int .i64 vn,.string vs,.slice a4 l4 c4,.string fs,.int .i64 m,.slice a5 l5 c5] 44)
  have hl:w.heap.size<(w.alloc (.cells #[.int .i64 2,.int .i64 ck,.slice a1 l1 c1,.slice a2 l2 c2,.int .i64 ek,.int .i64 en,.string es,.slice a3 l3 c3,.int .i64 vk,.int .i64 vn,.string vs,.slice a4 l4 c4,.string fs,.int .i64 m,.slice a5 l5 c5] 44)).heap.size:=by simp
  exact⟨(hb.cell (p:=⟨w.heap.size,0,none⟩) hl).trans ((cell_of_row _ _ _ _ _ _ hn).trans rfl),(hb.cell (p:=⟨w.heap.size,1,none⟩) hl).trans ((cell_of_row _ _ _ _ _ _ hn).trans rfl),(hb.cell (p:=⟨w.heap.size,2,none⟩) hl).trans ((cell_of_row _ _ _ _ _ _ hn).trans rfl),(hb.cell (p:=⟨w.heap.size,3,none⟩) hl).trans ((cell_of_row _ _ _ _ _ _ hn).trans rfl),(hb.cell (p:=⟨w.heap.size,4,none⟩) hl).trans ((cell_of_row _ _ _ _ _ _ hn).trans rfl),(hb.cell (p:=⟨w.heap.size,5,none⟩) hl).trans ((cell_of_row _ _ _ _ _ _ hn).trans rfl),(hb.cell (p:=⟨w.heap.size,6,none⟩) hl).trans ((cell_of_row _ _ _ _ _ _ hn).trans rfl),(hb.cell (p:=⟨w.heap.size,7,none⟩) hl).trans ((cell_of_row _ _ _ _ _ _ hn).trans rfl),(hb.cell (p:=⟨w.heap.size,8,none⟩) hl).trans ((cell_of_row _ _ _ _ _ _ hn).trans rfl),(hb.cell (p:=⟨w.heap.size,9,none⟩) hl).trans ((cell_of_row _ _ _ _ _ _ hn).trans rfl),(hb.cell (p:=⟨w.heap.size,10,none⟩) hl).trans ((cell_of_row _ _ _ _ _ _ hn).trans rfl),(hb.cell (p:=⟨w.heap.size,11,none⟩) hl).trans ((cell_of_row _ _ _ _ _ _ hn).trans rfl),(hb.cell (p:=⟨w.heap.size,12,none⟩) hl).trans ((cell_of_row _ _ _ _ _ _ hn).trans rfl),(hb.cell (p:=⟨w.heap.size,13,none⟩) hl).trans ((cell_of_row _ _ _ _ _ _ hn).trans rfl),(hb.cell (p:=⟨w.heap.size,14,none⟩) hl).trans ((cell_of_row _ _ _ _ _ _ hn).trans rfl)⟩
 have X1:=Lib.hid (h1 _ HA.out)
 clear h1 h2 h3
 go_enter Tryz.func102,Tryz.ntmps102
 go_wp2_with fail
 refine X1.out.mono ?_
 rintro r w2 ⟨rfl,hb⟩
 have HB2:=Lib.hid (HA.out.trans (hb.mono HA.out.size))
 have HN2:=Lib.hid (hb)
 clear hb X1
 obtain⟨q0,q1,q2,q3,q4,q5,q6,q7,q8,q9,q10,q11,q12,q13,q14⟩:=HCL.out _ HN2.out
 have X2:=Lib.hid (H2.out _ HB2.out)
 cases z1 with
 | false=>
   clear X2
   go_wp2_with fail
   go_ret
   exact⟨rfl,HB2.out⟩
 | true=>
   go_wp2_with fail
   clear q0 q1 q2 q3 q4 q5 q6 q7 q8 q9 q10 q11 q12 q13 q14
   refine X2.out.mono ?_
   rintro r w3 ⟨rfl,hb⟩
   have HB3:=Lib.hid (HB2.out.trans (hb.mono HB2.out.size))
   have HN3:=Lib.hid (HN2.out.trans (hb.mono HN2.out.size))
   clear hb X2
   obtain⟨q0,q1,q2,q3,q4,q5,q6,q7,q8,q9,q10,q11,q12,q13,q14⟩:=HCL.out _ HN3.out
   have X3:=Lib.hid (H3.out _ HB3.out)
   cases z2 with
   | false=>
     clear X3
     go_wp2_with fail
     go_ret
     exact⟨rfl,HB3.out⟩
   | true=>
     go_wp2_with fail
     clear q0 q1 q2 q3 q4 q5 q6 q7 q8 q9 q10 q11 q12 q13 q14
     refine X3.out.mono ?_
     rintro r w4 ⟨rfl,hb⟩
     have HB4:=Lib.hid (HB3.out.trans (hb.mono HB3.out.size))
     have HN4:=Lib.hid (HN3.out.trans (hb.mono HN3.out.size))
     clear hb X3
     obtain⟨q0,q1,q2,q3,q4,q5,q6,q7,q8,q9,q10,q11,q12,q13,q14⟩:=HCL.out _ HN4.out
     cases z3 with
     | false=>
       go_wp2_with fail
       go_ret
       exact⟨rfl,HB4.out⟩
     | true=>
       go_wp2_with fail
       all_goals
        go_ret
        refine⟨?_,HB4.out⟩
        simp_all<;>(intros;omega)
theorem share_3 (ck:Int)(a1:Option Addr)(l1 c1:Nat)(a2:Option Addr)(l2 c2:Nat)(ek en:Int)(es:ByteArray)(a3:Option Addr)(l3 c3:Nat)(vk vn:Int)(vs:ByteArray)(a4:Option Addr)(l4 c4:Nat)(fs:ByteArray)(m:Int)(a5:Option Addr)(l5 c5:Nat)(z1 z2 z3:Bool)(w:World)
 (h1:∀W,Below w.heap.size w W→Calls Tryz.prog 108 #[.agg #[.int .i64 vk,.int .i64 vn,.string vs,.slice a4 l4 c4]] W (SoundEnd z1 W)) (h2:∀W,Below w.heap.size w W→Calls Tryz.prog 108 #[.agg #[.int .i64 ek,.int .i64 en,.string es,.slice a3 l3 c3]] W (SoundEnd z2 W)) (h3:∀W,Below w.heap.size w W→Calls Tryz.prog 69 #[.string fs] W (SoundEnd z3 W)):
 Calls Tryz.prog 102 #[.agg #[.int .i64 3,.int .i64 ck,.slice a1 l1 c1,.slice a2 l2 c2,.int .i64 ek,.int .i64 en,.string es,.slice a3 l3 c3,.int .i64 vk,.int .i64 vn,.string vs,.slice a4 l4 c4,.string fs,.int .i64 m,.slice a5 l5 c5],.bool true] w (SoundEnd (z1 && (z2 && z3 && (decide (0≤m) && decide (m≤1073741824)))) w):=by
 have H2:=Lib.hid h2
 have H3:=Lib.hid h3
 have HA:Hid (Below w.heap.size w (w.alloc (.cells #[.int .i64 3,.int .i64 ck,.slice a1 l1 c1,.slice a2 l2 c2,.int .i64 ek,.int .i64 en,.string es,.slice a3 l3 c3,.int .i64 vk,.int .i64 vn,.string vs,.slice a4 l4 c4,.string fs,.int .i64 m,.slice a5 l5 c5] 44))):=box_low
 have HCL:Hid (∀W,Below (w.alloc (.cells #[.int .i64 3,.int .i64 ck,.slice a1 l1 c1,.slice a2 l2 c2,.int .i64 ek,.int .i64 en,.string es,.slice a3 l3 c3,.int .i64 vk,.int .i64 vn,.string vs,.slice a4 l4 c4,.string fs,.int .i64 m,.slice a5 l5 c5] 44)).heap.size (w.alloc (.cells #[.int .i64 3,.int .i64 ck,.slice a1 l1 c1,.slice a2 l2 c2,.int .i64 ek,.int .i64 en,.string es,.slice a3 l3 c3,.int .i64 vk,.int .i64 vn,.string vs,.slice a4 l4 c4,.string fs,.int .i64 m,.slice a5 l5 c5] 44)) W→W.cell? ⟨w.heap.size,0,none⟩=some (.int .i64 3)∧W.cell? ⟨w.heap.size,1,none⟩=some (.int .i64 ck)∧W.cell? ⟨w.heap.size,2,none⟩=some (.slice a1 l1 c1)∧W.cell? ⟨w.heap.size,3,none⟩=some (.slice a2 l2 c2)∧W.cell? ⟨w.heap.size,4,none⟩=some (.int .i64 ek)∧W.cell? ⟨w.heap.size,5,none⟩=some (.int .i64 en)∧W.cell? ⟨w.heap.size,6,none⟩=some (.string es)∧W.cell? ⟨w.heap.size,7,none⟩=some (.slice a3 l3 c3)∧W.cell? ⟨w.heap.size,8,none⟩=some (.int .i64 vk)∧W.cell? ⟨w.heap.size,9,none⟩=some (.int .i64 vn)∧W.cell? ⟨w.heap.size,10,none⟩=some (.string vs)∧W.cell? ⟨w.heap.size,11,none⟩=some (.slice a4 l4 c4)∧W.cell? ⟨w.heap.size,12,none⟩=some (.string fs)∧W.cell? ⟨w.heap.size,13,none⟩=some (.int .i64 m)∧W.cell? ⟨w.heap.size,14,none⟩=some (.slice a5 l5 c5)):=fun W hb=>by
  have hn:=heap_alloc_new w (.cells #[.int .i64 3,.int .i64 ck,.slice a1 l1 c1,.slice a2 l2 c2,.int .i64 ek,.int .i64 en,.string es,.slice a3 l3 c3,.int .i64 vk,.int .i64 vn,.string vs,.slice a4 l4 c4,.string fs,.int .i64 m,.slice a5 l5 c5] 44)
  have hl:w.heap.size<(w.alloc (.cells #[.int .i64 3,.int .i64 ck,.slice a1 l1 c1,.slice a2 l2 c2,.int .i64 ek,.int .i64 en,.string es,.slice a3 l3 c3,.int .i64 vk,.int .i64 vn,.string vs,.slice a4 l4 c4,.string fs,.int .i64 m,.slice a5 l5 c5] 44)).heap.size:=by simp
  exact⟨(hb.cell (p:=⟨w.heap.size,0,none⟩) hl).trans ((cell_of_row _ _ _ _ _ _ hn).trans rfl),(hb.cell (p:=⟨w.heap.size,1,none⟩) hl).trans ((cell_of_row _ _ _ _ _ _ hn).trans rfl),(hb.cell (p:=⟨w.heap.size,2,none⟩) hl).trans ((cell_of_row _ _ _ _ _ _ hn).trans rfl),(hb.cell (p:=⟨w.heap.size,3,none⟩) hl).trans ((cell_of_row _ _ _ _ _ _ hn).trans rfl),(hb.cell (p:=⟨w.heap.size,4,none⟩) hl).trans ((cell_of_row _ _ _ _ _ _ hn).trans rfl),(hb.cell (p:=⟨w.heap.size,5,none⟩) hl).trans ((cell_of_row _ _ _ _ _ _ hn).trans rfl),(hb.cell (p:=⟨w.heap.size,6,none⟩) hl).trans ((cell_of_row _ _ _ _ _ _ hn).trans rfl),(hb.cell (p:=⟨w.heap.size,7,none⟩) hl).trans ((cell_of_row _ _ _ _ _ _ hn).trans rfl),(hb.cell (p:=⟨w.heap.size,8,none⟩) hl).trans ((cell_of_row _ _ _ _ _ _ hn).trans rfl),(hb.cell (p:=⟨w.heap.size,9,none⟩) hl).trans ((cell_of_row _ _ _ _ _ _ hn).trans rfl),(hb.cell (p:=⟨w.heap.size,10,none⟩) hl).trans ((cell_of_row _ _ _ _ _ _ hn).trans rfl),(hb.cell (p:=⟨w.heap.size,11,none⟩) hl).trans ((cell_of_row _ _ _ _ _ _ hn).trans rfl),(hb.cell (p:=⟨w.heap.size,12,none⟩) hl).trans ((cell_of_row _ _ _ _ _ _ hn).trans rfl),(hb.cell (p:=⟨w.heap.size,13,none⟩) hl).trans ((cell_of_row _ _ _ _ _ _ hn).trans rfl),(hb.cell (p:=⟨w.heap.size,14,none⟩) hl).trans ((cell_of_row _ _ _ _ _ _ hn).trans rfl)⟩
 have X1:=Lib.hid (h1 _ HA.out)
 clear h1 h2 h3
 go_enter Tryz.func102,Tryz.ntmps102
 go_wp2_with fail
 refine X1.out.mono ?_
 rintro r w2 ⟨rfl,hb⟩
 have HB2:=Lib.hid (HA.out.trans (hb.mono HA.out.size))
 have HN2:=Lib.hid (hb)
 clear hb X1
 obtain⟨q0,q1,q2,q3,q4,q5,q6,q7,q8,q9,q10,q11,q12,q13,q14⟩:=HCL.out _ HN2.out
 have X2:=Lib.hid (H2.out _ HB2.out)
 cases z1 with
 | false=>
   clear X2
   go_wp2_with fail
   go_ret
   exact⟨rfl,HB2.out⟩
 | true=>
   go_wp2_with fail
   clear q0 q1 q2 q3 q4 q5 q6 q7 q8 q9 q10 q11 q12 q13 q14
   refine X2.out.mono ?_
   rintro r w3 ⟨rfl,hb⟩
   have HB3:=Lib.hid (HB2.out.trans (hb.mono HB2.out.size))
   have HN3:=Lib.hid (HN2.out.trans (hb.mono HN2.out.size))
   clear hb X2
   obtain⟨q0,q1,q2,q3,q4,q5,q6,q7,q8,q9,q10,q11,q12,q13,q14⟩:=HCL.out _ HN3.out
   have X3:=Lib.hid (H3.out _ HB3.out)
   cases z2 with
   | false=>
     clear X3
     go_wp2_with fail
     go_ret
     exact⟨rfl,HB3.out⟩
   | true=>
     go_wp2_with fail
     clear q0 q1 q2 q3 q4 q5 q6 q7 q8 q9 q10 q11 q12 q13 q14
     refine X3.out.mono ?_
     rintro r w4 ⟨rfl,hb⟩
     have HB4:=Lib.hid (HB3.out.trans (hb.mono HB3.out.size))
     have HN4:=Lib.hid (HN3.out.trans (hb.mono HN3.out.size))
     clear hb X3
     obtain⟨q0,q1,q2,q3,q4,q5,q6,q7,q8,q9,q10,q11,q12,q13,q14⟩:=HCL.out _ HN4.out
     cases z3 with
     | false=>
       go_wp2_with fail
       go_ret
       exact⟨rfl,HB4.out⟩
     | true=>
       go_wp2_with fail
       all_goals
        go_ret
        refine⟨?_,HB4.out⟩
        simp_all<;>(intros;omega)
end
section
open Go.RowKit
def SzP (p:Prop)(k:Nat)(l:Int)(w:World)(r:Ending)(w':World):Prop:=∃x:Int,r= .returned (.int .i64 x)∧ -1≤x∧x≤l∧(0≤x→x+k≤l∧p)∧Below w.heap.size w w'
def ptE:Nat→ET→Nat
 | 0,_=>0
 | n+1,e=>1+(e.ks.map (ptE n)).sum
def ptEs (n:Nat)(l:List ET):Nat:=(l.map (ptE n)).sum
theorem ptE_succ (n:Nat)(e:ET):ptE (n+1) e=1+ptEs n e.ks:=rfl
theorem ptEs_snoc {n:Nat}{l:List ET}{j:Nat}(h:j<l.length):ptEs n (l.take (j+1))=ptEs n (l.take j)+ptE n l[j]:=by
 unfold ptEs
 rw[List.take_succ_eq_append_getElem h,List.map_append,List.sum_append]
 simp
def nmE2:Nat→ET→Prop
 | 0,_=>True
 | n+1,e=>e.name.size≤200∧∀k∈e.ks,nmE2 n k
theorem take_snoc_all {T:Type}{P:T→Prop}{l:List T}{j:Nat}(h:j<l.length)(h1:∀x∈l.take j,P x)(h2:P l[j]):∀x∈l.take (j+1),P x:=fun x hx=>by
 rw[List.take_succ_eq_append_getElem h,List.mem_append,List.mem_singleton]at hx
 rcases hx with hx | rfl
 ·exact h1 x hx
 ·exact h2
theorem sizeE_box (n:Nat)(es:List ET)(a:Option Addr)(m cap:Nat)(l dd:Int)(w:World)(hm:es.length=m)(hd0:0≤dd)(hd1:dd≤300)(hl0: -1≤l)(hl1:l≤1000000)(hs:Pak.Sits (exprSh (n+1)) (Pak.Lo w.heap.size) w a es)
 (hk:∀(x:ET) (u:Option Addr) (c:Nat) (q:Int) (W:World),x∈es→1≤dd→ -1≤q→q≤1000000→Below w.heap.size w W→Pak.Sits (exprSh n) (Pak.Lo W.heap.size) W u x.ks→Calls Tryz.prog 64 #[.slice u x.ks.length c,.int .i64 q,.int .i64 (dd - 1)] W (SzP (∀k∈x.ks,nmE2 n k) (ptEs n x.ks) q W)):
 Calls Tryz.prog 64 #[.slice a m cap,.int .i64 l,.int .i64 dd] w (SzP (∀x∈es,nmE2 (n+1) x) (ptEs (n+1) es) l w):=by
 have HS:=Lib.hid hs
 have HM:=Lib.hid hm
 have hmm:m≤9223372036854775807:=by rw[←hm];exact hs.1
 have HK:=Lib.hid hk
 have HD0:=Lib.hid hd0
 have HD1:=Lib.hid hd1
 have HL0:=Lib.hid hl0
 have HL1:=Lib.hid hl1
 clear hs hm hk hd0 hd1 hl0 hl1
 by_cases hz:dd=0
 ·have e0:(dd == 0)=true:=by rw[hz];rfl
  clear hz
  go_enter Tryz.func64,Tryz.ntmps64
  go_wp2_with fail
  go_ret
  exact⟨-1,rfl,by omega,HL0.out,fun h=>absurd h (by decide),Below.refl _ _⟩
 ·have e0:(dd == 0)=false:=beq_eq_false_iff_ne.2 hz
  have HD2:Hid (1≤dd):=Lib.hid (by have:=HD0.out;omega)
  have ed:IntKind.i64.wrap (dd - 1)=dd - 1:=IntWalk.i64_in _ (by have:=HD0.out;have:=HD1.out;omega)
  clear hz
  go_enter Tryz.func64,Tryz.ntmps64
  go_wp2_with fail
  go_loopw [1,7] (fun t i wr=>∃(j:Nat) (x:Int),j≤m∧t= .int .i64 x∧i= .int .i64 j∧Hid (-1≤x∧x≤l∧(0≤x→x+ptEs (n+1) (es.take j)≤l∧∀y∈es.take j,nmE2 (n+1) y))∧Hid (Below w.heap.size w wr)) (fun _ i _=>m - (intOf i).toNat)
  case atStart=>exact⟨0,l,Nat.zero_le _,rfl,rfl,Lib.hid ⟨HL0.out,Int.le_refl _,fun _=>⟨by simp[ptEs],fun y h=>by simp at h⟩⟩,Below.refl _ _⟩
  case round=>
   obtain⟨j,x,hj,rfl,rfl,hin,hbr⟩:=hrel
   by_cases hx:0≤x
   ·have g1:decide (x ≥ 0)=true:=decide_eq_true hx
    have g2:decide (0≤x)=true:=decide_eq_true hx
    have ex:IntKind.i64.wrap (x - 1)=x - 1:=IntWalk.i64_in _ (by have:=hin.out;have:=HL1.out;omega)
    have HX:=Lib.hid hx
    clear hx
    by_cases hlt:j<m
    ·have hlx:j<es.length:=by rw[HM.out];exact hlt
     obtain⟨b,off,cs,rfl,hbl,hc,hrl⟩:=HS.out.2 j hlx
     obtain⟨v,rfl,_,u,c,rfl,hsk⟩:=hrl
     have c2:=(hbr.out.cell (p:=⟨b,_,none⟩) hbl).trans (hc 2 _ rfl)
     have c3:=(hbr.out.cell (p:=⟨b,_,none⟩) hbl).trans (hc 3 _ rfl)
     rw[exprSh_k]at c2 c3
     have HC:=Lib.hid (fun q hq0 hq1=>HK.out es[j] u c q wr (List.getElem_mem hlx) HD2.out hq0 hq1 hbr.out (hsk.below hbr.out hbr.out.size))
     have hji:(j:Int)<(m:Int):=by omega
     have HSN:=Lib.hid (And.intro (ptEs_snoc (n:=n+1) hlx) (fun(h1:∀y∈es.take j,nmE2 (n+1) y) (h2:nmE2 (n+1) es[j])=>take_snoc_all hlx h1 h2))
     have HPT:Hid (ptE (n+1) es[j]=1+ptEs n es[j].ks∧(es[j].name.size≤200→(∀k∈es[j].ks,nmE2 n k)→nmE2 (n+1) es[j])):=Lib.hid ⟨ptE_succ n _,fun h1 h2=>⟨h1,h2⟩⟩
     clear hc hsk
     generalize es[j]=y at c2 c3 HC HSN HPT
     obtain⟨kl,hkl⟩:∃kl,y.ks.length=kl:=⟨_,rfl⟩
     obtain⟨nm,hnmE⟩:∃nm,y.name=nm:=⟨_,rfl⟩
     rw[hkl]at c3 HC
     rw[hnmE]at c2 HPT
     clear hkl hnmE
     by_cases hn:(200:Int)<(nm.size:Int)
     ·have d1:decide ((nm.size:Int) > 200)=true:=decide_eq_true hn
      have d2:decide ((200:Int)<(nm.size:Int))=true:=decide_eq_true hn
      have d3:200<nm.size:=by omega
      clear hn
      go_wp2_with fail
      go_ret
      exact⟨-1,rfl,by omega,HL0.out,fun h=>absurd h (by decide),hbr.out⟩
     ·have d1:decide ((nm.size:Int) > 200)=false:=decide_eq_false hn
      have d2:decide ((200:Int)<(nm.size:Int))=false:=decide_eq_false hn
      have d3:¬ 200<nm.size:=by omega
      clear hn
      go_wp2_with fail
      refine(HC.out (x - 1) (by have:=HX.out;omega) (by have:=hin.out;have:=HL1.out;omega)).mono ?_
      rintro r w3 ⟨x2,rfl,h1,h2,h3,hb⟩
      have HB3:=Lib.hid (hbr.out.trans (hb.mono hbr.out.size))
      have HN:Hid (-1≤x2∧x2≤l∧(0≤x2→x2+ptEs (n+1) (es.take (j+1))≤l∧∀y∈es.take (j+1),nmE2 (n+1) y)):=Lib.hid (by have:=hin.out;refine⟨h1,by omega,fun h=> ?_⟩;have q1:=h3 h;have q2:=hin.out.2.2 HX.out;have q3:=HSN.out.1;have q4:=HPT.out.1;exact⟨(by omega),HSN.out.2 q2.2 (HPT.out.2 (by omega) q1.2)⟩)
      clear h1 h2 h3 hb HC hin hbr
      go_wp2_with fail
      go_roundw
      case rel=>exact⟨j+1,x2,by omega,rfl,by go_num,HN,HB3⟩
      case measure=>simp[intOf];omega
    ·obtain rfl:j=m:=by omega
     have HE:Hid (SzP (∀x∈es,nmE2 (n+1) x) (ptEs (n+1) es) l w (.returned (.int .i64 x)) wr):=Lib.hid ⟨x,rfl,hin.out.1,hin.out.2.1,(by have h:=hin.out.2.2;rwa [←HM.out,List.take_length]at h),hbr.out⟩
     go_wp2_with fail
     go_ret
     exact HE.out
   ·have g1:decide (x ≥ 0)=false:=decide_eq_false hx
    have g2:decide (0≤x)=false:=decide_eq_false hx
    have HE:Hid (SzP (∀x∈es,nmE2 (n+1) x) (ptEs (n+1) es) l w (.returned (.int .i64 x)) wr):=Lib.hid ⟨x,rfl,hin.out.1,hin.out.2.1,fun h=>absurd h hx,hbr.out⟩
    clear hx
    by_cases hlt:j<m
    ·have hji:(j:Int)<(m:Int):=by omega
     go_wp2_with fail
     go_ret
     exact HE.out
    ·obtain rfl:j=m:=by omega
     go_wp2_with fail
     go_ret
     exact HE.out
theorem sizeE_any:∀(n:Nat) (es:List ET) (a:Option Addr) (cap:Nat) (l dd:Int) (w:World),0≤dd→dd≤300→ -1≤l→l≤1000000→Pak.Sits (exprSh n) (Pak.Lo w.heap.size) w a es→
 Calls Tryz.prog 64 #[.slice a es.length cap,.int .i64 l,.int .i64 dd] w (SzP (∀x∈es,nmE2 n x) (ptEs n es) l w)
 | 0,es,a,cap,l,dd,w,h1,h2,h3,h4,hs=>by
   have he:es=[]:=by
    cases es with
    | nil=>rfl
    | cons x xs=>
      obtain⟨_,_,_,_,_,_,hr⟩:=hs.2 0 (by simp)
      exact hr.elim
   subst he
   have h:=sizeE_box 0 [] a 0 cap l dd w rfl h1 h2 h3 h4 (Pak.Sits.nil _ _ _ _) fun x u c q W hx _ _ _ _ _=>absurd hx (by simp)
   exact h.mono fun r w2 ⟨x,e1,e2,e3,e4,e5⟩=>⟨x,e1,e2,e3,fun h=>⟨by simpa [ptEs]using(e4 h).1,fun y hy=>by simp at hy⟩,e5⟩
 | n+1,es,a,cap,l,dd,w,h1,h2,h3,h4,hs=>
   sizeE_box n es a es.length cap l dd w rfl h1 h2 h3 h4 hs fun x u c q W _ hd hq0 hq1 hW hsx=>
    sizeE_any n x.ks u c q (dd - 1) W (by omega) (by omega) hq0 hq1 hsx
end
end Go.Proofs.YtfcaclmcnlflfaaGreatDoor
