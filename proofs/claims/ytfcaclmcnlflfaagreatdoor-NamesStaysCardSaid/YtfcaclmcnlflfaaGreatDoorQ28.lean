/- Parts of a proof. -/
import Derived.Test.YtfcaclmcnlflfaaGreatDoorQ23
import Derived.Test.YtfcaclmcnlflfaaGreatDoorQ25
import Derived.Test.YtfcaclmcnlflfaaGreatDoorQ26
set_option linter.unusedVariables false
set_option linter.unusedSimpArgs false
set_option maxHeartbeats 60000000
set_option maxRecDepth 100000
namespace Go.Proofs.YtfcaclmcnlflfaaGreatDoor
section
open Go.RowKit
theorem rassn_any {nm:ByteArray→Bool}(hN:∀s w,s.size≤maxLen→BoolAll 47 #[.string s] (nm s) w):∀(n:Nat) (a:AT) (cs:List Value) (w:World),(assnSh n).rel (Pak.Lo w.heap.size) w cs a→
 Calls Tryz.prog 49 #[.agg cs.toArray] w (SoundEnd (snA nm n a) w)
 | 0,_,_,_,h=>h.elim
 | n+1,s,cs,w,h=>by
   obtain⟨cc,ce,cv,a,c,H⟩:=assn_is h
   have hf:∀cs x W,Below w.heap.size w W→(assnSh n).rel (Pak.Lo W.heap.size) W cs x→Calls Tryz.prog 49 #[.agg cs.toArray] W (SoundEnd (snA nm n x) W):=fun cs x W _ hr=>rassn_any hN n x cs W hr
   have q0:=H.kind
   have x1:BoolAll 88 #[.agg cc.toArray] (!noC s.c) w:=fun W hW=>hasC_any n s.c cc W (rel_low H.rc hW)
   have x2:BoolAll 89 #[.agg ce.toArray] (!noE s.e) w:=fun W hW=>hasE_any n s.e ce W (rel_low H.re hW)
   have x3:BoolAll 89 #[.agg cv.toArray] (!noE s.v) w:=fun W hW=>hasE_any n s.v cv W (rel_low H.rv hW)
   have x4:BoolAll 90 #[.agg ce.toArray] (snE nm n s.e) w:=fun W hW=>rexpr_any hN n s.e ce W (rel_low H.re hW)
   have x5:=hN s.field w H.nums.2.2
   have x6:BoolAll 91 #[.agg cc.toArray] (snC nm n s.c) w:=fun W hW=>rcond_any hN n s.c cc W (rel_low H.rc hW)
   have x7:BoolAll 90 #[.agg cv.toArray] (snE nm n s.v) w:=fun W hW=>rexpr_any hN n s.v cv W (rel_low H.rv hW)
   unfold snA
   by_cases h2:0≤s.kind∧s.kind≤5
   ·rw[if_pos h2]
    unfold shA
    have hk:s.kind=0∨s.kind=1∨s.kind=2∨s.kind=3∨s.kind=4∨s.kind=5:=by omega
    rcases hk with hk | hk | hk | hk | hk | hk
    ·rw[hk]at q0⊢
     have:=rassn_0 n _ cs cc ce cv s.field s.n a _ c s.ks _ _ _ _ _ _ _ w rfl H.rkids q0 H.pc H.pe H.pv H.field H.num H.kids H.lc H.le H.lv hf x1 x2 x3 x4 x5 x6 x7 _ _ rfl rfl
     refine this.mono ?_
     rintro r w' ⟨rfl,hb⟩
     refine⟨congrArg (fun b=>Ending.returned (.bool b)) ?_,hb⟩
     rw[Bool.eq_iff_iff]
     simp[ksA,and_assoc,and_comm,and_left_comm]
    ·rw[hk]at q0⊢
     have:=rassn_1 n _ cs cc ce cv s.field s.n a _ c s.ks _ _ _ _ _ _ _ w rfl H.rkids q0 H.pc H.pe H.pv H.field H.num H.kids H.lc H.le H.lv hf x1 x2 x3 x4 x5 x6 x7 _ _ rfl rfl
     refine this.mono ?_
     rintro r w' ⟨rfl,hb⟩
     refine⟨congrArg (fun b=>Ending.returned (.bool b)) ?_,hb⟩
     rw[Bool.eq_iff_iff]
     simp[ksA,and_assoc,and_comm,and_left_comm]
    ·rw[hk]at q0⊢
     have:=rassn_2 n _ cs cc ce cv s.field s.n a _ c s.ks _ _ _ _ _ _ _ w rfl H.rkids q0 H.pc H.pe H.pv H.field H.num H.kids H.lc H.le H.lv hf x1 x2 x3 x4 x5 x6 x7 _ _ rfl rfl
     refine this.mono ?_
     rintro r w' ⟨rfl,hb⟩
     refine⟨congrArg (fun b=>Ending.returned (.bool b)) ?_,hb⟩
     rw[Bool.eq_iff_iff]
     simp[ksA,and_assoc,and_comm,and_left_comm]
    ·rw[hk]at q0⊢
     have:=rassn_3 n _ cs cc ce cv s.field s.n a _ c s.ks _ _ _ _ _ _ _ w rfl H.rkids q0 H.pc H.pe H.pv H.field H.num H.kids H.lc H.le H.lv hf x1 x2 x3 x4 x5 x6 x7 _ _ rfl rfl
     refine this.mono ?_
     rintro r w' ⟨rfl,hb⟩
     refine⟨congrArg (fun b=>Ending.returned (.bool b)) ?_,hb⟩
     rw[Bool.eq_iff_iff]
     simp[ksA,and_assoc,and_comm,and_left_comm]
    ·rw[hk]at q0⊢
     have:=rassn_4 n _ cs cc ce cv s.field s.n a _ c s.ks _ _ _ _ _ _ _ w rfl H.rkids q0 H.pc H.pe H.pv H.field H.num H.kids H.lc H.le H.lv hf x1 x2 x3 x4 x5 x6 x7 _ _ rfl rfl
     refine this.mono ?_
     rintro r w' ⟨rfl,hb⟩
     refine⟨congrArg (fun b=>Ending.returned (.bool b)) ?_,hb⟩
     rw[Bool.eq_iff_iff]
     simp[ksA,and_assoc,and_comm,and_left_comm]
    ·rw[hk]at q0⊢
     have:=rassn_5 n _ cs cc ce cv s.field s.n a _ c s.ks _ _ _ _ _ _ _ w rfl H.rkids q0 H.pc H.pe H.pv H.field H.num H.kids H.lc H.le H.lv hf x1 x2 x3 x4 x5 x6 x7 _ _ rfl rfl
     refine this.mono ?_
     rintro r w' ⟨rfl,hb⟩
     refine⟨congrArg (fun b=>Ending.returned (.bool b)) ?_,hb⟩
     rw[Bool.eq_iff_iff]
     simp[ksA,and_assoc,and_comm,and_left_comm]
   ·rw[if_neg h2]
    have:=rassn_x s.kind n _ cs cc ce cv s.field s.n a _ c s.ks _ _ _ _ _ _ _ w rfl H.rkids q0 H.pc H.pe H.pv H.field H.num H.kids H.lc H.le H.lv hf x1 x2 x3 x4 x5 x6 x7 h2 _ _ rfl rfl
    exact this
end
end Go.Proofs.YtfcaclmcnlflfaaGreatDoor
