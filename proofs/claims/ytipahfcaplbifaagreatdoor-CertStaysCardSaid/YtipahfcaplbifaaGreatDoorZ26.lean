/- Parts of a proof. -/
import Derived.Test.YtipahfcaplbifaaGreatDoorZ17
import Derived.Test.YtipahfcaplbifaaGreatDoorZ18
set_option linter.unusedVariables false
set_option linter.unusedSimpArgs false
set_option maxHeartbeats 60000000
set_option maxRecDepth 100000
namespace Go.Proofs.YtipahfcaplbifaaGreatDoor
section
open Go.RowKit
theorem rfine_any:∀(n:Nat) (f:FT) (cs:List Value) (w:World),FLies w.heap.size w n f cs→
 Calls Tryz.prog 94 #[.agg cs.toArray] w fun e w'=>e= .returned (.bool (sndF n f))∧Below w.heap.size w w'
 | 0,_,_,_,h=>h.elim
 | n+1,f,cs,w,h=>by
   have IH:=rfine_any n
   have hkk:f.kind=0∨f.kind=1∨f.kind=2∨f.kind=3∨f.kind=4∨f.kind=5∨f.kind=6∨((f.kind == 0)=false∧(f.kind == 1)=false∧(f.kind == 2)=false∧(f.kind == 3)=false∧(f.kind == 4)=false∧(f.kind == 5)=false∧(f.kind == 6)=false):=by
    simp only[beq_eq_false_iff_ne,ne_eq];omega
   rcases hkk with hk | hk | hk | hk | hk | hk | hk | hk
   ·exact rfine_0 n f cs w IH h hk
   ·exact rfine_1 n f cs w IH h hk
   ·exact rfine_2 n f cs w IH h hk
   ·exact rfine_3 n f cs w IH h hk
   ·exact rfine_4 n f cs w IH h hk
   ·exact rfine_5 n f cs w IH h hk
   ·exact rfine_6 n f cs w IH h hk
   ·exact rfine_7 n f cs w IH h hk
end
section
open Go.RowKit
theorem rfcheck_any (n:Nat)(f:FT)(cs:List Value)(w:World)(h:FLies w.heap.size w n f cs):
 Calls Tryz.prog 60 #[.agg cs.toArray] w fun e w'=>e= .returned (.int .i64 (cc n f))∧Below w.heap.size w w':=by
 have FL:=fun W (hb:Below w.heap.size w W)=>(h.below hb).mono hb.size
 cases n with
 | zero=>exact h.elim
 | succ n=>
   obtain⟨ta,tcap,ka,kcap,rfl,_⟩:=h
   have hd:=Lib.hid (fun W hb=>rdepth_any (n+1) f _ 64 W (by omega) (by omega) (FL W hb))
   have hc:=Lib.hid (fun W hb=>rsize_any (n+1) f _ 4096 W (by omega) (by omega) (FL W hb))
   have hs:=Lib.hid (fun W hb=>rfine_any (n+1) f _ W (FL W hb))
   have T0:=Lib.hid (box_start w f.kind f.c ta ka f.t.length tcap f.ks.length kcap)
   unfold cc
   clear FL
   generalize dep (n+1) f=d at hd
   generalize siz (n+1) f=s at hc
   generalize sndF (n+1) f=b at hs
   generalize f.kind=fk at T0 hd hc hs
   generalize f.c=fc at T0 hd hc hs
   generalize f.t.length=ft at T0 hd hc hs
   generalize f.ks.length=fl at T0 hd hc hs
   have e1:(cnt d 64=65∧64<d)∨(cnt d 64≤64∧¬ 64<d):=by unfold cnt;split<;>omega
   have e2:(szV s 4096= -1∧4096<s)∨(0≤szV s 4096∧¬ 4096<s):=by unfold szV;split<;>omega
   generalize cnt d 64=u at hd e1
   generalize szV s 4096=v at hc e2
   rcases e1 with ⟨rfl,h1⟩ | ⟨hu,h1⟩
   ·have er:ccV d s b=4:=by unfold ccV;rw[if_pos h1]
    rw[er]
    clear er h1 hc hs e2
    go_enter Tryz.func60,Tryz.ntmps60
    go_wp2_with fail
    refine(hd.out _ T0.out.bel).mono ?_
    rintro e w1 ⟨rfl,hb1⟩
    have T1:=Lib.hid (T0.out.below hb1 T0.out.lt)
    clear hb1
    go_wp2_with fail
    go_ret
    exact⟨rfl,T1.out.bel⟩
   ·rcases e2 with ⟨rfl,h2⟩ | ⟨hv,h2⟩
    ·have er:ccV d s b=2:=by unfold ccV;rw[if_neg h1,if_pos h2]
     rw[er]
     clear er h1 h2 hs
     go_enter Tryz.func60,Tryz.ntmps60
     go_wp2_with fail
     refine(hd.out _ T0.out.bel).mono ?_
     rintro e w1 ⟨rfl,hb1⟩
     have T1:=Lib.hid (T0.out.below hb1 T0.out.lt)
     clear hb1
     obtain⟨l1,p0,p1,p2,p3,_⟩:=T1.out
     go_wp2_with fail
     refine(hc.out _ T1.out.bel).mono ?_
     rintro e w2 ⟨rfl,hb2⟩
     have T2:=Lib.hid (T1.out.below hb2 T1.out.lt)
     clear hb2 l1 p0 p1 p2 p3
     go_wp2_with fail
     go_ret
     exact⟨rfl,T2.out.bel⟩
    ·have er:ccV d s b=if b then 0 else 5:=by unfold ccV;rw[if_neg h1,if_neg h2]
     rw[er]
     clear er h1 h2
     go_enter Tryz.func60,Tryz.ntmps60
     go_wp2_with fail
     refine(hd.out _ T0.out.bel).mono ?_
     rintro e w1 ⟨rfl,hb1⟩
     have T1:=Lib.hid (T0.out.below hb1 T0.out.lt)
     clear hb1
     obtain⟨l1,p0,p1,p2,p3,_⟩:=T1.out
     go_wp2_with fail
     refine(hc.out _ T1.out.bel).mono ?_
     rintro e w2 ⟨rfl,hb2⟩
     have T2:=Lib.hid (T1.out.below hb2 T1.out.lt)
     clear hb2 l1 p0 p1 p2 p3
     obtain⟨l2,p0,p1,p2,p3,_⟩:=T2.out
     go_wp2_with fail
     refine(hs.out _ T2.out.bel).mono ?_
     rintro e w3 ⟨rfl,hb3⟩
     have T3:=Lib.hid (T2.out.below hb3 T2.out.lt)
     clear hb3 l2 p0 p1 p2 p3
     cases b with
     | true=>
       go_wp2_with fail
       go_ret
       exact⟨rfl,T3.out.bel⟩
     | false=>
       go_wp2_with fail
       go_ret
       exact⟨rfl,T3.out.bel⟩
end
end Go.Proofs.YtipahfcaplbifaaGreatDoor
