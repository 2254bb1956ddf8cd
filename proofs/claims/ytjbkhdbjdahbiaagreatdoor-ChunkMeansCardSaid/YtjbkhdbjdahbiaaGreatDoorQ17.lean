/- Parts of a proof. -/
import Derived.Test.YtjbkhdbjdahbiaaGreatDoorQ01
import Derived.Test.YtjbkhdbjdahbiaaGreatDoorQ05
import Derived.Test.YtjbkhdbjdahbiaaGreatDoorQ09
import Derived.Test.YtjbkhdbjdahbiaaGreatDoorQ11
import Derived.Test.YtjbkhdbjdahbiaaGreatDoorQ14
import Derived.Laws.AppendOwnNone
import Derived.BigQuiet
set_option linter.unusedVariables false
set_option linter.unusedSimpArgs false
set_option maxHeartbeats 60000000
set_option maxRecDepth 100000
namespace Go.Proofs.YtjbkhdbjdahbiaaGreatDoor
section
open Go.RowKit
noncomputable def apartK (o c:CK):Lf.FT×Int:=if(sameK o.a c.a).2=0 then(if 64<o.n+c.n then(.mk 4 0 [] [(sameK o.a c.a).1],0) else if(sameK o.v c.v).2=0 then(.mk 6 0 [] [.mk 4 0 [] [(sameK o.a c.a).1],(sameK o.v c.v).1],0) else(f0,(sameK o.v c.v).2)) else(f0,(sameK o.a c.a).2)
theorem three_later {w W:World}{a b c:Array Value}{t u v:TypeId}(hb:Below (((w.alloc (.cells a t)).alloc (.cells b u)).alloc (.cells c v)).heap.size (((w.alloc (.cells a t)).alloc (.cells b u)).alloc (.cells c v)) W):
 (∀o x,a[o]? =some x→W.cell? ⟨w.heap.size,o,none⟩=some x)∧(∀o x,b[o]? =some x→W.cell? ⟨w.heap.size+1,o,none⟩=some x)∧(∀o x,c[o]? =some x→W.cell? ⟨w.heap.size+1+1,o,none⟩=some x)∧(∀o,W.frozen? ⟨w.heap.size+1+1,o,none⟩=false)∧w.heap.size+1+1<W.heap.size:=by
 have s1:(w.alloc (.cells a t)).heap.size=w.heap.size+1:=by simp
 have s2:((w.alloc (.cells a t)).alloc (.cells b u)).heap.size=w.heap.size+1+1:=by simp
 obtain⟨_,h2,h3,s3⟩:=three_at w a b c t u v
 have h1:(((w.alloc (.cells a t)).alloc (.cells b u)).alloc (.cells c v)).heap[w.heap.size]? =some (.cells a t):=by
  rw[heap_alloc_old _ _ (by rw[s2];omega),heap_alloc_old _ _ (by rw[s1];omega)]
  exact heap_alloc_new _ _
 have hf:∀o,(((w.alloc (.cells a t)).alloc (.cells b u)).alloc (.cells c v)).frozen? ⟨w.heap.size+1+1,o,none⟩=false:=fun o=>by rw[←s2];exact Lf.frozen_new _ _ _ _
 generalize (((w.alloc (.cells a t)).alloc (.cells b u)).alloc (.cells c v))=V at*
 exact⟨fun o x h=>(hb.cell (p:=⟨_,o,none⟩) (by show w.heap.size<_;omega)).trans ((cell_of_row _ _ _ _ _ _ h1).trans h),fun o x h=>(hb.cell (p:=⟨_,o,none⟩) (by show w.heap.size+1<_;omega)).trans ((cell_of_row _ _ _ _ _ _ h2).trans h),fun o x h=>(hb.cell (p:=⟨_,o,none⟩) (by show w.heap.size+1+1<_;omega)).trans ((cell_of_row _ _ _ _ _ _ h3).trans h),fun o=>(hb.frozen (p:=⟨_,o,none⟩) (by show w.heap.size+1+1<_;omega)).trans (hf o),by have:=hb.size;omega⟩
theorem four_new {w W:World}{x0 x1 x2 x3:Value}{t:TypeId}(hb:Below (w.alloc (.cells #[x0,x1,x2,x3] t)).heap.size (w.alloc (.cells #[x0,x1,x2,x3] t)) W):W.cell? ⟨w.heap.size,0,none⟩=some x0∧W.cell? ⟨w.heap.size,1,none⟩=some x1∧W.cell? ⟨w.heap.size,2,none⟩=some x2∧W.cell? ⟨w.heap.size,3,none⟩=some x3∧w.heap.size<W.heap.size:=by
 have hn:=heap_alloc_new w (.cells #[x0,x1,x2,x3] t)
 have hl:w.heap.size<(w.alloc (.cells #[x0,x1,x2,x3] t)).heap.size:=by simp
 exact⟨(hb.cell (p:=⟨_,_,none⟩) hl).trans ((cell_of_row _ _ _ _ _ _ hn).trans rfl),(hb.cell (p:=⟨_,_,none⟩) hl).trans ((cell_of_row _ _ _ _ _ _ hn).trans rfl),(hb.cell (p:=⟨_,_,none⟩) hl).trans ((cell_of_row _ _ _ _ _ _ hn).trans rfl),(hb.cell (p:=⟨_,_,none⟩) hl).trans ((cell_of_row _ _ _ _ _ _ hn).trans rfl),Nat.lt_of_lt_of_le hl hb.size⟩
theorem fl_or {B n g:Nat}{W:World}{f1 f2:Lf.FT}{c0 c1 c2 c3 c4 c5 c6 c7:Value}(h1:Lf.FLiesS (InS B W) W n f1 [c0,c1,c2,c3])(h2:Lf.FLiesS (InS B W) W n f2 [c4,c5,c6,c7])(hg:B≤g)(hgl:g<W.heap.size)(q0:W.cell? ⟨g,0,none⟩=some c0)(q1:W.cell? ⟨g,1,none⟩=some c1)(q2:W.cell? ⟨g,2,none⟩=some c2)(q3:W.cell? ⟨g,3,none⟩=some c3)(q4:W.cell? ⟨g,4,none⟩=some c4)(q5:W.cell? ⟨g,5,none⟩=some c5)(q6:W.cell? ⟨g,6,none⟩=some c6)(q7:W.cell? ⟨g,7,none⟩=some c7):Lf.FLiesS (InS B W) W (n+1) (.mk 6 0 [] [f1,f2]) [.int .i64 6,.int .i64 0,.slice none 0 0,.slice (some ⟨g,0,none⟩) 2 2]:=
 ⟨none,0,some ⟨g,0,none⟩,2,rfl,fun i hi=>absurd hi (Nat.not_lt_zero i),Nat.zero_le _,(show(2:Nat)≤9223372036854775807 by decide),fun i hi=>by
   have hi2:i<2:=hi
   match i,hi2 with
   | 0,_=>exact⟨g,0,c0,c1,c2,c3,rfl,⟨hg,hgl⟩,q0,q1,q2,q3,h1⟩
   | 1,_=>exact⟨g,0,c4,c5,c6,c7,rfl,⟨hg,hgl⟩,q4,q5,q6,q7,h2⟩⟩
structure ApAt (w w5 w6:World)(tk tc:Int)(tta:Option Addr)(ttn ttc:Nat)(tka:Option Addr)(tkn tkc:Nat):Prop where
 y0:w6.cell? ⟨w5.heap.size,0,none⟩=some (.int .i64 tk)
 y1:w6.cell? ⟨w5.heap.size,1,none⟩=some (.int .i64 tc)
 y2:w6.cell? ⟨w5.heap.size,2,none⟩=some (.slice tta ttn ttc)
 y3:w6.cell? ⟨w5.heap.size,3,none⟩=some (.slice tka tkn tkc)
 r0:w6.cell? ⟨w.heap.size+1+1,0,none⟩=some (.int .i64 0)
 r1:w6.cell? ⟨w.heap.size+1+1,1,none⟩=some (.int .i64 0)
 r2:w6.cell? ⟨w.heap.size+1+1,2,none⟩=some (.slice none 0 0)
 r3:w6.cell? ⟨w.heap.size+1+1,3,none⟩=some (.slice none 0 0)
 z0:w6.frozen? ⟨w.heap.size+1+1,0,none⟩=false
 z1:w6.frozen? ⟨w.heap.size+1+1,1,none⟩=false
 z2:w6.frozen? ⟨w.heap.size+1+1,2,none⟩=false
 z3:w6.frozen? ⟨w.heap.size+1+1,3,none⟩=false
 lt:w.heap.size+1+1<w6.heap.size
 ltv:w5.heap.size<w6.heap.size
theorem fl_store4 {B B' n b:Nat}{W:World}{f:Lf.FT}{cs:List Value}{v0 v1 v2 v3:Value}(h:Lf.FLiesS (InS B W) W n f cs)(hb:b<B)(hB:B'≤B):Lf.FLiesS (InS B' ((((W.setCell ⟨b,0,none⟩ v0).setCell ⟨b,1,none⟩ v1).setCell ⟨b,2,none⟩ v2).setCell ⟨b,3,none⟩ v3)) ((((W.setCell ⟨b,0,none⟩ v0).setCell ⟨b,1,none⟩ v1).setCell ⟨b,2,none⟩ v2).setCell ⟨b,3,none⟩ v3) n f cs:=
 h.keep (fun k hk=>⟨Nat.le_trans hB hk.1,by simpa using hk.2⟩) (fun k o hk=>by
  have hne:¬b=k:=fun e=>by have:=hk.1;omega
  rw[World.cell?_setCell_other _ _ _ _ (by simp[hne]),World.cell?_setCell_other _ _ _ _ (by simp[hne]),World.cell?_setCell_other _ _ _ _ (by simp[hne]),World.cell?_setCell_other _ _ _ _ (by simp[hne])])
theorem apart_any (o c:CK)(a1 a2 b1 b2:Option Addr)(k1 k2 m1 m2:Nat)(w:World)(ho:Lt40 o.n)(hc:Lt40 c.n)
 (x1:∀n W,Below w.heap.size w W→Calls Tryz.prog 11 #[.agg #[.int .i64 o.a.1,.slice a1 o.a.2.length k1],.agg #[.int .i64 c.a.1,.slice b1 c.a.2.length m1]] W (FmEnd (n+1) (sameK o.a c.a) W))
 (x2:∀n W,Below w.heap.size w W→Calls Tryz.prog 11 #[.agg #[.int .i64 o.v.1,.slice a2 o.v.2.length k2],.agg #[.int .i64 c.v.1,.slice b2 c.v.2.length m2]] W (FmEnd (n+1) (sameK o.v c.v) W)):
 Calls Tryz.prog 32 #[.agg #[.int .i64 o.a.1,.slice a1 o.a.2.length k1,.string o.f,.int .i64 o.n,.int .i64 o.v.1,.slice a2 o.v.2.length k2],.agg #[.int .i64 c.a.1,.slice b1 c.a.2.length m1,.string c.f,.int .i64 c.n,.int .i64 c.v.1,.slice b2 c.v.2.length m2]] w (FmEnd 3 (apartK o c) w):=by
 have n1:=fun W=>Tryz.neNil W
 have n2:=fun t v W=>Tryz.neIface t v W
 have HW:Hid (Below w.heap.size w (((w.alloc (.cells #[.int .i64 o.a.1,.slice a1 o.a.2.length k1,.string o.f,.int .i64 o.n,.int .i64 o.v.1,.slice a2 o.v.2.length k2] 27)).alloc (.cells #[.int .i64 c.a.1,.slice b1 c.a.2.length m1,.string c.f,.int .i64 c.n,.int .i64 c.v.1,.slice b2 c.v.2.length m2] 27)).alloc (.cells #[.int .i64 0,.int .i64 0,.slice none 0 0,.slice none 0 0] 38))):=below_three
 have HQ:=Lib.hid (fun W hb=>three_later (W:=W) (w:=w) (a:= #[.int .i64 o.a.1,.slice a1 o.a.2.length k1,.string o.f,.int .i64 o.n,.int .i64 o.v.1,.slice a2 o.v.2.length k2]) (b:= #[.int .i64 c.a.1,.slice b1 c.a.2.length m1,.string c.f,.int .i64 c.n,.int .i64 c.v.1,.slice b2 c.v.2.length m2]) (c:= #[.int .i64 0,.int .i64 0,.slice none 0 0,.slice none 0 0]) (t:=27) (u:=27) (v:=38) hb)
 have X1:=Lib.hid x1
 have X2:=Lib.hid x2
 have AB:=Lib.hid (fun W=>above_any o.n c.n W ho hc)
 clear x1 x2 ho hc
 have HSZ:Hid ((((w.alloc (.cells #[.int .i64 o.a.1,.slice a1 o.a.2.length k1,.string o.f,.int .i64 o.n,.int .i64 o.v.1,.slice a2 o.v.2.length k2] 27)).alloc (.cells #[.int .i64 c.a.1,.slice b1 c.a.2.length m1,.string c.f,.int .i64 c.n,.int .i64 c.v.1,.slice b2 c.v.2.length m2] 27)).alloc (.cells #[.int .i64 0,.int .i64 0,.slice none 0 0,.slice none 0 0] 38)).heap.size=w.heap.size+1+1+1):=Lib.hid (by simp)
 have HB0:Hid (Below (((w.alloc (.cells #[.int .i64 o.a.1,.slice a1 o.a.2.length k1,.string o.f,.int .i64 o.n,.int .i64 o.v.1,.slice a2 o.v.2.length k2] 27)).alloc (.cells #[.int .i64 c.a.1,.slice b1 c.a.2.length m1,.string c.f,.int .i64 c.n,.int .i64 c.v.1,.slice b2 c.v.2.length m2] 27)).alloc (.cells #[.int .i64 0,.int .i64 0,.slice none 0 0,.slice none 0 0] 38)).heap.size (((w.alloc (.cells #[.int .i64 o.a.1,.slice a1 o.a.2.length k1,.string o.f,.int .i64 o.n,.int .i64 o.v.1,.slice a2 o.v.2.length k2] 27)).alloc (.cells #[.int .i64 c.a.1,.slice b1 c.a.2.length m1,.string c.f,.int .i64 c.n,.int .i64 c.v.1,.slice b2 c.v.2.length m2] 27)).alloc (.cells #[.int .i64 0,.int .i64 0,.slice none 0 0,.slice none 0 0] 38)) (((w.alloc (.cells #[.int .i64 o.a.1,.slice a1 o.a.2.length k1,.string o.f,.int .i64 o.n,.int .i64 o.v.1,.slice a2 o.v.2.length k2] 27)).alloc (.cells #[.int .i64 c.a.1,.slice b1 c.a.2.length m1,.string c.f,.int .i64 c.n,.int .i64 c.v.1,.slice b2 c.v.2.length m2] 27)).alloc (.cells #[.int .i64 0,.int .i64 0,.slice none 0 0,.slice none 0 0] 38))):=Below.refl _ _
 go_enter Tryz.func32,Tryz.ntmps32
 go_wp2_with fail
 by_cases hk:(sameK o.a c.a).2=0
 ·by_cases h64:64<o.n+c.n
  ·have HR:Hid (apartK o c=(.mk 4 0 [] [(sameK o.a c.a).1],0)):=Lib.hid (by unfold apartK;rw[if_pos hk,if_pos h64])
   refine(X1.out 1 _ HW.out).mono ?_
   rintro r w2 ⟨cs,rfl,hf,hb⟩
   obtain⟨c0,c1,c2,c3,rfl⟩:=hf.four
   obtain⟨sk,sc,sta,stn,stc,ska,skn,skc,rfl,rfl,rfl,rfl⟩:=(hf.lies (B:=w2.heap.size) (fun b hb=>hb.2)).form
   have H2:=Lib.hid (HB0.out.trans hb)
   have BW2:=Lib.hid (HW.out.trans (H2.out.mono HW.out.size))
   have HF2:Hid (Lf.FLiesS (InS (((w.alloc (.cells #[.int .i64 o.a.1,.slice a1 o.a.2.length k1,.string o.f,.int .i64 o.n,.int .i64 o.v.1,.slice a2 o.v.2.length k2] 27)).alloc (.cells #[.int .i64 c.a.1,.slice b1 c.a.2.length m1,.string c.f,.int .i64 c.n,.int .i64 c.v.1,.slice b2 c.v.2.length m2] 27)).alloc (.cells #[.int .i64 0,.int .i64 0,.slice none 0 0,.slice none 0 0] 38)).heap.size w2) w2 (1+1) (sameK o.a c.a).1 [.int .i64 sk,.int .i64 sc,.slice sta stn stc,.slice ska skn skc]):=Lib.hid hf
   clear hf hb
   rw[show erV (sameK o.a c.a).2= .nilIface from if_pos hk]
   have H2x:Hid (Below (((w.alloc (.cells #[.int .i64 o.a.1,.slice a1 o.a.2.length k1,.string o.f,.int .i64 o.n,.int .i64 o.v.1,.slice a2 o.v.2.length k2] 27)).alloc (.cells #[.int .i64 c.a.1,.slice b1 c.a.2.length m1,.string c.f,.int .i64 c.n,.int .i64 c.v.1,.slice b2 c.v.2.length m2] 27)).alloc (.cells #[.int .i64 0,.int .i64 0,.slice none 0 0,.slice none 0 0] 38)).heap.size (((w.alloc (.cells #[.int .i64 o.a.1,.slice a1 o.a.2.length k1,.string o.f,.int .i64 o.n,.int .i64 o.v.1,.slice a2 o.v.2.length k2] 27)).alloc (.cells #[.int .i64 c.a.1,.slice b1 c.a.2.length m1,.string c.f,.int .i64 c.n,.int .i64 c.v.1,.slice b2 c.v.2.length m2] 27)).alloc (.cells #[.int .i64 0,.int .i64 0,.slice none 0 0,.slice none 0 0] 38)) (w2.alloc (.cells #[.int .i64 sk,.int .i64 sc,.slice sta stn stc,.slice ska skn skc] 38))):=Lib.hid (H2.out.alloc H2.out.size _)
   have HB:=H2x.out
   obtain⟨P,Q,R,Z,lt⟩:=HQ.out _ HB
   have p0:=P 0 _ rfl
   have p1:=P 1 _ rfl
   have p3:=P 3 _ rfl
   have p4:=P 4 _ rfl
   have p5:=P 5 _ rfl
   have q0:=Q 0 _ rfl
   have q1:=Q 1 _ rfl
   have q3:=Q 3 _ rfl
   have q4:=Q 4 _ rfl
   have q5:=Q 5 _ rfl
   have r0:=R 0 _ rfl
   have r1:=R 1 _ rfl
   have r2:=R 2 _ rfl
   have r3:=R 3 _ rfl
   have z0:=Z 0
   have z1:=Z 1
   have z2:=Z 2
   have z3:=Z 3
   clear P Q R Z
   go_wp2_with fail
   refine(AB.out _).mono ?_
   rintro r w2' ⟨rfl,rfl⟩
   rw[decide_eq_true h64]
   have HN:=Lib.hid (not_any _ 2 _ _ (w2.alloc (.cells #[.int .i64 sk,.int .i64 sc,.slice sta stn stc,.slice ska skn skc] 38)) H2x.out.size (fl_up HF2.out box_low))
   clear p0 p1 p3 p4 p5 q0 q1 q3 q4 q5 r0 r1 r2 r3 z0 z1 z2 z3 lt HB
   go_wp2_with fail
   refine HN.out.mono ?_
   rintro r w4 ⟨cs4,rfl,hf4,hb4⟩
   obtain⟨d0,d1,d2,d3,rfl⟩:=hf4.four
   obtain⟨tk,tc,tta,ttn,ttc,tka,tkn,tkc,rfl,rfl,rfl,rfl⟩:=(hf4.lies (B:=w4.heap.size) (fun b hb=>hb.2)).form
   have H4:=Lib.hid (H2x.out.trans (hb4.mono H2x.out.size))
   have BW4:=Lib.hid (HW.out.trans (H4.out.mono HW.out.size))
   have HF4:=Lib.hid hf4
   clear hf4 hb4 HN
   have HB:=H4.out
   obtain⟨P,Q,R,Z,lt⟩:=HQ.out _ HB
   have p0:=P 0 _ rfl
   have p1:=P 1 _ rfl
   have p3:=P 3 _ rfl
   have p4:=P 4 _ rfl
   have p5:=P 5 _ rfl
   have q0:=Q 0 _ rfl
   have q1:=Q 1 _ rfl
   have q3:=Q 3 _ rfl
   have q4:=Q 4 _ rfl
   have q5:=Q 5 _ rfl
   have r0:=R 0 _ rfl
   have r1:=R 1 _ rfl
   have r2:=R 2 _ rfl
   have r3:=R 3 _ rfl
   have z0:=Z 0
   have z1:=Z 1
   have z2:=Z 2
   have z3:=Z 3
   clear P Q R Z
   obtain⟨e0,e1,e2,e3,HBF⟩:=store4 (v0:= .int .i64 tk) (v1:= .int .i64 tc) (v2:= .slice tta ttn ttc) (v3:= .slice tka tkn tkc) BW4.out (show w.heap.size≤w.heap.size+1+1 by omega) r0 r1 r2 r3
   have E:=Lib.hid (And.intro e0 (And.intro e1 (And.intro e2 e3)))
   have HBG:=Lib.hid HBF
   have HFF:=Lib.hid (fl_store4 (v0:= .int .i64 tk) (v1:= .int .i64 tc) (v2:= .slice tta ttn ttc) (v3:= .slice tka tkn tkc) (b:=w.heap.size+1+1) (B':=w.heap.size) HF4.out (by rw[HSZ.out];omega) (by rw[HSZ.out];omega))
   clear e0 e1 e2 e3 HBF HB
   go_wp2_with fail
   obtain⟨e0,e1,e2,e3⟩:=E.out
   refine bodyPost_ret (v:= .tuple #[.agg #[.int .i64 tk,.int .i64 tc,.slice tta ttn ttc,.slice tka tkn tkc],.nilIface]) ?_ rfl (by rw[HR.out];exact⟨[.int .i64 tk,.int .i64 tc,.slice tta ttn ttc,.slice tka tkn tkc],by rw[show erV (0:Int)= .nilIface from if_pos rfl],HFF.out,HBG.out⟩)
   simp[results,Tryz.results32,go_sem,e0,e1,e2,e3]
  ·have HZ6:Hid (6=6):=Lib.hid rfl
   refine(X1.out 0 _ HW.out).mono ?_
   rintro r w2 ⟨cs,rfl,hf,hb⟩
   obtain⟨c0,c1,c2,c3,rfl⟩:=hf.four
   obtain⟨sk,sc,sta,stn,stc,ska,skn,skc,rfl,rfl,rfl,rfl⟩:=(hf.lies (B:=w2.heap.size) (fun b hb=>hb.2)).form
   have H2:=Lib.hid (HB0.out.trans hb)
   have BW2:=Lib.hid (HW.out.trans (H2.out.mono HW.out.size))
   have HF2:Hid (Lf.FLiesS (InS (((w.alloc (.cells #[.int .i64 o.a.1,.slice a1 o.a.2.length k1,.string o.f,.int .i64 o.n,.int .i64 o.v.1,.slice a2 o.v.2.length k2] 27)).alloc (.cells #[.int .i64 c.a.1,.slice b1 c.a.2.length m1,.string c.f,.int .i64 c.n,.int .i64 c.v.1,.slice b2 c.v.2.length m2] 27)).alloc (.cells #[.int .i64 0,.int .i64 0,.slice none 0 0,.slice none 0 0] 38)).heap.size w2) w2 (0+1) (sameK o.a c.a).1 [.int .i64 sk,.int .i64 sc,.slice sta stn stc,.slice ska skn skc]):=Lib.hid hf
   clear hf hb
   rw[show erV (sameK o.a c.a).2= .nilIface from if_pos hk]
   have H2x:Hid (Below (((w.alloc (.cells #[.int .i64 o.a.1,.slice a1 o.a.2.length k1,.string o.f,.int .i64 o.n,.int .i64 o.v.1,.slice a2 o.v.2.length k2] 27)).alloc (.cells #[.int .i64 c.a.1,.slice b1 c.a.2.length m1,.string c.f,.int .i64 c.n,.int .i64 c.v.1,.slice b2 c.v.2.length m2] 27)).alloc (.cells #[.int .i64 0,.int .i64 0,.slice none 0 0,.slice none 0 0] 38)).heap.size (((w.alloc (.cells #[.int .i64 o.a.1,.slice a1 o.a.2.length k1,.string o.f,.int .i64 o.n,.int .i64 o.v.1,.slice a2 o.v.2.length k2] 27)).alloc (.cells #[.int .i64 c.a.1,.slice b1 c.a.2.length m1,.string c.f,.int .i64 c.n,.int .i64 c.v.1,.slice b2 c.v.2.length m2] 27)).alloc (.cells #[.int .i64 0,.int .i64 0,.slice none 0 0,.slice none 0 0] 38)) (w2.alloc (.cells #[.int .i64 sk,.int .i64 sc,.slice sta stn stc,.slice ska skn skc] 38))):=Lib.hid (H2.out.alloc H2.out.size _)
   have HB:=H2x.out
   obtain⟨P,Q,R,Z,lt⟩:=HQ.out _ HB
   have p0:=P 0 _ rfl
   have p1:=P 1 _ rfl
   have p3:=P 3 _ rfl
   have p4:=P 4 _ rfl
   have p5:=P 5 _ rfl
   have q0:=Q 0 _ rfl
   have q1:=Q 1 _ rfl
   have q3:=Q 3 _ rfl
   have q4:=Q 4 _ rfl
   have q5:=Q 5 _ rfl
   have r0:=R 0 _ rfl
   have r1:=R 1 _ rfl
   have r2:=R 2 _ rfl
   have r3:=R 3 _ rfl
   have z0:=Z 0
   have z1:=Z 1
   have z2:=Z 2
   have z3:=Z 3
   clear P Q R Z
   go_wp2_with fail
   refine(AB.out _).mono ?_
   rintro r w2' ⟨rfl,rfl⟩
   rw[decide_eq_false (show ¬(64<o.n+c.n) by omega)]
   have H3c:Hid (∀W,Below (w2.alloc (.cells #[.int .i64 sk,.int .i64 sc,.slice sta stn stc,.slice ska skn skc] 38)).heap.size (w2.alloc (.cells #[.int .i64 sk,.int .i64 sc,.slice sta stn stc,.slice ska skn skc] 38)) W→W.cell? ⟨w2.heap.size,0,none⟩=some (.int .i64 sk)∧W.cell? ⟨w2.heap.size,1,none⟩=some (.int .i64 sc)∧W.cell? ⟨w2.heap.size,2,none⟩=some (.slice sta stn stc)∧W.cell? ⟨w2.heap.size,3,none⟩=some (.slice ska skn skc)∧w2.heap.size<W.heap.size):=Lib.hid fun W hW=>four_new hW
   have BW3:=Lib.hid (HW.out.trans (H2x.out.mono HW.out.size))
   go_wp2_with fail
   refine(X2.out 1 _ BW3.out).mono ?_
   rintro r w5 ⟨cs5,rfl,hf5,hb5⟩
   obtain⟨d0,d1,d2,d3,rfl⟩:=hf5.four
   obtain⟨tk,tc,tta,ttn,ttc,tka,tkn,tkc,rfl,rfl,rfl,rfl⟩:=(hf5.lies (B:=w5.heap.size) (fun b hb=>hb.2)).form
   have H5:=Lib.hid (H2x.out.trans (hb5.mono H2x.out.size))
   have BW5:=Lib.hid (HW.out.trans (H5.out.mono HW.out.size))
   have HF5:=Lib.hid (hf5.keep (S':=InS (((w.alloc (.cells #[.int .i64 o.a.1,.slice a1 o.a.2.length k1,.string o.f,.int .i64 o.n,.int .i64 o.v.1,.slice a2 o.v.2.length k2] 27)).alloc (.cells #[.int .i64 c.a.1,.slice b1 c.a.2.length m1,.string c.f,.int .i64 c.n,.int .i64 c.v.1,.slice b2 c.v.2.length m2] 27)).alloc (.cells #[.int .i64 0,.int .i64 0,.slice none 0 0,.slice none 0 0] 38)).heap.size w5) (fun b h=>⟨Nat.le_trans H2x.out.size h.1,h.2⟩) (fun _ _ _=>rfl))
   have HC5:=Lib.hid (H3c.out _ hb5)
   have HFS5:=Lib.hid (fl_up (fl_up HF2.out box_low) hb5)
   clear hf5 hb5 H3c HF2 HB
   clear p0 p1 p3 p4 p5 q0 q1 q3 q4 q5 r0 r1 r2 r3 z0 z1 z2 z3 lt
   by_cases hk2:(sameK o.v c.v).2=0
   ·have HR:Hid (apartK o c=(.mk 6 0 [] [.mk 4 0 [] [(sameK o.a c.a).1],(sameK o.v c.v).1],0)):=Lib.hid (by unfold apartK;rw[if_pos hk,if_neg (show ¬(64<o.n+c.n) by omega),if_pos hk2])
    rw[show erV (sameK o.v c.v).2= .nilIface from if_pos hk2]
    have H5x:Hid (Below (((w.alloc (.cells #[.int .i64 o.a.1,.slice a1 o.a.2.length k1,.string o.f,.int .i64 o.n,.int .i64 o.v.1,.slice a2 o.v.2.length k2] 27)).alloc (.cells #[.int .i64 c.a.1,.slice b1 c.a.2.length m1,.string c.f,.int .i64 c.n,.int .i64 c.v.1,.slice b2 c.v.2.length m2] 27)).alloc (.cells #[.int .i64 0,.int .i64 0,.slice none 0 0,.slice none 0 0] 38)).heap.size (((w.alloc (.cells #[.int .i64 o.a.1,.slice a1 o.a.2.length k1,.string o.f,.int .i64 o.n,.int .i64 o.v.1,.slice a2 o.v.2.length k2] 27)).alloc (.cells #[.int .i64 c.a.1,.slice b1 c.a.2.length m1,.string c.f,.int .i64 c.n,.int .i64 c.v.1,.slice b2 c.v.2.length m2] 27)).alloc (.cells #[.int .i64 0,.int .i64 0,.slice none 0 0,.slice none 0 0] 38)) (w5.alloc (.cells #[.int .i64 tk,.int .i64 tc,.slice tta ttn ttc,.slice tka tkn tkc] 38))):=Lib.hid (H5.out.alloc H5.out.size _)
    have HN:=Lib.hid (not_any _ 1 _ _ ((w5.alloc (.cells #[.int .i64 tk,.int .i64 tc,.slice tta ttn ttc,.slice tka tkn tkc] 38)).drew) H5x.out.drew.size (fl_up HFS5.out (box_low.drew)))
    have HS5:Hid (∀o x,w5.cell? ⟨w2.heap.size,o,none⟩=some x→(w5.alloc (.cells #[.int .i64 tk,.int .i64 tc,.slice tta ttn ttc,.slice tka tkn tkc] 38)).cell? ⟨w2.heap.size,o,none⟩=some x):=Lib.hid fun o x h=>(box_low.cell (p:=⟨w2.heap.size,o,none⟩) HC5.out.2.2.2.2).trans h
    obtain⟨s0,s1,s2,s3⟩:(w5.alloc (.cells #[.int .i64 tk,.int .i64 tc,.slice tta ttn ttc,.slice tka tkn tkc] 38)).cell? ⟨w2.heap.size,0,none⟩=some (.int .i64 sk)∧(w5.alloc (.cells #[.int .i64 tk,.int .i64 tc,.slice tta ttn ttc,.slice tka tkn tkc] 38)).cell? ⟨w2.heap.size,1,none⟩=some (.int .i64 sc)∧(w5.alloc (.cells #[.int .i64 tk,.int .i64 tc,.slice tta ttn ttc,.slice tka tkn tkc] 38)).cell? ⟨w2.heap.size,2,none⟩=some (.slice sta stn stc)∧(w5.alloc (.cells #[.int .i64 tk,.int .i64 tc,.slice tta ttn ttc,.slice tka tkn tkc] 38)).cell? ⟨w2.heap.size,3,none⟩=some (.slice ska skn skc):=⟨HS5.out _ _ HC5.out.1,HS5.out _ _ HC5.out.2.1,HS5.out _ _ HC5.out.2.2.1,HS5.out _ _ HC5.out.2.2.2.1⟩
    have HB:=H5x.out
    obtain⟨P,Q,R,Z,lt⟩:=HQ.out _ HB
    have p0:=P 0 _ rfl
    have p1:=P 1 _ rfl
    have p3:=P 3 _ rfl
    have p4:=P 4 _ rfl
    have p5:=P 5 _ rfl
    have q0:=Q 0 _ rfl
    have q1:=Q 1 _ rfl
    have q3:=Q 3 _ rfl
    have q4:=Q 4 _ rfl
    have q5:=Q 5 _ rfl
    have r0:=R 0 _ rfl
    have r1:=R 1 _ rfl
    have r2:=R 2 _ rfl
    have r3:=R 3 _ rfl
    have z0:=Z 0
    have z1:=Z 1
    have z2:=Z 2
    have z3:=Z 3
    clear P Q R Z
    have HARM:Hid (∀w6,Below (w5.alloc (.cells #[.int .i64 tk,.int .i64 tc,.slice tta ttn ttc,.slice tka tkn tkc] 38)).drew.heap.size (w5.alloc (.cells #[.int .i64 tk,.int .i64 tc,.slice tta ttn ttc,.slice tka tkn tkc] 38)).drew w6→ApAt w w5 w6 tk tc tta ttn ttc tka tkn tkc):=Lib.hid fun w6 h6=>by
     have g:=four_new (W:=w6) ((Below.refl _ (w5.alloc (.cells #[.int .i64 tk,.int .i64 tc,.slice tta ttn ttc,.slice tka tkn tkc] 38))).drew.trans h6)
     obtain⟨_,_,R,Z,lt⟩:=HQ.out _ (H5x.out.drew.trans (h6.mono H5x.out.drew.size))
     exact⟨g.1,g.2.1,g.2.2.1,g.2.2.2.1,R 0 _ rfl,R 1 _ rfl,R 2 _ rfl,R 3 _ rfl,Z 0,Z 1,Z 2,Z 3,lt,g.2.2.2.2⟩
    clear HS5
    go_wp2_with fail
    go_region_with (go_at_call 58;refine HN.out.mono ?_;rintro e w6 ⟨cs6,rfl,hf6,hb6⟩;obtain⟨g0,g1,g2,g3,rfl⟩:=hf6.four;obtain⟨nk,nc,nta,ntn,ntc,nka,nkn,nkc,rfl,rfl,rfl,rfl⟩:=(hf6.lies (B:=w6.heap.size) (fun b hb=>hb.2)).form;obtain⟨y0,y1,y2,y3,r0,r1,r2,r3,z0,z1,z2,z3,lt6,ltv⟩:=HARM.out w6 hb6)
    all_goals (
     have h06:=H5x.out.drew.trans (hb6.mono H5x.out.drew.size)
     have BW6:Below w.heap.size w w6:=HW.out.trans (h06.mono HW.out.size)
     have h56:Below w5.heap.size w5 w6:=box_low.drew.trans (hb6.mono (box_low (w:=w5)).drew.size)
     obtain⟨e0,e1,e2,e3,HBF⟩:=storeA4 (v0:= .int .i64 6) (v1:= .int .i64 0) (v2:= .slice none 0 0) (v3:= .slice (some ⟨w6.heap.size,0,none⟩) 2 2) (c:= #[.int .i64 nk,.int .i64 nc,.slice nta ntn ntc,.slice nka nkn nkc,.int .i64 tk,.int .i64 tc,.slice tta ttn ttc,.slice tka tkn tkc]) (t:=38) BW6 BW6.size (show w.heap.size≤w.heap.size+1+1 by omega) lt6 r0 r1 r2 r3
     have hs:((((w6.setCell ⟨w.heap.size+1+1,0,none⟩ (.int .i64 6)).setCell ⟨w.heap.size+1+1,1,none⟩ (.int .i64 0)).setCell ⟨w.heap.size+1+1,2,none⟩ (.slice none 0 0)).setCell ⟨w.heap.size+1+1,3,none⟩ (.slice (some ⟨w6.heap.size,0,none⟩) 2 2)).heap.size=w6.heap.size:=by simp
     have hn:=heap_alloc_new ((((w6.setCell ⟨w.heap.size+1+1,0,none⟩ (.int .i64 6)).setCell ⟨w.heap.size+1+1,1,none⟩ (.int .i64 0)).setCell ⟨w.heap.size+1+1,2,none⟩ (.slice none 0 0)).setCell ⟨w.heap.size+1+1,3,none⟩ (.slice (some ⟨w6.heap.size,0,none⟩) 2 2)) (.cells #[.int .i64 nk,.int .i64 nc,.slice nta ntn ntc,.slice nka nkn nkc,.int .i64 tk,.int .i64 tc,.slice tta ttn ttc,.slice tka tkn tkc] 38)
     rw[hs]at hn
     have f1:=fl_up (fl_store4 (v0:= .int .i64 6) (v1:= .int .i64 0) (v2:= .slice none 0 0) (v3:= .slice (some ⟨w6.heap.size,0,none⟩) 2 2) (b:=w.heap.size+1+1) (B':=w.heap.size) hf6 (by rw[HSZ.out];omega) (by rw[HSZ.out];omega)) (box_low (cs:= #[.int .i64 nk,.int .i64 nc,.slice nta ntn ntc,.slice nka nkn nkc,.int .i64 tk,.int .i64 tc,.slice tta ttn ttc,.slice tka tkn tkc]) (t:=38))
     have f2:=fl_up (fl_store4 (v0:= .int .i64 6) (v1:= .int .i64 0) (v2:= .slice none 0 0) (v3:= .slice (some ⟨w6.heap.size,0,none⟩) 2 2) (b:=w.heap.size+1+1) (B':=w.heap.size) (fl_up HF5.out h56) (by rw[HSZ.out];omega) (by rw[HSZ.out];omega)) (box_low (cs:= #[.int .i64 nk,.int .i64 nc,.slice nta ntn ntc,.slice nka nkn nkc,.int .i64 tk,.int .i64 tc,.slice tta ttn ttc,.slice tka tkn tkc]) (t:=38))
     have hgl:w6.heap.size<(((((w6.setCell ⟨w.heap.size+1+1,0,none⟩ (.int .i64 6)).setCell ⟨w.heap.size+1+1,1,none⟩ (.int .i64 0)).setCell ⟨w.heap.size+1+1,2,none⟩ (.slice none 0 0)).setCell ⟨w.heap.size+1+1,3,none⟩ (.slice (some ⟨w6.heap.size,0,none⟩) 2 2)).alloc (.cells #[.int .i64 nk,.int .i64 nc,.slice nta ntn ntc,.slice nka nkn nkc,.int .i64 tk,.int .i64 tc,.slice tta ttn ttc,.slice tka tkn tkc] 38)).heap.size:=by simp
     have HFF:=fl_or f1 f2 BW6.size hgl ((cell_of_row _ _ _ _ _ _ hn).trans rfl) ((cell_of_row _ _ _ _ _ _ hn).trans rfl) ((cell_of_row _ _ _ _ _ _ hn).trans rfl) ((cell_of_row _ _ _ _ _ _ hn).trans rfl) ((cell_of_row _ _ _ _ _ _ hn).trans rfl) ((cell_of_row _ _ _ _ _ _ hn).trans rfl) ((cell_of_row _ _ _ _ _ _ hn).trans rfl) ((cell_of_row _ _ _ _ _ _ hn).trans rfl)
     go_wp2_with fail
     refine bodyPost_ret (v:= .tuple #[.agg #[.int .i64 6,.int .i64 0,.slice none 0 0,.slice (some ⟨w6.heap.size,0,none⟩) 2 2],.nilIface]) ?_ rfl (by rw[HR.out];exact⟨[.int .i64 6,.int .i64 0,.slice none 0 0,.slice (some ⟨w6.heap.size,0,none⟩) 2 2],by rw[show erV (0:Int)= .nilIface from if_pos rfl],HFF,HBF⟩)
     simp[results,Tryz.results32,go_sem,e0,e1,e2,e3])
   ·have HR:Hid (apartK o c=(f0,(sameK o.v c.v).2)):=Lib.hid (by unfold apartK;rw[if_pos hk,if_neg (show ¬(64<o.n+c.n) by omega),if_neg hk2])
    rw[show erV (sameK o.v c.v).2= .iface 89 (.int .i64 (sameK o.v c.v).2) from if_neg hk2]
    have HB:=H5.out
    obtain⟨P,Q,R,Z,lt⟩:=HQ.out _ HB
    have p0:=P 0 _ rfl
    have p1:=P 1 _ rfl
    have p3:=P 3 _ rfl
    have p4:=P 4 _ rfl
    have p5:=P 5 _ rfl
    have q0:=Q 0 _ rfl
    have q1:=Q 1 _ rfl
    have q3:=Q 3 _ rfl
    have q4:=Q 4 _ rfl
    have q5:=Q 5 _ rfl
    have r0:=R 0 _ rfl
    have r1:=R 1 _ rfl
    have r2:=R 2 _ rfl
    have r3:=R 3 _ rfl
    have z0:=Z 0
    have z1:=Z 1
    have z2:=Z 2
    have z3:=Z 3
    clear P Q R Z
    obtain⟨e0,e1,e2,e3,HBF⟩:=storeA4 (v0:= .int .i64 0) (v1:= .int .i64 0) (v2:= .slice none 0 0) (v3:= .slice none 0 0) (c:= #[.int .i64 tk,.int .i64 tc,.slice tta ttn ttc,.slice tka tkn tkc]) (t:=38) BW5.out (by omega) (show w.heap.size≤w.heap.size+1+1 by omega) lt r0 r1 r2 r3
    have E:=Lib.hid (And.intro e0 (And.intro e1 (And.intro e2 e3)))
    have HBG:=Lib.hid HBF
    clear e0 e1 e2 e3 HBF HB
    go_wp2_with fail
    obtain⟨e0,e1,e2,e3⟩:=E.out
    refine bodyPost_ret (v:= .tuple #[.agg #[.int .i64 0,.int .i64 0,.slice none 0 0,.slice none 0 0],.iface 89 (.int .i64 (sameK o.v c.v).2)]) ?_ rfl (by rw[HR.out];exact⟨[.int .i64 0,.int .i64 0,.slice none 0 0,.slice none 0 0],by rw[show erV (sameK o.v c.v).2= .iface 89 (.int .i64 (sameK o.v c.v).2) from if_neg hk2],f0_lies,HBG.out⟩)
    simp[results,Tryz.results32,go_sem,e0,e1,e2,e3]
 ·have HR:Hid (apartK o c=(f0,(sameK o.a c.a).2)):=Lib.hid (by unfold apartK;rw[if_neg hk])
  refine(X1.out 0 _ HW.out).mono ?_
  rintro r w2 ⟨cs,rfl,hf,hb⟩
  obtain⟨c0,c1,c2,c3,rfl⟩:=hf.four
  obtain⟨sk,sc,sta,stn,stc,ska,skn,skc,rfl,rfl,rfl,rfl⟩:=(hf.lies (B:=w2.heap.size) (fun b hb=>hb.2)).form
  have H2:=Lib.hid (HB0.out.trans hb)
  have BW2:=Lib.hid (HW.out.trans (H2.out.mono HW.out.size))
  have HF2:Hid (Lf.FLiesS (InS (((w.alloc (.cells #[.int .i64 o.a.1,.slice a1 o.a.2.length k1,.string o.f,.int .i64 o.n,.int .i64 o.v.1,.slice a2 o.v.2.length k2] 27)).alloc (.cells #[.int .i64 c.a.1,.slice b1 c.a.2.length m1,.string c.f,.int .i64 c.n,.int .i64 c.v.1,.slice b2 c.v.2.length m2] 27)).alloc (.cells #[.int .i64 0,.int .i64 0,.slice none 0 0,.slice none 0 0] 38)).heap.size w2) w2 (0+1) (sameK o.a c.a).1 [.int .i64 sk,.int .i64 sc,.slice sta stn stc,.slice ska skn skc]):=Lib.hid hf
  clear hf hb
  rw[show erV (sameK o.a c.a).2= .iface 89 (.int .i64 (sameK o.a c.a).2) from if_neg hk]
  have H2x:Hid (Below (((w.alloc (.cells #[.int .i64 o.a.1,.slice a1 o.a.2.length k1,.string o.f,.int .i64 o.n,.int .i64 o.v.1,.slice a2 o.v.2.length k2] 27)).alloc (.cells #[.int .i64 c.a.1,.slice b1 c.a.2.length m1,.string c.f,.int .i64 c.n,.int .i64 c.v.1,.slice b2 c.v.2.length m2] 27)).alloc (.cells #[.int .i64 0,.int .i64 0,.slice none 0 0,.slice none 0 0] 38)).heap.size (((w.alloc (.cells #[.int .i64 o.a.1,.slice a1 o.a.2.length k1,.string o.f,.int .i64 o.n,.int .i64 o.v.1,.slice a2 o.v.2.length k2] 27)).alloc (.cells #[.int .i64 c.a.1,.slice b1 c.a.2.length m1,.string c.f,.int .i64 c.n,.int .i64 c.v.1,.slice b2 c.v.2.length m2] 27)).alloc (.cells #[.int .i64 0,.int .i64 0,.slice none 0 0,.slice none 0 0] 38)) (w2.alloc (.cells #[.int .i64 sk,.int .i64 sc,.slice sta stn stc,.slice ska skn skc] 38))):=Lib.hid (H2.out.alloc H2.out.size _)
  have HB:=H2.out
  obtain⟨P,Q,R,Z,lt⟩:=HQ.out _ HB
  have p0:=P 0 _ rfl
  have p1:=P 1 _ rfl
  have p3:=P 3 _ rfl
  have p4:=P 4 _ rfl
  have p5:=P 5 _ rfl
  have q0:=Q 0 _ rfl
  have q1:=Q 1 _ rfl
  have q3:=Q 3 _ rfl
  have q4:=Q 4 _ rfl
  have q5:=Q 5 _ rfl
  have r0:=R 0 _ rfl
  have r1:=R 1 _ rfl
  have r2:=R 2 _ rfl
  have r3:=R 3 _ rfl
  have z0:=Z 0
  have z1:=Z 1
  have z2:=Z 2
  have z3:=Z 3
  clear P Q R Z
  obtain⟨e0,e1,e2,e3,HBF⟩:=storeA4 (v0:= .int .i64 0) (v1:= .int .i64 0) (v2:= .slice none 0 0) (v3:= .slice none 0 0) (c:= #[.int .i64 sk,.int .i64 sc,.slice sta stn stc,.slice ska skn skc]) (t:=38) BW2.out (by omega) (show w.heap.size≤w.heap.size+1+1 by omega) lt r0 r1 r2 r3
  have E:=Lib.hid (And.intro e0 (And.intro e1 (And.intro e2 e3)))
  have HBG:=Lib.hid HBF
  clear e0 e1 e2 e3 HBF HB
  go_wp2_with fail
  obtain⟨e0,e1,e2,e3⟩:=E.out
  refine bodyPost_ret (v:= .tuple #[.agg #[.int .i64 0,.int .i64 0,.slice none 0 0,.slice none 0 0],.iface 89 (.int .i64 (sameK o.a c.a).2)]) ?_ rfl (by rw[HR.out];exact⟨[.int .i64 0,.int .i64 0,.slice none 0 0,.slice none 0 0],by rw[show erV (sameK o.a c.a).2= .iface 89 (.int .i64 (sameK o.a c.a).2) from if_neg hk],f0_lies,HBG.out⟩)
  simp[results,Tryz.results32,go_sem,e0,e1,e2,e3]
end
section
open Go.RowKit
def frmSh (n:Nat):Pak.Sh Lf.FT where
 k:=4
 rel:=fun S w cs f=>Lf.FLiesS S w n f cs
 len:=fun h=>by obtain⟨_,_,_,_,rfl⟩:=h.four;rfl
 one:=fun {S w cs f} h u hu=>by
  cases n with
  | zero=>exact h.elim
  | succ n=>
    obtain⟨ta,tcap,ka,kcap,rfl,_⟩:=h
    simp at hu
    rcases hu with rfl | rfl | rfl | rfl<;>rfl
 keep:=fun hS hk h=>h.keep hS hk
theorem fl_raise {S:Nat→Prop}{w:World}:∀ {n m:Nat} {f:Lf.FT} {cs:List Value},n≤m→Lf.FLiesS S w n f cs→Lf.FLiesS S w m f cs
 | 0,_,_,_,_,h=>h.elim
 | n+1,0,_,_,hm,_=>absurd hm (by omega)
 | n+1,m+1,f,cs,hm,⟨ta,tcap,ka,kcap,h1,h2,h3,h4,h5⟩=>⟨ta,tcap,ka,kcap,h1,h2,h3,h4,fun i hi=>by
   obtain⟨b,off,c0,c1,c2,c3,e,hb,g0,g1,g2,g3,hf⟩:=h5 i hi
   exact⟨b,off,c0,c1,c2,c3,e,hb,g0,g1,g2,g3,fl_raise (by omega) hf⟩⟩
theorem Tryz.infoFormQ:(Tryz.prog.info? 38).map (fun i=>(i.zero,i.size,i.bytes))=some (some (.agg #[.int .i64 0,.int .i64 0,.slice none 0 0,.slice none 0 0]),4,64):=by kernel_rfl
theorem run_push_fm {w:World}(n B:Nat)(xs:List Lf.FT)(x:Lf.FT)(v c0 c1 c2 c3:Value)(h:OwnL (frmSh n) 38 B xs v w)(hB:B≤w.heap.size)(hx:Lf.FLiesS (fun b=>b<w.heap.size∧v.ownBlock≠some b) w n x [c0,c1,c2,c3])(hsz:xs.length≤1000000):
 ∃v' w',(∀ty,(Builtin.append_ #[30,30] ty #[v,.slice (some ⟨w.heap.size,0,none⟩) 1 1]).run Tryz.prog (w.alloc (.cells #[c0,c1,c2,c3] 38))= .ok v' w')∧OwnL (frmSh n) 38 B (xs ++ [x]) v' w'∧Below B w w'∧(∀b o,b<w.heap.size→v.ownBlock≠some b→w'.cell? ⟨b,o,none⟩=w.cell? ⟨b,o,none⟩):=by
 obtain⟨i0,hi,hz0,hz1,hz2⟩:=info_parts Tryz.infoFormQ
 obtain⟨v',w',h1,h2,h3,_,h5⟩:=run_push_l (P:=Tryz.prog) (sh:=frmSh n) 30 38 i0 _ 64 Tryz.underlying30 hi hz0 hz1 hz2 (by decide) rfl (Nat.zero_lt_succ 3) B xs x v [c0,c1,c2,c3] h hB hx hsz
 exact⟨v',w',h1,h2,h3,fun b o hb hne=>World.cell?_of_block (h5.block b hb (fun e=>hne e.symm))⟩
theorem sits_cells {T:Type}{sh:Pak.Sh T}{S:Nat→Prop}{w:World}{a:Option Addr}{xs:List T}(h:Pak.Sits sh S w a xs):∀m,m≤xs.length→
 ∃css:List (List Value),css.length=m∧css.flatten.length=m*sh.k∧RowAtS S w a css.flatten∧∀i (hi:i<css.length) (hx:i<xs.length),sh.rel S w css[i] xs[i]
 | 0,_=>⟨[],rfl,by simp,(fun j u hu=>by cases hu),fun i hi=>absurd hi (Nat.not_lt_zero i)⟩
 | m+1,hm=>by
   obtain⟨css,h1,h2,h3,h4⟩:=sits_cells h m (by omega)
   obtain⟨b,off,cs,rfl,hb,hc,hr⟩:=h.2 m (by omega)
   have hl:=sh.len hr
   refine⟨css ++ [cs],by simp[h1],by rw[List.flatten_append,List.length_append,h2];simp[hl,Nat.succ_mul],fun j u hu=> ?_,fun i hi hx=> ?_⟩
   ·rw[List.flatten_append]at hu
    by_cases hj:j<css.flatten.length
    ·rw[List.getElem?_append_left hj]at hu
     exact h3 j u hu
    ·rw[List.getElem?_append_right (by omega)]at hu
     refine⟨b,off,rfl,hb, ?_⟩
     have:=hc (j - css.flatten.length) u (by simpa using hu)
     rwa [h2,show off+m*sh.k+(j - m*sh.k)=off+j by omega]at this
   ·by_cases e:i<css.length
    ·rw[List.getElem_append_left e]
     exact h4 i e hx
    ·have hi':i=m:=by simp at hi;omega
     subst hi'
     have e2:(css ++ [cs])[i]'hi=cs:=by
      simp only[←h1,List.getElem_concat_length]
     rw[e2]
     exact hr
theorem add_none (b off j:Nat):(⟨b,off,none⟩:Addr).add j=⟨b,off+j,none⟩:=by unfold Addr.add;split<;>simp_all
def CksEnd (B:Nat)(xs:List CK)(w:World)(e:Ending)(w':World):Prop:=∃v,e= .returned v∧OwnL ckSh 27 B xs v w'∧Below B w w'
theorem clone_cks (a:Option Addr)(n cap:Nat)(xs:List CK)(w:World)(hn:xs.length=n)(hm:n≤1000)(hs:Pak.Sits ckSh (Pak.Lo w.heap.size) w a xs):
 Calls Tryz.prog 29 #[.slice a n cap] w (CksEnd w.heap.size xs w):=by
 have he:=fun W:World=>Lib.run_eql_slice_nil (P:=Tryz.prog) W 22 27 a n cap 0 0 Tryz.underlying22
 cases a with
 | none=>
   have hx:xs=[]:=by
    cases xs with
    | nil=>rfl
    | cons y r=>obtain⟨_,_,_,e,_⟩:=hs.2 0 (by simp);cases e
   subst hx
   simp only[List.length_nil]at hn
   subst hn
   clear hs hm
   go_enter Tryz.func29,Tryz.ntmps29
   go_wp2_with fail
   go_ret
   exact⟨_,rfl,OwnL.nil _ _ _ _,Below.refl _ _⟩
 | some ad=>
   obtain⟨i0,hi,hz0,hz1,hz2⟩:=info_parts Tryz.infoChunk
   obtain⟨css,h1,h2,h3,h4⟩:=sits_cells hs xs.length (Nat.le_refl _)
   have HN:=Lib.hid hn
   have HLEN:Hid (css.flatten.length=n*6):=Lib.hid (by rw[h2,hn];rfl)
   have HONE:Hid (∀u∈css.flatten,u.oneCell'=true):=Lib.hid fun u hu=>by
    obtain⟨cs,hc,hu2⟩:=List.mem_flatten.1 hu
    obtain⟨i,hi,rfl⟩:=List.getElem_of_mem hc
    exact ckSh.one (h4 i hi (by omega)) u hu2
   have HAT:Hid (∀j u,css.flatten[j]? =some u→(w.alloc (.cells #[] 27)).cell? (ad.add j)=some u):=Lib.hid fun j u hu=>by
    obtain⟨b,off,e,hb,hc⟩:=h3 j u hu
    injection e with e
    subst e
    rw[add_none]
    exact((box_low (w:=w)).cell (p:=⟨b,off+j,none⟩) hb).trans hc
   have HC1:=Lib.hid h1
   have HREL:=Lib.hid h4
   clear hn hs h1 h2 h3 h4
   go_enter Tryz.func29,Tryz.ntmps29
   have hown:(w.alloc (.cells #[] 27)).ownsRow w.heap.size 27 6 (.slice (some ⟨w.heap.size,0,none⟩) 0 0) 0 []:=World.ownsRow_made w #[] 0 (Nat.le_refl _) (by decide) rfl
   have HB:=Lib.hid ((Below.refl w.heap.size w).alloc (Nat.le_refl _) (.cells #[] 27))
   go_wp2_with (at_builtin;refine wpList_append_own _ rfl _ _ 22 rfl w.heap.size 27 i0 _ 6 88 Tryz.underlying22 hi hz0 hz1 hz2 rfl (by decide) _ _ _ rfl hown ad n cap css.flatten rfl ?c1 ?c2 ?c3 ?c4 ?c5 ?c6 ?_)
   case c1=>exact HLEN.out
   case c2=>exact HAT.out
   case c3=>exact HONE.out
   case c4=>unfold maxLen;omega
   case c5=>omega
   case c6=>simp
   intro v' w1 hown' hgrow _
   have HG:=HB.out.grown hgrow (by simp) (fun k hk=>(hown.lt k hk).1)
   have hob:∀b,v'.ownBlock=some b→w.heap.size≤b:=fun b hb=>(World.ownsRow.lt hown' b hb).1
   go_wp2_with fail
   go_ret
   refine⟨_,rfl,⟨⟨css,HC1.out, ?_,fun i hi hi2=> ?_⟩⟩,HG⟩
   ·have:=HN.out
    subst this
    have h6:w1.ownsRow w.heap.size 27 6 v' xs.length css.flatten:=by simpa using hown'
    exact h6
   ·refine ckSh.keep (fun b (hb:b<w.heap.size)=>⟨Nat.lt_of_lt_of_le hb HG.size,fun e=> ?_⟩) (fun b o (hb:b<w.heap.size)=>HG.cell (p:=⟨b,o,none⟩) hb) (HREL.out i hi2 hi)
    have:=hob b e
    omega
theorem cks_cat {w:World}(B:Nat)(xs ys:List CK)(v:Value)(la:Option Addr)(k:Nat)(h:OwnL ckSh 27 B xs v w)(hs:Pak.Sits ckSh (Pak.Lo B) w la ys)(hB:B≤w.heap.size)(hnil:la=none→k=0)(hsz:xs.length+ys.length≤1000):
 ∃v' w',(∀ty,(Builtin.append_ #[22,22] ty #[v,.slice la ys.length k]).run Tryz.prog w= .ok v' w')∧OwnL ckSh 27 B (xs ++ ys) v' w'∧Below B w w':=by
 obtain⟨i0,hi,hz0,hz1,hz2⟩:=info_parts Tryz.infoChunk
 cases la with
 | none=>
   obtain rfl:=hnil rfl
   have hy:ys=[]:=by
    cases ys with
    | nil=>rfl
    | cons y r=>obtain⟨_,_,_,e,_⟩:=hs.2 0 (by simp);cases e
   subst hy
   obtain⟨css,h1,h2,h3⟩:=h.row
   exact⟨v,w,fun ty=>run_append_owned_none w B _ ty _ i0 6 Tryz.underlying22 hi v _ _ h2,by simpa using h,Below.refl _ _⟩
 | some ad=>
   obtain⟨css,h1,h2,h3⟩:=h.row
   obtain⟨ds,d1,d2,d3,d4⟩:=sits_cells hs ys.length (Nat.le_refl _)
   have hone:∀u∈ds.flatten,u.oneCell'=true:=fun u hu=>by
    obtain⟨cs,hc,hu2⟩:=List.mem_flatten.1 hu
    obtain⟨i,hi,rfl⟩:=List.getElem_of_mem hc
    exact ckSh.one (d4 i hi (by omega)) u hu2
   have hat:∀j u,ds.flatten[j]? =some u→w.cell? (ad.add j)=some u:=fun j u hu=>by
    obtain⟨b,off,e,hb,hc⟩:=d3 j u hu
    injection e with e
    subst e
    rw[add_none]
    exact hc
   have hrun:=fun ty=>run_append_own_at (P:=Tryz.prog) w B 22 ty 27 i0 _ 6 88 Tryz.underlying22 hi hz0 hz1 hz2 rfl (by decide) v xs.length css.flatten h2 ad ys.length k ds.flatten d2 hat hone (by unfold maxLen;omega) (by omega) hB
   obtain⟨v',w',hr,h4,h5,_,h6⟩:=hrun 22
   have hbel:Below B w w':=(Below.refl B w).grown h5 hB (fun b hb=>(World.ownsRow.lt h2 b hb).1)
   have hob':∀b,v'.ownBlock=some b→B≤b:=fun b hb=>(World.ownsRow.lt h4 b hb).1
   refine⟨v',w',fun ty=>hr,⟨⟨css ++ ds,by simp[h1,d1],by rw[List.length_append,List.flatten_append];exact h4,fun i hi hi2=> ?_⟩⟩,hbel⟩
   by_cases hlt:i<xs.length
   ·rw[List.getElem_append_left hlt,List.getElem_append_left (by omega)]
    refine ckSh.keep (fun b ⟨b1,b2⟩=>⟨Nat.lt_of_lt_of_le b1 h5.size,fun e=> ?_⟩) (fun b o ⟨b1,b2⟩=>World.cell?_of_block (h5.block b b1 (fun e=>b2 e.symm))) (h3 i hlt (by omega))
    rcases h6 with h6 | h6
    ·exact b2 (h6.symm.trans e)
    ·rw[h6]at e
     injection e with e
     omega
   ·rw[List.getElem_append_right (by omega),List.getElem_append_right (by omega)]
    have:=d4 (i - css.length) (by simp at hi2;omega) (by simp at hi;omega)
    simp only[h1]at this⊢
    exact ckSh.keep (fun b (hb:b<B)=>⟨Nat.lt_of_lt_of_le hb (Nat.le_trans hB hbel.size),fun e=>by have:=hob' b e;omega⟩) (fun b o (hb:b<B)=>hbel.cell (p:=⟨b,o,none⟩) hb) this
noncomputable def addF (c o:CK):List Lf.FT:=if o.f=c.f then[(apartK o c).1] else[]
noncomputable def factsTo (c:CK) (xs:List CK):Nat→List Lf.FT
 | 0=>[]
 | j+1=>factsTo c xs j ++ addF c (xs.getD j ck0)
theorem factsTo_len (c:CK)(xs:List CK):∀j,(factsTo c xs j).length≤j
 | 0=>Nat.le_refl _
 | j+1=>by
   have:=factsTo_len c xs j
   have h2:(addF c (xs.getD j ck0)).length≤1:=by unfold addF;split<;>simp
   show(factsTo c xs j ++ _).length≤_
   rw[List.length_append]
   omega
def okF (c o:CK):Prop:=o.f=c.f→(apartK o c).2=0
def SdC (x:CK):Prop:=Sd x.a∧Sd x.v
noncomputable def factsK (xs:List CK) (c:CK):List Lf.FT×Int:=
 open Classical in
 if(∀x∈xs,SdC x)∧SdC c then
  (match addS 1 (-1) (1,[]) c.a with
   | none=>([],3)
   | some y=>if ∀j,j<xs.length→okF c (xs.getD j ck0) then(.mk 2 y.1 y.2 [] :: factsTo c xs xs.length,0) else([],3))
 else([],5)
theorem sameK_code {a b:LT}(ha:Sd a)(hb:Sd b)(h:(sameK a b).2≠0):(sameK a b).2=3:=by
 unfold sameK at h⊢
 rw[if_pos ⟨ha,hb⟩]at h⊢
 cases hx:addS 1 (-1) a b with
 | none=>rfl
 | some x=>rw[hx]at h;exact absurd rfl h
theorem apartK_code {o c:CK}(ho:SdC o)(hc:SdC c)(h:(apartK o c).2≠0):(apartK o c).2=3:=by
 unfold apartK at h⊢
 split
 ·rename_i h1
  rw[if_pos h1]at h
  split
  ·rename_i h2
   rw[if_pos h2]at h
   exact absurd rfl h
  ·rename_i h2
   rw[if_neg h2]at h
   split
   ·rename_i h3
    rw[if_pos h3]at h
    exact absurd rfl h
   ·rename_i h3
    exact sameK_code ho.2 hc.2 h3
 ·rename_i h1
  exact sameK_code ho.1 hc.1 h1
end
section
open Go.RowKit
def NB (x:CK):Prop:= -1099511627776≤x.n∧x.n≤1099511627776
def LightEnd (ln:Nat)(xs:List CK)(w:World)(e:Ending)(w':World):Prop:=∃b,e= .returned (.bool b)∧(b=true→ln≤60∧∀x∈xs,NB x)∧w'=w
theorem light_any (la:Option Addr)(ln lcap:Nat)(xs:List CK)(w:World)(hs:Pak.Sits ckSh (Pak.Lo w.heap.size) w la xs)(hm:xs.length=ln):
 Calls Tryz.prog 8 #[.slice la ln lcap] w (LightEnd ln xs w):=by
 have HS:=Lib.hid hs
 have HM:=Lib.hid hm
 clear hs hm
 by_cases h60:(60:Int)<(ln:Int)
 ·go_enter Tryz.func8,Tryz.ntmps8
  go_wp2_with fail
  go_ret
  exact⟨false,rfl,fun h=>(by cases h),rfl⟩
 have h60n:ln≤60:=by omega
 go_enter Tryz.func8,Tryz.ntmps8
 go_wp2_with fail
 go_loopw [3] (fun i wr=>∃m:Nat,i= .int .i64 m∧m≤ln∧Hid (∀q (hq:q<xs.length),q<m→NB xs[q])∧wr=w) (fun i _=>ln - (intOf i).toNat)
 case atStart=>exact⟨0,rfl,Nat.zero_le _,fun q _ h=>absurd h (Nat.not_lt_zero _),rfl⟩
 case round=>
  obtain⟨m,rfl,hm,hno,rfl⟩:=hrel
  by_cases hlt:m<ln
  ·have hmi:(m:Int)<(ln:Int):=by omega
   have hmx:m<xs.length:=by rw[HM.out];exact hlt
   obtain⟨b,off,rfl,_,HC⟩:=ck_cells HS.out (by omega)
   obtain⟨a1,k1,a2,k2,hc⟩:=HC m hmx
   have c3:=hc.c3
   have HNX:Hid (NB xs[m]→∀q (hq:q<xs.length),q<m+1→NB xs[q]):=fun h q hq hlq=>by
    by_cases e:q=m
    ·subst e;exact h
    ·exact hno.out q hq (by omega)
   clear hc HC
   by_cases e1:1099511627776<xs[m].n
   ·go_wp2_with fail
    go_ret
    exact⟨false,rfl,fun h=>(by cases h),rfl⟩
   ·by_cases e2:xs[m].n< -1099511627776
    ·go_wp2_with fail
     go_ret
     exact⟨false,rfl,fun h=>(by cases h),rfl⟩
    ·have HN2:=Lib.hid (HNX.out (by unfold NB;omega))
     go_wp2_with fail
     go_roundw
     case rel=>exact⟨m+1,by go_num,by omega,HN2,trivial⟩
     case measure=>simp[intOf];omega
  ·obtain rfl:m=ln:=by omega
   have hlti:¬(m:Int)<(m:Int):=by omega
   go_wp2_with fail
   go_ret
   exact⟨true,rfl,fun _=>⟨h60n,fun x hx=>by
    obtain⟨q,hq,rfl⟩:=List.getElem_of_mem hx
    exact hno.out q hq (by rw[←HM.out];exact hq)⟩,rfl⟩
end
section
open Go.RowKit
theorem same_self (c:Int)(l:List (Int×Int)):Lf.same c c l l=true:=by unfold Lf.same;simp
theorem same_all {w:World}(c:Int)(a b:Option Addr)(ka kb:Nat)(l:List (Int×Int))(ha:Lf.Lies w.heap.size w a l)(hb:Lf.Lies w.heap.size w b l)(hl:l.length≤9223372036854775807):
 ValAll 36 #[.agg #[.int .i64 c,.slice a l.length ka],.agg #[.int .i64 c,.slice b l.length kb]] (.bool true) w:=fun W hW=>by
 have h:=Lf.same_any c c a b l.length l.length ka kb l l W rfl rfl hl hl ((ha.below hW).mono hW.size) ((hb.below hW).mono hW.size)
 rw[same_self]at h
 exact h
theorem sameChks_any (la lb:Option Addr)(ln ca cb:Nat)(xs:List CK)(w:World)(ha:Pak.Sits ckSh (Pak.Lo w.heap.size) w la xs)(hb:Pak.Sits ckSh (Pak.Lo w.heap.size) w lb xs)(hm:xs.length=ln)(hl:∀x∈xs,x.a.2.length≤9223372036854775807∧x.v.2.length≤9223372036854775807):
 Calls Tryz.prog 28 #[.slice la ln ca,.slice lb ln cb] w fun e w'=>e= .returned (.bool true)∧Below w.heap.size w w':=by
 have hmm:ln≤9223372036854775807:=by rw[←hm];exact ha.1
 have HA:=Lib.hid ha
 have HB:=Lib.hid hb
 have HM:=Lib.hid hm
 have HL:=Lib.hid hl
 clear ha hb hm hl
 have hnn:((ln:Int) != (ln:Int))=false:=by simp
 go_enter Tryz.func28,Tryz.ntmps28
 go_wp2_with fail
 go_loopw [5] (fun i wr=>∃m:Nat,i= .int .i64 m∧m≤ln∧Hid (Below w.heap.size w wr)) (fun i _=>ln - (intOf i).toNat)
 case atStart=>exact⟨0,rfl,Nat.zero_le _,Below.refl _ _⟩
 case round=>
  obtain⟨m,rfl,hm,hb⟩:=hrel
  by_cases hlt:m<ln
  ·have hmi:(m:Int)<(ln:Int):=by omega
   have hmx:m<xs.length:=by rw[HM.out];exact hlt
   obtain⟨b,off,rfl,hbb,HC⟩:=ck_cells HA.out (by omega)
   obtain⟨b',off',rfl,hbb',HC'⟩:=ck_cells HB.out (by omega)
   obtain⟨a1,k1,a2,k2,hk⟩:=HC m hmx
   obtain⟨a3,k3,a4,k4,hk'⟩:=HC' m hmx
   have hc:=hk.below hb.out hbb hb.out.size
   have hc':=hk'.below hb.out hbb' hb.out.size
   have hlm:=HL.out _ (List.getElem_mem hmx)
   have X1:=Lib.hid (same_all xs[m].a.1 a1 a3 k1 k3 xs[m].a.2 hc.la hc'.la hlm.1)
   have X2:=Lib.hid (same_all xs[m].v.1 a2 a4 k2 k4 xs[m].v.2 hc.lv hc'.lv hlm.2)
   have c0:=cell_regrown hc.c0
   have c1:=cell_regrown hc.c1
   have c2:=cell_regrown hc.c2
   have c3:=cell_regrown hc.c3
   have c4:=cell_regrown hc.c4
   have c5:=cell_regrown hc.c5
   have d0:=cell_regrown hc'.c0
   have d1:=cell_regrown hc'.c1
   have d2:=cell_regrown hc'.c2
   have d3:=cell_regrown hc'.c3
   have d4:=cell_regrown hc'.c4
   have d5:=cell_regrown hc'.c5
   clear hk hk' hc hc' HC HC' hlm
   generalize xs[m]=x at*
   obtain⟨⟨xa1,xal⟩,xf,xn,⟨xv1,xvl⟩⟩:=x
   dsimp only at*
   have r1:=X1.out.reg
   have r2:=X2.out.reg
   have e1:(xf.toList != xf.toList)=false:=by simp
   have e2:(xn != xn)=false:=by simp
   have HBB:=Lib.hid hb.out
   have hlt2:m+1≤ln:=hlt
   clear X1 X2 hb
   go_wp2_with fail
   refine wp_region_quiet_below (by kernel_rfl) (by kernel_rfl) ?_
   repeat (first | (go_big_quiet_step (with_reducible exact r1 _ _)) | (go_big_quiet_step (with_reducible exact r2 _ _)))
   refine wpQuiet_nil ?_
   intro w9 hw'
   obtain⟨⟨dq,osq⟩,hw''⟩:=hw'
   have H9:Hid (Below w.heap.size w w9):=Lib.hid (by rw[hw''];exact HBB.out.trans ((below_regrown _ dq osq).mono HBB.out.size))
   clear hw'' r1 r2 c0 c1 c2 c3 c4 c5 d0 d1 d2 d3 d4 d5 HBB
   go_wp2_with fail
   go_roundw
   case rel=>exact⟨m+1,by go_num,hlt2,H9⟩
   case measure=>simp[intOf];omega
  ·obtain rfl:m=ln:=by omega
   have hlti:¬(m:Int)<(m:Int):=by omega
   go_wp2_with fail
   go_ret
   exact⟨rfl,hb.out⟩
end
end Go.Proofs.YtjbkhdbjdahbiaaGreatDoor
