/- Parts of a proof. -/
import Derived.Test.YtjbkhdbjdahbiaaGreatDoorV01
import Derived.Test.YtjbkhdbjdahbiaaGreatDoorV02
import Derived.Test.YtjbkhdbjdahbiaaGreatDoorV03
import Derived.Test.YtjbkhdbjdahbiaaGreatDoorV05
import Derived.Test.YtjbkhdbjdahbiaaGreatDoorQ16
import Derived.Test.YtjbkhdbjdahbiaaGreatDoorQ17
import Derived.Test.YtjbkhdbjdahbiaaGreatDoorQ21
set_option linter.unusedVariables false
set_option linter.unusedSimpArgs false
set_option maxHeartbeats 60000000
set_option maxRecDepth 100000
namespace Go.Proofs.YtjbkhdbjdahbiaaGreatDoor
section
open Go.RowKit
theorem LnEnd.one {x:Option LT}{w:World}{e:Ending}{w':World}(h:LnEnd x w e w'):∃(y:LT) (a:Option Addr) (c:Nat) (b:Bool),e= .returned (.tuple #[.agg #[.int .i64 y.1,.slice a y.2.length c],.bool b])∧Lf.Row w.heap.size y.2 (.slice a y.2.length c) w'∧Below w.heap.size w w'∧((b=true∧x=some y)∨(b=false∧x=none∧y=(0,[]))):=by
 rcases h with ⟨y,v,hx,he,hr,hb⟩ | ⟨hx,he,hb⟩
 ·obtain⟨a,c,rfl,_,_⟩:=hr.lies
  exact⟨y,a,c,true,he,hr,hb,.inl ⟨rfl,hx⟩⟩
 ·exact⟨(0,[]),none,0,false,he,World.ownsRow_nil _ _ _ _,hb,.inr ⟨rfl,hx,rfl⟩⟩
def CmEnd (n:Nat)(x:Option Lf.FT)(w:World)(e:Ending)(w':World):Prop:=∃(y:Lf.FT) (cs:List Value) (b:Bool),e= .returned (.tuple #[.agg cs.toArray,.bool b])∧Lf.FLiesS (InS w.heap.size w') w' n y cs∧Below w.heap.size w w'∧((b=true∧x=some y)∨(b=false∧x=none))
structure LB (B:Nat)(V:World)(g:Nat)(a:LT)(p:Option Addr)(c:Nat):Prop where
 c0:V.cell? ⟨g,0,none⟩=some (.int .i64 a.1)
 c1:V.cell? ⟨g,1,none⟩=some (.slice p a.2.length c)
 row:Lf.Row B a.2 (.slice p a.2.length c) V
 lt:g<V.heap.size
theorem LB.below {B:Nat}{V V':World}{g:Nat}{a:LT}{p:Option Addr}{c:Nat}(h:LB B V g a p c)(hb:Below V.heap.size V V'):LB B V' g a p c:=
 ⟨(hb.cell (p:=⟨g,_,none⟩) h.lt).trans h.c0,(hb.cell (p:=⟨g,_,none⟩) h.lt).trans h.c1,h.row.below hb,Nat.lt_of_lt_of_le h.lt hb.size⟩
theorem lb_new {B:Nat}{V:World}{a:LT}{p:Option Addr}{c:Nat}{t:TypeId}(hr:Lf.Row B a.2 (.slice p a.2.length c) V):LB B (V.alloc (.cells #[.int .i64 a.1,.slice p a.2.length c] t)) V.heap.size a p c:=by
 have h:=box2_at (Below.refl _ (V.alloc (.cells #[.int .i64 a.1,.slice p a.2.length c] t)))
 exact⟨h.1,h.2.1,hr.alloc _,h.2.2.2.2⟩
theorem LB.lies {B:Nat}{V:World}{g:Nat}{a:LT}{p:Option Addr}{c:Nat}(h:LB B V g a p c):Lf.Lies V.heap.size V p a.2:=by
 obtain⟨a',c',e,hl,_⟩:=h.row.lies
 injection e with e1 e2 e3
 subst e1
 exact hl
structure CBx (w V:World)(k:Int)(be oe ecap:Nat)(E:Nat→Option Value):Prop where
 c0:V.cell? ⟨w.heap.size,0,none⟩=some (.int .i64 k)
 c1:V.cell? ⟨w.heap.size,1,none⟩=some (.slice (some ⟨be,oe,none⟩) 2 ecap)
 r0:V.cell? ⟨w.heap.size+1,0,none⟩=some (.int .i64 0)
 r1:V.cell? ⟨w.heap.size+1,1,none⟩=some (.int .i64 0)
 r2:V.cell? ⟨w.heap.size+1,2,none⟩=some (.slice none 0 0)
 r3:V.cell? ⟨w.heap.size+1,3,none⟩=some (.slice none 0 0)
 rf:∀i,V.frozen? ⟨w.heap.size+1,i,none⟩=false
 bel:Below w.heap.size w V
 lt:w.heap.size+1<V.heap.size
 es:∀j v,E j=some v→V.cell? ⟨be,oe+j,none⟩=some v
 eb:be<w.heap.size
theorem CBx.below {w V V':World}{k:Int}{be oe ecap:Nat}{E:Nat→Option Value}(h:CBx w V k be oe ecap E)(hb:Below V.heap.size V V'):CBx w V' k be oe ecap E:=
 have lt0:w.heap.size<V.heap.size:=by have:=h.lt;omega
 ⟨(hb.cell (p:=⟨_,_,none⟩) lt0).trans h.c0,(hb.cell (p:=⟨_,_,none⟩) lt0).trans h.c1,(hb.cell (p:=⟨_,_,none⟩) h.lt).trans h.r0,(hb.cell (p:=⟨_,_,none⟩) h.lt).trans h.r1,(hb.cell (p:=⟨_,_,none⟩) h.lt).trans h.r2,(hb.cell (p:=⟨_,_,none⟩) h.lt).trans h.r3,fun i=>(hb.frozen (p:=⟨_,i,none⟩) h.lt).trans (h.rf i),h.bel.trans (hb.mono h.bel.size),Nat.lt_of_lt_of_le h.lt hb.size,fun j v e=>(hb.cell (p:=⟨be,_,none⟩) (Nat.lt_of_lt_of_le h.eb h.bel.size)).trans (h.es j v e),h.eb⟩
theorem cbx_new {w:World}{k:Int}{be oe ecap:Nat}{ka:Option Addr}{kn kc:Nat}{E:Nat→Option Value}(hE:∀j v,E j=some v→w.cell? ⟨be,oe+j,none⟩=some v)(hbe:be<w.heap.size):CBx w ((w.alloc (.cells #[.int .i64 k,.slice (some ⟨be,oe,none⟩) 2 ecap,.slice ka kn kc] 52)).alloc (.cells #[.int .i64 0,.int .i64 0,.slice none 0 0,.slice none 0 0] 38)) k be oe ecap E:=by
 have s1:(w.alloc (.cells #[.int .i64 k,.slice (some ⟨be,oe,none⟩) 2 ecap,.slice ka kn kc] 52)).heap.size=w.heap.size+1:=by simp
 have h1:((w.alloc (.cells #[.int .i64 k,.slice (some ⟨be,oe,none⟩) 2 ecap,.slice ka kn kc] 52)).alloc (.cells #[.int .i64 0,.int .i64 0,.slice none 0 0,.slice none 0 0] 38)).heap[w.heap.size]? =some (.cells #[.int .i64 k,.slice (some ⟨be,oe,none⟩) 2 ecap,.slice ka kn kc] 52):=by
  rw[heap_alloc_old _ _ (by rw[s1];omega)]
  exact heap_alloc_new _ _
 have h2:((w.alloc (.cells #[.int .i64 k,.slice (some ⟨be,oe,none⟩) 2 ecap,.slice ka kn kc] 52)).alloc (.cells #[.int .i64 0,.int .i64 0,.slice none 0 0,.slice none 0 0] 38)).heap[w.heap.size+1]? =some (.cells #[.int .i64 0,.int .i64 0,.slice none 0 0,.slice none 0 0] 38):=by
  rw[←s1]
  exact heap_alloc_new _ _
 have hb:Below w.heap.size w ((w.alloc (.cells #[.int .i64 k,.slice (some ⟨be,oe,none⟩) 2 ecap,.slice ka kn kc] 52)).alloc (.cells #[.int .i64 0,.int .i64 0,.slice none 0 0,.slice none 0 0] 38)):=below_two
 exact⟨(cell_of_row _ _ _ _ _ _ h1).trans rfl,(cell_of_row _ _ _ _ _ _ h1).trans rfl,(cell_of_row _ _ _ _ _ _ h2).trans rfl,(cell_of_row _ _ _ _ _ _ h2).trans rfl,(cell_of_row _ _ _ _ _ _ h2).trans rfl,(cell_of_row _ _ _ _ _ _ h2).trans rfl,fun i=>by rw[←s1];exact Lf.frozen_new _ _ _ _,hb,by simp,fun j v e=>(hb.cell (p:=⟨be,_,none⟩) hbe).trans (hE j v e),hbe⟩
theorem CBx.put {w V:World}{k:Int}{be oe ecap:Nat}{E:Nat→Option Value}{v0 v1 v2 v3:Value}{n:Nat}{f:Lf.FT}(h:CBx w V k be oe ecap E)(hf:Lf.FLiesS (InS (w.heap.size+2) V) V n f [v0,v1,v2,v3]):
 (((((V.setCell ⟨w.heap.size+1,0,none⟩ v0).setCell ⟨w.heap.size+1,1,none⟩ v1).setCell ⟨w.heap.size+1,2,none⟩ v2).setCell ⟨w.heap.size+1,3,none⟩ v3).cell? ⟨w.heap.size+1,0,none⟩=some v0∧((((V.setCell ⟨w.heap.size+1,0,none⟩ v0).setCell ⟨w.heap.size+1,1,none⟩ v1).setCell ⟨w.heap.size+1,2,none⟩ v2).setCell ⟨w.heap.size+1,3,none⟩ v3).cell? ⟨w.heap.size+1,1,none⟩=some v1∧((((V.setCell ⟨w.heap.size+1,0,none⟩ v0).setCell ⟨w.heap.size+1,1,none⟩ v1).setCell ⟨w.heap.size+1,2,none⟩ v2).setCell ⟨w.heap.size+1,3,none⟩ v3).cell? ⟨w.heap.size+1,2,none⟩=some v2∧((((V.setCell ⟨w.heap.size+1,0,none⟩ v0).setCell ⟨w.heap.size+1,1,none⟩ v1).setCell ⟨w.heap.size+1,2,none⟩ v2).setCell ⟨w.heap.size+1,3,none⟩ v3).cell? ⟨w.heap.size+1,3,none⟩=some v3)∧
 Lf.FLiesS (InS w.heap.size ((((V.setCell ⟨w.heap.size+1,0,none⟩ v0).setCell ⟨w.heap.size+1,1,none⟩ v1).setCell ⟨w.heap.size+1,2,none⟩ v2).setCell ⟨w.heap.size+1,3,none⟩ v3)) ((((V.setCell ⟨w.heap.size+1,0,none⟩ v0).setCell ⟨w.heap.size+1,1,none⟩ v1).setCell ⟨w.heap.size+1,2,none⟩ v2).setCell ⟨w.heap.size+1,3,none⟩ v3) n f [v0,v1,v2,v3]∧
 Below w.heap.size w ((((V.setCell ⟨w.heap.size+1,0,none⟩ v0).setCell ⟨w.heap.size+1,1,none⟩ v1).setCell ⟨w.heap.size+1,2,none⟩ v2).setCell ⟨w.heap.size+1,3,none⟩ v3):=by
 obtain⟨e0,e1,e2,e3,hb⟩:=store4 (v0:=v0) (v1:=v1) (v2:=v2) (v3:=v3) h.bel (show w.heap.size≤w.heap.size+1 by omega) h.r0 h.r1 h.r2 h.r3
 exact⟨⟨e0,e1,e2,e3⟩,fl_store4 hf (Nat.lt_succ_self _) (by omega),hb⟩
theorem fl_notS {S:Nat→Prop}{n g:Nat}{w W:World}{f:Lf.FT}{c0 c1 c2 c3:Value}(h:Lf.FLiesS S w n f [c0,c1,c2,c3])(hS:∀b,S b→b<w.heap.size)(hb:Below w.heap.size w W)(q0:W.cell? ⟨g,0,none⟩=some c0)(q1:W.cell? ⟨g,1,none⟩=some c1)(q2:W.cell? ⟨g,2,none⟩=some c2)(q3:W.cell? ⟨g,3,none⟩=some c3):Lf.FLiesS (fun b=>S b∨b=g) W (n+1) (.mk 4 0 [] [f]) [.int .i64 4,.int .i64 0,.slice none 0 0,.slice (some ⟨g,0,none⟩) 1 1]:=
 ⟨none,0,some ⟨g,0,none⟩,1,rfl,fun i hi=>absurd hi (Nat.not_lt_zero i),Nat.zero_le _,by simp[Lf.FT.ks],fun i hi=>by
   obtain rfl:i=0:=by simp[Lf.FT.ks]at hi;omega
   exact⟨g,0,c0,c1,c2,c3,rfl,.inr rfl,by simpa using q0,by simpa using q1,by simpa using q2,by simpa using q3,h.keep (fun b hb=> .inl hb) (fun b o hb2=>hb.cell (p:=⟨b,o,none⟩) (hS b hb2))⟩⟩
def NotS (S:Nat→Prop)(n:Nat)(f:Lf.FT)(w:World)(e:Ending)(w':World):Prop:=∃g,e= .returned (.agg #[.int .i64 4,.int .i64 0,.slice none 0 0,.slice (some ⟨g,0,none⟩) 1 1])∧w.heap.size≤g∧g<w'.heap.size∧Lf.FLiesS (fun b=>S b∨b=g) w' (n+1) (.mk 4 0 [] [f]) [.int .i64 4,.int .i64 0,.slice none 0 0,.slice (some ⟨g,0,none⟩) 1 1]∧Below w.heap.size w w'
theorem not_anyS (S:Nat→Prop)(n:Nat)(f:Lf.FT)(k c:Int)(ta:Option Addr)(tn tc:Nat)(ka:Option Addr)(kn kc:Nat)(w:World)(hS:∀b,S b→b<w.heap.size)(h:Lf.FLiesS S w n f [.int .i64 k,.int .i64 c,.slice ta tn tc,.slice ka kn kc]):Calls Tryz.prog 58 #[.agg #[.int .i64 k,.int .i64 c,.slice ta tn tc,.slice ka kn kc]] w (NotS S n f w):=by
 have HH:=Lib.hid h
 have HS:=Lib.hid hS
 clear h hS
 go_enter Tryz.func58,Tryz.ntmps58
 go_wp2_with fail
 obtain⟨hb,h1,h2,hs⟩:=three_at w #[.int .i64 k,.int .i64 c,.slice ta tn tc,.slice ka kn kc] #[.int .i64 4,.int .i64 0,.slice none 0 0,.slice (some ⟨w.heap.size+1+1,0,none⟩) 1 1] #[.int .i64 k,.int .i64 c,.slice ta tn tc,.slice ka kn kc] 38 38 38
 generalize (((w.alloc (.cells #[.int .i64 k,.int .i64 c,.slice ta tn tc,.slice ka kn kc] 38)).alloc (.cells #[.int .i64 4,.int .i64 0,.slice none 0 0,.slice (some ⟨w.heap.size+1+1,0,none⟩) 1 1] 38)).alloc (.cells #[.int .i64 k,.int .i64 c,.slice ta tn tc,.slice ka kn kc] 38))=W at*
 have e0:W.cell? ⟨w.heap.size+1,0,none⟩=some (.int .i64 4):=(cell_of_row _ _ _ _ _ _ h1).trans rfl
 have e1:W.cell? ⟨w.heap.size+1,1,none⟩=some (.int .i64 0):=(cell_of_row _ _ _ _ _ _ h1).trans rfl
 have e2:W.cell? ⟨w.heap.size+1,2,none⟩=some (.slice none 0 0):=(cell_of_row _ _ _ _ _ _ h1).trans rfl
 have e3:W.cell? ⟨w.heap.size+1,3,none⟩=some (.slice (some ⟨w.heap.size+1+1,0,none⟩) 1 1):=(cell_of_row _ _ _ _ _ _ h1).trans rfl
 refine bodyPost_ret (v:= .agg #[.int .i64 4,.int .i64 0,.slice none 0 0,.slice (some ⟨w.heap.size+1+1,0,none⟩) 1 1]) ?_ rfl ⟨w.heap.size+1+1,rfl,by omega,by omega,fl_notS HH.out HS.out hb ((cell_of_row _ _ _ _ _ _ h2).trans rfl) ((cell_of_row _ _ _ _ _ _ h2).trans rfl) ((cell_of_row _ _ _ _ _ _ h2).trans rfl) ((cell_of_row _ _ _ _ _ _ h2).trans rfl),hb⟩
 simp[results,Tryz.results58,go_sem,e0,e1,e2,e3]
def eAt (p0 m0:Int)(s0:ByteArray)(a0:Option Addr)(l0 c0:Nat)(p1 m1:Int)(s1:ByteArray)(a1:Option Addr)(l1 c1:Nat)(j:Nat):Option Value:=[Value.int .i64 p0,.int .i64 m0,.string s0,.slice a0 l0 c0,.int .i64 p1,.int .i64 m1,.string s1,.slice a1 l1 c1][j]?
theorem ccompare_any (k:Int)(be oe ecap:Nat)(ka:Option Addr)(kn kc:Nat)(la:Option Addr)(ln lcap:Nat)(p0 m0:Int)(s0:ByteArray)(a0:Option Addr)(l0 c0:Nat)(p1 m1:Int)(s1:ByteArray)(a1:Option Addr)(l1 c1:Nat)(r0 r1:Option LT)(w:World)(hbe:be<w.heap.size)(hE:∀j v,eAt p0 m0 s0 a0 l0 c0 p1 m1 s1 a1 l1 c1 j=some v→w.cell? ⟨be,oe+j,none⟩=some v)
 (h0:∀W,Below w.heap.size w W→Calls Tryz.prog 40 #[.agg #[.int .i64 p0,.int .i64 m0,.string s0,.slice a0 l0 c0],.slice la ln lcap] W (LnEnd r0 W)) (h1:∀W,Below w.heap.size w W→Calls Tryz.prog 40 #[.agg #[.int .i64 p1,.int .i64 m1,.string s1,.slice a1 l1 c1],.slice la ln lcap] W (LnEnd r1 W)) (hs0:∀a,r0=some a→Sd a) (hs1:∀a,r1=some a→Sd a):
 Calls Tryz.prog 68 #[.agg #[.int .i64 k,.slice (some ⟨be,oe,none⟩) 2 ecap,.slice ka kn kc],.slice la ln lcap] w (CmEnd 2 (r0.bind fun a=>r1.bind fun b=>cmpF k a b) w):=by
 have n1:=fun W=>Tryz.eqNil W
 have n2:=fun t v W=>Tryz.eqIface t v W
 have X0:Hid (CBx w ((w.alloc (.cells #[.int .i64 k,.slice (some ⟨be,oe,none⟩) 2 ecap,.slice ka kn kc] 52)).alloc (.cells #[.int .i64 0,.int .i64 0,.slice none 0 0,.slice none 0 0] 38)) k be oe ecap (eAt p0 m0 s0 a0 l0 c0 p1 m1 s1 a1 l1 c1)):=Lib.hid (cbx_new hE hbe)
 have H0:=Lib.hid h0
 have H1:=Lib.hid h1
 have HS0:=Lib.hid hs0
 have HS1:=Lib.hid hs1
 clear hE hbe h0 h1 hs0 hs1
 have b1c:=X0.out.c1
 have g0:((w.alloc (.cells #[.int .i64 k,.slice (some ⟨be,oe,none⟩) 2 ecap,.slice ka kn kc] 52)).alloc (.cells #[.int .i64 0,.int .i64 0,.slice none 0 0,.slice none 0 0] 38)).cell? ⟨be,oe,none⟩=_:=X0.out.es 0 _ rfl
 have g1:=X0.out.es 1 _ rfl
 have g2:=X0.out.es 2 _ rfl
 have g3:=X0.out.es 3 _ rfl
 go_enter Tryz.func68,Tryz.ntmps68
 go_wp2_with fail
 refine(H0.out _ X0.out.bel).mono ?_
 rintro r w2 h2
 obtain⟨x0,q0,d0,n0,rfl,hrow,hb,hc0⟩:=h2.one
 have X2:=Lib.hid ((X0.out.below hb).below (box_low (cs:= #[.int .i64 x0.1,.slice q0 x0.2.length d0]) (t:=25)))
 have L2:Hid (LB (w.heap.size+2) (w2.alloc (.cells #[.int .i64 x0.1,.slice q0 x0.2.length d0] 25)) w2.heap.size x0 q0 d0):=Lib.hid (lb_new (hrow.mono X0.out.lt))
 have HC0:=Lib.hid hc0
 clear h2 hrow hb hc0 b1c g0 g1 g2 g3 X0 H0
 have b1c:=X2.out.c1
 have g4:=X2.out.es 4 _ rfl
 have g5:=X2.out.es 5 _ rfl
 have g6:=X2.out.es 6 _ rfl
 have g7:=X2.out.es 7 _ rfl
 have g5':=g5
 have g6':=g6
 have g7':=g7
 rw[show oe+5=oe+4+1 from rfl]at g5'
 rw[show oe+6=oe+4+2 from rfl]at g6'
 rw[show oe+7=oe+4+3 from rfl]at g7'
 go_wp2_with fail
 refine(H1.out _ X2.out.bel).mono ?_
 rintro r w3 h3
 obtain⟨x1,q1,d1,n3,rfl,hrow,hb,hc1⟩:=h3.one
 have X3:=Lib.hid ((X2.out.below hb).below (box_low (cs:= #[.int .i64 x1.1,.slice q1 x1.2.length d1]) (t:=25)))
 have L3:=Lib.hid ((L2.out.below hb).below (box_low (cs:= #[.int .i64 x1.1,.slice q1 x1.2.length d1]) (t:=25)))
 have M3:Hid (LB (w.heap.size+2) (w3.alloc (.cells #[.int .i64 x1.1,.slice q1 x1.2.length d1] 25)) w3.heap.size x1 q1 d1):=Lib.hid (lb_new (hrow.mono X2.out.lt))
 have HC1:=Lib.hid hc1
 clear h3 hrow hb hc1 b1c g4 g5 g6 g7 g5' g6' g7' X2 L2 H1
 cases n0 with
 | false=>
   have HR:Hid ((r0.bind fun a=>r1.bind fun b=>cmpF k a b)=none):=Lib.hid (by
    rcases HC0.out with ⟨h,_⟩ | ⟨_,h,_⟩
    ·cases h
    ·rw[h];rfl)
   obtain⟨E4,FLF,BLF⟩:=X3.out.put (f0_lies (n:=1))
   have E:=Lib.hid E4
   have RES:=Lib.hid (And.intro FLF BLF)
   clear E4 FLF BLF
   have rr0:=X3.out.r0
   have rr1:=X3.out.r1
   have rr2:=X3.out.r2
   have rr3:=X3.out.r3
   have z0:=X3.out.rf 0
   have z1:=X3.out.rf 1
   have z2:=X3.out.rf 2
   have z3:=X3.out.rf 3
   go_wp2_with fail
   obtain⟨e0,e1,e2,e3⟩:=E.out
   refine bodyPost_ret (v:= .tuple #[.agg #[.int .i64 0,.int .i64 0,.slice none 0 0,.slice none 0 0],.bool false]) ?_ rfl ⟨f0,[.int .i64 0,.int .i64 0,.slice none 0 0,.slice none 0 0],false,rfl,RES.out.1,RES.out.2,.inr ⟨rfl,HR.out⟩⟩
   simp[results,Tryz.results68,go_sem,e0,e1,e2,e3]
 | true=>
   cases n3 with
   | false=>
     have HR:Hid ((r0.bind fun a=>r1.bind fun b=>cmpF k a b)=none):=Lib.hid (by
      rcases HC1.out with ⟨h,_⟩ | ⟨_,h,_⟩
      ·cases h
      ·rw[h];cases r0<;>rfl)
     obtain⟨E4,FLF,BLF⟩:=X3.out.put (f0_lies (n:=1))
     have E:=Lib.hid E4
     have RES:=Lib.hid (And.intro FLF BLF)
     clear E4 FLF BLF
     have rr0:=X3.out.r0
     have rr1:=X3.out.r1
     have rr2:=X3.out.r2
     have rr3:=X3.out.r3
     have z0:=X3.out.rf 0
     have z1:=X3.out.rf 1
     have z2:=X3.out.rf 2
     have z3:=X3.out.rf 3
     go_wp2_with fail
     obtain⟨e0,e1,e2,e3⟩:=E.out
     refine bodyPost_ret (v:= .tuple #[.agg #[.int .i64 0,.int .i64 0,.slice none 0 0,.slice none 0 0],.bool false]) ?_ rfl ⟨f0,[.int .i64 0,.int .i64 0,.slice none 0 0,.slice none 0 0],false,rfl,RES.out.1,RES.out.2,.inr ⟨rfl,HR.out⟩⟩
     simp[results,Tryz.results68,go_sem,e0,e1,e2,e3]
   | true=>
     have A0:r0=some x0:=by
      rcases HC0.out with ⟨_,h⟩ | ⟨h,_⟩
      ·exact h
      ·cases h
     have A1:r1=some x1:=by
      rcases HC1.out with ⟨_,h⟩ | ⟨h,_⟩
      ·exact h
      ·cases h
     have HR:Hid ((r0.bind fun a=>r1.bind fun b=>cmpF k a b)=cmpF k x0 x1):=Lib.hid (by rw[A0,A1];rfl)
     have F:=Lib.hid (less_any x0 x1 q0 q1 d0 d1 _ (HS0.out _ A0) (HS1.out _ A1) L3.out.lies M3.out.lies)
     have y0:=L3.out.c0
     have y1:=L3.out.c1
     have y2:=M3.out.c0
     have y3:=M3.out.c1
     clear A0 A1 HC0 HC1 HS0 HS1
     go_wp2_with fail
     refine F.out.mono ?_
     rintro r w4 h4
     obtain⟨x,q,d,nb,rfl,hrow,hb,hc⟩:=h4.one
     have X4:=Lib.hid ((X3.out.below hb).below (box_low (cs:= #[.int .i64 x.1,.slice q x.2.length d]) (t:=25)))
     have L4:Hid (LB (w.heap.size+2) (w4.alloc (.cells #[.int .i64 x.1,.slice q x.2.length d] 25)) w4.heap.size x q d):=Lib.hid (lb_new (hrow.mono X3.out.lt))
     have HC:=Lib.hid hc
     clear h4 hrow hb hc F y0 y1 y2 y3 L3 M3 X3
     have kc0:=X4.out.c0
     have y0:=L4.out.c0
     have y1:=L4.out.c1
     have HLEN:Hid (x.2.length≤9223372036854775807):=Lib.hid (by
      rcases HC.out with ⟨_,h⟩ | ⟨_,_,h⟩
      ·exact Nat.le_trans (addS_sd h).len (by decide)
      ·rw[h];simp)
     by_cases hk4:k=4
     ·subst hk4
      cases nb with
      | true=>
        have AX:addS 1 (-1) x0 x1=some x:=by
         rcases HC.out with ⟨_,h⟩ | ⟨h,_⟩
         ·exact h
         ·cases h
        have HR2:Hid ((r0.bind fun a=>r1.bind fun b=>cmpF 4 a b)=(addS 1 1 x (1,[])).map fun y=> .mk 2 y.1 y.2 []):=Lib.hid (HR.out.trans (by unfold cmpF;rw[AX];first | rfl | simp))
        have F:=Lib.hid (add_one x (1,[]) 1 1 q none d 0 _ (addS_sd AX) sd_unit (by omega) (by omega) L4.out.lies (fun i hi=>absurd hi (Nat.not_lt_zero i)))
        clear AX HR
        go_wp2_with fail
        refine F.out.mono ?_
        rintro r w5 ⟨c,l,v,er,rfl,hrow,hb,hcase⟩
        obtain⟨a5,c5,rfl,_,_⟩:=hrow.lies
        have X5:=Lib.hid ((X4.out.below hb).below (box_low (cs:= #[.int .i64 c,.slice a5 l.length c5]) (t:=25)))
        have R5:Hid (Lf.Row (w.heap.size+2) l (.slice a5 l.length c5) (w5.alloc (.cells #[.int .i64 c,.slice a5 l.length c5] 25))):=Lib.hid ((hrow.mono X4.out.lt).alloc _)
        have HL5:Hid (l.length≤9223372036854775807):=Lib.hid (by
         rcases hcase with ⟨h,_⟩ | ⟨_,_,h,_⟩
         ·exact Nat.le_trans (addS_sd h).len (by decide)
         ·injection h with h1 h2 h3
          omega)
        have hl5:=box2_at (Below.refl _ (w5.alloc (.cells #[.int .i64 c,.slice a5 l.length c5] 25)))
        have y5:=hl5.1
        have y6:=hl5.2.1
        clear hrow hb hl5 y0 y1 kc0 F
        obtain⟨E4,FLF,BLF⟩:=X5.out.put (fl_leaf (n:=1) 2 c R5.out HL5.out)
        have E:=Lib.hid E4
        have RES:=Lib.hid (And.intro FLF BLF)
        clear E4 FLF BLF
        have rr0:=X5.out.r0
        have rr1:=X5.out.r1
        have rr2:=X5.out.r2
        have rr3:=X5.out.r3
        have z0:=X5.out.rf 0
        have z1:=X5.out.rf 1
        have z2:=X5.out.rf 2
        have z3:=X5.out.rf 3
        rcases hcase with ⟨hx,rfl⟩ | ⟨hx,rfl,hv,kk,rfl⟩
        ·have HX:=Lib.hid hx
         clear hx
         go_wp2_with fail
         go_region
         all_goals (
          obtain⟨e0,e1,e2,e3⟩:=E.out
          go_wp2_with fail
          refine bodyPost_ret (v:= .tuple #[.agg #[.int .i64 2,.int .i64 c,.slice a5 l.length c5,.slice none 0 0],.bool true]) ?_ rfl ⟨.mk 2 c l [],[.int .i64 2,.int .i64 c,.slice a5 l.length c5,.slice none 0 0],true,rfl,RES.out.1.keep (fun b h=>h) (fun _ _ _=>rfl),RES.out.2.drew,.inl ⟨rfl,by rw[HR2.out,HX.out];rfl⟩⟩
          simp[results,Tryz.results68,go_sem,e0,e1,e2,e3])
        ·have HX:=Lib.hid hx
         clear hx hv
         go_wp2_with fail
         go_region
         all_goals (
          obtain⟨e0,e1,e2,e3⟩:=E.out
          go_wp2_with fail
          refine bodyPost_ret (v:= .tuple #[.agg #[.int .i64 2,.int .i64 0,.slice a5 l.length c5,.slice none 0 0],.bool false]) ?_ rfl ⟨.mk 2 0 l [],[.int .i64 2,.int .i64 0,.slice a5 l.length c5,.slice none 0 0],false,rfl,RES.out.1.keep (fun b h=>h) (fun _ _ _=>rfl),RES.out.2.drew,.inr ⟨rfl,by rw[HR2.out,HX.out];rfl⟩⟩
          simp[results,Tryz.results68,go_sem,e0,e1,e2,e3])
      | false=>
        have HZ:Hid ((w4.alloc (.cells #[.int .i64 x.1,.slice q x.2.length d] 25)).heap.size=w4.heap.size+1):=Lib.hid (by simp)
        have HB5:Hid (Below (w4.alloc (.cells #[.int .i64 x.1,.slice q x.2.length d] 25)).heap.size (w4.alloc (.cells #[.int .i64 x.1,.slice q x.2.length d] 25)) ((w4.alloc (.cells #[.int .i64 x.1,.slice q x.2.length d] 25)).alloc (.cells #[.int .i64 3,.int .i64 x.1,.slice q x.2.length d,.slice none 0 0] 38))):=Lib.hid box_low
        have X5:=Lib.hid (X4.out.below HB5.out)
        have R5:=Lib.hid (L4.out.row.below HB5.out)
        obtain⟨E4,FLF,BLF⟩:=X5.out.put (fl_leaf (n:=1) 3 x.1 (R5.out) HLEN.out)
        have E:=Lib.hid E4
        have RES:=Lib.hid (And.intro FLF BLF)
        clear E4 FLF BLF
        have rr0:=X5.out.r0
        have rr1:=X5.out.r1
        have rr2:=X5.out.r2
        have rr3:=X5.out.r3
        have z0:=X5.out.rf 0
        have z1:=X5.out.rf 1
        have z2:=X5.out.rf 2
        have z3:=X5.out.rf 3
        have kk1:=X5.out.c0
        go_wp2_with fail
        obtain⟨e0,e1,e2,e3⟩:=E.out
        refine bodyPost_ret (v:= .tuple #[.agg #[.int .i64 3,.int .i64 x.1,.slice q x.2.length d,.slice none 0 0],.bool false]) ?_ rfl ⟨.mk 3 x.1 x.2 [],[.int .i64 3,.int .i64 x.1,.slice q x.2.length d,.slice none 0 0],false,rfl,RES.out.1,RES.out.2,(by
         rcases HC.out with ⟨h,_⟩ | ⟨h,hx,_⟩
         ·cases h
         ·exact .inr ⟨rfl,by rw[HR.out];unfold cmpF;rw[hx];rfl⟩)⟩
        simp[results,Tryz.results68,go_sem,e0,e1,e2,e3]
     ·have e4:(k == 4)=false:=by simpa using hk4
      by_cases hk3:k=3
      ·have e3':(k == 3)=true:=by simpa using hk3
       have e5':(k == 5)=false:=by simp[hk3]
       have HZ:Hid ((w4.alloc (.cells #[.int .i64 x.1,.slice q x.2.length d] 25)).heap.size=w4.heap.size+1):=Lib.hid (by simp)
       have HB5:Hid (Below (w4.alloc (.cells #[.int .i64 x.1,.slice q x.2.length d] 25)).heap.size (w4.alloc (.cells #[.int .i64 x.1,.slice q x.2.length d] 25)) ((w4.alloc (.cells #[.int .i64 x.1,.slice q x.2.length d] 25)).alloc (.cells #[.int .i64 3,.int .i64 x.1,.slice q x.2.length d,.slice none 0 0] 38))):=Lib.hid box_low
       have X5:=Lib.hid (X4.out.below HB5.out)
       have R5:=Lib.hid (L4.out.row.below HB5.out)
       have FS:Hid (Lf.FLiesS (InS (w.heap.size+2) (w4.alloc (.cells #[.int .i64 x.1,.slice q x.2.length d] 25))) ((w4.alloc (.cells #[.int .i64 x.1,.slice q x.2.length d] 25)).alloc (.cells #[.int .i64 3,.int .i64 x.1,.slice q x.2.length d,.slice none 0 0] 38)) 1 (.mk 3 x.1 x.2 []) [.int .i64 3,.int .i64 x.1,.slice q x.2.length d,.slice none 0 0]):=Lib.hid ((fl_leaf (n:=0) 3 x.1 L4.out.row HLEN.out).keep (fun b h=>h) (fun b o h=>HB5.out.cell (p:=⟨b,o,none⟩) h.2))
       have NS:=Lib.hid (not_anyS (InS (w.heap.size+2) (w4.alloc (.cells #[.int .i64 x.1,.slice q x.2.length d] 25))) 1 _ _ _ _ _ _ _ _ _ ((w4.alloc (.cells #[.int .i64 x.1,.slice q x.2.length d] 25)).alloc (.cells #[.int .i64 3,.int .i64 x.1,.slice q x.2.length d,.slice none 0 0] 38)) (fun b h=>Nat.lt_of_lt_of_le h.2 HB5.out.size) FS.out)
       have kk:=X5.out.c0
       go_wp2_with fail
       refine NS.out.mono ?_
       rintro r w6 ⟨g,rfl,hg1,hg2,hfl,hb6⟩
       obtain⟨j0,j1,j2,j3,j4⟩:=four_new (w:=(w4.alloc (.cells #[.int .i64 x.1,.slice q x.2.length d] 25))) hb6
       rw[HZ.out]at j0 j1 j2 j3 j4
       have hz:∀i,w6.frozen? ⟨w4.heap.size+1,i,none⟩=false:=fun i=>(hb6.frozen (p:=⟨w4.heap.size+1,i,none⟩) (by rw[←HZ.out];simp)).trans (by rw[←HZ.out];exact Lf.frozen_new _ _ _ _)
       have jz0:=hz 0
       have jz1:=hz 1
       have jz2:=hz 2
       have jz3:=hz 3
       have HB6:Hid (Below (w4.alloc (.cells #[.int .i64 x.1,.slice q x.2.length d] 25)).heap.size (w4.alloc (.cells #[.int .i64 x.1,.slice q x.2.length d] 25)) ((((w6.setCell ⟨w4.heap.size+1,0,none⟩ (.int .i64 4)).setCell ⟨w4.heap.size+1,1,none⟩ (.int .i64 0)).setCell ⟨w4.heap.size+1,2,none⟩ (.slice none 0 0)).setCell ⟨w4.heap.size+1,3,none⟩ (.slice (some ⟨g,0,none⟩) 1 1))):=Lib.hid (((((HB5.out.trans (hb6.mono HB5.out.size)).setCell (p:=⟨w4.heap.size+1,0,none⟩) (by rw[HZ.out];exact Nat.le_refl _) _).setCell (p:=⟨w4.heap.size+1,1,none⟩) (by rw[HZ.out];exact Nat.le_refl _) _).setCell (p:=⟨w4.heap.size+1,2,none⟩) (by rw[HZ.out];exact Nat.le_refl _) _).setCell (p:=⟨w4.heap.size+1,3,none⟩) (by rw[HZ.out];exact Nat.le_refl _) _)
       have X6:=Lib.hid (X4.out.below HB6.out)
       have hs5:((w4.alloc (.cells #[.int .i64 x.1,.slice q x.2.length d] 25)).alloc (.cells #[.int .i64 3,.int .i64 x.1,.slice q x.2.length d,.slice none 0 0] 38)).heap.size=w4.heap.size+1+1:=by simp
       have FL6:Hid (Lf.FLiesS (InS (w.heap.size+2) ((((w6.setCell ⟨w4.heap.size+1,0,none⟩ (.int .i64 4)).setCell ⟨w4.heap.size+1,1,none⟩ (.int .i64 0)).setCell ⟨w4.heap.size+1,2,none⟩ (.slice none 0 0)).setCell ⟨w4.heap.size+1,3,none⟩ (.slice (some ⟨g,0,none⟩) 1 1))) ((((w6.setCell ⟨w4.heap.size+1,0,none⟩ (.int .i64 4)).setCell ⟨w4.heap.size+1,1,none⟩ (.int .i64 0)).setCell ⟨w4.heap.size+1,2,none⟩ (.slice none 0 0)).setCell ⟨w4.heap.size+1,3,none⟩ (.slice (some ⟨g,0,none⟩) 1 1)) 2 (.mk 4 0 [] [.mk 3 x.1 x.2 []]) [.int .i64 4,.int .i64 0,.slice none 0 0,.slice (some ⟨g,0,none⟩) 1 1]):=Lib.hid (hfl.keep (fun b h=>by
        rcases h with h | h
        ·exact⟨h.1,Nat.lt_of_lt_of_le h.2 HB6.out.size⟩
        ·subst h
         have h1:=X4.out.lt
         have h2:=HZ.out
         exact⟨by omega,by simpa using hg2⟩) (fun b o h=>by
        have hne:¬w4.heap.size+1=b:=fun e=>by
         rcases h with h | h
         ·have h2:=h.2
          rw[HZ.out]at h2
          omega
         ·omega
        rw[World.cell?_setCell_other _ _ _ _ (by simp[hne]),World.cell?_setCell_other _ _ _ _ (by simp[hne]),World.cell?_setCell_other _ _ _ _ (by simp[hne]),World.cell?_setCell_other _ _ _ _ (by simp[hne])]))
       clear hfl hb6 hz kk
       obtain⟨E4,FLF,BLF⟩:=X6.out.put (FL6.out)
       have E:=Lib.hid E4
       have RES:=Lib.hid (And.intro FLF BLF)
       clear E4 FLF BLF
       have rr0:=X6.out.r0
       have rr1:=X6.out.r1
       have rr2:=X6.out.r2
       have rr3:=X6.out.r3
       have z0:=X6.out.rf 0
       have z1:=X6.out.rf 1
       have z2:=X6.out.rf 2
       have z3:=X6.out.rf 3
       have kk1:=X6.out.c0
       go_wp2_with fail
       obtain⟨e0,e1,e2,e3⟩:=E.out
       refine bodyPost_ret (v:= .tuple #[.agg #[.int .i64 4,.int .i64 0,.slice none 0 0,.slice (some ⟨g,0,none⟩) 1 1],.bool nb]) ?_ rfl ⟨.mk 4 0 [] [.mk 3 x.1 x.2 []],[.int .i64 4,.int .i64 0,.slice none 0 0,.slice (some ⟨g,0,none⟩) 1 1],nb,rfl,RES.out.1,RES.out.2,(by
        rcases HC.out with ⟨h,hx⟩ | ⟨h,hx,_⟩
        ·exact .inl ⟨h,by rw[HR.out];unfold cmpF;rw[hx];show(if k=4 then _ else _)=_;rw[if_neg hk4,if_pos hk3]⟩
        ·exact .inr ⟨h,by rw[HR.out];unfold cmpF;rw[hx];rfl⟩)⟩
       simp[results,Tryz.results68,go_sem,e0,e1,e2,e3]
      ·have e3':(k == 3)=false:=by simpa using hk3
       by_cases hk5:k=5
       ·have e5':(k == 5)=true:=by simpa using hk5
        have HZ:Hid ((w4.alloc (.cells #[.int .i64 x.1,.slice q x.2.length d] 25)).heap.size=w4.heap.size+1):=Lib.hid (by simp)
        have HB5:Hid (Below (w4.alloc (.cells #[.int .i64 x.1,.slice q x.2.length d] 25)).heap.size (w4.alloc (.cells #[.int .i64 x.1,.slice q x.2.length d] 25)) ((w4.alloc (.cells #[.int .i64 x.1,.slice q x.2.length d] 25)).alloc (.cells #[.int .i64 3,.int .i64 x.1,.slice q x.2.length d,.slice none 0 0] 38))):=Lib.hid box_low
        have X5:=Lib.hid (X4.out.below HB5.out)
        have R5:=Lib.hid (L4.out.row.below HB5.out)
        have kk5:=X5.out.c0
        have HB6:Hid (Below (w4.alloc (.cells #[.int .i64 x.1,.slice q x.2.length d] 25)).heap.size (w4.alloc (.cells #[.int .i64 x.1,.slice q x.2.length d] 25)) ((w4.alloc (.cells #[.int .i64 x.1,.slice q x.2.length d] 25)).alloc (.cells #[.int .i64 2,.int .i64 x.1,.slice q x.2.length d,.slice none 0 0] 38))):=Lib.hid box_low
        have X6:=Lib.hid (X4.out.below HB6.out)
        have R6:=Lib.hid (L4.out.row.below HB6.out)
        obtain⟨E4,FLF,BLF⟩:=X6.out.put (fl_leaf (n:=1) 2 x.1 (R6.out) HLEN.out)
        have E:=Lib.hid E4
        have RES:=Lib.hid (And.intro FLF BLF)
        clear E4 FLF BLF
        have rr0:=X6.out.r0
        have rr1:=X6.out.r1
        have rr2:=X6.out.r2
        have rr3:=X6.out.r3
        have z0:=X6.out.rf 0
        have z1:=X6.out.rf 1
        have z2:=X6.out.rf 2
        have z3:=X6.out.rf 3
        have kk1:=X6.out.c0
        go_wp2_with fail
        obtain⟨e0,e1,e2,e3⟩:=E.out
        refine bodyPost_ret (v:= .tuple #[.agg #[.int .i64 2,.int .i64 x.1,.slice q x.2.length d,.slice none 0 0],.bool nb]) ?_ rfl ⟨.mk 2 x.1 x.2 [],[.int .i64 2,.int .i64 x.1,.slice q x.2.length d,.slice none 0 0],nb,rfl,RES.out.1,RES.out.2,(by
         rcases HC.out with ⟨h,hx⟩ | ⟨h,hx,_⟩
         ·exact .inl ⟨h,by rw[HR.out];unfold cmpF;rw[hx];show(if k=4 then _ else _)=_;rw[if_neg hk4,if_neg hk3,if_pos hk5]⟩
         ·exact .inr ⟨h,by rw[HR.out];unfold cmpF;rw[hx];rfl⟩)⟩
        simp[results,Tryz.results68,go_sem,e0,e1,e2,e3]
       ·have e5':(k == 5)=false:=by simpa using hk5
        have HZ:Hid ((w4.alloc (.cells #[.int .i64 x.1,.slice q x.2.length d] 25)).heap.size=w4.heap.size+1):=Lib.hid (by simp)
        have HB5:Hid (Below (w4.alloc (.cells #[.int .i64 x.1,.slice q x.2.length d] 25)).heap.size (w4.alloc (.cells #[.int .i64 x.1,.slice q x.2.length d] 25)) ((w4.alloc (.cells #[.int .i64 x.1,.slice q x.2.length d] 25)).alloc (.cells #[.int .i64 3,.int .i64 x.1,.slice q x.2.length d,.slice none 0 0] 38))):=Lib.hid box_low
        have X5:=Lib.hid (X4.out.below HB5.out)
        have R5:=Lib.hid (L4.out.row.below HB5.out)
        obtain⟨E4,FLF,BLF⟩:=X5.out.put (fl_leaf (n:=1) 3 x.1 (R5.out) HLEN.out)
        have E:=Lib.hid E4
        have RES:=Lib.hid (And.intro FLF BLF)
        clear E4 FLF BLF
        have rr0:=X5.out.r0
        have rr1:=X5.out.r1
        have rr2:=X5.out.r2
        have rr3:=X5.out.r3
        have z0:=X5.out.rf 0
        have z1:=X5.out.rf 1
        have z2:=X5.out.rf 2
        have z3:=X5.out.rf 3
        have kk1:=X5.out.c0
        go_wp2_with fail
        obtain⟨e0,e1,e2,e3⟩:=E.out
        refine bodyPost_ret (v:= .tuple #[.agg #[.int .i64 3,.int .i64 x.1,.slice q x.2.length d,.slice none 0 0],.bool nb]) ?_ rfl ⟨.mk 3 x.1 x.2 [],[.int .i64 3,.int .i64 x.1,.slice q x.2.length d,.slice none 0 0],nb,rfl,RES.out.1,RES.out.2,(by
         rcases HC.out with ⟨h,hx⟩ | ⟨h,hx,_⟩
         ·exact .inl ⟨h,by rw[HR.out];unfold cmpF;rw[hx];show(if k=4 then _ else _)=_;rw[if_neg hk4,if_neg hk3,if_neg hk5]⟩
         ·exact .inr ⟨h,by rw[HR.out];unfold cmpF;rw[hx];rfl⟩)⟩
        simp[results,Tryz.results68,go_sem,e0,e1,e2,e3]
end
end Go.Proofs.YtjbkhdbjdahbiaaGreatDoor
