/- Parts of a proof. -/
import Derived.Test.YtjbkhdbjdahbiaaDoorQ03
import Derived.Test.YtjbkhdbjdahbiaaDoorQ10
import Derived.Test.YtjbkhdbjdahbiaaDoorQ13
import Derived.Test.YtjbkhdbjdahbiaaDoorQ14
import Derived.BigQuiet
set_option linter.unusedVariables false
set_option linter.unusedSimpArgs false
set_option maxHeartbeats 60000000
set_option maxRecDepth 100000
namespace Go.Proofs.YtjbkhdbjdahbiaaDoor
section
open Go.RowKit
theorem CkAt.below {B B':Nat}{w W:World}{b o:Nat}{x:CK}{a1 a2:Option Addr}{k1 k2:Nat}(h:CkAt B w b o x a1 k1 a2 k2)(hb:Below B w W)(hB:b<B)(hS:B≤B'):CkAt B' W b o x a1 k1 a2 k2:=
 ⟨(hb.cell (p:=⟨b,_,none⟩) hB).trans h.c0,(hb.cell (p:=⟨b,_,none⟩) hB).trans h.c1,(hb.cell (p:=⟨b,_,none⟩) hB).trans h.c2,(hb.cell (p:=⟨b,_,none⟩) hB).trans h.c3,(hb.cell (p:=⟨b,_,none⟩) hB).trans h.c4,(hb.cell (p:=⟨b,_,none⟩) hB).trans h.c5,(h.la.below hb).mono hS,h.na,(h.lv.below hb).mono hS,h.nv,h.hf,h.hn⟩
theorem ck_box {B:Nat}{w:World}{b o:Nat}{x:CK}{a1 a2:Option Addr}{k1 k2:Nat}{t:TypeId}(h:CkAt B w b o x a1 k1 a2 k2)(hB:B≤w.heap.size){n:Int}(hn:i64 n):CkAt w.heap.size (w.alloc (.cells #[.int .i64 x.a.1,.slice a1 x.a.2.length k1,.string x.f,.int .i64 n,.int .i64 x.v.1,.slice a2 x.v.2.length k2] t)) w.heap.size 0 ⟨x.a,x.f,n,x.v⟩ a1 k1 a2 k2:=
 have hb:Below w.heap.size w (w.alloc (.cells #[.int .i64 x.a.1,.slice a1 x.a.2.length k1,.string x.f,.int .i64 n,.int .i64 x.v.1,.slice a2 x.v.2.length k2] t)):=box_low
 have hnew:=heap_alloc_new w (.cells #[.int .i64 x.a.1,.slice a1 x.a.2.length k1,.string x.f,.int .i64 n,.int .i64 x.v.1,.slice a2 x.v.2.length k2] t)
 ⟨(cell_of_row _ _ _ _ _ _ hnew).trans rfl,(cell_of_row _ _ _ _ _ _ hnew).trans rfl,(cell_of_row _ _ _ _ _ _ hnew).trans rfl,(cell_of_row _ _ _ _ _ _ hnew).trans rfl,(cell_of_row _ _ _ _ _ _ hnew).trans rfl,(cell_of_row _ _ _ _ _ _ hnew).trans rfl,(h.la.mono hB).below hb,h.na,(h.lv.mono hB).below hb,h.nv,h.hf,hn⟩
theorem rest1_zero {n:Int}{m:Nat}{c:CK}(h:c.n - n=0):rest1 m n m c=[]:=by unfold rest1;rw[if_pos rfl,if_pos h]
theorem rest1_pos {n:Int}{m:Nat}{c:CK}(h:¬c.n - n=0):rest1 m n m c=[⟨c.a,c.f,c.n - n,c.v⟩]:=by unfold rest1;rw[if_pos rfl,if_neg h]
theorem take_any (la:Option Addr)(ln lcap:Nat)(xs:List CK)(i n:Int)(w:World)(hs:Pak.Sits ckSh (Pak.Lo w.heap.size) w la xs)(hm:xs.length=ln)(hl:ln≤60)(hN:∀x∈xs, -1099511627776≤x.n∧x.n≤1099511627776)(hb:∀x∈xs,x.a.2.length*16≤140737488355328∧x.v.2.length*16≤140737488355328):
 Calls Tryd.prog 6 #[.slice la ln lcap,.int .i64 i,.int .i64 n] w (ChksEnd (takeR xs i n) w):=by
 have HM:=Lib.hid hm
 have HBD:=Lib.hid hb
 have HND:=Lib.hid hN
 by_cases h0:i<0
 ·have HR:Hid (takeR xs i n=([],15)):=Lib.hid (by unfold takeR;rw[if_pos (.inl h0)])
  clear hs hm hN hb
  go_enter Tryd.func6,Tryd.ntmps6
  go_wp2_with fail
  go_ret2
  exact⟨_,by rw[HR.out];rfl,by rw[HR.out];exact OwnL.nil _ _ _ _,Below.refl _ _⟩
 by_cases h1:(ln:Int)≤i
 ·have HR:Hid (takeR xs i n=([],15)):=Lib.hid (by unfold takeR;rw[if_pos (.inr (by rw[hm];exact h1))])
  clear hs hm hN hb
  go_enter Tryd.func6,Tryd.ntmps6
  go_wp2_with fail
  go_ret2
  exact⟨_,by rw[HR.out];rfl,by rw[HR.out];exact OwnL.nil _ _ _ _,Below.refl _ _⟩
 obtain⟨j,rfl⟩:=Int.eq_ofNat_of_zero_le (show 0≤i by omega)
 have hjl:j<ln:=by omega
 have hji:(j:Int)<(ln:Int):=by omega
 have hjx:j<xs.length:=by omega
 obtain⟨b,off,rfl,hbw,HC0⟩:=ck_cells hs (by omega)
 have HC:=Lib.hid HC0
 obtain⟨ja1,jk1,ja2,jk2,hj⟩:=HC0 j hjx
 have j3:=hj.c3
 have ej:xs.getD j ck0=xs[j]:=by rw[List.getD_eq_getElem?_getD,List.getElem?_eq_getElem hjx];rfl
 have HT0:Hid (takeR xs (j:Int) n=if n<1∨xs[j].n<n then([],1) else(restTo j n xs xs.length,0)):=Lib.hid (by
  unfold takeR
  rw[if_neg (by omega),Int.toNat_natCast,ej])
 have HNJ:=Lib.hid (hN _ (List.getElem_mem hjx))
 clear hs hm hN hb HC0 hj
 have HJX:=Lib.hid hjx
 by_cases h2:n<1
 ·have HR:Hid (takeR xs j n=([],1)):=Lib.hid (by rw[HT0.out,if_pos (.inl h2)])
  go_enter Tryd.func6,Tryd.ntmps6
  go_wp2_with fail
  go_ret2
  exact⟨_,by rw[HR.out];rfl,by rw[HR.out];exact OwnL.nil _ _ _ _,Below.refl _ _⟩
 by_cases h3:xs[j].n<n
 ·have HR:Hid (takeR xs j n=([],1)):=Lib.hid (by rw[HT0.out,if_pos (.inr h3)])
  go_enter Tryd.func6,Tryd.ntmps6
  go_wp2_with fail
  go_ret2
  exact⟨_,by rw[HR.out];rfl,by rw[HR.out];exact OwnL.nil _ _ _ _,Below.refl _ _⟩
 have HR:Hid (takeR xs j n=(restTo j n xs ln,0)):=Lib.hid (by rw[HT0.out,if_neg (by omega),HM.out])
 have HN1:Hid (1≤n∧n≤xs[j].n):=Lib.hid (by omega)
 clear HT0
 have HBW:=Lib.hid hbw
 go_enter Tryd.func6,Tryd.ntmps6
 go_wp2_with fail
 clear j3 h2 h3
 go_loopw [8,34] (fun v i wr=>∃m:Nat,i= .int .i64 m∧m≤ln∧Hid (OwnL ckSh 48 w.heap.size (restTo j n xs m) v wr)∧Hid (Below w.heap.size w wr)) (fun _ i _=>ln - (intOf i).toNat)
 case atStart=>exact⟨0,rfl,Nat.zero_le _,OwnL.nil _ _ _ _,Below.refl _ _⟩
 case round=>
  obtain⟨m,rfl,hm,hrow,hb⟩:=hrel
  by_cases hlt:m<ln
  ·have hmi:(m:Int)<(ln:Int):=by omega
   have hmx:m<xs.length:=by rw[HM.out];exact hlt
   obtain⟨a1,k1,a2,k2,hc0⟩:=HC.out m hmx
   have hc:=hc0.below hb.out HBW.out (Nat.le_refl _)
   have em:xs.getD m ck0=xs[m]:=by rw[List.getD_eq_getElem?_getD,List.getElem?_eq_getElem hmx];rfl
   have HST:Hid (restTo j n xs (m+1)=restTo j n xs m ++ rest1 j n m xs[m]):=Lib.hid (by rw[←em];rfl)
   have HLEN:Hid ((restTo j n xs m).length≤1000000):=Lib.hid (by have:=restTo_len j n xs m;omega)
   have HBM:=Lib.hid (HBD.out _ (List.getElem_mem hmx))
   have hbx:Below wr.heap.size wr (wr.alloc (.cells #[.int .i64 xs[m].a.1,.slice a1 xs[m].a.2.length k1,.string xs[m].f,.int .i64 xs[m].n,.int .i64 xs[m].v.1,.slice a2 xs[m].v.2.length k2] 48)):=box_low
   have c0:=hc.c0
   have c1:=hc.c1
   have c2:=hc.c2
   have c3:=hc.c3
   have c4:=hc.c4
   have c5:=hc.c5
   have HK:=Lib.hid hc
   clear hc0 hc
   by_cases e:m=j
   ·subst e
    have hw:IntKind.i64.wrap (xs[m].n - n)=xs[m].n - n:=IntWalk.i64_in _ (by have:=HNJ.out;have:=HN1.out;omega)
    have HI:Hid (i64 (xs[m].n - n)):=Lib.hid (by have:=HNJ.out;have:=HN1.out;unfold i64;omega)
    have HBW2:Hid (Below w.heap.size w (wr.alloc (.cells #[.int .i64 xs[m].a.1,.slice a1 xs[m].a.2.length k1,.string xs[m].f,.int .i64 (xs[m].n - n),.int .i64 xs[m].v.1,.slice a2 xs[m].v.2.length k2] 48))):=Lib.hid (hb.out.trans (box_low.mono hb.out.size))
    have HRW:Hid (OwnL ckSh 48 w.heap.size (restTo m n xs m) u8 (wr.alloc (.cells #[.int .i64 xs[m].a.1,.slice a1 xs[m].a.2.length k1,.string xs[m].f,.int .i64 (xs[m].n - n),.int .i64 xs[m].v.1,.slice a2 xs[m].v.2.length k2] 48))):=Lib.hid (hrow.out.below box_low)
    by_cases hz:xs[m].n - n=0
    ·have hnz:¬(0:Int)<xs[m].n - n:=by omega
     have HNEW:Hid (restTo m n xs (m+1)=restTo m n xs m):=Lib.hid (HST.out.trans ((congrArg (restTo m n xs m ++ ·) (rest1_zero hz)).trans (List.append_nil _)))
     have HF:Hid (OwnL ckSh 48 w.heap.size (restTo m n xs (m+1)) u8 (wr.alloc (.cells #[.int .i64 xs[m].a.1,.slice a1 xs[m].a.2.length k1,.string xs[m].f,.int .i64 (xs[m].n - n),.int .i64 xs[m].v.1,.slice a2 xs[m].v.2.length k2] 48))):=Lib.hid (by rw[HNEW.out];exact HRW.out)
     clear hrow HK HST hb hbx HNEW HRW hz
     go_wp2_with fail
     go_roundw
     case rel=>exact⟨m+1,by go_num,by omega,HF,HBW2⟩
     case measure=>simp[intOf];omega
    ·have hnz:(0:Int)<xs[m].n - n:=by have:=HN1.out;omega
     have HNEW:Hid (restTo m n xs (m+1)=restTo m n xs m ++ [⟨xs[m].a,xs[m].f,xs[m].n - n,xs[m].v⟩]):=Lib.hid (HST.out.trans (congrArg (restTo m n xs m ++ ·) (rest1_pos hz)))
     have HQ:Hid (CkAt wr.heap.size (wr.alloc (.cells #[.int .i64 xs[m].a.1,.slice a1 xs[m].a.2.length k1,.string xs[m].f,.int .i64 (xs[m].n - n),.int .i64 xs[m].v.1,.slice a2 xs[m].v.2.length k2] 48)) wr.heap.size 0 ⟨xs[m].a,xs[m].f,xs[m].n - n,xs[m].v⟩ a1 k1 a2 k2):=Lib.hid (ck_box HK.out hb.out.size HI.out)
     have HGL:Hid (wr.heap.size<(wr.alloc (.cells #[.int .i64 xs[m].a.1,.slice a1 xs[m].a.2.length k1,.string xs[m].f,.int .i64 (xs[m].n - n),.int .i64 xs[m].v.1,.slice a2 xs[m].v.2.length k2] 48)).heap.size):=Lib.hid (by simp)
     have HGN:Hid (u8.ownBlock≠some wr.heap.size):=Lib.hid fun h=>by
      obtain⟨css,_,h2,_⟩:=hrow.out.row
      exact Nat.lt_irrefl _ (World.ownsRow.lt h2 _ h).2
     clear hrow HK HST hb hbx hz
     generalize restTo m n xs m=ys at HNEW HRW HLEN
     generalize xs[m]=x at*
     obtain⟨⟨xa1,xal⟩,xf,xo,⟨xv1,xvl⟩⟩:=x
     dsimp only at*
     go_wp2_with fail
     generalize (wr.alloc (.cells #[.int .i64 xa1,.slice a1 xal.length k1,.string xf,.int .i64 (xo - n),.int .i64 xv1,.slice a2 xvl.length k2] 48))=W at HQ HRW HBW2 HGL
     generalize hgen:wr.heap.size=g at HQ HGL HGN
     clear hgen
     have q0:W.cell? ⟨g,0,none⟩=some (.int .i64 xa1):=HQ.out.c0
     have q1:W.cell? ⟨g,1,none⟩=some (.slice a1 xal.length k1):=HQ.out.c1
     have q2:W.cell? ⟨g,2,none⟩=some (.string xf):=HQ.out.c2
     have q3:W.cell? ⟨g,3,none⟩=some (.int .i64 (xo - n)):=HQ.out.c3
     have q4:W.cell? ⟨g,4,none⟩=some (.int .i64 xv1):=HQ.out.c4
     have q5:W.cell? ⟨g,5,none⟩=some (.slice a2 xvl.length k2):=HQ.out.c5
     have HQD:Hid (∀V,Below W.heap.size W V→V.cell? ⟨g,0,none⟩=some (.int .i64 xa1)∧V.cell? ⟨g,1,none⟩=some (.slice a1 xal.length k1)∧V.cell? ⟨g,2,none⟩=some (.string xf)∧V.cell? ⟨g,3,none⟩=some (.int .i64 (xo - n))∧V.cell? ⟨g,4,none⟩=some (.int .i64 xv1)∧V.cell? ⟨g,5,none⟩=some (.slice a2 xvl.length k2)):=Lib.hid fun V hV=>⟨(hV.cell (p:=⟨g,_,none⟩) HGL.out).trans q0,(hV.cell (p:=⟨g,_,none⟩) HGL.out).trans q1,(hV.cell (p:=⟨g,_,none⟩) HGL.out).trans q2,(hV.cell (p:=⟨g,_,none⟩) HGL.out).trans q3,(hV.cell (p:=⟨g,_,none⟩) HGL.out).trans q4,(hV.cell (p:=⟨g,_,none⟩) HGL.out).trans q5⟩
     have HOL:Hid (∀b,u8.ownBlock=some b→b<W.heap.size):=Lib.hid fun b hb=>by
      obtain⟨css,_,h2,_⟩:=HRW.out.row
      exact(World.ownsRow.lt h2 b hb).2
     have HD:Hid (Below W.heap.size W W.drew):=Lib.hid (Below.refl _ W).drew
     have HO1:Hid (Calls Tryd.prog 11 #[.agg #[.int .i64 xa1,.slice a1 xal.length k1]] W.drew (OwnEnd xa1 xal W.drew)):=Lib.hid (own_any xa1 a1 _ k1 xal W.drew rfl HBM.out.1 ((HQ.out.la.below (HD.out.mono (Nat.le_of_lt HGL.out))).mono (Nat.le_of_lt (Nat.lt_of_lt_of_le HGL.out HD.out.size))) HQ.out.na)
     have HO2:Hid (∀V,Below W.heap.size W V→Calls Tryd.prog 11 #[.agg #[.int .i64 xv1,.slice a2 xvl.length k2]] V (OwnEnd xv1 xvl V)):=Lib.hid fun V hV=>own_any xv1 a2 _ k2 xvl V rfl HBM.out.2 ((HQ.out.lv.below (hV.mono (Nat.le_of_lt HGL.out))).mono (Nat.le_of_lt (Nat.lt_of_lt_of_le HGL.out hV.size))) HQ.out.nv
     have HPU:Hid (∀V,Below W.heap.size W V→∀y1 y2,LinRel (fun b=>b<V.heap.size∧u8.ownBlock≠some b) V (.int .i64 xa1) y1 (xa1,xal)→LinRel (fun b=>b<V.heap.size∧u8.ownBlock≠some b) V (.int .i64 xv1) y2 (xv1,xvl)→∃v' w',(∀ty,(Builtin.append_ #[22,22] ty #[u8,.slice (some ⟨V.heap.size,0,none⟩) 1 1]).run Tryd.prog (V.alloc (.cells #[.int .i64 xa1,y1,.string xf,.int .i64 (xo - n),.int .i64 xv1,y2] 48))= .ok v' w')∧OwnL ckSh 48 w.heap.size (ys ++ [⟨(xa1,xal),xf,xo - n,(xv1,xvl)⟩]) v' w'∧Below w.heap.size V w'∧(∀o,w'.cell? ⟨g,o,none⟩=V.cell? ⟨g,o,none⟩)):=Lib.hid fun V hV y1 y2 l1 l2=>by
      obtain⟨v',w',p1,p2,p3,p4⟩:=run_push_ck (w:=V) w.heap.size ys ⟨(xa1,xal),xf,xo - n,(xv1,xvl)⟩ u8 y1 y2 (HRW.out.below hV) (Nat.le_trans HBW2.out.size hV.size) HQ.out.hf HQ.out.hn l1 l2 HLEN.out
      exact⟨v',w',p1,p2,p3,fun o=>p4 g o (Nat.lt_of_lt_of_le HGL.out hV.size) HGN.out⟩
     have HFIN:Hid (∀V v' w',Below W.heap.size W V→OwnL ckSh 48 w.heap.size (ys ++ [⟨(xa1,xal),xf,xo - n,(xv1,xvl)⟩]) v' w'→Below w.heap.size V w'→OwnL ckSh 48 w.heap.size (restTo m n xs (m+1)) v' w'∧Below w.heap.size w w'):=Lib.hid fun V v' w' hV h1 h2=>⟨by rw[HNEW.out];exact h1,(HBW2.out.trans (hV.mono HBW2.out.size)).trans h2⟩
     have HBM2:=Lib.hid (show xal.length≤9223372036854775807∧xvl.length≤9223372036854775807 from⟨by have:=HBM.out.1;omega,by have:=HBM.out.2;omega⟩)
     have HARM:Hid (∀(w3 w4:World) (a3 a4:Option Addr) (cap3 cap4:Nat),Below W.heap.size W w3→Lf.Row W.heap.size xal (.slice a3 xal.length cap3) w3→Below w3.heap.size w3 w4→Lf.Row w3.heap.size xvl (.slice a4 xvl.length cap4) w4→∃v7 w7,(∀ty,(Builtin.append_ #[22,22] ty #[u8,.slice (some ⟨w4.heap.size,0,none⟩) 1 1]).run Tryd.prog (w4.alloc (.cells #[.int .i64 xa1,.slice a3 xal.length cap3,.string xf,.int .i64 (xo - n),.int .i64 xv1,.slice a4 xvl.length cap4] 48))= .ok v7 w7)∧(OwnL ckSh 48 w.heap.size (restTo m n xs (m+1)) v7 w7∧Below w.heap.size w w7)∧(w7.cell? ⟨g,0,none⟩=some (.int .i64 xa1)∧w7.cell? ⟨g,1,none⟩=some (.slice a1 xal.length k1)∧w7.cell? ⟨g,2,none⟩=some (.string xf)∧w7.cell? ⟨g,3,none⟩=some (.int .i64 (xo - n))∧w7.cell? ⟨g,4,none⟩=some (.int .i64 xv1)∧w7.cell? ⟨g,5,none⟩=some (.slice a2 xvl.length k2))∧((w4.alloc (.cells #[.int .i64 xa1,.slice a3 xal.length cap3,.string xf,.int .i64 (xo - n),.int .i64 xv1,.slice a4 xvl.length cap4] 48)).cell? ⟨g,0,none⟩=some (.int .i64 xa1)∧(w4.alloc (.cells #[.int .i64 xa1,.slice a3 xal.length cap3,.string xf,.int .i64 (xo - n),.int .i64 xv1,.slice a4 xvl.length cap4] 48)).cell? ⟨g,1,none⟩=some (.slice a1 xal.length k1)∧(w4.alloc (.cells #[.int .i64 xa1,.slice a3 xal.length cap3,.string xf,.int .i64 (xo - n),.int .i64 xv1,.slice a4 xvl.length cap4] 48)).cell? ⟨g,2,none⟩=some (.string xf)∧(w4.alloc (.cells #[.int .i64 xa1,.slice a3 xal.length cap3,.string xf,.int .i64 (xo - n),.int .i64 xv1,.slice a4 xvl.length cap4] 48)).cell? ⟨g,3,none⟩=some (.int .i64 (xo - n))∧(w4.alloc (.cells #[.int .i64 xa1,.slice a3 xal.length cap3,.string xf,.int .i64 (xo - n),.int .i64 xv1,.slice a4 xvl.length cap4] 48)).cell? ⟨g,4,none⟩=some (.int .i64 xv1)∧(w4.alloc (.cells #[.int .i64 xa1,.slice a3 xal.length cap3,.string xf,.int .i64 (xo - n),.int .i64 xv1,.slice a4 xvl.length cap4] 48)).cell? ⟨g,5,none⟩=some (.slice a2 xvl.length k2))∧(w4.cell? ⟨g,0,none⟩=some (.int .i64 xa1)∧w4.cell? ⟨g,1,none⟩=some (.slice a1 xal.length k1)∧w4.cell? ⟨g,2,none⟩=some (.string xf)∧w4.cell? ⟨g,3,none⟩=some (.int .i64 (xo - n))∧w4.cell? ⟨g,4,none⟩=some (.int .i64 xv1)∧w4.cell? ⟨g,5,none⟩=some (.slice a2 xvl.length k2))):=Lib.hid fun w3 w4 a3 a4 cap3 cap4 hb3 hrow3 hb4 hrow4=>by
      have hb6:=hb3.trans (hb4.mono hb3.size)
      have hl1:=(linRel_rowS (kv:=u8) (c:=xa1) hrow3 HBM2.out.1 (fun b hb=>HOL.out b hb)).keep (S':=fun b=>b<w4.heap.size∧u8.ownBlock≠some b) (fun b h=>⟨Nat.lt_of_lt_of_le h.1 hb4.size,h.2⟩) (fun b o h=>hb4.cell (p:=⟨b,o,none⟩) h.1)
      have hl2:=linRel_rowS (kv:=u8) (c:=xv1) hrow4 HBM2.out.2 (fun b hb=>Nat.lt_of_lt_of_le (HOL.out b hb) hb3.size)
      obtain⟨v7,w7,hrun,hrow7,hb7,hk7⟩:=HPU.out w4 hb6 _ _ hl1 hl2
      have h4:=HQD.out _ hb6
      refine⟨v7,w7,hrun,HFIN.out _ _ _ hb6 hrow7 hb7, ?_,HQD.out _ (hb6.alloc hb6.size _),h4⟩
      rw[hk7,hk7,hk7,hk7,hk7,hk7]
      exact h4
     clear HQ HRW HBW2 HLEN HGN
     go_region_held3 (fun V=>V.cell? ⟨g,0,none⟩=some (.int .i64 xa1)∧V.cell? ⟨g,1,none⟩=some (.slice a1 xal.length k1)∧V.cell? ⟨g,2,none⟩=some (.string xf)∧V.cell? ⟨g,3,none⟩=some (.int .i64 (xo - n))∧V.cell? ⟨g,4,none⟩=some (.int .i64 xv1)∧V.cell? ⟨g,5,none⟩=some (.slice a2 xvl.length k2))
      (first | exact hq7 | exact hqa | exact hq4 | exact HQD.out _ hb3 | go_keep)
      (first
        | (go_at_call 11;refine HO1.out.mono ?_;rintro e w3 ⟨v3,rfl,hrow3,hb3'⟩;have hb3:=HD.out.trans (hb3'.mono HD.out.size);obtain⟨a3,cap3,rfl,_,_⟩:=hrow3.lies)
        | (go_at_call 11;refine(HO2.out w3 hb3).mono ?_;rintro e w4 ⟨v4,rfl,hrow4,hb4⟩;obtain⟨a4,cap4,rfl,_,_⟩:=hrow4.lies;obtain⟨v7,w7,hrun,hf7,hq7,hqa,hq4⟩:=HARM.out w3 w4 a3 a4 cap3 cap4 hb3 hrow3 hb4 hrow4)
        | (refine step_append_runC (by rfl) _ _ _ (by rfl) _ _ v7 w7 (by rfl) (by rfl) hrun ?_))
     have HF:=Lib.hid hf7
     clear q0 q1 q2 q3 q4 q5 HQD HOL HD HO1 HO2 HPU HFIN HARM hrun hf7 hq7 hqa hq4 hrow3 hrow4 hb3 hb3' hb4
     go_wp2_with fail
     go_roundw
     case rel=>exact⟨m+1,by go_num,by omega,HF.out.1,HF.out.2⟩
     case measure=>simp[intOf];omega
   ·have e1:((m:Int) == (j:Int))=false:=by simp;omega
    have e2:(m == j)=false:=by simp;omega
    have e3:¬(m:Int)=(j:Int):=by omega
    clear HNJ HN1
    have HNEW:Hid (restTo j n xs (m+1)=restTo j n xs m ++ [xs[m]]):=Lib.hid (by rw[HST.out];unfold rest1;rw[if_neg e3])
    have HRW:Hid (OwnL ckSh 48 w.heap.size (restTo j n xs m) u8 (wr.alloc (.cells #[.int .i64 xs[m].a.1,.slice a1 xs[m].a.2.length k1,.string xs[m].f,.int .i64 xs[m].n,.int .i64 xs[m].v.1,.slice a2 xs[m].v.2.length k2] 48))):=Lib.hid (hrow.out.below hbx)
    have HBW2:Hid (Below w.heap.size w (wr.alloc (.cells #[.int .i64 xs[m].a.1,.slice a1 xs[m].a.2.length k1,.string xs[m].f,.int .i64 xs[m].n,.int .i64 xs[m].v.1,.slice a2 xs[m].v.2.length k2] 48))):=Lib.hid (hb.out.trans (hbx.mono hb.out.size))
    have HQ:Hid (CkAt wr.heap.size (wr.alloc (.cells #[.int .i64 xs[m].a.1,.slice a1 xs[m].a.2.length k1,.string xs[m].f,.int .i64 xs[m].n,.int .i64 xs[m].v.1,.slice a2 xs[m].v.2.length k2] 48)) wr.heap.size 0 xs[m] a1 k1 a2 k2):=Lib.hid (ck_box HK.out hb.out.size HK.out.hn)
    have HGL:Hid (wr.heap.size<(wr.alloc (.cells #[.int .i64 xs[m].a.1,.slice a1 xs[m].a.2.length k1,.string xs[m].f,.int .i64 xs[m].n,.int .i64 xs[m].v.1,.slice a2 xs[m].v.2.length k2] 48)).heap.size):=Lib.hid (by simp)
    have HGN:Hid (u8.ownBlock≠some wr.heap.size):=Lib.hid fun h=>by
     obtain⟨css,_,h2,_⟩:=hrow.out.row
     exact Nat.lt_irrefl _ (World.ownsRow.lt h2 _ h).2
    clear hrow HK HST hb hbx
    generalize restTo j n xs m=ys at HNEW HRW HLEN
    generalize xs[m]=x at*
    obtain⟨⟨xa1,xal⟩,xf,xn,⟨xv1,xvl⟩⟩:=x
    dsimp only at*
    go_wp2_with fail
    generalize (wr.alloc (.cells #[.int .i64 xa1,.slice a1 xal.length k1,.string xf,.int .i64 xn,.int .i64 xv1,.slice a2 xvl.length k2] 48))=W at HQ HRW HBW2 HGL
    generalize hgen:wr.heap.size=g at HQ HGL HGN
    clear hgen
    have q0:W.cell? ⟨g,0,none⟩=some (.int .i64 xa1):=HQ.out.c0
    have q1:W.cell? ⟨g,1,none⟩=some (.slice a1 xal.length k1):=HQ.out.c1
    have q2:W.cell? ⟨g,2,none⟩=some (.string xf):=HQ.out.c2
    have q3:W.cell? ⟨g,3,none⟩=some (.int .i64 xn):=HQ.out.c3
    have q4:W.cell? ⟨g,4,none⟩=some (.int .i64 xv1):=HQ.out.c4
    have q5:W.cell? ⟨g,5,none⟩=some (.slice a2 xvl.length k2):=HQ.out.c5
    have HQD:Hid (∀V,Below W.heap.size W V→V.cell? ⟨g,0,none⟩=some (.int .i64 xa1)∧V.cell? ⟨g,1,none⟩=some (.slice a1 xal.length k1)∧V.cell? ⟨g,2,none⟩=some (.string xf)∧V.cell? ⟨g,3,none⟩=some (.int .i64 xn)∧V.cell? ⟨g,4,none⟩=some (.int .i64 xv1)∧V.cell? ⟨g,5,none⟩=some (.slice a2 xvl.length k2)):=Lib.hid fun V hV=>⟨(hV.cell (p:=⟨g,_,none⟩) HGL.out).trans q0,(hV.cell (p:=⟨g,_,none⟩) HGL.out).trans q1,(hV.cell (p:=⟨g,_,none⟩) HGL.out).trans q2,(hV.cell (p:=⟨g,_,none⟩) HGL.out).trans q3,(hV.cell (p:=⟨g,_,none⟩) HGL.out).trans q4,(hV.cell (p:=⟨g,_,none⟩) HGL.out).trans q5⟩
    have HOL:Hid (∀b,u8.ownBlock=some b→b<W.heap.size):=Lib.hid fun b hb=>by
     obtain⟨css,_,h2,_⟩:=HRW.out.row
     exact(World.ownsRow.lt h2 b hb).2
    have HD:Hid (Below W.heap.size W W.drew):=Lib.hid (Below.refl _ W).drew
    have HO1:Hid (Calls Tryd.prog 11 #[.agg #[.int .i64 xa1,.slice a1 xal.length k1]] W.drew (OwnEnd xa1 xal W.drew)):=Lib.hid (own_any xa1 a1 _ k1 xal W.drew rfl HBM.out.1 ((HQ.out.la.below (HD.out.mono (Nat.le_of_lt HGL.out))).mono (Nat.le_of_lt (Nat.lt_of_lt_of_le HGL.out HD.out.size))) HQ.out.na)
    have HO2:Hid (∀V,Below W.heap.size W V→Calls Tryd.prog 11 #[.agg #[.int .i64 xv1,.slice a2 xvl.length k2]] V (OwnEnd xv1 xvl V)):=Lib.hid fun V hV=>own_any xv1 a2 _ k2 xvl V rfl HBM.out.2 ((HQ.out.lv.below (hV.mono (Nat.le_of_lt HGL.out))).mono (Nat.le_of_lt (Nat.lt_of_lt_of_le HGL.out hV.size))) HQ.out.nv
    have HPU:Hid (∀V,Below W.heap.size W V→∀y1 y2,LinRel (fun b=>b<V.heap.size∧u8.ownBlock≠some b) V (.int .i64 xa1) y1 (xa1,xal)→LinRel (fun b=>b<V.heap.size∧u8.ownBlock≠some b) V (.int .i64 xv1) y2 (xv1,xvl)→∃v' w',(∀ty,(Builtin.append_ #[22,22] ty #[u8,.slice (some ⟨V.heap.size,0,none⟩) 1 1]).run Tryd.prog (V.alloc (.cells #[.int .i64 xa1,y1,.string xf,.int .i64 xn,.int .i64 xv1,y2] 48))= .ok v' w')∧OwnL ckSh 48 w.heap.size (ys ++ [⟨(xa1,xal),xf,xn,(xv1,xvl)⟩]) v' w'∧Below w.heap.size V w'∧(∀o,w'.cell? ⟨g,o,none⟩=V.cell? ⟨g,o,none⟩)):=Lib.hid fun V hV y1 y2 l1 l2=>by
     obtain⟨v',w',p1,p2,p3,p4⟩:=run_push_ck (w:=V) w.heap.size ys ⟨(xa1,xal),xf,xn,(xv1,xvl)⟩ u8 y1 y2 (HRW.out.below hV) (Nat.le_trans HBW2.out.size hV.size) HQ.out.hf HQ.out.hn l1 l2 HLEN.out
     exact⟨v',w',p1,p2,p3,fun o=>p4 g o (Nat.lt_of_lt_of_le HGL.out hV.size) HGN.out⟩
    have HFIN:Hid (∀V v' w',Below W.heap.size W V→OwnL ckSh 48 w.heap.size (ys ++ [⟨(xa1,xal),xf,xn,(xv1,xvl)⟩]) v' w'→Below w.heap.size V w'→OwnL ckSh 48 w.heap.size (restTo j n xs (m+1)) v' w'∧Below w.heap.size w w'):=Lib.hid fun V v' w' hV h1 h2=>⟨by rw[HNEW.out];exact h1,(HBW2.out.trans (hV.mono HBW2.out.size)).trans h2⟩
    have HBM2:=Lib.hid (show xal.length≤9223372036854775807∧xvl.length≤9223372036854775807 from⟨by have:=HBM.out.1;omega,by have:=HBM.out.2;omega⟩)
    have HARM:Hid (∀(w3 w4:World) (a3 a4:Option Addr) (cap3 cap4:Nat),Below W.heap.size W w3→Lf.Row W.heap.size xal (.slice a3 xal.length cap3) w3→Below w3.heap.size w3 w4→Lf.Row w3.heap.size xvl (.slice a4 xvl.length cap4) w4→∃v7 w7,(∀ty,(Builtin.append_ #[22,22] ty #[u8,.slice (some ⟨w4.heap.size,0,none⟩) 1 1]).run Tryd.prog (w4.alloc (.cells #[.int .i64 xa1,.slice a3 xal.length cap3,.string xf,.int .i64 xn,.int .i64 xv1,.slice a4 xvl.length cap4] 48))= .ok v7 w7)∧(OwnL ckSh 48 w.heap.size (restTo j n xs (m+1)) v7 w7∧Below w.heap.size w w7)∧(w7.cell? ⟨g,0,none⟩=some (.int .i64 xa1)∧w7.cell? ⟨g,1,none⟩=some (.slice a1 xal.length k1)∧w7.cell? ⟨g,2,none⟩=some (.string xf)∧w7.cell? ⟨g,3,none⟩=some (.int .i64 xn)∧w7.cell? ⟨g,4,none⟩=some (.int .i64 xv1)∧w7.cell? ⟨g,5,none⟩=some (.slice a2 xvl.length k2))∧((w4.alloc (.cells #[.int .i64 xa1,.slice a3 xal.length cap3,.string xf,.int .i64 xn,.int .i64 xv1,.slice a4 xvl.length cap4] 48)).cell? ⟨g,0,none⟩=some (.int .i64 xa1)∧(w4.alloc (.cells #[.int .i64 xa1,.slice a3 xal.length cap3,.string xf,.int .i64 xn,.int .i64 xv1,.slice a4 xvl.length cap4] 48)).cell? ⟨g,1,none⟩=some (.slice a1 xal.length k1)∧(w4.alloc (.cells #[.int .i64 xa1,.slice a3 xal.length cap3,.string xf,.int .i64 xn,.int .i64 xv1,.slice a4 xvl.length cap4] 48)).cell? ⟨g,2,none⟩=some (.string xf)∧(w4.alloc (.cells #[.int .i64 xa1,.slice a3 xal.length cap3,.string xf,.int .i64 xn,.int .i64 xv1,.slice a4 xvl.length cap4] 48)).cell? ⟨g,3,none⟩=some (.int .i64 xn)∧(w4.alloc (.cells #[.int .i64 xa1,.slice a3 xal.length cap3,.string xf,.int .i64 xn,.int .i64 xv1,.slice a4 xvl.length cap4] 48)).cell? ⟨g,4,none⟩=some (.int .i64 xv1)∧(w4.alloc (.cells #[.int .i64 xa1,.slice a3 xal.length cap3,.string xf,.int .i64 xn,.int .i64 xv1,.slice a4 xvl.length cap4] 48)).cell? ⟨g,5,none⟩=some (.slice a2 xvl.length k2))∧(w4.cell? ⟨g,0,none⟩=some (.int .i64 xa1)∧w4.cell? ⟨g,1,none⟩=some (.slice a1 xal.length k1)∧w4.cell? ⟨g,2,none⟩=some (.string xf)∧w4.cell? ⟨g,3,none⟩=some (.int .i64 xn)∧w4.cell? ⟨g,4,none⟩=some (.int .i64 xv1)∧w4.cell? ⟨g,5,none⟩=some (.slice a2 xvl.length k2))):=Lib.hid fun w3 w4 a3 a4 cap3 cap4 hb3 hrow3 hb4 hrow4=>by
     have hb6:=hb3.trans (hb4.mono hb3.size)
     have hl1:=(linRel_rowS (kv:=u8) (c:=xa1) hrow3 HBM2.out.1 (fun b hb=>HOL.out b hb)).keep (S':=fun b=>b<w4.heap.size∧u8.ownBlock≠some b) (fun b h=>⟨Nat.lt_of_lt_of_le h.1 hb4.size,h.2⟩) (fun b o h=>hb4.cell (p:=⟨b,o,none⟩) h.1)
     have hl2:=linRel_rowS (kv:=u8) (c:=xv1) hrow4 HBM2.out.2 (fun b hb=>Nat.lt_of_lt_of_le (HOL.out b hb) hb3.size)
     obtain⟨v7,w7,hrun,hrow7,hb7,hk7⟩:=HPU.out w4 hb6 _ _ hl1 hl2
     have h4:=HQD.out _ hb6
     refine⟨v7,w7,hrun,HFIN.out _ _ _ hb6 hrow7 hb7, ?_,HQD.out _ (hb6.alloc hb6.size _),h4⟩
     rw[hk7,hk7,hk7,hk7,hk7,hk7]
     exact h4
    clear HQ HRW HBW2 HLEN HGN
    go_region_held3 (fun V=>V.cell? ⟨g,0,none⟩=some (.int .i64 xa1)∧V.cell? ⟨g,1,none⟩=some (.slice a1 xal.length k1)∧V.cell? ⟨g,2,none⟩=some (.string xf)∧V.cell? ⟨g,3,none⟩=some (.int .i64 xn)∧V.cell? ⟨g,4,none⟩=some (.int .i64 xv1)∧V.cell? ⟨g,5,none⟩=some (.slice a2 xvl.length k2))
     (first | exact hq7 | exact hqa | exact hq4 | exact HQD.out _ hb3 | go_keep)
     (first
       | (go_at_call 11;refine HO1.out.mono ?_;rintro e w3 ⟨v3,rfl,hrow3,hb3'⟩;have hb3:=HD.out.trans (hb3'.mono HD.out.size);obtain⟨a3,cap3,rfl,_,_⟩:=hrow3.lies)
       | (go_at_call 11;refine(HO2.out w3 hb3).mono ?_;rintro e w4 ⟨v4,rfl,hrow4,hb4⟩;obtain⟨a4,cap4,rfl,_,_⟩:=hrow4.lies;obtain⟨v7,w7,hrun,hf7,hq7,hqa,hq4⟩:=HARM.out w3 w4 a3 a4 cap3 cap4 hb3 hrow3 hb4 hrow4)
       | (refine step_append_runC (by rfl) _ _ _ (by rfl) _ _ v7 w7 (by rfl) (by rfl) hrun ?_))
    have HF:=Lib.hid hf7
    clear q0 q1 q2 q3 q4 q5 HQD HOL HD HO1 HO2 HPU HFIN HARM hrun hf7 hq7 hqa hq4 hrow3 hrow4 hb3 hb3' hb4
    go_wp2_with fail
    go_roundw
    case rel=>exact⟨m+1,by go_num,by omega,HF.out.1,HF.out.2⟩
    case measure=>simp[intOf];omega
  ·obtain rfl:m=ln:=by omega
   have hlti:¬(m:Int)<(m:Int):=by omega
   go_wp2_with fail
   go_ret2
   exact⟨_,by rw[HR.out];rfl,by rw[HR.out];exact hrow.out,hb.out⟩
end
section
open Go.RowKit
def NB (x:CK):Prop:= -1099511627776≤x.n∧x.n≤1099511627776
def LightEnd (ln:Nat)(xs:List CK)(w:World)(e:Ending)(w':World):Prop:=∃b,e= .returned (.bool b)∧(b=true→ln≤60∧∀x∈xs,NB x)∧w'=w
theorem light_any (la:Option Addr)(ln lcap:Nat)(xs:List CK)(w:World)(hs:Pak.Sits ckSh (Pak.Lo w.heap.size) w la xs)(hm:xs.length=ln):
 Calls Tryd.prog 5 #[.slice la ln lcap] w (LightEnd ln xs w):=by
 have HS:=Lib.hid hs
 have HM:=Lib.hid hm
 clear hs hm
 by_cases h60:(60:Int)<(ln:Int)
 ·go_enter Tryd.func5,Tryd.ntmps5
  go_wp2_with fail
  go_ret
  exact⟨false,rfl,fun h=>(by cases h),rfl⟩
 have h60n:ln≤60:=by omega
 go_enter Tryd.func5,Tryd.ntmps5
 go_wp2_with fail
 go_loopw [3] (fun i wr=>∃m:Nat,i= .int .i64 m∧m≤ln∧Hid (∀q (hq:q<xs.length),q<m→NB xs[q])∧wr=w) (fun i _=>ln - (intOf i).toNat)
 case atStart=>exact⟨0,rfl,Nat.zero_le _,fun q _ h=>absurd h (Nat.not_lt_zero _),rfl⟩
 case round=>
  obtain⟨m,rfl,hm,hno,rfl⟩:=hrel
  by_cases hlt:m<ln
  ·have hmi:(m:Int)<(ln:Int):=by omega
   have hmx:m<xs.length:=by rw[HM.out];exact hlt
   obtain⟨b,off,rfl,_,HC⟩:=ck_cells HS.out (by omega)
   obtain⟨a1,k1,a2,k2,hc⟩:=HC m hmx
   have c3:=hc.c3
   have HNX:Hid (NB xs[m]→∀q (hq:q<xs.length),q<m+1→NB xs[q]):=fun h q hq hlq=>by
    by_cases e:q=m
    ·subst e;exact h
    ·exact hno.out q hq (by omega)
   clear hc HC
   by_cases e1:1099511627776<xs[m].n
   ·go_wp2_with fail
    go_ret
    exact⟨false,rfl,fun h=>(by cases h),rfl⟩
   ·by_cases e2:xs[m].n< -1099511627776
    ·go_wp2_with fail
     go_ret
     exact⟨false,rfl,fun h=>(by cases h),rfl⟩
    ·have HN2:=Lib.hid (HNX.out (by unfold NB;omega))
     go_wp2_with fail
     go_roundw
     case rel=>exact⟨m+1,by go_num,by omega,HN2,trivial⟩
     case measure=>simp[intOf];omega
  ·obtain rfl:m=ln:=by omega
   have hlti:¬(m:Int)<(m:Int):=by omega
   go_wp2_with fail
   go_ret
   exact⟨true,rfl,fun _=>⟨h60n,fun x hx=>by
    obtain⟨q,hq,rfl⟩:=List.getElem_of_mem hx
    exact hno.out q hq (by rw[←HM.out];exact hq)⟩,rfl⟩
def RChksEnd (r:List CK×Int)(w:World)(e:Ending)(w':World):Prop:=∃v,e= .returned (.tuple #[v,.int .i64 r.2])∧OwnL ckSh 48 w.heap.size r.1 v w'∧Below w.heap.size w w'
end
section
open Go.RowKit
theorem same_self (c:Int)(l:List (Int×Int)):Lf.same c c l l=true:=by unfold Lf.same;simp
theorem same_all {w:World}(c:Int)(a b:Option Addr)(ka kb:Nat)(l:List (Int×Int))(ha:Lf.Lies w.heap.size w a l)(hb:Lf.Lies w.heap.size w b l)(hl:l.length≤9223372036854775807):
 ValAll 12 #[.agg #[.int .i64 c,.slice a l.length ka],.agg #[.int .i64 c,.slice b l.length kb]] (.bool true) w:=fun W hW=>by
 have h:=Lf.same_any c c a b l.length l.length ka kb l l W rfl rfl hl hl ((ha.below hW).mono hW.size) ((hb.below hW).mono hW.size)
 rw[same_self]at h
 exact h
theorem sameChks_any (la lb:Option Addr)(ln ca cb:Nat)(xs:List CK)(w:World)(ha:Pak.Sits ckSh (Pak.Lo w.heap.size) w la xs)(hb:Pak.Sits ckSh (Pak.Lo w.heap.size) w lb xs)(hm:xs.length=ln)(hl:∀x∈xs,x.a.2.length≤9223372036854775807∧x.v.2.length≤9223372036854775807):
 Calls Tryd.prog 8 #[.slice la ln ca,.slice lb ln cb] w fun e w'=>e= .returned (.bool true)∧Below w.heap.size w w':=by
 have hmm:ln≤9223372036854775807:=by rw[←hm];exact ha.1
 have HA:=Lib.hid ha
 have HB:=Lib.hid hb
 have HM:=Lib.hid hm
 have HL:=Lib.hid hl
 clear ha hb hm hl
 have hnn:((ln:Int) != (ln:Int))=false:=by simp
 go_enter Tryd.func8,Tryd.ntmps8
 go_wp2_with fail
 go_loopw [5] (fun i wr=>∃m:Nat,i= .int .i64 m∧m≤ln∧Hid (Below w.heap.size w wr)) (fun i _=>ln - (intOf i).toNat)
 case atStart=>exact⟨0,rfl,Nat.zero_le _,Below.refl _ _⟩
 case round=>
  obtain⟨m,rfl,hm,hb⟩:=hrel
  by_cases hlt:m<ln
  ·have hmi:(m:Int)<(ln:Int):=by omega
   have hmx:m<xs.length:=by rw[HM.out];exact hlt
   obtain⟨b,off,rfl,hbb,HC⟩:=ck_cells HA.out (by omega)
   obtain⟨b',off',rfl,hbb',HC'⟩:=ck_cells HB.out (by omega)
   obtain⟨a1,k1,a2,k2,hk⟩:=HC m hmx
   obtain⟨a3,k3,a4,k4,hk'⟩:=HC' m hmx
   have hc:=hk.below hb.out hbb hb.out.size
   have hc':=hk'.below hb.out hbb' hb.out.size
   have hlm:=HL.out _ (List.getElem_mem hmx)
   have X1:=Lib.hid (same_all xs[m].a.1 a1 a3 k1 k3 xs[m].a.2 hc.la hc'.la hlm.1)
   have X2:=Lib.hid (same_all xs[m].v.1 a2 a4 k2 k4 xs[m].v.2 hc.lv hc'.lv hlm.2)
   have c0:=cell_regrown hc.c0
   have c1:=cell_regrown hc.c1
   have c2:=cell_regrown hc.c2
   have c3:=cell_regrown hc.c3
   have c4:=cell_regrown hc.c4
   have c5:=cell_regrown hc.c5
   have d0:=cell_regrown hc'.c0
   have d1:=cell_regrown hc'.c1
   have d2:=cell_regrown hc'.c2
   have d3:=cell_regrown hc'.c3
   have d4:=cell_regrown hc'.c4
   have d5:=cell_regrown hc'.c5
   clear hk hk' hc hc' HC HC' hlm
   generalize xs[m]=x at*
   obtain⟨⟨xa1,xal⟩,xf,xn,⟨xv1,xvl⟩⟩:=x
   dsimp only at*
   have r1:=X1.out.reg
   have r2:=X2.out.reg
   have e1:(xf.toList != xf.toList)=false:=by simp
   have e2:(xn != xn)=false:=by simp
   have HBB:=Lib.hid hb.out
   have hlt2:m+1≤ln:=hlt
   clear X1 X2 hb
   go_wp2_with fail
   refine wp_region_quiet_below (by kernel_rfl) (by kernel_rfl) ?_
   repeat (first | (go_big_quiet_step (with_reducible exact r1 _ _)) | (go_big_quiet_step (with_reducible exact r2 _ _)))
   refine wpQuiet_nil ?_
   intro w9 hw'
   obtain⟨⟨dq,osq⟩,hw''⟩:=hw'
   have H9:Hid (Below w.heap.size w w9):=Lib.hid (by rw[hw''];exact HBB.out.trans ((below_regrown _ dq osq).mono HBB.out.size))
   clear hw'' r1 r2 c0 c1 c2 c3 c4 c5 d0 d1 d2 d3 d4 d5 HBB
   go_wp2_with fail
   go_roundw
   case rel=>exact⟨m+1,by go_num,hlt2,H9⟩
   case measure=>simp[intOf];omega
  ·obtain rfl:m=ln:=by omega
   have hlti:¬(m:Int)<(m:Int):=by omega
   go_wp2_with fail
   go_ret
   exact⟨rfl,hb.out⟩
end
section
open Go.RowKit
theorem cexpr_0 (n:Nat)(σ:ByteArray→Option LT)(en:Int)(nm:ByteArray)(a:Option Addr)(cap:Nat)(lv:Value)(w:World):
 Calls Tryd.prog 15 #[.agg #[.int .i64 0,.int .i64 en,.string nm,.slice a 0 cap],lv] w (LnEnd (some (en,[])) w):=by
 have HW:Hid (Below w.heap.size w ((w.alloc (.cells #[.int .i64 0,.int .i64 en,.string nm,.slice a 0 cap] 46)).alloc (.cells #[.int .i64 0,.slice none 0 0] 38))):=below_two
 have HQ:=Lib.hid (fun W (hb:Below ((w.alloc (.cells #[.int .i64 0,.int .i64 en,.string nm,.slice a 0 cap] 46)).alloc (.cells #[.int .i64 0,.slice none 0 0] 38)).heap.size ((w.alloc (.cells #[.int .i64 0,.int .i64 en,.string nm,.slice a 0 cap] 46)).alloc (.cells #[.int .i64 0,.slice none 0 0] 38)) W)=>kind_at hb)
 go_enter Tryd.func15,Tryd.ntmps15
 go_wp2_with fail
 go_loopw [6,18] (fun t i wr=>t= .slice none 0 0∧i= .int .i64 0∧Hid (Below ((w.alloc (.cells #[.int .i64 0,.int .i64 en,.string nm,.slice a 0 cap] 46)).alloc (.cells #[.int .i64 0,.slice none 0 0] 38)).heap.size ((w.alloc (.cells #[.int .i64 0,.int .i64 en,.string nm,.slice a 0 cap] 46)).alloc (.cells #[.int .i64 0,.slice none 0 0] 38)) wr)) (fun _ _ _=>0)
 case atStart=>exact⟨rfl,rfl,Below.refl _ _⟩
 case round=>
  obtain⟨rfl,rfl,hb⟩:=hrel
  obtain⟨wo,rfl⟩:∃wo:World,wo=wr:=⟨_,rfl⟩
  obtain⟨q0,q1⟩:=HQ.out _ hb.out
  obtain⟨r0,r1,rf0,rf1,rlt⟩:=box22_at hb.out
  have HB:=Lib.hid (HW.out.trans (hb.out.mono HW.out.size))
  obtain⟨e0,e1,HBF⟩:=store2 (x:= .int .i64 en) (y:= .slice none 0 0) HB.out (show w.heap.size≤w.heap.size+1 by omega) r0 r1
  have E01:=Lib.hid (And.intro e0 e1)
  have HBG:=Lib.hid HBF
  clear e0 e1 HBF hb HB
  go_wp2_with fail
  obtain⟨e0,e1⟩:=E01.out
  refine bodyPost_ret (v:= .tuple #[.agg #[.int .i64 en,.slice none 0 0],.bool true]) ?_ rfl (.inl ⟨(en,[]),_,rfl,rfl,World.ownsRow_nil _ _ _ _,HBG.out⟩)
  simp[results,Tryd.results15,go_sem,e0,e1]
theorem name_at {w W:World}{x y z u:Value}{b:Array Value}{t s:TypeId}(hb:Below ((w.alloc (.cells #[x,y,z,u] t)).alloc (.cells b s)).heap.size ((w.alloc (.cells #[x,y,z,u] t)).alloc (.cells b s)) W):W.cell? ⟨w.heap.size,2,none⟩=some z:=by
 have h1:Below (w.alloc (.cells #[x,y,z,u] t)).heap.size (w.alloc (.cells #[x,y,z,u] t)) ((w.alloc (.cells #[x,y,z,u] t)).alloc (.cells b s)):=box_low
 exact box_at (cs:=[x,y,z,u]) (o:=2) rfl (h1.trans (hb.mono h1.size))
theorem cexpr_1 (n:Nat)(en:Int)(nm:ByteArray)(a:Option Addr)(cap:Nat)(la:Option Addr)(ln lcap:Nat)(xs:List (ByteArray×LT))(w:World)(hm:xs.length=ln)(hs:Pak.Sits symSh (Pak.Lo w.heap.size) w la xs)(hsd:∀x∈xs,Sd x.2):
 Calls Tryd.prog 15 #[.agg #[.int .i64 1,.int .i64 en,.string nm,.slice a 0 cap],.slice la ln lcap] w (LnEnd (some ((symOf nm xs).getD (en,[]))) w):=by
 have HW:Hid (Below w.heap.size w ((w.alloc (.cells #[.int .i64 1,.int .i64 en,.string nm,.slice a 0 cap] 46)).alloc (.cells #[.int .i64 0,.slice none 0 0] 38))):=below_two
 have HQ:=Lib.hid (fun W (hb:Below ((w.alloc (.cells #[.int .i64 1,.int .i64 en,.string nm,.slice a 0 cap] 46)).alloc (.cells #[.int .i64 0,.slice none 0 0] 38)).heap.size ((w.alloc (.cells #[.int .i64 1,.int .i64 en,.string nm,.slice a 0 cap] 46)).alloc (.cells #[.int .i64 0,.slice none 0 0] 38)) W)=>And.intro (kind_at hb) (name_at hb))
 have HS:=Lib.hid hs
 have HM:=Lib.hid hm
 have hmm:ln≤9223372036854775807:=by rw[←hm];exact hs.1
 have HSD:=Lib.hid hsd
 clear hs hm hsd
 go_enter Tryd.func15,Tryd.ntmps15
 go_wp2_with fail
 go_loopw [6,18] (fun t i wr=>t= .slice none 0 0∧i= .int .i64 0∧Hid (Below ((w.alloc (.cells #[.int .i64 1,.int .i64 en,.string nm,.slice a 0 cap] 46)).alloc (.cells #[.int .i64 0,.slice none 0 0] 38)).heap.size ((w.alloc (.cells #[.int .i64 1,.int .i64 en,.string nm,.slice a 0 cap] 46)).alloc (.cells #[.int .i64 0,.slice none 0 0] 38)) wr)) (fun _ _ _=>0)
 case atStart=>exact⟨rfl,rfl,Below.refl _ _⟩
 case round=>
  obtain⟨rfl,rfl,hb⟩:=hrel
  obtain⟨w0,rfl⟩:∃w0:World,w0=wr:=⟨_,rfl⟩
  have HB0:=Lib.hid hb.out
  obtain⟨⟨q0,q1⟩,q2⟩:=HQ.out _ hb.out
  clear hb
  go_wp2_with fail
  go_loopw [42] (fun i wr=>∃j:Nat,i= .int .i64 j∧j≤ln∧Hid (∀q,(hq:q<xs.length)→q<j→xs[q].1≠nm)∧Hid (Below ((w.alloc (.cells #[.int .i64 1,.int .i64 en,.string nm,.slice a 0 cap] 46)).alloc (.cells #[.int .i64 0,.slice none 0 0] 38)).heap.size ((w.alloc (.cells #[.int .i64 1,.int .i64 en,.string nm,.slice a 0 cap] 46)).alloc (.cells #[.int .i64 0,.slice none 0 0] 38)) wr)) (fun i _=>ln - (intOf i).toNat)
  case atStart=>exact⟨0,rfl,Nat.zero_le _,fun q _ h=>absurd h (Nat.not_lt_zero _),HB0.out⟩
  case round=>
   obtain⟨j,rfl,hj,hno,hb⟩:=hrel
   obtain⟨wo,rfl⟩:∃wo:World,wo=wr:=⟨_,rfl⟩
   have HB:=Lib.hid (HW.out.trans (hb.out.mono HW.out.size))
   obtain⟨⟨t0,t1⟩,t2⟩:=HQ.out _ hb.out
   obtain⟨r0,r1,rf0,rf1,rlt⟩:=box22_at hb.out
   by_cases hlt:j<ln
   ·have hji:(j:Int)<(ln:Int):=by omega
    have hjx:j<xs.length:=by rw[HM.out];exact hlt
    obtain⟨b,off,cs,rfl,hbl,hc,c,v,rfl,hnl,hr⟩:=(HS.out.below HB.out HB.out.size).2 j hjx
    have HSJ:=Lib.hid (HSD.out _ (List.getElem_mem hjx))
    have HHIT:=Lib.hid (fun e=>symOf_hit (s:=nm) hjx hno.out e)
    have HNX:Hid (xs[j].1≠nm→∀q,(hq:q<xs.length)→q<j+1→xs[q].1≠nm):=fun h q hq hlq=>by
     by_cases e:q=j
     ·subst e;exact h
     ·exact hno.out q hq (by omega)
    obtain⟨ta,tcap,rfl,rfl,hlen,hla,hnil⟩:=hr.form
    have c0:wo.cell? ⟨b,off+j*3,none⟩=some (.string xs[j].1):=hc 0 _ rfl
    have c1:wo.cell? ⟨b,off+j*3+1,none⟩=some (.int .i64 xs[j].2.1):=hc 1 _ rfl
    have c2:wo.cell? ⟨b,off+j*3+2,none⟩=some (.slice ta xs[j].2.2.length tcap):=hc 2 _ rfl
    have hbx:Below wo.heap.size wo (wo.alloc (.cells #[.string xs[j].1,.int .i64 xs[j].2.1,.slice ta xs[j].2.2.length tcap] 40)):=box_low
    have HOWN:=Lib.hid (own_any xs[j].2.1 ta _ tcap xs[j].2.2 (wo.alloc (.cells #[.string xs[j].1,.int .i64 xs[j].2.1,.slice ta xs[j].2.2.length tcap] 40)) rfl (by have:=HSJ.out.len;omega) ((hla.below hbx).mono hbx.size) hnil)
    have HBX:=Lib.hid (hb.out.trans (hbx.mono hb.out.size))
    have HLT:=Lib.hid (show w.heap.size≤wo.heap.size from HB.out.size)
    have hblw:b<wo.heap.size:=hbl
    have htl:w.heap.size<wo.heap.size:=by omega
    clear hc hr hla hnil hno hb hbx hlen HSJ
    generalize xs[j]=y at*
    obtain⟨yn,yc,yl⟩:=y
    dsimp only at c0 c1 c2 HOWN HHIT HNX HBX
    by_cases e:yn=nm
    ·subst e
     have HR:=Lib.hid (HHIT.out rfl)
     clear HHIT HNX
     go_wp2_with fail
     refine HOWN.out.mono ?_
     rintro e w4 ⟨v4,rfl,hrow4,hb4⟩
     have H4:=Lib.hid (HBX.out.trans (hb4.mono HBX.out.size))
     obtain⟨s0,s1,sf0,sf1,slt⟩:=box22_at H4.out
     have HB4:=Lib.hid (HW.out.trans (H4.out.mono HW.out.size))
     obtain⟨a3,cap3,rfl,_,_⟩:=hrow4.lies
     obtain⟨e0,e1,HBF⟩:=store2 (x:= .int .i64 yc) (y:= .slice a3 yl.length cap3) HB4.out (show w.heap.size≤w.heap.size+1 by omega) s0 s1
     have HRF:=Lib.hid (row_store2 (x:= .int .i64 yc) (y:= .slice a3 yl.length cap3) hrow4 (show w.heap.size+1<(wo.alloc _).heap.size by simp;omega))
     have E01:=Lib.hid (And.intro e0 e1)
     have HBG:=Lib.hid HBF
     clear e0 e1 HBF hrow4 hb4 HOWN HBX H4 c0 c1 c2 t0 t1 t2 r0 r1 rf0 rf1
     go_wp2_with fail
     obtain⟨e0,e1⟩:=E01.out
     refine bodyPost_ret (v:= .tuple #[.agg #[.int .i64 yc,.slice a3 yl.length cap3],.bool true]) ?_ rfl (.inl ⟨(yc,yl),_,by rw[HR.out];rfl,rfl,HRF.out.mono (by simp;omega),HBG.out⟩)
     simp[results,Tryd.results15,go_sem,e0,e1]
    ·have HN2:=Lib.hid (HNX.out e)
     have e5:(yn.toList == nm.toList)=false:=bs_ne e
     clear HHIT HNX HOWN e r0 r1 rf0 rf1
     go_wp2_with fail
     go_roundw
     case rel=>exact⟨j+1,by go_num,by omega,HN2,HBX⟩
     case measure=>simp[intOf];omega
   ·obtain rfl:j=ln:=by omega
    have hlti:¬(j:Int)<(j:Int):=by omega
    have HR:Hid (symOf nm xs=none):=Lib.hid (symOf_none fun q hq=>hno.out q hq (by rw[←HM.out];exact hq))
    obtain⟨e0,e1,HBF⟩:=store2 (x:= .int .i64 en) (y:= .slice none 0 0) HB.out (show w.heap.size≤w.heap.size+1 by omega) r0 r1
    have E01:=Lib.hid (And.intro e0 e1)
    have HBG:=Lib.hid HBF
    clear e0 e1 HBF hb HB hno
    go_wp2_with fail
    obtain⟨e0,e1⟩:=E01.out
    refine bodyPost_ret (v:= .tuple #[.agg #[.int .i64 en,.slice none 0 0],.bool true]) ?_ rfl (.inl ⟨(en,[]),_,by rw[HR.out];rfl,rfl,World.ownsRow_nil _ _ _ _,HBG.out⟩)
    simp[results,Tryd.results15,go_sem,e0,e1]
theorem linE_kind0 {σ:ByteArray→Option LT}{n:Nat}{en:Int}{nm:ByteArray}{ks:List ET}:linE σ (n+1) (.mk 0 en nm ks)=some (en,[]):=by
 unfold linE
 show(if(0:Int)=1 then _ else if(0:Int)=2 then _ else if(0:Int)=3 then _ else if(0:Int)=4 then _ else _)=_
 rw[if_neg (by decide),if_neg (by decide),if_neg (by decide),if_neg (by decide)]
 rfl
theorem linE_kind1 {σ:ByteArray→Option LT}{n:Nat}{en:Int}{nm:ByteArray}{ks:List ET}:linE σ (n+1) (.mk 1 en nm ks)=some ((σ nm).getD (en,[])):=by
 unfold linE
 show(if(1:Int)=1 then _ else if(1:Int)=2 then _ else if(1:Int)=3 then _ else if(1:Int)=4 then _ else _)=_
 rw[if_pos (by decide)]
 rfl
theorem symOf_sd {s:ByteArray}{xs:List (ByteArray×LT)}{a:LT}(hsd:∀x∈xs,Sd x.2)(h:symOf s xs=some a):Sd a:=by
 unfold symOf at h
 obtain⟨x,hx,rfl⟩:=Option.map_eq_some_iff.1 h
 exact hsd x (List.mem_of_find?_eq_some hx)
theorem cexpr_any {nm:ByteArray→Bool}(la:Option Addr)(lcap:Nat)(xs:List (ByteArray×LT))(hsd:∀x∈xs,Sd x.2):∀(n:Nat) (e:ET) (cs:List Value) (w:World),snE nm n e=true→(exprSh n).rel (Pak.Lo w.heap.size) w cs e→Pak.Sits symSh (Pak.Lo w.heap.size) w la xs→
 Calls Tryd.prog 15 #[.agg cs.toArray,.slice la xs.length lcap] w (LnEnd (linE (fun s=>symOf s xs) n e) w)
 | 0,_,_,_,h,_,_=>by simp[snE]at h
 | n+1,.mk k en s ks,cs,w,h,hr,hx=>by
   obtain⟨v,rfl,_,a,cap,rfl,hs⟩:=hr
   have hσ:∀s a,(fun s=>symOf s xs) s=some a→Sd a:=fun s a h=>symOf_sd hsd h
   have h0:=h
   unfold snE at h
   have hall:∀x∈ks,snE nm n x=true:=by
    split at h
    ·simp only[Bool.and_eq_true,beq_iff_eq]at h
     have:ks=[]:=List.eq_nil_of_length_eq_zero h.2
     intro x hx
     rw[this]at hx
     cases hx
    ·split at h
     ·simp only[Bool.and_eq_true]at h
      exact fun x hx=>List.all_eq_true.1 h.2 x hx
     ·cases h
   have hf:∀cs x W,x∈ks→Below w.heap.size w W→(exprSh n).rel (Pak.Lo W.heap.size) W cs x→Calls Tryd.prog 15 #[.agg cs.toArray,.slice la xs.length lcap] W (LnEnd (linE (fun s=>symOf s xs) n x) W):=fun cs x W hx2 hW hrx=>cexpr_any la lcap xs hsd n x cs W (hall x hx2) hrx (hx.below hW hW.size)
   have hsy:∀x y,x∈ks→linE (fun s=>symOf s xs) n x=some y→Sd y:=fun x y hx2 hy=>linE_sd hσ (hall x hx2) hy
   by_cases h1:k=1
   ·rw[if_pos (show(ET.mk k en s ks).kind=1 from h1)]at h
    simp only[Bool.and_eq_true,beq_iff_eq]at h
    subst h1
    have hks:ks=[]:=List.eq_nil_of_length_eq_zero h.2
    subst hks
    rw[linE_kind1]
    exact cexpr_1 n en s a cap la _ lcap xs w rfl hx hsd
   ·rw[if_neg (show ¬(ET.mk k en s ks).kind=1 from h1)]at h
    split at h
    ·rename_i hk
     have hk:0≤k∧k≤4:=hk
     simp only[Bool.and_eq_true,Bool.or_eq_true,beq_iff_eq]at h
     have hen: -1073741824≤en∧en≤1073741824:=by
      rcases h.1.1.1 with h2 | ⟨_,h2⟩
      ·have h2:en=0:=h2
       omega
      ·unfold inB at h2
       simp only[Bool.and_eq_true,decide_eq_true_eq]at h2
       have h2:_≤en∧en≤_:=h2
       omega
     have hkl:ks.length=kidsE k:=h.1.2
     have hkk:k=0∨k=2∨k=3∨k=4:=by omega
     rcases hkk with rfl | rfl | rfl | rfl
     ·have hks:ks=[]:=List.eq_nil_of_length_eq_zero hkl
      subst hks
      rw[linE_kind0]
      exact cexpr_0 n (fun s=>symOf s xs) en s a cap _ w
     ·have hkl:ks.length=2:=hkl
      have:=cexpr_2 n (fun s=>symOf s xs) ks en s a cap (.slice la xs.length lcap) w hkl hs hen hsy hf
      show Calls _ _ #[.agg #[_,_,_,.slice a ks.length cap],_] _ _
      rw[hkl];exact this
     ·have hkl:ks.length=2:=hkl
      have:=cexpr_3 n (fun s=>symOf s xs) ks en s a cap (.slice la xs.length lcap) w hkl hs hen hsy hf
      show Calls _ _ #[.agg #[_,_,_,.slice a ks.length cap],_] _ _
      rw[hkl];exact this
     ·have hkl:ks.length=1:=hkl
      have:=cexpr_4 n (fun s=>symOf s xs) ks en s a cap (.slice la xs.length lcap) w hkl hs hen hsy hf
      show Calls _ _ #[.agg #[_,_,_,.slice a ks.length cap],_] _ _
      rw[hkl];exact this
    ·cases h
end
section
open Go.RowKit
theorem part_rel {w W:World}{c:Int}{l:List (Int×Int)}{a:Option Addr}{k:Nat}{kv:Value}(hb:Below w.heap.size w W)(h:Lf.Lies w.heap.size w a l)(hl:l.length*16≤140737488355328)(hn:a=none→l.length=0∧k=0)(ho:∀b,kv.ownBlock=some b→w.heap.size≤b):LinRel (fun b=>b<W.heap.size∧kv.ownBlock≠some b) W (.int .i64 c) (.slice a l.length k) (c,l):=
 (linRel_of (h.below hb) (by omega) hn).keep (fun b h=>⟨Nat.lt_of_lt_of_le h hb.size,fun e=>absurd (ho b e) (Nat.not_le_of_lt h)⟩) (fun _ _ _=>rfl)
theorem rtake_any (la:Option Addr)(ln lcap:Nat)(xs:List CK)(i n:Int)(w:World)(hs:Pak.Sits ckSh (Pak.Lo w.heap.size) w la xs)(hm:xs.length=ln)(hl:ln≤60)(hN:∀x∈xs,NB x)(hb:∀x∈xs,x.a.2.length*16≤140737488355328∧x.v.2.length*16≤140737488355328):
 Calls Tryd.prog 7 #[.slice la ln lcap,.int .i64 i,.int .i64 n] w (RChksEnd (takeR xs i n) w):=by
 have HM:=Lib.hid hm
 have HBD:=Lib.hid hb
 have HND:=Lib.hid hN
 by_cases h0:i<0
 ·have HR:Hid (takeR xs i n=([],15)):=Lib.hid (by unfold takeR;rw[if_pos (.inl h0)])
  clear hs hm hN hb
  go_enter Tryd.func7,Tryd.ntmps7
  go_wp2_with fail
  go_ret2
  exact⟨_,by rw[HR.out];rfl,by rw[HR.out];exact OwnL.nil _ _ _ _,Below.refl _ _⟩
 by_cases h1:(ln:Int)≤i
 ·have HR:Hid (takeR xs i n=([],15)):=Lib.hid (by unfold takeR;rw[if_pos (.inr (by rw[hm];exact h1))])
  clear hs hm hN hb
  go_enter Tryd.func7,Tryd.ntmps7
  go_wp2_with fail
  go_ret2
  exact⟨_,by rw[HR.out];rfl,by rw[HR.out];exact OwnL.nil _ _ _ _,Below.refl _ _⟩
 obtain⟨j,rfl⟩:=Int.eq_ofNat_of_zero_le (show 0≤i by omega)
 have hjl:j<ln:=by omega
 have hji:(j:Int)<(ln:Int):=by omega
 have hjx:j<xs.length:=by omega
 obtain⟨b,off,rfl,hbw,HC0⟩:=ck_cells hs (by omega)
 have HC:=Lib.hid HC0
 obtain⟨ja1,jk1,ja2,jk2,hj⟩:=HC0 j hjx
 have j3:=hj.c3
 have ej:xs.getD j ck0=xs[j]:=by rw[List.getD_eq_getElem?_getD,List.getElem?_eq_getElem hjx];rfl
 have HT0:Hid (takeR xs (j:Int) n=if n<1∨xs[j].n<n then([],1) else(restTo j n xs xs.length,0)):=Lib.hid (by
  unfold takeR
  rw[if_neg (by omega),Int.toNat_natCast,ej])
 have HNJ:Hid (-1099511627776≤xs[j].n∧xs[j].n≤1099511627776):=Lib.hid (hN _ (List.getElem_mem hjx))
 clear hs hm hN hb HC0 hj
 have HJX:=Lib.hid hjx
 by_cases h2:n<1
 ·have HR:Hid (takeR xs j n=([],1)):=Lib.hid (by rw[HT0.out,if_pos (.inl h2)])
  go_enter Tryd.func7,Tryd.ntmps7
  go_wp2_with fail
  go_ret2
  exact⟨_,by rw[HR.out];rfl,by rw[HR.out];exact OwnL.nil _ _ _ _,Below.refl _ _⟩
 by_cases h3:xs[j].n<n
 ·have HR:Hid (takeR xs j n=([],1)):=Lib.hid (by rw[HT0.out,if_pos (.inr h3)])
  go_enter Tryd.func7,Tryd.ntmps7
  go_wp2_with fail
  go_ret2
  exact⟨_,by rw[HR.out];rfl,by rw[HR.out];exact OwnL.nil _ _ _ _,Below.refl _ _⟩
 have HR:Hid (takeR xs j n=(restTo j n xs ln,0)):=Lib.hid (by rw[HT0.out,if_neg (by omega),HM.out])
 have HN1:Hid (1≤n∧n≤xs[j].n):=Lib.hid (by omega)
 clear HT0
 have HBW:=Lib.hid hbw
 go_enter Tryd.func7,Tryd.ntmps7
 go_wp2_with fail
 clear j3 h2 h3
 go_loopw [8,9] (fun v i wr=>∃m:Nat,i= .int .i64 m∧m≤ln∧Hid (OwnL ckSh 48 w.heap.size (restTo j n xs m) v wr)∧Hid (Below w.heap.size w wr)) (fun _ i _=>ln - (intOf i).toNat)
 case atStart=>exact⟨0,rfl,Nat.zero_le _,OwnL.nil _ _ _ _,Below.refl _ _⟩
 case round=>
  obtain⟨m,rfl,hm,hrow,hb⟩:=hrel
  by_cases hlt:m<ln
  ·have hmi:(m:Int)<(ln:Int):=by omega
   have hmx:m<xs.length:=by rw[HM.out];exact hlt
   obtain⟨a1,k1,a2,k2,hk⟩:=HC.out m hmx
   have hc:=hk.below hb.out HBW.out (Nat.le_refl _)
   have em:xs.getD m ck0=xs[m]:=by rw[List.getD_eq_getElem?_getD,List.getElem?_eq_getElem hmx];rfl
   have HST:Hid (restTo j n xs (m+1)=restTo j n xs m ++ rest1 j n m xs[m]):=Lib.hid (by rw[←em];rfl)
   have HLEN:Hid ((restTo j n xs m).length≤1000000):=Lib.hid (by have:=restTo_len j n xs m;omega)
   have HBM:=Lib.hid (HBD.out _ (List.getElem_mem hmx))
   have HOB:Hid (∀b,u8.ownBlock=some b→w.heap.size≤b):=Lib.hid fun b e=>by
    obtain⟨css,_,h2,_⟩:=hrow.out.row
    exact(World.ownsRow.lt h2 b e).1
   have c0:=hc.c0
   have c1:=hc.c1
   have c2:=hc.c2
   have c3:=hc.c3
   have c4:=hc.c4
   have c5:=hc.c5
   clear hc
   by_cases e:m=j
   ·subst e
    have hw:IntKind.i64.wrap (xs[m].n - n)=xs[m].n - n:=IntWalk.i64_in _ (by have:=HNJ.out;have:=HN1.out;omega)
    have HI:Hid (i64 (xs[m].n - n)):=Lib.hid (by have:=HNJ.out;have:=HN1.out;unfold i64;omega)
    have hw2:wrap64 (xs[m].n - n)=xs[m].n - n:=IntWalk.wrap64_in _ (by have:=HNJ.out;have:=HN1.out;omega)
    by_cases hz:xs[m].n - n=0
    ·have HNEW:Hid (restTo m n xs (m+1)=restTo m n xs m):=Lib.hid (HST.out.trans ((congrArg (restTo m n xs m ++ ·) (rest1_zero hz)).trans (List.append_nil _)))
     have HF:Hid (OwnL ckSh 48 w.heap.size (restTo m n xs (m+1)) u8 (wr.alloc (.cells #[.int .i64 xs[m].a.1,.slice a1 xs[m].a.2.length k1,.string xs[m].f,.int .i64 (xs[m].n - n),.int .i64 xs[m].v.1,.slice a2 xs[m].v.2.length k2] 48))):=Lib.hid (by rw[HNEW.out];exact hrow.out.below box_low)
     have HBW2:Hid (Below w.heap.size w (wr.alloc (.cells #[.int .i64 xs[m].a.1,.slice a1 xs[m].a.2.length k1,.string xs[m].f,.int .i64 (xs[m].n - n),.int .i64 xs[m].v.1,.slice a2 xs[m].v.2.length k2] 48))):=Lib.hid (hb.out.trans (box_low.mono hb.out.size))
     have hz2:(xs[m].n - n == 0)=true:=by rw[hz];rfl
     clear hrow HST hb HNEW
     go_wp2_with fail
     go_roundw
     case rel=>exact⟨m+1,by go_num,by omega,HF,HBW2⟩
     case measure=>simp[intOf];omega
    ·have HNEW:Hid (restTo m n xs (m+1)=restTo m n xs m ++ [⟨xs[m].a,xs[m].f,xs[m].n - n,xs[m].v⟩]):=Lib.hid (HST.out.trans (congrArg (restTo m n xs m ++ ·) (rest1_pos hz)))
     have hz2:(xs[m].n - n == 0)=false:=by simpa using hz
     have HB1:Hid (Below w.heap.size w (wr.alloc (.cells #[.int .i64 xs[m].a.1,.slice a1 xs[m].a.2.length k1,.string xs[m].f,.int .i64 (xs[m].n - n),.int .i64 xs[m].v.1,.slice a2 xs[m].v.2.length k2] 48))):=Lib.hid (hb.out.trans (box_low.mono hb.out.size))
     have HRW:OwnL ckSh 48 w.heap.size (restTo m n xs m) u8 (wr.alloc (.cells #[.int .i64 xs[m].a.1,.slice a1 xs[m].a.2.length k1,.string xs[m].f,.int .i64 (xs[m].n - n),.int .i64 xs[m].v.1,.slice a2 xs[m].v.2.length k2] 48)):=hrow.out.below box_low
     have hl1:=part_rel (kv:=u8) (c:=xs[m].a.1) HB1.out hk.la HBM.out.1 hk.na HOB.out
     have hl2:=part_rel (kv:=u8) (c:=xs[m].v.1) HB1.out hk.lv HBM.out.2 hk.nv HOB.out
     obtain⟨v7,w7,hrun,hrow7,hb7,_⟩:=run_push_ck (w:=(wr.alloc (.cells #[.int .i64 xs[m].a.1,.slice a1 xs[m].a.2.length k1,.string xs[m].f,.int .i64 (xs[m].n - n),.int .i64 xs[m].v.1,.slice a2 xs[m].v.2.length k2] 48))) w.heap.size (restTo m n xs m) ⟨xs[m].a,xs[m].f,xs[m].n - n,xs[m].v⟩ u8 _ _ HRW HB1.out.size hk.hf HI.out hl1 hl2 HLEN.out
     rw[←hw2]at hrun
     rw[show(wr.alloc _).heap.size=wr.heap.size+1 from by simp]at hrun
     have HR7:Hid (OwnL ckSh 48 w.heap.size (restTo m n xs (m+1)) v7 w7):=Lib.hid (by rw[HNEW.out];exact hrow7)
     have HB7:Hid (Below w.heap.size w w7):=Lib.hid (HB1.out.trans hb7)
     clear hrow hb hrow7 hb7 hl1 hl2 HRW hk HNEW HB1 HOB HLEN HBM HI
     go_wp2_with (at_builtin;refine Lib.wpList_append_run _ rfl _ _ _ _ rfl _ _ rfl rfl _ _ (hrun _) ?_)
     go_roundw
     case rel=>exact⟨m+1,by go_num,by omega,HR7,HB7⟩
     case measure=>simp[intOf];omega
   ·have e1:((m:Int) == (j:Int))=false:=by simp;omega
    have e2:(m == j)=false:=by simp;omega
    have e3:¬(m:Int)=(j:Int):=by omega
    have HNEW:Hid (restTo j n xs (m+1)=restTo j n xs m ++ [xs[m]]):=Lib.hid (by rw[HST.out];unfold rest1;rw[if_neg e3])
    have HI:Hid (i64 xs[m].n):=Lib.hid hk.hn
    clear HNJ HN1
    have HB1:Hid (Below w.heap.size w (wr.alloc (.cells #[.int .i64 xs[m].a.1,.slice a1 xs[m].a.2.length k1,.string xs[m].f,.int .i64 xs[m].n,.int .i64 xs[m].v.1,.slice a2 xs[m].v.2.length k2] 48))):=Lib.hid (hb.out.trans (box_low.mono hb.out.size))
    have HRW:OwnL ckSh 48 w.heap.size (restTo j n xs m) u8 (wr.alloc (.cells #[.int .i64 xs[m].a.1,.slice a1 xs[m].a.2.length k1,.string xs[m].f,.int .i64 xs[m].n,.int .i64 xs[m].v.1,.slice a2 xs[m].v.2.length k2] 48)):=hrow.out.below box_low
    have hl1:=part_rel (kv:=u8) (c:=xs[m].a.1) HB1.out hk.la HBM.out.1 hk.na HOB.out
    have hl2:=part_rel (kv:=u8) (c:=xs[m].v.1) HB1.out hk.lv HBM.out.2 hk.nv HOB.out
    obtain⟨v7,w7,hrun,hrow7,hb7,_⟩:=run_push_ck (w:=(wr.alloc (.cells #[.int .i64 xs[m].a.1,.slice a1 xs[m].a.2.length k1,.string xs[m].f,.int .i64 xs[m].n,.int .i64 xs[m].v.1,.slice a2 xs[m].v.2.length k2] 48))) w.heap.size (restTo j n xs m) xs[m] u8 _ _ HRW HB1.out.size hk.hf HI.out hl1 hl2 HLEN.out
    rw[show(wr.alloc _).heap.size=wr.heap.size+1 from by simp]at hrun
    have HR7:Hid (OwnL ckSh 48 w.heap.size (restTo j n xs (m+1)) v7 w7):=Lib.hid (by rw[HNEW.out];exact hrow7)
    have HB7:Hid (Below w.heap.size w w7):=Lib.hid (HB1.out.trans hb7)
    clear hrow hb hrow7 hb7 hl1 hl2 HRW hk HNEW HB1 HOB HLEN HBM HI
    go_wp2_with (at_builtin;refine Lib.wpList_append_run _ rfl _ _ _ _ rfl _ _ rfl rfl _ _ (hrun _) ?_)
    go_roundw
    case rel=>exact⟨m+1,by go_num,by omega,HR7,HB7⟩
    case measure=>simp[intOf];omega
  ·obtain rfl:m=ln:=by omega
   have hlti:¬(m:Int)<(m:Int):=by omega
   go_wp2_with fail
   go_ret2
   exact⟨_,by rw[HR.out];rfl,by rw[HR.out];exact hrow.out,hb.out⟩
end
end Go.Proofs.YtjbkhdbjdahbiaaDoor
