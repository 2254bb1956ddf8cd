/- Parts of a proof. -/
import Derived.Test.YtjbkhdbjdahbiaaGreatDoorQ02
import Derived.Test.YtjbkhdbjdahbiaaGreatDoorQ03
import Derived.Test.YtjbkhdbjdahbiaaGreatDoorQ09
import Derived.Test.YtjbkhdbjdahbiaaGreatDoorQ13
import Derived.Deep.RegionHeld3
set_option linter.unusedVariables false
set_option linter.unusedSimpArgs false
set_option maxHeartbeats 60000000
set_option maxRecDepth 100000
namespace Go.Proofs.YtjbkhdbjdahbiaaGreatDoor
section
open Go.RowKit
theorem step_append_runC {P:Program}{ops:Array Oper}{o:Oper}{a:Act}{w:World}{K:Act→World→Prop}{Q:Exit→Act→World→Prop}{E:Prop}
 (hg:o.guard=none) (s x:Operand) (t:TypeId) (hop:o.op=Op.call { callee:=Callee.builtin Builtin.append,args:= #[s,x],argTypes:= #[t,t] })
 (v1 v2 v':Value) (w':World) (h1:a.eval s=v1) (h2:a.eval x=v2) (hr:∀ty,(Builtin.append_ #[t,t] ty #[v1,v2]).run P w= .ok v' w') (hK:K (a.put o.dst v') w'):
 if Region.wanted o (yielded ops a.tmps)=true then Oper.wp P o a w K Q else E:=by
 have hw:Region.wanted o (yielded ops a.tmps)=true:=by simp[Region.wanted,hg]
 rw[if_pos hw]
 unfold Oper.wp
 simp[execOp,hop,resolve,invoke,builtin,h1,h2,hr,Result.andThen]
 exact hK
def rest1 (i n:Int)(j:Nat)(c:CK):List CK:=if(j:Int)=i then(if c.n - n=0 then[] else[⟨c.a,c.f,c.n - n,c.v⟩]) else[c]
def restTo (i n:Int)(xs:List CK):Nat→List CK
 | 0=>[]
 | j+1=>restTo i n xs j ++ rest1 i n j (xs.getD j ck0)
theorem rest1_len (i n:Int)(j:Nat)(c:CK):(rest1 i n j c).length≤1:=by
 unfold rest1
 split
 ·split<;>simp
 ·simp
theorem restTo_len (i n:Int)(xs:List CK):∀j,(restTo i n xs j).length≤j
 | 0=>Nat.le_refl _
 | j+1=>by
   have:=restTo_len i n xs j
   have:=rest1_len i n j (xs.getD j ck0)
   show(restTo i n xs j ++ _).length≤_
   rw[List.length_append]
   omega
def takeR (xs:List CK)(i n:Int):List CK×Int:=if i<0∨(xs.length:Int)≤i then([],15) else if n<1∨(xs.getD i.toNat ck0).n<n then([],1) else(restTo i n xs xs.length,0)
structure CkAt (B:Nat)(w:World)(b o:Nat)(x:CK)(a1:Option Addr)(k1:Nat)(a2:Option Addr)(k2:Nat):Prop where
 c0:w.cell? ⟨b,o,none⟩=some (.int .i64 x.a.1)
 c1:w.cell? ⟨b,o+1,none⟩=some (.slice a1 x.a.2.length k1)
 c2:w.cell? ⟨b,o+2,none⟩=some (.string x.f)
 c3:w.cell? ⟨b,o+3,none⟩=some (.int .i64 x.n)
 c4:w.cell? ⟨b,o+4,none⟩=some (.int .i64 x.v.1)
 c5:w.cell? ⟨b,o+5,none⟩=some (.slice a2 x.v.2.length k2)
 la:Lf.Lies B w a1 x.a.2
 na:a1=none→x.a.2.length=0∧k1=0
 lv:Lf.Lies B w a2 x.v.2
 nv:a2=none→x.v.2.length=0∧k2=0
 hf:x.f.size≤maxLen
 hn:i64 x.n
theorem ck_cells {B:Nat}{w:World}{la:Option Addr}{xs:List CK}(hs:Pak.Sits ckSh (Pak.Lo B) w la xs)(h0:0<xs.length):∃b off,la=some ⟨b,off,none⟩∧b<B∧∀m (h:m<xs.length),∃a1 k1 a2 k2,CkAt B w b (off+m*6) xs[m] a1 k1 a2 k2:=by
 obtain⟨b,off,cs,e,hb,_⟩:=hs.2 0 h0
 refine⟨b,off,e,hb,fun m hm=> ?_⟩
 obtain⟨b',off',cs,e',hb',hc,c1,v1,c2,v2,rfl,hf,hn,hr1,hr2⟩:=hs.2 m hm
 rw[e]at e'
 injection e' with e'
 injection e' with e1 e2
 subst e1 e2
 obtain⟨a1,k1,rfl,rfl,_,l1,n1⟩:=hr1.form
 obtain⟨a2,k2,rfl,rfl,_,l2,n2⟩:=hr2.form
 exact⟨a1,k1,a2,k2,hc 0 _ rfl,hc 1 _ rfl,hc 2 _ rfl,hc 3 _ rfl,hc 4 _ rfl,hc 5 _ rfl,l1,n1,l2,n2,hf,hn⟩
theorem Tryz.infoChunk:(Tryz.prog.info? 27).map (fun i=>(i.zero,i.size,i.bytes))=some (some (.agg #[.int .i64 0,.slice none 0 0,.string ⟨#[]⟩,.int .i64 0,.int .i64 0,.slice none 0 0]),6,88):=by kernel_rfl
theorem run_push_ck {w:World}(B:Nat)(xs:List CK)(x:CK)(v u1 u2:Value)(h:OwnL ckSh 27 B xs v w)(hB:B≤w.heap.size)(hf:x.f.size≤maxLen)(hn:i64 x.n)(h1:LinRel (fun b=>b<w.heap.size∧v.ownBlock≠some b) w (.int .i64 x.a.1) u1 x.a)(h2:LinRel (fun b=>b<w.heap.size∧v.ownBlock≠some b) w (.int .i64 x.v.1) u2 x.v)(hsz:xs.length≤1000000):
 ∃v' w',(∀ty,(Builtin.append_ #[22,22] ty #[v,.slice (some ⟨w.heap.size,0,none⟩) 1 1]).run Tryz.prog (w.alloc (.cells #[.int .i64 x.a.1,u1,.string x.f,.int .i64 x.n,.int .i64 x.v.1,u2] 27))= .ok v' w')∧OwnL ckSh 27 B (xs ++ [x]) v' w'∧Below B w w'∧(∀b o,b<w.heap.size→v.ownBlock≠some b→w'.cell? ⟨b,o,none⟩=w.cell? ⟨b,o,none⟩):=by
 obtain⟨i0,hi,hz0,hz1,hz2⟩:=info_parts Tryz.infoChunk
 obtain⟨v',w',h1,h2,h3,_,h5⟩:=run_push_l (P:=Tryz.prog) (sh:=ckSh) 22 27 i0 _ 88 Tryz.underlying22 hi hz0 hz1 hz2 (by decide) rfl (by decide) B xs x v [.int .i64 x.a.1,u1,.string x.f,.int .i64 x.n,.int .i64 x.v.1,u2] h hB ⟨_,_,_,_,rfl,hf,hn,h1,h2⟩ hsz
 exact⟨v',w',h1,h2,h3,fun b o hb hne=>World.cell?_of_block (h5.block b hb (fun e=>hne e.symm))⟩
def ChksEnd (r:List CK×Int)(w:World)(e:Ending)(w':World):Prop:=∃v,e= .returned (.tuple #[v,erV r.2])∧OwnL ckSh 27 w.heap.size r.1 v w'∧Below w.heap.size w w'
end
section
open Go.RowKit
theorem CkAt.below {B B':Nat}{w W:World}{b o:Nat}{x:CK}{a1 a2:Option Addr}{k1 k2:Nat}(h:CkAt B w b o x a1 k1 a2 k2)(hb:Below B w W)(hB:b<B)(hS:B≤B'):CkAt B' W b o x a1 k1 a2 k2:=
 ⟨(hb.cell (p:=⟨b,_,none⟩) hB).trans h.c0,(hb.cell (p:=⟨b,_,none⟩) hB).trans h.c1,(hb.cell (p:=⟨b,_,none⟩) hB).trans h.c2,(hb.cell (p:=⟨b,_,none⟩) hB).trans h.c3,(hb.cell (p:=⟨b,_,none⟩) hB).trans h.c4,(hb.cell (p:=⟨b,_,none⟩) hB).trans h.c5,(h.la.below hb).mono hS,h.na,(h.lv.below hb).mono hS,h.nv,h.hf,h.hn⟩
theorem ck_box {B:Nat}{w:World}{b o:Nat}{x:CK}{a1 a2:Option Addr}{k1 k2:Nat}{t:TypeId}(h:CkAt B w b o x a1 k1 a2 k2)(hB:B≤w.heap.size){n:Int}(hn:i64 n):CkAt w.heap.size (w.alloc (.cells #[.int .i64 x.a.1,.slice a1 x.a.2.length k1,.string x.f,.int .i64 n,.int .i64 x.v.1,.slice a2 x.v.2.length k2] t)) w.heap.size 0 ⟨x.a,x.f,n,x.v⟩ a1 k1 a2 k2:=
 have hb:Below w.heap.size w (w.alloc (.cells #[.int .i64 x.a.1,.slice a1 x.a.2.length k1,.string x.f,.int .i64 n,.int .i64 x.v.1,.slice a2 x.v.2.length k2] t)):=box_low
 have hnew:=heap_alloc_new w (.cells #[.int .i64 x.a.1,.slice a1 x.a.2.length k1,.string x.f,.int .i64 n,.int .i64 x.v.1,.slice a2 x.v.2.length k2] t)
 ⟨(cell_of_row _ _ _ _ _ _ hnew).trans rfl,(cell_of_row _ _ _ _ _ _ hnew).trans rfl,(cell_of_row _ _ _ _ _ _ hnew).trans rfl,(cell_of_row _ _ _ _ _ _ hnew).trans rfl,(cell_of_row _ _ _ _ _ _ hnew).trans rfl,(cell_of_row _ _ _ _ _ _ hnew).trans rfl,(h.la.mono hB).below hb,h.na,(h.lv.mono hB).below hb,h.nv,h.hf,hn⟩
theorem rest1_zero {n:Int}{m:Nat}{c:CK}(h:c.n - n=0):rest1 m n m c=[]:=by unfold rest1;rw[if_pos rfl,if_pos h]
theorem rest1_pos {n:Int}{m:Nat}{c:CK}(h:¬c.n - n=0):rest1 m n m c=[⟨c.a,c.f,c.n - n,c.v⟩]:=by unfold rest1;rw[if_pos rfl,if_neg h]
theorem take_any (la:Option Addr)(ln lcap:Nat)(xs:List CK)(i n:Int)(w:World)(hs:Pak.Sits ckSh (Pak.Lo w.heap.size) w la xs)(hm:xs.length=ln)(hl:ln≤60)(hN:∀x∈xs, -1099511627776≤x.n∧x.n≤1099511627776)(hb:∀x∈xs,x.a.2.length*16≤140737488355328∧x.v.2.length*16≤140737488355328):
 Calls Tryz.prog 27 #[.slice la ln lcap,.int .i64 i,.int .i64 n] w (ChksEnd (takeR xs i n) w):=by
 have HM:=Lib.hid hm
 have HBD:=Lib.hid hb
 have HND:=Lib.hid hN
 by_cases h0:i<0
 ·have HR:Hid (takeR xs i n=([],15)):=Lib.hid (by unfold takeR;rw[if_pos (.inl h0)])
  clear hs hm hN hb
  go_enter Tryz.func27,Tryz.ntmps27
  go_wp2_with fail
  go_ret2
  exact⟨_,by rw[HR.out];rfl,by rw[HR.out];exact OwnL.nil _ _ _ _,Below.refl _ _⟩
 by_cases h1:(ln:Int)≤i
 ·have HR:Hid (takeR xs i n=([],15)):=Lib.hid (by unfold takeR;rw[if_pos (.inr (by rw[hm];exact h1))])
  clear hs hm hN hb
  go_enter Tryz.func27,Tryz.ntmps27
  go_wp2_with fail
  go_ret2
  exact⟨_,by rw[HR.out];rfl,by rw[HR.out];exact OwnL.nil _ _ _ _,Below.refl _ _⟩
 obtain⟨j,rfl⟩:=Int.eq_ofNat_of_zero_le (show 0≤i by omega)
 have hjl:j<ln:=by omega
 have hji:(j:Int)<(ln:Int):=by omega
 have hjx:j<xs.length:=by omega
 obtain⟨b,off,rfl,hbw,HC0⟩:=ck_cells hs (by omega)
 have HC:=Lib.hid HC0
 obtain⟨ja1,jk1,ja2,jk2,hj⟩:=HC0 j hjx
 have j3:=hj.c3
 have ej:xs.getD j ck0=xs[j]:=by rw[List.getD_eq_getElem?_getD,List.getElem?_eq_getElem hjx];rfl
 have HT0:Hid (takeR xs (j:Int) n=if n<1∨xs[j].n<n then([],1) else(restTo j n xs xs.length,0)):=Lib.hid (by
  unfold takeR
  rw[if_neg (by omega),Int.toNat_natCast,ej])
 have HNJ:=Lib.hid (hN _ (List.getElem_mem hjx))
 clear hs hm hN hb HC0 hj
 have HJX:=Lib.hid hjx
 by_cases h2:n<1
 ·have HR:Hid (takeR xs j n=([],1)):=Lib.hid (by rw[HT0.out,if_pos (.inl h2)])
  go_enter Tryz.func27,Tryz.ntmps27
  go_wp2_with fail
  go_ret2
  exact⟨_,by rw[HR.out];rfl,by rw[HR.out];exact OwnL.nil _ _ _ _,Below.refl _ _⟩
 by_cases h3:xs[j].n<n
 ·have HR:Hid (takeR xs j n=([],1)):=Lib.hid (by rw[HT0.out,if_pos (.inr h3)])
  go_enter Tryz.func27,Tryz.ntmps27
  go_wp2_with fail
  go_ret2
  exact⟨_,by rw[HR.out];rfl,by rw[HR.out];exact OwnL.nil _ _ _ _,Below.refl _ _⟩
 have HR:Hid (takeR xs j n=(restTo j n xs ln,0)):=Lib.hid (by rw[HT0.out,if_neg (by omega),HM.out])
 have HN1:Hid (1≤n∧n≤xs[j].n):=Lib.hid (by omega)
 clear HT0
 have HBW:=Lib.hid hbw
 go_enter Tryz.func27,Tryz.ntmps27
 go_wp2_with fail
 clear j3 h2 h3
 go_loopw [8,34] (fun v i wr=>∃m:Nat,i= .int .i64 m∧m≤ln∧Hid (OwnL ckSh 27 w.heap.size (restTo j n xs m) v wr)∧Hid (Below w.heap.size w wr)) (fun _ i _=>ln - (intOf i).toNat)
 case atStart=>exact⟨0,rfl,Nat.zero_le _,OwnL.nil _ _ _ _,Below.refl _ _⟩
 case round=>
  obtain⟨m,rfl,hm,hrow,hb⟩:=hrel
  by_cases hlt:m<ln
  ·have hmi:(m:Int)<(ln:Int):=by omega
   have hmx:m<xs.length:=by rw[HM.out];exact hlt
   obtain⟨a1,k1,a2,k2,hc0⟩:=HC.out m hmx
   have hc:=hc0.below hb.out HBW.out (Nat.le_refl _)
   have em:xs.getD m ck0=xs[m]:=by rw[List.getD_eq_getElem?_getD,List.getElem?_eq_getElem hmx];rfl
   have HST:Hid (restTo j n xs (m+1)=restTo j n xs m ++ rest1 j n m xs[m]):=Lib.hid (by rw[←em];rfl)
   have HLEN:Hid ((restTo j n xs m).length≤1000000):=Lib.hid (by have:=restTo_len j n xs m;omega)
   have HBM:=Lib.hid (HBD.out _ (List.getElem_mem hmx))
   have hbx:Below wr.heap.size wr (wr.alloc (.cells #[.int .i64 xs[m].a.1,.slice a1 xs[m].a.2.length k1,.string xs[m].f,.int .i64 xs[m].n,.int .i64 xs[m].v.1,.slice a2 xs[m].v.2.length k2] 27)):=box_low
   have c0:=hc.c0
   have c1:=hc.c1
   have c2:=hc.c2
   have c3:=hc.c3
   have c4:=hc.c4
   have c5:=hc.c5
   have HK:=Lib.hid hc
   clear hc0 hc
   by_cases e:m=j
   ·subst e
    have hw:IntKind.i64.wrap (xs[m].n - n)=xs[m].n - n:=IntWalk.i64_in _ (by have:=HNJ.out;have:=HN1.out;omega)
    have HI:Hid (i64 (xs[m].n - n)):=Lib.hid (by have:=HNJ.out;have:=HN1.out;unfold i64;omega)
    have HBW2:Hid (Below w.heap.size w (wr.alloc (.cells #[.int .i64 xs[m].a.1,.slice a1 xs[m].a.2.length k1,.string xs[m].f,.int .i64 (xs[m].n - n),.int .i64 xs[m].v.1,.slice a2 xs[m].v.2.length k2] 27))):=Lib.hid (hb.out.trans (box_low.mono hb.out.size))
    have HRW:Hid (OwnL ckSh 27 w.heap.size (restTo m n xs m) u8 (wr.alloc (.cells #[.int .i64 xs[m].a.1,.slice a1 xs[m].a.2.length k1,.string xs[m].f,.int .i64 (xs[m].n - n),.int .i64 xs[m].v.1,.slice a2 xs[m].v.2.length k2] 27))):=Lib.hid (hrow.out.below box_low)
    by_cases hz:xs[m].n - n=0
    ·have hnz:¬(0:Int)<xs[m].n - n:=by omega
     have HNEW:Hid (restTo m n xs (m+1)=restTo m n xs m):=Lib.hid (HST.out.trans ((congrArg (restTo m n xs m ++ ·) (rest1_zero hz)).trans (List.append_nil _)))
     have HF:Hid (OwnL ckSh 27 w.heap.size (restTo m n xs (m+1)) u8 (wr.alloc (.cells #[.int .i64 xs[m].a.1,.slice a1 xs[m].a.2.length k1,.string xs[m].f,.int .i64 (xs[m].n - n),.int .i64 xs[m].v.1,.slice a2 xs[m].v.2.length k2] 27))):=Lib.hid (by rw[HNEW.out];exact HRW.out)
     clear hrow HK HST hb hbx HNEW HRW hz
     go_wp2_with fail
     go_roundw
     case rel=>exact⟨m+1,by go_num,by omega,HF,HBW2⟩
     case measure=>simp[intOf];omega
    ·have hnz:(0:Int)<xs[m].n - n:=by have:=HN1.out;omega
     have HNEW:Hid (restTo m n xs (m+1)=restTo m n xs m ++ [⟨xs[m].a,xs[m].f,xs[m].n - n,xs[m].v⟩]):=Lib.hid (HST.out.trans (congrArg (restTo m n xs m ++ ·) (rest1_pos hz)))
     have HQ:Hid (CkAt wr.heap.size (wr.alloc (.cells #[.int .i64 xs[m].a.1,.slice a1 xs[m].a.2.length k1,.string xs[m].f,.int .i64 (xs[m].n - n),.int .i64 xs[m].v.1,.slice a2 xs[m].v.2.length k2] 27)) wr.heap.size 0 ⟨xs[m].a,xs[m].f,xs[m].n - n,xs[m].v⟩ a1 k1 a2 k2):=Lib.hid (ck_box HK.out hb.out.size HI.out)
     have HGL:Hid (wr.heap.size<(wr.alloc (.cells #[.int .i64 xs[m].a.1,.slice a1 xs[m].a.2.length k1,.string xs[m].f,.int .i64 (xs[m].n - n),.int .i64 xs[m].v.1,.slice a2 xs[m].v.2.length k2] 27)).heap.size):=Lib.hid (by simp)
     have HGN:Hid (u8.ownBlock≠some wr.heap.size):=Lib.hid fun h=>by
      obtain⟨css,_,h2,_⟩:=hrow.out.row
      exact Nat.lt_irrefl _ (World.ownsRow.lt h2 _ h).2
     clear hrow HK HST hb hbx hz
     generalize restTo m n xs m=ys at HNEW HRW HLEN
     generalize xs[m]=x at*
     obtain⟨⟨xa1,xal⟩,xf,xo,⟨xv1,xvl⟩⟩:=x
     dsimp only at*
     go_wp2_with fail
     generalize (wr.alloc (.cells #[.int .i64 xa1,.slice a1 xal.length k1,.string xf,.int .i64 (xo - n),.int .i64 xv1,.slice a2 xvl.length k2] 27))=W at HQ HRW HBW2 HGL
     generalize hgen:wr.heap.size=g at HQ HGL HGN
     clear hgen
     have q0:W.cell? ⟨g,0,none⟩=some (.int .i64 xa1):=HQ.out.c0
     have q1:W.cell? ⟨g,1,none⟩=some (.slice a1 xal.length k1):=HQ.out.c1
     have q2:W.cell? ⟨g,2,none⟩=some (.string xf):=HQ.out.c2
     have q3:W.cell? ⟨g,3,none⟩=some (.int .i64 (xo - n)):=HQ.out.c3
     have q4:W.cell? ⟨g,4,none⟩=some (.int .i64 xv1):=HQ.out.c4
     have q5:W.cell? ⟨g,5,none⟩=some (.slice a2 xvl.length k2):=HQ.out.c5
     have HQD:Hid (∀V,Below W.heap.size W V→V.cell? ⟨g,0,none⟩=some (.int .i64 xa1)∧V.cell? ⟨g,1,none⟩=some (.slice a1 xal.length k1)∧V.cell? ⟨g,2,none⟩=some (.string xf)∧V.cell? ⟨g,3,none⟩=some (.int .i64 (xo - n))∧V.cell? ⟨g,4,none⟩=some (.int .i64 xv1)∧V.cell? ⟨g,5,none⟩=some (.slice a2 xvl.length k2)):=Lib.hid fun V hV=>⟨(hV.cell (p:=⟨g,_,none⟩) HGL.out).trans q0,(hV.cell (p:=⟨g,_,none⟩) HGL.out).trans q1,(hV.cell (p:=⟨g,_,none⟩) HGL.out).trans q2,(hV.cell (p:=⟨g,_,none⟩) HGL.out).trans q3,(hV.cell (p:=⟨g,_,none⟩) HGL.out).trans q4,(hV.cell (p:=⟨g,_,none⟩) HGL.out).trans q5⟩
     have HOL:Hid (∀b,u8.ownBlock=some b→b<W.heap.size):=Lib.hid fun b hb=>by
      obtain⟨css,_,h2,_⟩:=HRW.out.row
      exact(World.ownsRow.lt h2 b hb).2
     have HD:Hid (Below W.heap.size W W.drew):=Lib.hid (Below.refl _ W).drew
     have HO1:Hid (Calls Tryz.prog 51 #[.agg #[.int .i64 xa1,.slice a1 xal.length k1]] W.drew (OwnEnd xa1 xal W.drew)):=Lib.hid (own_any xa1 a1 _ k1 xal W.drew rfl HBM.out.1 ((HQ.out.la.below (HD.out.mono (Nat.le_of_lt HGL.out))).mono (Nat.le_of_lt (Nat.lt_of_lt_of_le HGL.out HD.out.size))) HQ.out.na)
     have HO2:Hid (∀V,Below W.heap.size W V→Calls Tryz.prog 51 #[.agg #[.int .i64 xv1,.slice a2 xvl.length k2]] V (OwnEnd xv1 xvl V)):=Lib.hid fun V hV=>own_any xv1 a2 _ k2 xvl V rfl HBM.out.2 ((HQ.out.lv.below (hV.mono (Nat.le_of_lt HGL.out))).mono (Nat.le_of_lt (Nat.lt_of_lt_of_le HGL.out hV.size))) HQ.out.nv
     have HPU:Hid (∀V,Below W.heap.size W V→∀y1 y2,LinRel (fun b=>b<V.heap.size∧u8.ownBlock≠some b) V (.int .i64 xa1) y1 (xa1,xal)→LinRel (fun b=>b<V.heap.size∧u8.ownBlock≠some b) V (.int .i64 xv1) y2 (xv1,xvl)→∃v' w',(∀ty,(Builtin.append_ #[22,22] ty #[u8,.slice (some ⟨V.heap.size,0,none⟩) 1 1]).run Tryz.prog (V.alloc (.cells #[.int .i64 xa1,y1,.string xf,.int .i64 (xo - n),.int .i64 xv1,y2] 27))= .ok v' w')∧OwnL ckSh 27 w.heap.size (ys ++ [⟨(xa1,xal),xf,xo - n,(xv1,xvl)⟩]) v' w'∧Below w.heap.size V w'∧(∀o,w'.cell? ⟨g,o,none⟩=V.cell? ⟨g,o,none⟩)):=Lib.hid fun V hV y1 y2 l1 l2=>by
      obtain⟨v',w',p1,p2,p3,p4⟩:=run_push_ck (w:=V) w.heap.size ys ⟨(xa1,xal),xf,xo - n,(xv1,xvl)⟩ u8 y1 y2 (HRW.out.below hV) (Nat.le_trans HBW2.out.size hV.size) HQ.out.hf HQ.out.hn l1 l2 HLEN.out
      exact⟨v',w',p1,p2,p3,fun o=>p4 g o (Nat.lt_of_lt_of_le HGL.out hV.size) HGN.out⟩
     have HFIN:Hid (∀V v' w',Below W.heap.size W V→OwnL ckSh 27 w.heap.size (ys ++ [⟨(xa1,xal),xf,xo - n,(xv1,xvl)⟩]) v' w'→Below w.heap.size V w'→OwnL ckSh 27 w.heap.size (restTo m n xs (m+1)) v' w'∧Below w.heap.size w w'):=Lib.hid fun V v' w' hV h1 h2=>⟨by rw[HNEW.out];exact h1,(HBW2.out.trans (hV.mono HBW2.out.size)).trans h2⟩
     have HBM2:=Lib.hid (show xal.length≤9223372036854775807∧xvl.length≤9223372036854775807 from⟨by have:=HBM.out.1;omega,by have:=HBM.out.2;omega⟩)
     have HARM:Hid (∀(w3 w4:World) (a3 a4:Option Addr) (cap3 cap4:Nat),Below W.heap.size W w3→Lf.Row W.heap.size xal (.slice a3 xal.length cap3) w3→Below w3.heap.size w3 w4→Lf.Row w3.heap.size xvl (.slice a4 xvl.length cap4) w4→∃v7 w7,(∀ty,(Builtin.append_ #[22,22] ty #[u8,.slice (some ⟨w4.heap.size,0,none⟩) 1 1]).run Tryz.prog (w4.alloc (.cells #[.int .i64 xa1,.slice a3 xal.length cap3,.string xf,.int .i64 (xo - n),.int .i64 xv1,.slice a4 xvl.length cap4] 27))= .ok v7 w7)∧(OwnL ckSh 27 w.heap.size (restTo m n xs (m+1)) v7 w7∧Below w.heap.size w w7)∧(w7.cell? ⟨g,0,none⟩=some (.int .i64 xa1)∧w7.cell? ⟨g,1,none⟩=some (.slice a1 xal.length k1)∧w7.cell? ⟨g,2,none⟩=some (.string xf)∧w7.cell? ⟨g,3,none⟩=some (.int .i64 (xo - n))∧w7.cell? ⟨g,4,none⟩=some (.int .i64 xv1)∧w7.cell? ⟨g,5,none⟩=some (.slice a2 xvl.length k2))∧((w4.alloc (.cells #[.int .i64 xa1,.slice a3 xal.length cap3,.string xf,.int .i64 (xo - n),.int .i64 xv1,.slice a4 xvl.length cap4] 27)).cell? ⟨g,0,none⟩=some (.int .i64 xa1)∧(w4.alloc (.cells #[.int .i64 xa1,.slice a3 xal.length cap3,.string xf,.int .i64 (xo - n),.int .i64 xv1,.slice a4 xvl.length cap4] 27)).cell? ⟨g,1,none⟩=some (.slice a1 xal.length k1)∧(w4.alloc (.cells #[.int .i64 xa1,.slice a3 xal.length cap3,.string xf,.int .i64 (xo - n),.int .i64 xv1,.slice a4 xvl.length cap4] 27)).cell? ⟨g,2,none⟩=some (.string xf)∧(w4.alloc (.cells #[.int .i64 xa1,.slice a3 xal.length cap3,.string xf,.int .i64 (xo - n),.int .i64 xv1,.slice a4 xvl.length cap4] 27)).cell? ⟨g,3,none⟩=some (.int .i64 (xo - n))∧(w4.alloc (.cells #[.int .i64 xa1,.slice a3 xal.length cap3,.string xf,.int .i64 (xo - n),.int .i64 xv1,.slice a4 xvl.length cap4] 27)).cell? ⟨g,4,none⟩=some (.int .i64 xv1)∧(w4.alloc (.cells #[.int .i64 xa1,.slice a3 xal.length cap3,.string xf,.int .i64 (xo - n),.int .i64 xv1,.slice a4 xvl.length cap4] 27)).cell? ⟨g,5,none⟩=some (.slice a2 xvl.length k2))∧(w4.cell? ⟨g,0,none⟩=some (.int .i64 xa1)∧w4.cell? ⟨g,1,none⟩=some (.slice a1 xal.length k1)∧w4.cell? ⟨g,2,none⟩=some (.string xf)∧w4.cell? ⟨g,3,none⟩=some (.int .i64 (xo - n))∧w4.cell? ⟨g,4,none⟩=some (.int .i64 xv1)∧w4.cell? ⟨g,5,none⟩=some (.slice a2 xvl.length k2))):=Lib.hid fun w3 w4 a3 a4 cap3 cap4 hb3 hrow3 hb4 hrow4=>by
      have hb6:=hb3.trans (hb4.mono hb3.size)
      have hl1:=(linRel_rowS (kv:=u8) (c:=xa1) hrow3 HBM2.out.1 (fun b hb=>HOL.out b hb)).keep (S':=fun b=>b<w4.heap.size∧u8.ownBlock≠some b) (fun b h=>⟨Nat.lt_of_lt_of_le h.1 hb4.size,h.2⟩) (fun b o h=>hb4.cell (p:=⟨b,o,none⟩) h.1)
      have hl2:=linRel_rowS (kv:=u8) (c:=xv1) hrow4 HBM2.out.2 (fun b hb=>Nat.lt_of_lt_of_le (HOL.out b hb) hb3.size)
      obtain⟨v7,w7,hrun,hrow7,hb7,hk7⟩:=HPU.out w4 hb6 _ _ hl1 hl2
      have h4:=HQD.out _ hb6
      refine⟨v7,w7,hrun,HFIN.out _ _ _ hb6 hrow7 hb7, ?_,HQD.out _ (hb6.alloc hb6.size _),h4⟩
      rw[hk7,hk7,hk7,hk7,hk7,hk7]
      exact h4
     clear HQ HRW HBW2 HLEN HGN
     go_region_held3 (fun V=>V.cell? ⟨g,0,none⟩=some (.int .i64 xa1)∧V.cell? ⟨g,1,none⟩=some (.slice a1 xal.length k1)∧V.cell? ⟨g,2,none⟩=some (.string xf)∧V.cell? ⟨g,3,none⟩=some (.int .i64 (xo - n))∧V.cell? ⟨g,4,none⟩=some (.int .i64 xv1)∧V.cell? ⟨g,5,none⟩=some (.slice a2 xvl.length k2))
      (first | exact hq7 | exact hqa | exact hq4 | exact HQD.out _ hb3 | go_keep)
      (first
        | (go_at_call 51;refine HO1.out.mono ?_;rintro e w3 ⟨v3,rfl,hrow3,hb3'⟩;have hb3:=HD.out.trans (hb3'.mono HD.out.size);obtain⟨a3,cap3,rfl,_,_⟩:=hrow3.lies)
        | (go_at_call 51;refine(HO2.out w3 hb3).mono ?_;rintro e w4 ⟨v4,rfl,hrow4,hb4⟩;obtain⟨a4,cap4,rfl,_,_⟩:=hrow4.lies;obtain⟨v7,w7,hrun,hf7,hq7,hqa,hq4⟩:=HARM.out w3 w4 a3 a4 cap3 cap4 hb3 hrow3 hb4 hrow4)
        | (refine step_append_runC (by rfl) _ _ _ (by rfl) _ _ v7 w7 (by rfl) (by rfl) hrun ?_))
     have HF:=Lib.hid hf7
     clear q0 q1 q2 q3 q4 q5 HQD HOL HD HO1 HO2 HPU HFIN HARM hrun hf7 hq7 hqa hq4 hrow3 hrow4 hb3 hb3' hb4
     go_wp2_with fail
     go_roundw
     case rel=>exact⟨m+1,by go_num,by omega,HF.out.1,HF.out.2⟩
     case measure=>simp[intOf];omega
   ·have e1:((m:Int) == (j:Int))=false:=by simp;omega
    have e2:(m == j)=false:=by simp;omega
    have e3:¬(m:Int)=(j:Int):=by omega
    clear HNJ HN1
    have HNEW:Hid (restTo j n xs (m+1)=restTo j n xs m ++ [xs[m]]):=Lib.hid (by rw[HST.out];unfold rest1;rw[if_neg e3])
    have HRW:Hid (OwnL ckSh 27 w.heap.size (restTo j n xs m) u8 (wr.alloc (.cells #[.int .i64 xs[m].a.1,.slice a1 xs[m].a.2.length k1,.string xs[m].f,.int .i64 xs[m].n,.int .i64 xs[m].v.1,.slice a2 xs[m].v.2.length k2] 27))):=Lib.hid (hrow.out.below hbx)
    have HBW2:Hid (Below w.heap.size w (wr.alloc (.cells #[.int .i64 xs[m].a.1,.slice a1 xs[m].a.2.length k1,.string xs[m].f,.int .i64 xs[m].n,.int .i64 xs[m].v.1,.slice a2 xs[m].v.2.length k2] 27))):=Lib.hid (hb.out.trans (hbx.mono hb.out.size))
    have HQ:Hid (CkAt wr.heap.size (wr.alloc (.cells #[.int .i64 xs[m].a.1,.slice a1 xs[m].a.2.length k1,.string xs[m].f,.int .i64 xs[m].n,.int .i64 xs[m].v.1,.slice a2 xs[m].v.2.length k2] 27)) wr.heap.size 0 xs[m] a1 k1 a2 k2):=Lib.hid (ck_box HK.out hb.out.size HK.out.hn)
    have HGL:Hid (wr.heap.size<(wr.alloc (.cells #[.int .i64 xs[m].a.1,.slice a1 xs[m].a.2.length k1,.string xs[m].f,.int .i64 xs[m].n,.int .i64 xs[m].v.1,.slice a2 xs[m].v.2.length k2] 27)).heap.size):=Lib.hid (by simp)
    have HGN:Hid (u8.ownBlock≠some wr.heap.size):=Lib.hid fun h=>by
     obtain⟨css,_,h2,_⟩:=hrow.out.row
     exact Nat.lt_irrefl _ (World.ownsRow.lt h2 _ h).2
    clear hrow HK HST hb hbx
    generalize restTo j n xs m=ys at HNEW HRW HLEN
    generalize xs[m]=x at*
    obtain⟨⟨xa1,xal⟩,xf,xn,⟨xv1,xvl⟩⟩:=x
    dsimp only at*
    go_wp2_with fail
    generalize (wr.alloc (.cells #[.int .i64 xa1,.slice a1 xal.length k1,.string xf,.int .i64 xn,.int .i64 xv1,.slice a2 xvl.length k2] 27))=W at HQ HRW HBW2 HGL
    generalize hgen:wr.heap.size=g at HQ HGL HGN
    clear hgen
    have q0:W.cell? ⟨g,0,none⟩=some (.int .i64 xa1):=HQ.out.c0
    have q1:W.cell? ⟨g,1,none⟩=some (.slice a1 xal.length k1):=HQ.out.c1
    have q2:W.cell? ⟨g,2,none⟩=some (.string xf):=HQ.out.c2
    have q3:W.cell? ⟨g,3,none⟩=some (.int .i64 xn):=HQ.out.c3
    have q4:W.cell? ⟨g,4,none⟩=some (.int .i64 xv1):=HQ.out.c4
    have q5:W.cell? ⟨g,5,none⟩=some (.slice a2 xvl.length k2):=HQ.out.c5
    have HQD:Hid (∀V,Below W.heap.size W V→V.cell? ⟨g,0,none⟩=some (.int .i64 xa1)∧V.cell? ⟨g,1,none⟩=some (.slice a1 xal.length k1)∧V.cell? ⟨g,2,none⟩=some (.string xf)∧V.cell? ⟨g,3,none⟩=some (.int .i64 xn)∧V.cell? ⟨g,4,none⟩=some (.int .i64 xv1)∧V.cell? ⟨g,5,none⟩=some (.slice a2 xvl.length k2)):=Lib.hid fun V hV=>⟨(hV.cell (p:=⟨g,_,none⟩) HGL.out).trans q0,(hV.cell (p:=⟨g,_,none⟩) HGL.out).trans q1,(hV.cell (p:=⟨g,_,none⟩) HGL.out).trans q2,(hV.cell (p:=⟨g,_,none⟩) HGL.out).trans q3,(hV.cell (p:=⟨g,_,none⟩) HGL.out).trans q4,(hV.cell (p:=⟨g,_,none⟩) HGL.out).trans q5⟩
    have HOL:Hid (∀b,u8.ownBlock=some b→b<W.heap.size):=Lib.hid fun b hb=>by
     obtain⟨css,_,h2,_⟩:=HRW.out.row
     exact(World.ownsRow.lt h2 b hb).2
    have HD:Hid (Below W.heap.size W W.drew):=Lib.hid (Below.refl _ W).drew
    have HO1:Hid (Calls Tryz.prog 51 #[.agg #[.int .i64 xa1,.slice a1 xal.length k1]] W.drew (OwnEnd xa1 xal W.drew)):=Lib.hid (own_any xa1 a1 _ k1 xal W.drew rfl HBM.out.1 ((HQ.out.la.below (HD.out.mono (Nat.le_of_lt HGL.out))).mono (Nat.le_of_lt (Nat.lt_of_lt_of_le HGL.out HD.out.size))) HQ.out.na)
    have HO2:Hid (∀V,Below W.heap.size W V→Calls Tryz.prog 51 #[.agg #[.int .i64 xv1,.slice a2 xvl.length k2]] V (OwnEnd xv1 xvl V)):=Lib.hid fun V hV=>own_any xv1 a2 _ k2 xvl V rfl HBM.out.2 ((HQ.out.lv.below (hV.mono (Nat.le_of_lt HGL.out))).mono (Nat.le_of_lt (Nat.lt_of_lt_of_le HGL.out hV.size))) HQ.out.nv
    have HPU:Hid (∀V,Below W.heap.size W V→∀y1 y2,LinRel (fun b=>b<V.heap.size∧u8.ownBlock≠some b) V (.int .i64 xa1) y1 (xa1,xal)→LinRel (fun b=>b<V.heap.size∧u8.ownBlock≠some b) V (.int .i64 xv1) y2 (xv1,xvl)→∃v' w',(∀ty,(Builtin.append_ #[22,22] ty #[u8,.slice (some ⟨V.heap.size,0,none⟩) 1 1]).run Tryz.prog (V.alloc (.cells #[.int .i64 xa1,y1,.string xf,.int .i64 xn,.int .i64 xv1,y2] 27))= .ok v' w')∧OwnL ckSh 27 w.heap.size (ys ++ [⟨(xa1,xal),xf,xn,(xv1,xvl)⟩]) v' w'∧Below w.heap.size V w'∧(∀o,w'.cell? ⟨g,o,none⟩=V.cell? ⟨g,o,none⟩)):=Lib.hid fun V hV y1 y2 l1 l2=>by
     obtain⟨v',w',p1,p2,p3,p4⟩:=run_push_ck (w:=V) w.heap.size ys ⟨(xa1,xal),xf,xn,(xv1,xvl)⟩ u8 y1 y2 (HRW.out.below hV) (Nat.le_trans HBW2.out.size hV.size) HQ.out.hf HQ.out.hn l1 l2 HLEN.out
     exact⟨v',w',p1,p2,p3,fun o=>p4 g o (Nat.lt_of_lt_of_le HGL.out hV.size) HGN.out⟩
    have HFIN:Hid (∀V v' w',Below W.heap.size W V→OwnL ckSh 27 w.heap.size (ys ++ [⟨(xa1,xal),xf,xn,(xv1,xvl)⟩]) v' w'→Below w.heap.size V w'→OwnL ckSh 27 w.heap.size (restTo j n xs (m+1)) v' w'∧Below w.heap.size w w'):=Lib.hid fun V v' w' hV h1 h2=>⟨by rw[HNEW.out];exact h1,(HBW2.out.trans (hV.mono HBW2.out.size)).trans h2⟩
    have HBM2:=Lib.hid (show xal.length≤9223372036854775807∧xvl.length≤9223372036854775807 from⟨by have:=HBM.out.1;omega,by have:=HBM.out.2;omega⟩)
    have HARM:Hid (∀(w3 w4:World) (a3 a4:Option Addr) (cap3 cap4:Nat),Below W.heap.size W w3→Lf.Row W.heap.size xal (.slice a3 xal.length cap3) w3→Below w3.heap.size w3 w4→Lf.Row w3.heap.size xvl (.slice a4 xvl.length cap4) w4→∃v7 w7,(∀ty,(Builtin.append_ #[22,22] ty #[u8,.slice (some ⟨w4.heap.size,0,none⟩) 1 1]).run Tryz.prog (w4.alloc (.cells #[.int .i64 xa1,.slice a3 xal.length cap3,.string xf,.int .i64 xn,.int .i64 xv1,.slice a4 xvl.length cap4] 27))= .ok v7 w7)∧(OwnL ckSh 27 w.heap.size (restTo j n xs (m+1)) v7 w7∧Below w.heap.size w w7)∧(w7.cell? ⟨g,0,none⟩=some (.int .i64 xa1)∧w7.cell? ⟨g,1,none⟩=some (.slice a1 xal.length k1)∧w7.cell? ⟨g,2,none⟩=some (.string xf)∧w7.cell? ⟨g,3,none⟩=some (.int .i64 xn)∧w7.cell? ⟨g,4,none⟩=some (.int .i64 xv1)∧w7.cell? ⟨g,5,none⟩=some (.slice a2 xvl.length k2))∧((w4.alloc (.cells #[.int .i64 xa1,.slice a3 xal.length cap3,.string xf,.int .i64 xn,.int .i64 xv1,.slice a4 xvl.length cap4] 27)).cell? ⟨g,0,none⟩=some (.int .i64 xa1)∧(w4.alloc (.cells #[.int .i64 xa1,.slice a3 xal.length cap3,.string xf,.int .i64 xn,.int .i64 xv1,.slice a4 xvl.length cap4] 27)).cell? ⟨g,1,none⟩=some (.slice a1 xal.length k1)∧(w4.alloc (.cells #[.int .i64 xa1,.slice a3 xal.length cap3,.string xf,.int .i64 xn,.int .i64 xv1,.slice a4 xvl.length cap4] 27)).cell? ⟨g,2,none⟩=some (.string xf)∧(w4.alloc (.cells #[.int .i64 xa1,.slice a3 xal.length cap3,.string xf,.int .i64 xn,.int .i64 xv1,.slice a4 xvl.length cap4] 27)).cell? ⟨g,3,none⟩=some (.int .i64 xn)∧(w4.alloc (.cells #[.int .i64 xa1,.slice a3 xal.length cap3,.string xf,.int .i64 xn,.int .i64 xv1,.slice a4 xvl.length cap4] 27)).cell? ⟨g,4,none⟩=some (.int .i64 xv1)∧(w4.alloc (.cells #[.int .i64 xa1,.slice a3 xal.length cap3,.string xf,.int .i64 xn,.int .i64 xv1,.slice a4 xvl.length cap4] 27)).cell? ⟨g,5,none⟩=some (.slice a2 xvl.length k2))∧(w4.cell? ⟨g,0,none⟩=some (.int .i64 xa1)∧w4.cell? ⟨g,1,none⟩=some (.slice a1 xal.length k1)∧w4.cell? ⟨g,2,none⟩=some (.string xf)∧w4.cell? ⟨g,3,none⟩=some (.int .i64 xn)∧w4.cell? ⟨g,4,none⟩=some (.int .i64 xv1)∧w4.cell? ⟨g,5,none⟩=some (.slice a2 xvl.length k2))):=Lib.hid fun w3 w4 a3 a4 cap3 cap4 hb3 hrow3 hb4 hrow4=>by
     have hb6:=hb3.trans (hb4.mono hb3.size)
     have hl1:=(linRel_rowS (kv:=u8) (c:=xa1) hrow3 HBM2.out.1 (fun b hb=>HOL.out b hb)).keep (S':=fun b=>b<w4.heap.size∧u8.ownBlock≠some b) (fun b h=>⟨Nat.lt_of_lt_of_le h.1 hb4.size,h.2⟩) (fun b o h=>hb4.cell (p:=⟨b,o,none⟩) h.1)
     have hl2:=linRel_rowS (kv:=u8) (c:=xv1) hrow4 HBM2.out.2 (fun b hb=>Nat.lt_of_lt_of_le (HOL.out b hb) hb3.size)
     obtain⟨v7,w7,hrun,hrow7,hb7,hk7⟩:=HPU.out w4 hb6 _ _ hl1 hl2
     have h4:=HQD.out _ hb6
     refine⟨v7,w7,hrun,HFIN.out _ _ _ hb6 hrow7 hb7, ?_,HQD.out _ (hb6.alloc hb6.size _),h4⟩
     rw[hk7,hk7,hk7,hk7,hk7,hk7]
     exact h4
    clear HQ HRW HBW2 HLEN HGN
    go_region_held3 (fun V=>V.cell? ⟨g,0,none⟩=some (.int .i64 xa1)∧V.cell? ⟨g,1,none⟩=some (.slice a1 xal.length k1)∧V.cell? ⟨g,2,none⟩=some (.string xf)∧V.cell? ⟨g,3,none⟩=some (.int .i64 xn)∧V.cell? ⟨g,4,none⟩=some (.int .i64 xv1)∧V.cell? ⟨g,5,none⟩=some (.slice a2 xvl.length k2))
     (first | exact hq7 | exact hqa | exact hq4 | exact HQD.out _ hb3 | go_keep)
     (first
       | (go_at_call 51;refine HO1.out.mono ?_;rintro e w3 ⟨v3,rfl,hrow3,hb3'⟩;have hb3:=HD.out.trans (hb3'.mono HD.out.size);obtain⟨a3,cap3,rfl,_,_⟩:=hrow3.lies)
       | (go_at_call 51;refine(HO2.out w3 hb3).mono ?_;rintro e w4 ⟨v4,rfl,hrow4,hb4⟩;obtain⟨a4,cap4,rfl,_,_⟩:=hrow4.lies;obtain⟨v7,w7,hrun,hf7,hq7,hqa,hq4⟩:=HARM.out w3 w4 a3 a4 cap3 cap4 hb3 hrow3 hb4 hrow4)
       | (refine step_append_runC (by rfl) _ _ _ (by rfl) _ _ v7 w7 (by rfl) (by rfl) hrun ?_))
    have HF:=Lib.hid hf7
    clear q0 q1 q2 q3 q4 q5 HQD HOL HD HO1 HO2 HPU HFIN HARM hrun hf7 hq7 hqa hq4 hrow3 hrow4 hb3 hb3' hb4
    go_wp2_with fail
    go_roundw
    case rel=>exact⟨m+1,by go_num,by omega,HF.out.1,HF.out.2⟩
    case measure=>simp[intOf];omega
  ·obtain rfl:m=ln:=by omega
   have hlti:¬(m:Int)<(m:Int):=by omega
   go_wp2_with fail
   go_ret2
   exact⟨_,by rw[HR.out];rfl,by rw[HR.out];exact hrow.out,hb.out⟩
end
section
open Go.RowKit
def InS (B:Nat)(w:World):Nat→Prop:=fun b=>B≤b∧b<w.heap.size
theorem liesS_row {B:Nat}{w:World}{l:List (Int×Int)}{v:Value}(h:Lf.Row B l v w):∃a cap,v= .slice a l.length cap∧Lf.LiesS (InS B w) w a l:=by
 have hlt:=World.ownsRow.lt h
 obtain⟨a,cap,rfl,h2,h3⟩:=h.lies
 refine⟨a,cap,rfl,fun i hi=> ?_⟩
 obtain⟨b,off,e,hb,c1,c2⟩:=h2 i hi
 subst e
 exact⟨b,off,rfl,⟨(hlt b rfl).1,hb⟩,c1,c2⟩
theorem fl_leaf {B n:Nat}{w:World}{l:List (Int×Int)}{v:Value}(k c:Int)(h:Lf.Row B l v w)(hl:l.length≤9223372036854775807):Lf.FLiesS (InS B w) w (n+1) (.mk k c l []) [.int .i64 k,.int .i64 c,v,.slice none 0 0]:=by
 obtain⟨a,cap,rfl,h2⟩:=liesS_row h
 exact⟨a,cap,none,0,rfl,h2,hl,Nat.zero_le _,fun i hi=>absurd hi (Nat.not_lt_zero i)⟩
def FmEnd (n:Nat)(r:Lf.FT×Int)(w:World)(e:Ending)(w':World):Prop:=∃cs:List Value,e= .returned (.tuple #[.agg cs.toArray,erV r.2])∧Lf.FLiesS (InS w.heap.size w') w' n r.1 cs∧Below w.heap.size w w'
def f0:Lf.FT:= .mk 0 0 [] []
noncomputable def sameK (a b:LT):Lf.FT×Int:=if Lf.snd a.1 a.2=true∧Lf.snd b.1 b.2=true then(match addS 1 (-1) a b with | some x=>(.mk 3 x.1 x.2 [],0) | none=>(f0,3)) else(f0,5)
theorem f0_lies {n:Nat}{S:Nat→Prop}{w:World}:Lf.FLiesS S w (n+1) f0 [.int .i64 0,.int .i64 0,.slice none 0 0,.slice none 0 0]:=
 ⟨none,0,none,0,rfl,fun i hi=>absurd hi (Nat.not_lt_zero i),Nat.zero_le _,Nat.zero_le _,fun i hi=>absurd hi (Nat.not_lt_zero i)⟩
theorem store4 {w W:World}{B b:Nat}{v0 v1 v2 v3:Value}{u0 u1 u2 u3:Value}(hb:Below B w W)(hB:B≤b)(h0:W.cell? ⟨b,0,none⟩=some u0)(h1:W.cell? ⟨b,1,none⟩=some u1)(h2:W.cell? ⟨b,2,none⟩=some u2)(h3:W.cell? ⟨b,3,none⟩=some u3):
 ((((W.setCell ⟨b,0,none⟩ v0).setCell ⟨b,1,none⟩ v1).setCell ⟨b,2,none⟩ v2).setCell ⟨b,3,none⟩ v3).cell? ⟨b,0,none⟩=some v0∧((((W.setCell ⟨b,0,none⟩ v0).setCell ⟨b,1,none⟩ v1).setCell ⟨b,2,none⟩ v2).setCell ⟨b,3,none⟩ v3).cell? ⟨b,1,none⟩=some v1∧((((W.setCell ⟨b,0,none⟩ v0).setCell ⟨b,1,none⟩ v1).setCell ⟨b,2,none⟩ v2).setCell ⟨b,3,none⟩ v3).cell? ⟨b,2,none⟩=some v2∧((((W.setCell ⟨b,0,none⟩ v0).setCell ⟨b,1,none⟩ v1).setCell ⟨b,2,none⟩ v2).setCell ⟨b,3,none⟩ v3).cell? ⟨b,3,none⟩=some v3∧Below B w ((((W.setCell ⟨b,0,none⟩ v0).setCell ⟨b,1,none⟩ v1).setCell ⟨b,2,none⟩ v2).setCell ⟨b,3,none⟩ v3):=by
 refine⟨?_, ?_, ?_, ?_,(((hb.setCell (p:=⟨b,0,none⟩) hB v0).setCell (p:=⟨b,1,none⟩) hB v1).setCell (p:=⟨b,2,none⟩) hB v2).setCell (p:=⟨b,3,none⟩) hB v3⟩
 ·rw[World.cell?_setCell_other _ _ _ _ (by simp),World.cell?_setCell_other _ _ _ _ (by simp),World.cell?_setCell_other _ _ _ _ (by simp)]
  exact World.cell?_setCell_same _ _ _ h0
 ·rw[World.cell?_setCell_other _ _ _ _ (by simp),World.cell?_setCell_other _ _ _ _ (by simp)]
  exact World.cell?_setCell_same _ _ _ (u:=u1) (by rw[World.cell?_setCell_other _ _ _ _ (by simp)];exact h1)
 ·rw[World.cell?_setCell_other _ _ _ _ (by simp)]
  exact World.cell?_setCell_same _ _ _ (u:=u2) (by rw[World.cell?_setCell_other _ _ _ _ (by simp),World.cell?_setCell_other _ _ _ _ (by simp)];exact h2)
 ·exact World.cell?_setCell_same _ _ _ (u:=u3) (by rw[World.cell?_setCell_other _ _ _ _ (by simp),World.cell?_setCell_other _ _ _ _ (by simp),World.cell?_setCell_other _ _ _ _ (by simp)];exact h3)
theorem storeA4 {w W:World}{B b:Nat}{v0 v1 v2 v3:Value}{u0 u1 u2 u3:Value}{c:Array Value}{t:TypeId}(hb:Below B w W)(hBW:B≤W.heap.size)(hB:B≤b)(hlt:b<W.heap.size)(h0:W.cell? ⟨b,0,none⟩=some u0)(h1:W.cell? ⟨b,1,none⟩=some u1)(h2:W.cell? ⟨b,2,none⟩=some u2)(h3:W.cell? ⟨b,3,none⟩=some u3):
 (((((W.setCell ⟨b,0,none⟩ v0).setCell ⟨b,1,none⟩ v1).setCell ⟨b,2,none⟩ v2).setCell ⟨b,3,none⟩ v3).alloc (.cells c t)).cell? ⟨b,0,none⟩=some v0∧(((((W.setCell ⟨b,0,none⟩ v0).setCell ⟨b,1,none⟩ v1).setCell ⟨b,2,none⟩ v2).setCell ⟨b,3,none⟩ v3).alloc (.cells c t)).cell? ⟨b,1,none⟩=some v1∧(((((W.setCell ⟨b,0,none⟩ v0).setCell ⟨b,1,none⟩ v1).setCell ⟨b,2,none⟩ v2).setCell ⟨b,3,none⟩ v3).alloc (.cells c t)).cell? ⟨b,2,none⟩=some v2∧(((((W.setCell ⟨b,0,none⟩ v0).setCell ⟨b,1,none⟩ v1).setCell ⟨b,2,none⟩ v2).setCell ⟨b,3,none⟩ v3).alloc (.cells c t)).cell? ⟨b,3,none⟩=some v3∧Below B w (((((W.setCell ⟨b,0,none⟩ v0).setCell ⟨b,1,none⟩ v1).setCell ⟨b,2,none⟩ v2).setCell ⟨b,3,none⟩ v3).alloc (.cells c t)):=by
 obtain⟨e0,e1,e2,e3,h⟩:=store4 (v0:=v0) (v1:=v1) (v2:=v2) (v3:=v3) hb hB h0 h1 h2 h3
 have hs:((((W.setCell ⟨b,0,none⟩ v0).setCell ⟨b,1,none⟩ v1).setCell ⟨b,2,none⟩ v2).setCell ⟨b,3,none⟩ v3).heap.size=W.heap.size:=by simp
 have hk:Below ((((W.setCell ⟨b,0,none⟩ v0).setCell ⟨b,1,none⟩ v1).setCell ⟨b,2,none⟩ v2).setCell ⟨b,3,none⟩ v3).heap.size ((((W.setCell ⟨b,0,none⟩ v0).setCell ⟨b,1,none⟩ v1).setCell ⟨b,2,none⟩ v2).setCell ⟨b,3,none⟩ v3) (((((W.setCell ⟨b,0,none⟩ v0).setCell ⟨b,1,none⟩ v1).setCell ⟨b,2,none⟩ v2).setCell ⟨b,3,none⟩ v3).alloc (.cells c t)):=box_low
 have hl:b<((((W.setCell ⟨b,0,none⟩ v0).setCell ⟨b,1,none⟩ v1).setCell ⟨b,2,none⟩ v2).setCell ⟨b,3,none⟩ v3).heap.size:=by rw[hs];exact hlt
 exact⟨(hk.cell (p:=⟨b,_,none⟩) hl).trans e0,(hk.cell (p:=⟨b,_,none⟩) hl).trans e1,(hk.cell (p:=⟨b,_,none⟩) hl).trans e2,(hk.cell (p:=⟨b,_,none⟩) hl).trans e3,h.alloc (by rw[hs];exact hBW) _⟩
theorem storeA4_row {W:World}{B b:Nat}{l:List (Int×Int)}{z v0 v1 v2 v3:Value}{c:Array Value}{t:TypeId}(h:Lf.Row B l z W)(hb:b<B):Lf.Row B l z (((((W.setCell ⟨b,0,none⟩ v0).setCell ⟨b,1,none⟩ v1).setCell ⟨b,2,none⟩ v2).setCell ⟨b,3,none⟩ v3).alloc (.cells c t)):=
 Lf.Row.alloc (ownsRow_setCell_below (ownsRow_setCell_below (ownsRow_setCell_below (ownsRow_setCell_below h hb _) hb _) hb _) hb _) _
structure SmBox (w W:World)(a1:Value)(a2:Value)(b1:Value)(b2:Value):Prop where
 p0:W.cell? ⟨w.heap.size,0,none⟩=some a1
 p1:W.cell? ⟨w.heap.size,1,none⟩=some a2
 q0:W.cell? ⟨w.heap.size+1,0,none⟩=some b1
 q1:W.cell? ⟨w.heap.size+1,1,none⟩=some b2
 r0:W.cell? ⟨w.heap.size+1+1,0,none⟩=some (.int .i64 0)
 r1:W.cell? ⟨w.heap.size+1+1,1,none⟩=some (.int .i64 0)
 r2:W.cell? ⟨w.heap.size+1+1,2,none⟩=some (.slice none 0 0)
 r3:W.cell? ⟨w.heap.size+1+1,3,none⟩=some (.slice none 0 0)
 z0:W.frozen? ⟨w.heap.size+1+1,0,none⟩=false
 z1:W.frozen? ⟨w.heap.size+1+1,1,none⟩=false
 z2:W.frozen? ⟨w.heap.size+1+1,2,none⟩=false
 z3:W.frozen? ⟨w.heap.size+1+1,3,none⟩=false
 lt:w.heap.size+1+1<W.heap.size
theorem sm_box {w W:World}{a1 a2 b1 b2:Value}{t u v:TypeId}(hb:Below (((w.alloc (.cells #[a1,a2] t)).alloc (.cells #[b1,b2] u)).alloc (.cells #[.int .i64 0,.int .i64 0,.slice none 0 0,.slice none 0 0] v)).heap.size (((w.alloc (.cells #[a1,a2] t)).alloc (.cells #[b1,b2] u)).alloc (.cells #[.int .i64 0,.int .i64 0,.slice none 0 0,.slice none 0 0] v)) W):SmBox w W a1 a2 b1 b2:=by
 have s1:(w.alloc (.cells #[a1,a2] t)).heap.size=w.heap.size+1:=by simp
 have s2:((w.alloc (.cells #[a1,a2] t)).alloc (.cells #[b1,b2] u)).heap.size=w.heap.size+1+1:=by simp
 have s3:(((w.alloc (.cells #[a1,a2] t)).alloc (.cells #[b1,b2] u)).alloc (.cells #[.int .i64 0,.int .i64 0,.slice none 0 0,.slice none 0 0] v)).heap.size=w.heap.size+1+1+1:=by simp
 have h1:(((w.alloc (.cells #[a1,a2] t)).alloc (.cells #[b1,b2] u)).alloc (.cells #[.int .i64 0,.int .i64 0,.slice none 0 0,.slice none 0 0] v)).heap[w.heap.size]? =some (.cells #[a1,a2] t):=by
  rw[heap_alloc_old _ _ (by rw[s2];omega),heap_alloc_old _ _ (by rw[s1];omega)]
  exact heap_alloc_new _ _
 have h2:(((w.alloc (.cells #[a1,a2] t)).alloc (.cells #[b1,b2] u)).alloc (.cells #[.int .i64 0,.int .i64 0,.slice none 0 0,.slice none 0 0] v)).heap[w.heap.size+1]? =some (.cells #[b1,b2] u):=by
  rw[heap_alloc_old _ _ (by rw[s2];omega),←s1]
  exact heap_alloc_new _ _
 have h3:(((w.alloc (.cells #[a1,a2] t)).alloc (.cells #[b1,b2] u)).alloc (.cells #[.int .i64 0,.int .i64 0,.slice none 0 0,.slice none 0 0] v)).heap[w.heap.size+1+1]? =some (.cells #[.int .i64 0,.int .i64 0,.slice none 0 0,.slice none 0 0] v):=by
  rw[←s2]
  exact heap_alloc_new _ _
 have l3:w.heap.size+1+1<(((w.alloc (.cells #[a1,a2] t)).alloc (.cells #[b1,b2] u)).alloc (.cells #[.int .i64 0,.int .i64 0,.slice none 0 0,.slice none 0 0] v)).heap.size:=by rw[s3];omega
 have k:∀g o x,g<w.heap.size+1+1+1→(((w.alloc (.cells #[a1,a2] t)).alloc (.cells #[b1,b2] u)).alloc (.cells #[.int .i64 0,.int .i64 0,.slice none 0 0,.slice none 0 0] v)).cell? ⟨g,o,none⟩=x→W.cell? ⟨g,o,none⟩=x:=fun g o x hg h=>(hb.cell (p:=⟨g,o,none⟩) (by show g<_;rw[s3];exact hg)).trans h
 have f:∀o,W.frozen? ⟨w.heap.size+1+1,o,none⟩=false:=fun o=>(hb.frozen (p:=⟨w.heap.size+1+1,o,none⟩) l3).trans (by rw[←s2];exact Lf.frozen_new _ _ _ _)
 exact⟨k _ _ _ (by omega) ((cell_of_row _ _ _ _ _ _ h1).trans rfl),k _ _ _ (by omega) ((cell_of_row _ _ _ _ _ _ h1).trans rfl),k _ _ _ (by omega) ((cell_of_row _ _ _ _ _ _ h2).trans rfl),k _ _ _ (by omega) ((cell_of_row _ _ _ _ _ _ h2).trans rfl),k _ _ _ (by omega) ((cell_of_row _ _ _ _ _ _ h3).trans rfl),k _ _ _ (by omega) ((cell_of_row _ _ _ _ _ _ h3).trans rfl),k _ _ _ (by omega) ((cell_of_row _ _ _ _ _ _ h3).trans rfl),k _ _ _ (by omega) ((cell_of_row _ _ _ _ _ _ h3).trans rfl),f 0,f 1,f 2,f 3,Nat.lt_of_lt_of_le l3 hb.size⟩
end
section
open Go.RowKit
theorem csame_any (n:Nat)(a b:LT)(p q:Option Addr)(capa capb:Nat)(w:World)(hla:Lf.Lies w.heap.size w p a.2)(hlb:Lf.Lies w.heap.size w q b.2)(ha:a.2.length≤9223372036854775807)(hb:b.2.length≤9223372036854775807)(hna:p=none→a.2.length=0∧capa=0)(hnb:q=none→b.2.length=0∧capb=0):
 Calls Tryz.prog 11 #[.agg #[.int .i64 a.1,.slice p a.2.length capa],.agg #[.int .i64 b.1,.slice q b.2.length capb]] w (FmEnd (n+1) (sameK a b) w):=by
 have n1:=fun W=>Tryz.neNil W
 have n2:=fun t v W=>Tryz.neIface t v W
 have HW:Hid (Below w.heap.size w (((w.alloc (.cells #[.int .i64 a.1,.slice p a.2.length capa] 25)).alloc (.cells #[.int .i64 b.1,.slice q b.2.length capb] 25)).alloc (.cells #[.int .i64 0,.int .i64 0,.slice none 0 0,.slice none 0 0] 38))):=below_three
 have HB0:Hid (Below (((w.alloc (.cells #[.int .i64 a.1,.slice p a.2.length capa] 25)).alloc (.cells #[.int .i64 b.1,.slice q b.2.length capb] 25)).alloc (.cells #[.int .i64 0,.int .i64 0,.slice none 0 0,.slice none 0 0] 38)).heap.size (((w.alloc (.cells #[.int .i64 a.1,.slice p a.2.length capa] 25)).alloc (.cells #[.int .i64 b.1,.slice q b.2.length capb] 25)).alloc (.cells #[.int .i64 0,.int .i64 0,.slice none 0 0,.slice none 0 0] 38)) (((w.alloc (.cells #[.int .i64 a.1,.slice p a.2.length capa] 25)).alloc (.cells #[.int .i64 b.1,.slice q b.2.length capb] 25)).alloc (.cells #[.int .i64 0,.int .i64 0,.slice none 0 0,.slice none 0 0] 38))):=Below.refl _ _
 have HQ:=Lib.hid (fun W (hb:Below (((w.alloc (.cells #[.int .i64 a.1,.slice p a.2.length capa] 25)).alloc (.cells #[.int .i64 b.1,.slice q b.2.length capb] 25)).alloc (.cells #[.int .i64 0,.int .i64 0,.slice none 0 0,.slice none 0 0] 38)).heap.size (((w.alloc (.cells #[.int .i64 a.1,.slice p a.2.length capa] 25)).alloc (.cells #[.int .i64 b.1,.slice q b.2.length capb] 25)).alloc (.cells #[.int .i64 0,.int .i64 0,.slice none 0 0,.slice none 0 0] 38)) W)=>sm_box hb)
 have KA:=Lib.hid (fun W (hW:Below w.heap.size w W) h=>Lf.check_yes a.1 p _ capa a.2 W rfl ((hla.below hW).mono hW.size) h)
 have NA:=Lib.hid (fun W (hW:Below w.heap.size w W) h=>Lf.check_no a.1 p _ capa a.2 W rfl ha ((hla.below hW).mono hW.size) h)
 have KB:=Lib.hid (fun W (hW:Below w.heap.size w W) h=>Lf.check_yes b.1 q _ capb b.2 W rfl ((hlb.below hW).mono hW.size) h)
 have NB:=Lib.hid (fun W (hW:Below w.heap.size w W) h=>Lf.check_no b.1 q _ capb b.2 W rfl hb ((hlb.below hW).mono hW.size) h)
 have LS:=Lib.hid (fun W (hW:Below w.heap.size w W) h1 h2=>less_any a b p q capa capb W h1 h2 ((hla.below hW).mono hW.size) ((hlb.below hW).mono hW.size))
 have HRS:Hid (sameK a b=sameK a b):=Lib.hid rfl
 clear hla hlb ha hb hna hnb
 go_enter Tryz.func11,Tryz.ntmps11
 have D0:=HQ.out _ HB0.out
 cases hsa:Lf.snd a.1 a.2 with
 | false=>
   have HR:Hid (sameK a b=(f0,5)):=Lib.hid (by unfold sameK;rw[if_neg (by rw[hsa];simp)])
   have C1:=Lib.hid (NA.out _ HW.out hsa)
   obtain⟨p0,p1,q0,q1,r0,r1,r2,r3,z0,z1,z2,z3,lt⟩:=D0
   go_wp2_with fail
   refine C1.out.mono ?_
   rintro r w2 ⟨rfl,hb2⟩
   have H2:=Lib.hid (HB0.out.trans hb2)
   have BW:=Lib.hid (HW.out.trans (H2.out.mono HW.out.size))
   clear hb2 p0 p1 q0 q1 r0 r1 r2 r3 z0 z1 z2 z3 lt
   have D:=HQ.out _ H2.out
   obtain⟨e0,e1,e2,e3,HBF⟩:=store4 (v0:= .int .i64 0) (v1:= .int .i64 0) (v2:= .slice none 0 0) (v3:= .slice none 0 0) BW.out (show w.heap.size≤w.heap.size+1+1 by omega) D.r0 D.r1 D.r2 D.r3
   have E:=Lib.hid (And.intro e0 (And.intro e1 (And.intro e2 e3)))
   have HBG:=Lib.hid HBF
   clear e0 e1 e2 e3 HBF
   obtain⟨p0,p1,q0,q1,r0,r1,r2,r3,z0,z1,z2,z3,lt⟩:=D
   go_wp2_with fail
   obtain⟨e0,e1,e2,e3⟩:=E.out
   refine bodyPost_ret (v:= .tuple #[.agg #[.int .i64 0,.int .i64 0,.slice none 0 0,.slice none 0 0],.iface 89 (.int .i64 5)]) ?_ rfl (by rw[HR.out];exact⟨[.int .i64 0,.int .i64 0,.slice none 0 0,.slice none 0 0],by rw[show erV (5:Int)= .iface 89 (.int .i64 5) from if_neg (by decide)],f0_lies,HBG.out⟩)
   simp[results,Tryz.results11,go_sem,e0,e1,e2,e3]
 | true=>
   have C1:=Lib.hid (KA.out _ HW.out hsa)
   have HSA:=Lib.hid hsa
   obtain⟨p0,p1,q0,q1,r0,r1,r2,r3,z0,z1,z2,z3,lt⟩:=D0
   go_wp2_with fail
   refine C1.out.mono ?_
   rintro r w2 ⟨rfl,hb2⟩
   have H2:=Lib.hid (HB0.out.trans hb2)
   have BW2:=Lib.hid (HW.out.trans (H2.out.mono HW.out.size))
   clear hb2 p0 p1 q0 q1 r0 r1 r2 r3 z0 z1 z2 z3 lt hsa
   cases hsb:Lf.snd b.1 b.2 with
   | false=>
     have HR:Hid (sameK a b=(f0,5)):=Lib.hid (by unfold sameK;rw[if_neg (by rw[hsb];simp)])
     have C2:=Lib.hid (NB.out _ BW2.out hsb)
     obtain⟨p0,p1,q0,q1,r0,r1,r2,r3,z0,z1,z2,z3,lt⟩:=HQ.out _ H2.out
     go_wp2_with fail
     refine C2.out.mono ?_
     rintro r w3 ⟨rfl,hb3⟩
     have H3:=Lib.hid (H2.out.trans (hb3.mono H2.out.size))
     have BW:=Lib.hid (HW.out.trans (H3.out.mono HW.out.size))
     clear hb3 p0 p1 q0 q1 r0 r1 r2 r3 z0 z1 z2 z3 lt
     have D:=HQ.out _ H3.out
     obtain⟨e0,e1,e2,e3,HBF⟩:=store4 (v0:= .int .i64 0) (v1:= .int .i64 0) (v2:= .slice none 0 0) (v3:= .slice none 0 0) BW.out (show w.heap.size≤w.heap.size+1+1 by omega) D.r0 D.r1 D.r2 D.r3
     have E:=Lib.hid (And.intro e0 (And.intro e1 (And.intro e2 e3)))
     have HBG:=Lib.hid HBF
     clear e0 e1 e2 e3 HBF
     obtain⟨p0,p1,q0,q1,r0,r1,r2,r3,z0,z1,z2,z3,lt⟩:=D
     go_wp2_with fail
     obtain⟨e0,e1,e2,e3⟩:=E.out
     refine bodyPost_ret (v:= .tuple #[.agg #[.int .i64 0,.int .i64 0,.slice none 0 0,.slice none 0 0],.iface 89 (.int .i64 5)]) ?_ rfl (by rw[HR.out];exact⟨[.int .i64 0,.int .i64 0,.slice none 0 0,.slice none 0 0],by rw[show erV (5:Int)= .iface 89 (.int .i64 5) from if_neg (by decide)],f0_lies,HBG.out⟩)
     simp[results,Tryz.results11,go_sem,e0,e1,e2,e3]
   | true=>
     have C2:=Lib.hid (KB.out _ BW2.out hsb)
     have HSB:=Lib.hid hsb
     obtain⟨p0,p1,q0,q1,r0,r1,r2,r3,z0,z1,z2,z3,lt⟩:=HQ.out _ H2.out
     go_wp2_with fail
     refine C2.out.mono ?_
     rintro r w3 ⟨rfl,hb3⟩
     have H3:=Lib.hid (H2.out.trans (hb3.mono H2.out.size))
     have BW3:=Lib.hid (HW.out.trans (H3.out.mono HW.out.size))
     clear hb3 p0 p1 q0 q1 r0 r1 r2 r3 z0 z1 z2 z3 lt hsb
     have C3:=Lib.hid (LS.out _ BW3.out HSA.out HSB.out)
     obtain⟨p0,p1,q0,q1,r0,r1,r2,r3,z0,z1,z2,z3,lt⟩:=HQ.out _ H3.out
     go_wp2_with fail
     refine C3.out.mono ?_
     rintro r w4 h4
     rcases h4 with ⟨⟨rc,rl⟩,v,hx,rfl,hrow,hb4⟩ | ⟨hx,rfl,hb4⟩
     ·have HR:Hid (sameK a b=(.mk 3 rc rl [],0)):=Lib.hid (by unfold sameK;rw[if_pos ⟨HSA.out,HSB.out⟩,hx])
      have H4:=Lib.hid (H3.out.trans (hb4.mono H3.out.size))
      have HLEN:=Lib.hid (show rl.length≤9223372036854775807 by have:=(addS_sd hx).len;exact Nat.le_trans this (by decide))
      have HZ:Hid (w.heap.size+1+1<w3.heap.size):=Lib.hid lt
      clear p0 p1 q0 q1 r0 r1 r2 r3 z0 z1 z2 z3 lt hx hb4
      obtain⟨a3,cap3,rfl,_,_⟩:=hrow.lies
      have BW:=Lib.hid (HW.out.trans (H4.out.mono HW.out.size))
      have D:=HQ.out _ H4.out
      obtain⟨e0,e1,e2,e3,HBF⟩:=storeA4 (v0:= .int .i64 3) (v1:= .int .i64 rc) (v2:= .slice a3 rl.length cap3) (v3:= .slice none 0 0) (c:= #[.int .i64 rc,.slice a3 rl.length cap3]) (t:=25) BW.out (by have:=D.lt;omega) (show w.heap.size≤w.heap.size+1+1 by omega) D.lt D.r0 D.r1 D.r2 D.r3
      have E:=Lib.hid (And.intro e0 (And.intro e1 (And.intro e2 e3)))
      have HBG:=Lib.hid HBF
      have HRF:=Lib.hid ((storeA4_row (v0:= .int .i64 3) (v1:= .int .i64 rc) (v2:= .slice a3 rl.length cap3) (v3:= .slice none 0 0) (c:= #[.int .i64 rc,.slice a3 rl.length cap3]) (t:=25) hrow HZ.out).mono (show w.heap.size≤w3.heap.size by have:=HZ.out;omega))
      clear hrow
      clear e0 e1 e2 e3 HBF
      obtain⟨p0,p1,q0,q1,r0,r1,r2,r3,z0,z1,z2,z3,lt⟩:=D
      go_wp2_with fail
      obtain⟨e0,e1,e2,e3⟩:=E.out
      refine bodyPost_ret (v:= .tuple #[.agg #[.int .i64 3,.int .i64 rc,.slice a3 rl.length cap3,.slice none 0 0],.nilIface]) ?_ rfl (by rw[HR.out];exact⟨[.int .i64 3,.int .i64 rc,.slice a3 rl.length cap3,.slice none 0 0],by rw[show erV (0:Int)= .nilIface from if_pos rfl],fl_leaf 3 rc HRF.out HLEN.out,HBG.out⟩)
      simp[results,Tryz.results11,go_sem,e0,e1,e2,e3]
     ·have HR:Hid (sameK a b=(f0,3)):=Lib.hid (by unfold sameK;rw[if_pos ⟨HSA.out,HSB.out⟩,hx])
      clear p0 p1 q0 q1 r0 r1 r2 r3 z0 z1 z2 z3 lt hx
      have H4:=Lib.hid (H3.out.trans (hb4.mono H3.out.size))
      clear hb4
      have BW:=Lib.hid (HW.out.trans (H4.out.mono HW.out.size))
      have D:=HQ.out _ H4.out
      obtain⟨e0,e1,e2,e3,HBF⟩:=storeA4 (v0:= .int .i64 0) (v1:= .int .i64 0) (v2:= .slice none 0 0) (v3:= .slice none 0 0) (c:= #[.int .i64 0,.slice none 0 0]) (t:=25) BW.out (by have:=D.lt;omega) (show w.heap.size≤w.heap.size+1+1 by omega) D.lt D.r0 D.r1 D.r2 D.r3
      have E:=Lib.hid (And.intro e0 (And.intro e1 (And.intro e2 e3)))
      have HBG:=Lib.hid HBF
      clear e0 e1 e2 e3 HBF
      obtain⟨p0,p1,q0,q1,r0,r1,r2,r3,z0,z1,z2,z3,lt⟩:=D
      go_wp2_with fail
      obtain⟨e0,e1,e2,e3⟩:=E.out
      refine bodyPost_ret (v:= .tuple #[.agg #[.int .i64 0,.int .i64 0,.slice none 0 0,.slice none 0 0],.iface 89 (.int .i64 3)]) ?_ rfl (by rw[HR.out];exact⟨[.int .i64 0,.int .i64 0,.slice none 0 0,.slice none 0 0],by rw[show erV (3:Int)= .iface 89 (.int .i64 3) from if_neg (by decide)],f0_lies,HBG.out⟩)
      simp[results,Tryz.results11,go_sem,e0,e1,e2,e3]
end
section
open Go.RowKit
def Lt40 (a:Int):Prop:= -1099511627776≤a∧a≤1099511627776
theorem above_any (a b:Int)(w:World)(ha:Lt40 a)(hb:Lt40 b):Calls Tryz.prog 57 #[.int .i64 a,.int .i64 b] w fun e w'=>e= .returned (.bool (decide (64<a+b)))∧w'=w:=by
 unfold Lt40 at ha hb
 have hw:IntKind.i64.wrap (a+b)=a+b:=IntWalk.i64_in _ (by omega)
 have hw2:wrap64 (a+b)=a+b:=IntWalk.wrap64_in _ (by omega)
 by_cases h1:0<a
 ·by_cases h2:0<b
  ·have h3:¬(a+b<0):=by omega
   have h4:¬(a<0):=by omega
   go_enter Tryz.func57,Tryz.ntmps57
   go_wp2_with fail
   go_ret
   exact⟨by simp[hw,hw2],rfl⟩
  ·have h4:¬(a<0):=by omega
   go_enter Tryz.func57,Tryz.ntmps57
   go_wp2_with fail
   go_ret
   exact⟨by simp[hw,hw2],rfl⟩
 ·by_cases h2:a<0
  ·by_cases h3:b<0
   ·have h4:¬(0≤a+b):=by omega
    go_enter Tryz.func57,Tryz.ntmps57
    go_wp2_with fail
    go_ret
    exact⟨by simp[hw,hw2],rfl⟩
   ·go_enter Tryz.func57,Tryz.ntmps57
    go_wp2_with fail
    go_ret
    exact⟨by simp[hw,hw2],rfl⟩
  ·go_enter Tryz.func57,Tryz.ntmps57
   go_wp2_with fail
   go_ret
   exact⟨by simp[hw,hw2],rfl⟩
theorem InS.up {B:Nat}{w W:World}(hb:Below w.heap.size w W):∀b,InS B w b→InS B W b:=fun b h=>⟨h.1,Nat.lt_of_lt_of_le h.2 hb.size⟩
theorem fl_up {B n:Nat}{w W:World}{f:Lf.FT}{cs:List Value}(h:Lf.FLiesS (InS B w) w n f cs)(hb:Below w.heap.size w W):Lf.FLiesS (InS B W) W n f cs:=h.keep (InS.up hb) (fun b o h=>hb.cell (p:=⟨b,o,none⟩) h.2)
theorem fl_not {B n g:Nat}{w W:World}{f:Lf.FT}{c0 c1 c2 c3:Value}(h:Lf.FLiesS (InS B w) w n f [c0,c1,c2,c3])(hb:Below w.heap.size w W)(hg:B≤g)(hgl:g<W.heap.size)(q0:W.cell? ⟨g,0,none⟩=some c0)(q1:W.cell? ⟨g,1,none⟩=some c1)(q2:W.cell? ⟨g,2,none⟩=some c2)(q3:W.cell? ⟨g,3,none⟩=some c3):Lf.FLiesS (InS B W) W (n+1) (.mk 4 0 [] [f]) [.int .i64 4,.int .i64 0,.slice none 0 0,.slice (some ⟨g,0,none⟩) 1 1]:=
 ⟨none,0,some ⟨g,0,none⟩,1,rfl,fun i hi=>absurd hi (Nat.not_lt_zero i),Nat.zero_le _,(show(1:Nat)≤9223372036854775807 by decide),fun i hi=>by
   have hi0:i=0:=by have:i<1:=hi;omega
   subst hi0
   exact⟨g,0,c0,c1,c2,c3,rfl,⟨hg,hgl⟩,q0,q1,q2,q3,fl_up h hb⟩⟩
theorem three_at (w:World)(a b c:Array Value)(t u v:TypeId):Below w.heap.size w (((w.alloc (.cells a t)).alloc (.cells b u)).alloc (.cells c v))∧(((w.alloc (.cells a t)).alloc (.cells b u)).alloc (.cells c v)).heap[w.heap.size+1]? =some (.cells b u)∧(((w.alloc (.cells a t)).alloc (.cells b u)).alloc (.cells c v)).heap[w.heap.size+1+1]? =some (.cells c v)∧(((w.alloc (.cells a t)).alloc (.cells b u)).alloc (.cells c v)).heap.size=w.heap.size+1+1+1:=by
 have s1:(w.alloc (.cells a t)).heap.size=w.heap.size+1:=by simp
 have s2:((w.alloc (.cells a t)).alloc (.cells b u)).heap.size=w.heap.size+1+1:=by simp
 refine⟨below_three, ?_, ?_,by simp⟩
 ·rw[heap_alloc_old _ _ (by rw[s2];omega),←s1]
  exact heap_alloc_new _ _
 ·rw[←s2]
  exact heap_alloc_new _ _
def NotEnd (B n:Nat)(f:Lf.FT)(w:World)(e:Ending)(w':World):Prop:=∃cs:List Value,e= .returned (.agg cs.toArray)∧Lf.FLiesS (InS B w') w' (n+1) (.mk 4 0 [] [f]) cs∧Below w.heap.size w w'
theorem not_any (B n:Nat)(f:Lf.FT)(cs:List Value)(w:World)(hB:B≤w.heap.size)(h:Lf.FLiesS (InS B w) w n f cs):Calls Tryz.prog 58 #[.agg cs.toArray] w (NotEnd B n f w):=by
 obtain⟨c0,c1,c2,c3,rfl⟩:=h.four
 have HH:=Lib.hid h
 have HB:=Lib.hid hB
 have ho:∃k c ta tn tc ka kn kc,c0= .int .i64 k∧c1= .int .i64 c∧c2= .slice ta tn tc∧c3= .slice ka kn kc:=(h.lies (B:=w.heap.size) (fun b hb=>hb.2)).form
 obtain⟨k,c,ta,tn,tc,ka,kn,kc,rfl,rfl,rfl,rfl⟩:=ho
 clear h hB
 go_enter Tryz.func58,Tryz.ntmps58
 go_wp2_with fail
 obtain⟨hb,h1,h2,hs⟩:=three_at w #[.int .i64 k,.int .i64 c,.slice ta tn tc,.slice ka kn kc] #[.int .i64 4,.int .i64 0,.slice none 0 0,.slice (some ⟨w.heap.size+1+1,0,none⟩) 1 1] #[.int .i64 k,.int .i64 c,.slice ta tn tc,.slice ka kn kc] 38 38 38
 generalize (((w.alloc (.cells #[.int .i64 k,.int .i64 c,.slice ta tn tc,.slice ka kn kc] 38)).alloc (.cells #[.int .i64 4,.int .i64 0,.slice none 0 0,.slice (some ⟨w.heap.size+1+1,0,none⟩) 1 1] 38)).alloc (.cells #[.int .i64 k,.int .i64 c,.slice ta tn tc,.slice ka kn kc] 38))=W at*
 have e0:W.cell? ⟨w.heap.size+1,0,none⟩=some (.int .i64 4):=(cell_of_row _ _ _ _ _ _ h1).trans rfl
 have e1:W.cell? ⟨w.heap.size+1,1,none⟩=some (.int .i64 0):=(cell_of_row _ _ _ _ _ _ h1).trans rfl
 have e2:W.cell? ⟨w.heap.size+1,2,none⟩=some (.slice none 0 0):=(cell_of_row _ _ _ _ _ _ h1).trans rfl
 have e3:W.cell? ⟨w.heap.size+1,3,none⟩=some (.slice (some ⟨w.heap.size+1+1,0,none⟩) 1 1):=(cell_of_row _ _ _ _ _ _ h1).trans rfl
 have hBB:=HB.out
 refine bodyPost_ret (v:= .agg #[.int .i64 4,.int .i64 0,.slice none 0 0,.slice (some ⟨w.heap.size+1+1,0,none⟩) 1 1]) ?_ rfl ⟨[.int .i64 4,.int .i64 0,.slice none 0 0,.slice (some ⟨w.heap.size+1+1,0,none⟩) 1 1],rfl,fl_not HH.out hb (by omega) (by omega) ((cell_of_row _ _ _ _ _ _ h2).trans rfl) ((cell_of_row _ _ _ _ _ _ h2).trans rfl) ((cell_of_row _ _ _ _ _ _ h2).trans rfl) ((cell_of_row _ _ _ _ _ _ h2).trans rfl),hb⟩
 simp[results,Tryz.results58,go_sem,e0,e1,e2,e3]
end
end Go.Proofs.YtjbkhdbjdahbiaaGreatDoor
