/- Parts of a proof. -/
import Derived.Test.YtipahfcaplbifaaGreatDoorZ02
import Derived.Test.YtipahfcaplbifaaGreatDoorZ06
import Derived.Test.YtipahfcaplbifaaGreatDoorZ08
import Derived.Test.YtipahfcaplbifaaGreatDoorZ10
import Derived.Maps.AppendAt
import Derived.OwnWalk
import Derived.Laws.MakeOwn
import Derived.Deep.RegionHeld3
import Derived.Maps.Own
import Derived.Maps.OwnOps
import Derived.Maps.Views
import Derived.StringKeys
set_option linter.unusedVariables false
set_option linter.unusedSimpArgs false
set_option maxHeartbeats 60000000
set_option maxRecDepth 100000
namespace Go.Proofs.YtipahfcaplbifaaGreatDoor
section
open Go.RowKit
def ccV (d s:Nat)(b:Bool):Int:=if 64<d then 4 else if 4096<s then 2 else if b then 0 else 5
def cc (n:Nat)(f:FT):Int:=ccV (dep n f) (siz n f) (sndF n f)
def codeV (k:Int):Value:=if k=0 then .nilIface else .iface 60 (.int .i64 k)
structure Box (w W:World)(N:Nat)(k c:Int)(ta:Option Addr)(tn tcap:Nat)(ka:Option Addr)(kn kcap:Nat):Prop where
 lt:N<W.heap.size
 c0:W.cell? ⟨N,0,none⟩=some (.int .i64 k)
 c1:W.cell? ⟨N,1,none⟩=some (.int .i64 c)
 c2:W.cell? ⟨N,2,none⟩=some (.slice ta tn tcap)
 c3:W.cell? ⟨N,3,none⟩=some (.slice ka kn kcap)
 bel:Below N w W
theorem Box.below {w W W':World}{N B:Nat}{k c:Int}{ta ka:Option Addr}{tn tcap kn kcap:Nat}(h:Box w W N k c ta tn tcap ka kn kcap)(hb:Below B W W')(hB:N<B):Box w W' N k c ta tn tcap ka kn kcap:=
 ⟨Nat.lt_of_lt_of_le h.lt hb.size,(hb.cell (p:=⟨N,0,none⟩) hB).trans h.c0,(hb.cell (p:=⟨N,1,none⟩) hB).trans h.c1,(hb.cell (p:=⟨N,2,none⟩) hB).trans h.c2,(hb.cell (p:=⟨N,3,none⟩) hB).trans h.c3,h.bel.trans (hb.mono (by omega))⟩
theorem box_start (w:World)(k c:Int)(ta ka:Option Addr)(tn tcap kn kcap:Nat):Box w (w.alloc (.cells #[.int .i64 k,.int .i64 c,.slice ta tn tcap,.slice ka kn kcap] 39)) w.heap.size k c ta tn tcap ka kn kcap:=
 ⟨by simp,by simp,by simp,by simp,by simp,(Below.refl _ w).alloc (Nat.le_refl _) _⟩
theorem fcheck_any (n:Nat)(f:FT)(cs:List Value)(w:World)(h:FLies w.heap.size w n f cs):
 Calls Tryz.prog 40 #[.agg cs.toArray] w fun e w'=>e= .returned (codeV (cc n f))∧Below w.heap.size w w':=by
 have FL:=fun W (hb:Below w.heap.size w W)=>(h.below hb).mono hb.size
 cases n with
 | zero=>exact h.elim
 | succ n=>
   obtain⟨ta,tcap,ka,kcap,rfl,_⟩:=h
   have hd:=Lib.hid (fun W hb=>deeper_any (n+1) f _ 64 W (by omega) (by omega) (FL W hb))
   have hc:=Lib.hid (fun W hb=>count_any (n+1) f _ 4096 W (by omega) (by omega) (FL W hb))
   have hs:=Lib.hid (fun W hb=>sound_any (n+1) f _ W (FL W hb))
   have T0:=Lib.hid (box_start w f.kind f.c ta ka f.t.length tcap f.ks.length kcap)
   unfold cc
   clear FL
   generalize dep (n+1) f=d at hd
   generalize siz (n+1) f=s at hc
   generalize sndF (n+1) f=b at hs
   generalize f.kind=fk at T0 hd hc hs
   generalize f.c=fc at T0 hd hc hs
   generalize f.t.length=ft at T0 hd hc hs
   generalize f.ks.length=fl at T0 hd hc hs
   by_cases h1:64<d
   ·have e1:decide ((64:Int)<(d:Int))=true:=by simp;omega
    have er:codeV (ccV d s b)= .iface 60 (.int .i64 4):=by unfold ccV;rw[if_pos h1];rfl
    rw[er]
    rw[e1]at hd
    clear er e1 h1 hc hs
    go_enter Tryz.func40,Tryz.ntmps40
    go_wp2_with fail
    refine(hd.out _ T0.out.bel).mono ?_
    rintro e w1 ⟨rfl,hb1⟩
    have T1:=Lib.hid (T0.out.below hb1 T0.out.lt)
    clear hb1
    go_wp2_with fail
    go_ret
    exact⟨rfl,T1.out.bel⟩
   ·have e1:decide ((64:Int)<(d:Int))=false:=by simp;omega
    rw[e1]at hd
    by_cases h2:4096<s
    ·have er:codeV (ccV d s b)= .iface 60 (.int .i64 2):=by unfold ccV;rw[if_neg h1,if_pos h2];rfl
     have e2:cnt s 4096=4097:=by unfold cnt;rw[if_neg (by omega)];rfl
     rw[er]
     rw[e2]at hc
     clear er e1 e2 h1 h2 hs
     go_enter Tryz.func40,Tryz.ntmps40
     go_wp2_with fail
     refine(hd.out _ T0.out.bel).mono ?_
     rintro e w1 ⟨rfl,hb1⟩
     have T1:=Lib.hid (T0.out.below hb1 T0.out.lt)
     clear hb1
     obtain⟨l1,p0,p1,p2,p3,_⟩:=T1.out
     go_wp2_with fail
     refine(hc.out _ T1.out.bel).mono ?_
     rintro e w2 ⟨rfl,hb2⟩
     have T2:=Lib.hid (T1.out.below hb2 T1.out.lt)
     clear hb2 l1 p0 p1 p2 p3
     go_wp2_with fail
     go_ret
     exact⟨rfl,T2.out.bel⟩
    ·have e2:cnt s 4096=s:=by unfold cnt;rw[if_pos (by omega)]
     have er:codeV (ccV d s b)=errV b:=by unfold ccV;rw[if_neg h1,if_neg h2];cases b<;>rfl
     have hs4:(s:Int)≤4096:=by omega
     rw[er]
     rw[e2]at hc
     clear er e1 e2 h1 h2
     go_enter Tryz.func40,Tryz.ntmps40
     go_wp2_with fail
     refine(hd.out _ T0.out.bel).mono ?_
     rintro e w1 ⟨rfl,hb1⟩
     have T1:=Lib.hid (T0.out.below hb1 T0.out.lt)
     clear hb1
     obtain⟨l1,p0,p1,p2,p3,_⟩:=T1.out
     go_wp2_with fail
     refine(hc.out _ T1.out.bel).mono ?_
     rintro e w2 ⟨rfl,hb2⟩
     have T2:=Lib.hid (T1.out.below hb2 T1.out.lt)
     clear hb2 l1 p0 p1 p2 p3
     obtain⟨l2,p0,p1,p2,p3,_⟩:=T2.out
     go_wp2_with fail
     refine(hs.out _ T2.out.bel).mono ?_
     rintro e w3 ⟨rfl,hb3⟩
     have T3:=Lib.hid (T2.out.below hb3 T2.out.lt)
     clear hb3 l2 p0 p1 p2 p3
     cases b with
     | true=>
       go_wp2_with fail
       go_ret
       exact⟨rfl,T3.out.bel⟩
     | false=>
       go_wp2_with fail
       go_ret
       exact⟨rfl,T3.out.bel⟩
theorem Tryz.neNil (w:World):(binOp .neq 26 .nilIface .nilIface).run Tryz.prog w= .ok (.bool false) w:=by simp[go_sem]
theorem Tryz.neCode (k:Int)(w:World):(binOp .neq 26 (.iface 60 (.int .i64 k)) .nilIface).run Tryz.prog w= .ok (.bool true) w:=by simp[go_sem]
end
section
open Go.RowKit
theorem len0 (a:Nat):((a:Int) == 0)=decide (a=0):=by rw[Bool.eq_iff_iff];simp
theorem len1 (a:Nat):((a:Int) == 1)=decide (a=1):=by rw[Bool.eq_iff_iff];simp;omega
def bareF (f:FT):Bool:=decide (f.c=0) && decide (f.t.length=0)
def canF (c:Int)(l:List (Int×Int)):Bool:=snd c l && (decide (gAt l l.length=1) && decide (0<(l.getD 0 (0,0)).2))
def madeF:Nat→FT→Bool
 | 0,_=>false
 | n+1,f=>
   if f.kind=0∨f.kind=1 then bareF f && decide (f.ks.length=0)
   else if f.kind=2 then canF f.c f.t && decide (f.ks.length=0)
   else if f.kind=4 then bareF f && (decide (f.ks.length=1) && (decide ((f.ks.getD 0 default).kind=2) && madeF n (f.ks.getD 0 default)))
   else if f.kind=5∨f.kind=6 then decide (∀i,i<f.ks.length→madeF n (f.ks.getD i default)=true) && bareF f
   else false
theorem madeF_0 {n:Nat}{f:FT}(h:f.kind=0∨f.kind=1):madeF (n+1) f=(bareF f && decide (f.ks.length=0)):=by
 show(if f.kind=0∨f.kind=1 then _ else _)=_
 rw[if_pos h]
theorem madeF_2 {n:Nat}{f:FT}(h:f.kind=2):madeF (n+1) f=(canF f.c f.t && decide (f.ks.length=0)):=by
 show(if f.kind=0∨f.kind=1 then _ else if f.kind=2 then _ else _)=_
 rw[if_neg (by omega),if_pos h]
theorem madeF_4 {n:Nat}{f:FT}(h:f.kind=4):madeF (n+1) f=(bareF f && (decide (f.ks.length=1) && (decide ((f.ks.getD 0 default).kind=2) && madeF n (f.ks.getD 0 default)))):=by
 show(if f.kind=0∨f.kind=1 then _ else if f.kind=2 then _ else if f.kind=4 then _ else _)=_
 rw[if_neg (by omega),if_neg (by omega),if_pos h]
theorem madeF_5 {n:Nat}{f:FT}(h:f.kind=5∨f.kind=6):madeF (n+1) f=(decide (∀i,i<f.ks.length→madeF n (f.ks.getD i default)=true) && bareF f):=by
 show(if f.kind=0∨f.kind=1 then _ else if f.kind=2 then _ else if f.kind=4 then _ else if f.kind=5∨f.kind=6 then _ else _)=_
 rw[if_neg (by omega),if_neg (by omega),if_neg (by omega),if_pos h]
theorem madeF_x {n:Nat}{f:FT}(h:¬(f.kind=0∨f.kind=1)∧f.kind≠2∧f.kind≠4∧¬(f.kind=5∨f.kind=6)):madeF (n+1) f=false:=by
 show(if f.kind=0∨f.kind=1 then _ else if f.kind=2 then _ else if f.kind=4 then _ else if f.kind=5∨f.kind=6 then _ else _)=_
 rw[if_neg h.1,if_neg h.2.1,if_neg h.2.2.1,if_neg h.2.2.2]
theorem bare_any (n:Nat)(f:FT)(cs:List Value)(w:World)(h:FLies w.heap.size w n f cs):
 Calls Tryz.prog 114 #[.agg cs.toArray] w fun e w'=>e= .returned (.bool (bareF f))∧Below w.heap.size w w':=by
 cases n with
 | zero=>exact h.elim
 | succ n=>
   obtain⟨ta,tcap,ka,kcap,rfl,_⟩:=h
   have B0:=Lib.hid (box_start w f.kind f.c ta ka f.t.length tcap f.ks.length kcap)
   unfold bareF
   generalize f.kind=fk at B0
   generalize f.c=fc at B0
   generalize f.t.length=ft at B0
   generalize f.ks.length=len at B0
   by_cases hc:fc=0
   ·subst hc
    go_enter Tryz.func114,Tryz.ntmps114
    go_wp2
    go_ret
    exact⟨ret_bool (by rw[len0];simp),B0.out.bel⟩
   ·have hc2:(fc == 0)=false:=by simpa using hc
    go_enter Tryz.func114,Tryz.ntmps114
    go_wp2
    go_ret
    exact⟨ret_bool (by simp[hc]),B0.out.bel⟩
theorem canonical_any (c:Int)(a:Option Addr)(n cap:Nat)(l:List (Int×Int))(w:World)(hn:l.length=n)(hm:n≤9223372036854775807)(hl:Lies w.heap.size w a l):
 Calls Tryz.prog 115 #[.agg #[.int .i64 c,.slice a n cap]] w fun e w'=>e= .returned (.bool (canF c l))∧Below w.heap.size w w':=by
 have hb0:Below w.heap.size w (w.alloc (.cells #[.int .i64 c,.slice a n cap] 36)):=(Below.refl _ w).alloc (Nat.le_refl _) _
 have HB:=Lib.hid hb0
 cases hs:snd c l with
 | false=>
   have hg:=Lib.hid (gcd_no c a n cap l _ hn hm ((hl.below hb0).mono hb0.size) hs)
   have hr:canF c l=false:=by unfold canF;rw[hs];rfl
   rw[hr]
   clear hb0 hs hl hr hn
   go_enter Tryz.func115,Tryz.ntmps115
   go_wp2_with fail
   refine hg.out.mono ?_
   rintro e w1 ⟨rfl,hb1⟩
   go_wp2_with fail
   go_ret
   exact⟨rfl,HB.out.trans (hb1.mono (by simp))⟩
 | true=>
   have hg:=Lib.hid (gcd_yes c a n cap l _ hn ((hl.below hb0).mono hb0.size) hs)
   have hr:canF c l=(decide (gAt l n=1) && decide (0<(l.getD 0 (0,0)).2)):=by unfold canF;rw[hs,hn];rfl
   rw[hr]
   by_cases h1:gAt l n=1
   ·have h0:0<n:=by
     by_cases h0:n=0
     ·rw[h0]at h1;cases h1
     ·omega
    obtain⟨b,off,rfl,hblt,c1,c2⟩:=(hl.below hb0) 0 (by omega)
    rw[h1]at hg⊢
    simp only[Nat.zero_mul,Nat.add_zero]at c1 c2
    have HC2:=Lib.hid c2
    generalize (l.getD 0 (0,0)).2=K at c2 HC2
    clear c1 c2 hr hs hl hn h1 hb0
    go_enter Tryz.func115,Tryz.ntmps115
    go_wp2_with fail
    refine hg.out.mono ?_
    rintro e w1 ⟨rfl,hb1⟩
    have hz1:w.heap.size<w1.heap.size:=by have:=hb1.size;simp at this;omega
    have d1:w1.cell? ⟨b,off+1,none⟩=some (.int .i64 K):=(hb1.cell (p:=⟨b,off+1,none⟩) (by simp;omega)).trans HC2.out
    have e0:w1.cell? ⟨w.heap.size,0,none⟩=some (.int .i64 c):=by rw[hb1.cell (p:=⟨w.heap.size,0,none⟩) (by simp)];simp
    have e1:w1.cell? ⟨w.heap.size,1,none⟩=some (.slice (some ⟨b,off,none⟩) n cap):=by rw[hb1.cell (p:=⟨w.heap.size,1,none⟩) (by simp)];simp
    have HB1:=Lib.hid (HB.out.trans (hb1.mono (by simp)))
    clear hb1 HC2
    go_wp2_with fail
    go_ret
    exact⟨rfl,HB1.out⟩
   ·have h2:(gAt l n == 1)=false:=by simpa using h1
    rw[decide_eq_false h1,Bool.false_and]
    generalize gAt l n=g at hg h2
    clear hr hs hl hn h1 hb0
    go_enter Tryz.func115,Tryz.ntmps115
    go_wp2_with fail
    refine hg.out.mono ?_
    rintro e w1 ⟨rfl,hb1⟩
    go_wp2_with fail
    go_ret
    exact⟨rfl,HB.out.trans (hb1.mono (by simp))⟩
end
section
open Go.RowKit
def upI (c g:Int):Int:=if 0<c.tmod g then c.tdiv g+1 else c.tdiv g
theorem tdiv_in {c g:Int}{B:Nat}(hc:c.natAbs≤B): -(B:Int)≤c.tdiv g∧c.tdiv g≤B:=by
 have h:(c.tdiv g).natAbs=c.natAbs / g.natAbs:=Int.natAbs_tdiv c g
 have h2:=Nat.div_le_self c.natAbs g.natAbs
 omega
theorem upI_in {c g:Int}{B:Nat}(hc:c.natAbs≤B): -(B:Int)≤upI c g∧upI c g≤B+1:=by
 have:=tdiv_in (g:=g) hc
 unfold upI
 split<;>omega
theorem up_any (c g:Int)(w:World)(hg:1≤g)(hc: -1073741824≤c∧c≤1073741824):
 Calls Tryz.prog 152 #[.int .i64 c,.int .i64 g] w fun e w'=>e= .returned (.int .i64 (upI c g))∧w=w':=by
 have hg0:g≠0:=by omega
 have hb:=tdiv_in (c:=c) (g:=g) (B:=1073741824) (by omega)
 by_cases h:0<c.tmod g
 ·have e:upI c g=c.tdiv g+1:=by unfold upI;rw[if_pos h]
  rw[e]
  go_enter Tryz.func152,Tryz.ntmps152
  go_wp2
  go_ret
  exact⟨rfl,rfl⟩
 ·have e:upI c g=c.tdiv g:=by unfold upI;rw[if_neg h]
  rw[e]
  go_enter Tryz.func152,Tryz.ntmps152
  go_wp2
  go_ret
  exact⟨rfl,rfl⟩
end
section
open Go.RowKit
theorem res_cellsG (w:World)(b:Nat)(x y u v:Value)(h0:w.cell? ⟨b,0,none⟩=some u)(h1:w.cell? ⟨b,1,none⟩=some v):
 (w.setCell ⟨b,0,none⟩ x).cell? ⟨b,0,none⟩=some x∧((w.setCell ⟨b,0,none⟩ x).setCell ⟨b,1,none⟩ y).cell? ⟨b,1,none⟩=some y:=by
 refine⟨World.cell?_setCell_same _ _ _ h0,World.cell?_setCell_same _ _ _ (u:=v) ?_⟩
 rw[World.cell?_setCell_other _ _ _ _ (by simp)]
 exact h1
def redL (g:Int)(l:List (Int×Int)):List (Int×Int):=l.map fun m=>(m.1,m.2.tdiv g)
theorem run_make_monos (W:World)(n:Nat)(hn:n≤64):(Instr.makeSlice 34 (.int .i64 n) (.int .i64 n)).run Tryz.prog W= .ok (.slice (some ⟨W.heap.size,0,none⟩) n n) (W.alloc (.cells (madeCells #[.int .i64 0,.int .i64 0] (n*2)) 92)):=by
 obtain⟨i0,hi,hz0,hz1,hz2⟩:=info_parts Tryz.infoMono
 have:=run_make (P:=Tryz.prog) W 34 92 i0 _ Tryz.underlying34 hi hz0 .i64 .i64 n n (by omega) (Int.le_refl _) (by rw[hz2];omega) (by omega)
 rw[hz1]at this
 simp only[Int.toNat_natCast]at this
 exact this
theorem made_flat (n:Nat):(madeCells #[.int .i64 0,.int .i64 0] (n*2)).toList=flat (List.replicate n (0,0)):=by
 apply List.ext_getElem?
 intro j
 by_cases hj:j<n*2
 ·have hg:=flat_get (List.replicate n (0,0)) (j / 2) (by simp;omega)
  have hr:(List.replicate n ((0:Int),(0:Int))).getD (j / 2) (0,0)=(0,0):=by simp[List.getD_eq_getElem?_getD,show j / 2<n by omega]
  rw[hr]at hg
  rcases Nat.mod_two_eq_zero_or_one j with hm | hm
  ·have e:j / 2*2=j:=by omega
   rw[e]at hg
   rw[hg.1]
   simp[madeCells,hj,hm]
  ·have e:j / 2*2+1=j:=by omega
   rw[e]at hg
   rw[hg.2]
   simp[madeCells,hj,hm]
 ·rw[List.getElem?_eq_none (by simp[size_madeCells];omega),List.getElem?_eq_none (by rw[flat_len];simp;omega)]
theorem flat_set2:∀(M:List (Int×Int)) (k:Nat) (x y:Int),((flat M).set (k*2) (.int .i64 x)).set (k*2+1) (.int .i64 y)=flat (M.set k (x,y))
 | [],k,x,y=>by simp[flat]
 | m :: r,0,x,y=>rfl
 | m :: r,k+1,x,y=>by
   have e:flat (m :: r)= .int .i64 m.1 :: .int .i64 m.2 :: flat r:=rfl
   have e2:flat ((m :: r).set (k+1) (x,y))= .int .i64 m.1 :: .int .i64 m.2 :: flat (r.set k (x,y)):=rfl
   rw[e,e2,←flat_set2 r k x y,show(k+1)*2=k*2+1+1 by omega]
   rfl
structure RedSt (w W:World)(c u:Int)(a:Option Addr)(n cap G No:Nat)(M:List (Int×Int)):Prop where
 row:Row w.heap.size M (.slice (some ⟨G,0,none⟩) n n) W
 len:M.length=n
 l0:W.cell? ⟨w.heap.size,0,none⟩=some (.int .i64 c)
 l1:W.cell? ⟨w.heap.size,1,none⟩=some (.slice a n cap)
 rb:W.heap[w.heap.size+1]? =some (.cells #[.int .i64 0,.slice none 0 0] 36 (0,0))
 mb:W.heap[No]? =some (.cells #[.int .i64 u,.slice (some ⟨G,0,none⟩) n n] 36 (0,0))
 ne:G≠No
 gl:w.heap.size+1<G
 nl:w.heap.size+1<No
 bel:Below w.heap.size w W
theorem lt_of_some {W:World}{b:Nat}{o:Obj}(h:W.heap[b]? =some o):b<W.heap.size:=(Array.getElem?_eq_some_iff.1 h).1
theorem RedSt.step {w W W':World}{c u:Int}{a:Option Addr}{n cap G No:Nat}{M M':List (Int×Int)}(h:RedSt w W c u a n cap G No M)(hg:W.grownBy W' (some G))(hrow:Row w.heap.size M' (.slice (some ⟨G,0,none⟩) n n) W')(hlen:M'.length=n):RedSt w W' c u a n cap G No M':=by
 have h1:=h.gl
 have h2:=h.nl
 have h3:=h.ne
 exact⟨hrow,hlen,hg.cell h.l0 (by simp;omega),hg.cell h.l1 (by simp;omega),(hg.block _ (lt_of_some h.rb) (by simp;omega)).trans h.rb,(hg.block _ (lt_of_some h.mb) (by simp;omega)).trans h.mb,h3,h1,h2,
  h.bel.grown hg h.bel.size (fun k hk=>by injection hk with hk;omega)⟩
theorem RedSt.set {w W:World}{c u:Int}{a:Option Addr}{n cap G No:Nat}{M:List (Int×Int)}(h:RedSt w W c u a n cap G No M)(o:Obj)(k:Nat)(x y:Int):
 RedSt w (((W.setCell ⟨G,k*2,none⟩ (.int .i64 x)).setCell ⟨G,k*2+1,none⟩ (.int .i64 y)).alloc o).drew c u a n cap G No (M.set k (x,y)):=by
 have r1:W.ownsRow w.heap.size 92 2 (.slice (some ⟨G,0,none⟩) n n) n (flat M):=by
  have:=h.row
  unfold Row at this
  rw[h.len]at this
  exact this
 have s1:=r1.stored (k*2) (.int .i64 x)
 have s2:=s1.1.stored (k*2+1) (.int .i64 y)
 have s3:=World.ownsRow.alloc s2.1 o
 have hg:=s1.2.trans (s2.2.trans (World.grownBy_alloc _ o (some G)))
 refine h.step ⟨hg.os,hg.tape,hg.output,hg.size,hg.block⟩ ?_ (by rw[List.length_set];exact h.len)
 unfold Row
 rw[List.length_set,h.len,←flat_set2]
 exact s3
theorem red_a {w w1:World}{c u:Int}{a:Option Addr}{n cap:Nat}{Z:Array Value}(hb:Below w.heap.size w w1)(hz:w.heap.size+1<w1.heap.size)(p0:w1.cell? ⟨w.heap.size,0,none⟩=some (.int .i64 c))(p1:w1.cell? ⟨w.heap.size,1,none⟩=some (.slice a n cap))
 (hrb:w1.heap[w.heap.size+1]? =some (.cells #[.int .i64 0,.slice none 0 0] 36 (0,0))) (hZ:Z.toList=flat (List.replicate n (0,0))) (hn:n≤64):
 RedSt w ((w1.alloc (.cells Z 92)).alloc (.cells #[.int .i64 u,.slice (some ⟨w1.heap.size,0,none⟩) n n] 36)).drew c u a n cap w1.heap.size (w1.heap.size+1) (List.replicate n (0,0)):=by
 have hZs:Z.size=n*2:=by have:=congrArg List.length hZ;rw[flat_len]at this;simpa using this
 have hr:(w1.alloc (.cells Z 92)).ownsRow w.heap.size 92 2 (.slice (some ⟨w1.heap.size,0,none⟩) n n) n Z.toList:=World.ownsRow_lit w1 Z n hb.size (by unfold maxLen;omega) hZs
 have hm:=heap_alloc_new (w1.alloc (.cells Z 92)) (.cells #[.int .i64 u,.slice (some ⟨w1.heap.size,0,none⟩) n n] 36)
 rw[show(w1.alloc (.cells Z 92)).heap.size=w1.heap.size+1 by simp]at hm
 have hb2:Below w1.heap.size w1 ((w1.alloc (.cells Z 92)).alloc (.cells #[.int .i64 u,.slice (some ⟨w1.heap.size,0,none⟩) n n] 36)).drew:=(((Below.refl _ w1).alloc (Nat.le_refl _) _).alloc (by simp) _).drew
 refine⟨?_,by simp,(hb2.cell (p:=⟨w.heap.size,0,none⟩) (by show w.heap.size<_;omega)).trans p0,(hb2.cell (p:=⟨w.heap.size,1,none⟩) (by show w.heap.size<_;omega)).trans p1,(hb2.block _ hz).trans hrb,hm,by omega,hz,by omega,hb.trans (hb2.mono hb.size)⟩
 unfold Row
 rw[List.length_replicate,←hZ]
 exact World.ownsRow.alloc hr _
theorem red_b {w w1:World}{c u:Int}{a:Option Addr}{n cap:Nat}{Z:Array Value}(hb:Below w.heap.size w w1)(hz:w.heap.size+1<w1.heap.size)(p0:w1.cell? ⟨w.heap.size,0,none⟩=some (.int .i64 c))(p1:w1.cell? ⟨w.heap.size,1,none⟩=some (.slice a n cap))
 (hrb:w1.heap[w.heap.size+1]? =some (.cells #[.int .i64 0,.slice none 0 0] 36 (0,0))) (hZ:Z.toList=flat (List.replicate n (0,0))) (hn:n≤64):
 RedSt w ((w1.alloc (.cells #[.int .i64 u,.slice (some ⟨w1.heap.size+1,0,none⟩) n n] 36)).alloc (.cells Z 92)).drew c u a n cap (w1.heap.size+1) w1.heap.size (List.replicate n (0,0)):=by
 have hZs:Z.size=n*2:=by have:=congrArg List.length hZ;rw[flat_len]at this;simpa using this
 have hs1:(w1.alloc (.cells #[.int .i64 u,.slice (some ⟨w1.heap.size+1,0,none⟩) n n] 36)).heap.size=w1.heap.size+1:=by simp
 have hr:((w1.alloc (.cells #[.int .i64 u,.slice (some ⟨w1.heap.size+1,0,none⟩) n n] 36)).alloc (.cells Z 92)).ownsRow w.heap.size 92 2 (.slice (some ⟨(w1.alloc (.cells #[.int .i64 u,.slice (some ⟨w1.heap.size+1,0,none⟩) n n] 36)).heap.size,0,none⟩) n n) n Z.toList:=World.ownsRow_lit _ Z n (by rw[hs1];have:=hb.size;omega) (by unfold maxLen;omega) hZs
 rw[hs1]at hr
 have hm:=heap_alloc_new w1 (.cells #[.int .i64 u,.slice (some ⟨w1.heap.size+1,0,none⟩) n n] 36)
 have hb1:Below w1.heap.size w1 (w1.alloc (.cells #[.int .i64 u,.slice (some ⟨w1.heap.size+1,0,none⟩) n n] 36)):=(Below.refl _ w1).alloc (Nat.le_refl _) _
 have hb2:Below w1.heap.size w1 ((w1.alloc (.cells #[.int .i64 u,.slice (some ⟨w1.heap.size+1,0,none⟩) n n] 36)).alloc (.cells Z 92)).drew:=(hb1.alloc hb1.size _).drew
 refine⟨?_,by simp,(hb2.cell (p:=⟨w.heap.size,0,none⟩) (by show w.heap.size<_;omega)).trans p0,(hb2.cell (p:=⟨w.heap.size,1,none⟩) (by show w.heap.size<_;omega)).trans p1,(hb2.block _ hz).trans hrb, ?_,by omega,by omega,hz,hb.trans (hb2.mono hb.size)⟩
 ·unfold Row
  rw[List.length_replicate,←hZ]
  exact hr
 ·show(World.alloc _ _).heap[_]? =_
  rw[heap_alloc_old _ _ (by rw[hs1];omega)]
  exact hm
theorem reduced_any (c:Int)(a:Option Addr)(n cap:Nat)(l:List (Int×Int))(w:World)(hn:l.length=n)(hl:Lies w.heap.size w a l)(hs:snd c l=true)(h0:0<n)(hg1:1≤gAt l n):
 Calls Tryz.prog 128 #[.agg #[.int .i64 c,.slice a n cap]] w fun e w'=>∃v,e= .returned (.agg #[.int .i64 (upI c (gAt l n)),v])∧Row w.heap.size (redL (gAt l n) l) v w'∧Below w.heap.size w w':=by
 obtain⟨hwc,h64,hall⟩:=snd_iff.1 hs
 have hcb: -1073741824≤c∧c≤1073741824:=by unfold wi at hwc;simpa using hwc
 have hb0:Below w.heap.size w ((w.alloc (.cells #[.int .i64 c,.slice a n cap] 36)).alloc (.cells #[.int .i64 0,.slice none 0 0] 36)):=((Below.refl _ w).alloc (Nat.le_refl _) _).alloc (by simp) _
 have hgc:=Lib.hid (gcd_yes c a n cap l _ hn ((hl.below hb0).mono hb0.size) hs)
 have hup:=Lib.hid (fun W=>up_any c (gAt l n) W hg1 hcb)
 have hmk:=fun W=>run_make_monos W n (by omega)
 have HB0:=Lib.hid hb0
 have HL:=Lib.hid hl
 have HN:=Lib.hid hn
 have n64:n≤64:=by omega
 have HK:=Lib.hid (fun j (hj:j<n)=>okAt_in (hall j (by omega)))
 have HZ:=Lib.hid (made_flat n)
 clear hwc h64 hall hs hb0 hl hn
 generalize madeCells #[.int .i64 0,.int .i64 0] (n*2)=Z at hmk HZ
 have HR:Hid (redL (gAt l n) l=redL (gAt l n) l):=rfl
 generalize hgg:gAt l n=g at hgc hup hg1 HR
 clear hgg
 generalize upI c g=u at hup
 go_enter Tryz.func128,Tryz.ntmps128
 go_wp2_with fail
 refine hgc.out.mono ?_
 rintro e w1 ⟨rfl,hb1⟩
 have B1:=Lib.hid (HB0.out.trans (hb1.mono HB0.out.size))
 have z1:w.heap.size+1<w1.heap.size:=by have:=hb1.size;simp at this;omega
 have p0:w1.cell? ⟨w.heap.size,0,none⟩=some (.int .i64 c):=by
  rw[hb1.cell (p:=⟨w.heap.size,0,none⟩) (by simp;omega),((Below.refl _ (w.alloc (.cells #[.int .i64 c,.slice a n cap] 36))).alloc (Nat.le_refl _) _).cell (p:=⟨w.heap.size,0,none⟩) (by simp)];simp
 have p1:w1.cell? ⟨w.heap.size,1,none⟩=some (.slice a n cap):=by
  rw[hb1.cell (p:=⟨w.heap.size,1,none⟩) (by simp;omega),((Below.refl _ (w.alloc (.cells #[.int .i64 c,.slice a n cap] 36))).alloc (Nat.le_refl _) _).cell (p:=⟨w.heap.size,1,none⟩) (by simp)];simp
 have hrb:w1.heap[w.heap.size+1]? =some (.cells #[.int .i64 0,.slice none 0 0] 36 (0,0)):=by
  rw[hb1.block _ (by simp)]
  have:=heap_alloc_new (w.alloc (.cells #[.int .i64 c,.slice a n cap] 36)) (.cells #[.int .i64 0,.slice none 0 0] 36)
  simpa using this
 have HRB:=Lib.hid hrb
 clear hb1 hrb HB0 hgc
 go_wp2_with fail
 go_region_held3 (fun w'=>w'.cell? ⟨w.heap.size,0,none⟩=some (.int .i64 c)∧w'.cell? ⟨w.heap.size,1,none⟩=some (.slice a n cap))
  (first | go_keep)
  (first
    | (go_at_call 152
       refine(hup.out _).mono ?_
       rintro e w5 ⟨rfl,rfl⟩))
 all_goals
  first
  | (show Exit.then _ _ _ _ (World.drew (World.alloc (World.alloc w1 (.cells Z 92)) _))
     have ST:=Lib.hid (red_a (u:=u) B1.out z1 p0 p1 HRB.out HZ.out n64)
     generalize (World.alloc (World.alloc w1 (.cells Z 92)) (.cells #[.int .i64 u,.slice (some ⟨w1.heap.size,0,none⟩) n n] 36)).drew=w4 at ST⊢
     generalize w1.heap.size+1=No at ST⊢
     generalize w1.heap.size=G at ST⊢)
  | (have ST:=Lib.hid (red_b (u:=u) B1.out z1 p0 p1 HRB.out HZ.out n64)
     generalize (World.alloc (World.alloc w1 (.cells #[.int .i64 u,.slice (some ⟨w1.heap.size+1,0,none⟩) n n] 36)) (.cells Z 92)).drew=w4 at ST⊢
     generalize w1.heap.size+1=G at ST⊢
     generalize w1.heap.size=No at ST⊢)
 all_goals
  obtain⟨_,_,l0,l1,_⟩:=ST.out
  clear p0 p1 HRB B1 hup hmk HZ z1
  go_wp2_with fail
  go_loopw [5,21] (fun s5 i wr=>∃(k:Nat) (M:List (Int×Int)),k≤n∧i= .int .i64 k∧Hid (∀j,j<k→M.getD j (0,0)=(redL g l).getD j (0,0))∧Hid (RedSt w wr c u a n cap G No M)) (fun _ i _=>n - (intOf i).toNat)
  case atStart=>exact⟨0,_,Nat.zero_le _,rfl,fun j hj=>absurd hj (Nat.not_lt_zero j),ST⟩
  case round=>
   clear ST
   obtain⟨k,M,hk,rfl,hM,hst⟩:=hrel
   obtain⟨hrow,hlen,l0,l1,hrb,hmb,hne,hgl,hnl,hbel⟩:=hst.out
   have hml:M.length=n:=hlen
   by_cases hlt:k<n
   ·obtain⟨b,off,ea,hblt,c1,c2⟩:=(HL.out.below hbel) k (by rw[HN.out];exact hlt)
    have m1:wr.cell? ⟨No,1,none⟩=some (.slice (some ⟨G,0,none⟩) n n):=by rw[cell_of_row _ _ _ _ _ _ hmb];rfl
    have nz:No<wr.heap.size:=lt_of_some hmb
    obtain⟨gz,gc,gf⟩:G<wr.heap.size∧(∀j,j<n→wr.cell? ⟨G,j*2,none⟩=some (.int .i64 (M.getD j (0,0)).1)∧wr.cell? ⟨G,j*2+1,none⟩=some (.int .i64 (M.getD j (0,0)).2))∧∀o,wr.frozen? ⟨G,o,none⟩=false:=by
     have hl2:=hrow.lies
     obtain⟨a',cap',e,hl3,_⟩:=hl2
     injection e with e1 e2 e3
     refine⟨(World.ownsRow.lt hrow G rfl).2,fun j hj=> ?_, ?_⟩
     ·obtain⟨b',off',e4,_,d1,d2⟩:=hl3 j (by omega)
      rw[←e1]at e4
      injection e4 with e4
      injection e4 with e5 e6 _
      subst e5 e6
      rw[Nat.zero_add]at d1 d2
      exact⟨d1,d2⟩
     ·rcases hrow.2 with ⟨h',_⟩ | ⟨g',cap',cur,h',_,hh,_⟩
      ·cases h'
      ·injection h' with h1 _ _
       injection h1 with h1
       injection h1 with h1 _ _
       subst h1
       exact fun o=>frozen_of_row _ _ _ _ _ hh
    obtain⟨gc1,gc2⟩:=gc k hlt
    have bz:b<wr.heap.size:=by have:=hbel.size;omega
    have hkk:=HK.out k hlt
    have hg0:g≠0:=by omega
    have HM2:Hid (∀j,j<k+1→(M.set k ((l.getD k (0,0)).1,(l.getD k (0,0)).2.tdiv g)).getD j (0,0)=(redL g l).getD j (0,0)):=fun j hj=>by
     by_cases e:j=k
     ·subst e
      have hjl:j<l.length:=by rw[HN.out];exact hlt
      rw[List.getD_eq_getElem?_getD,List.getElem?_set_self (by omega),List.getD_eq_getElem?_getD,List.getD_eq_getElem?_getD,redL,List.getElem?_map,List.getElem?_eq_getElem hjl]
      rfl
     ·rw[List.getD_eq_getElem?_getD,List.getElem?_set_ne (fun h=>e h.symm),←List.getD_eq_getElem?_getD]
      exact hM.out j (by omega)
    have HS2:=Lib.hid (fun o=>hst.out.set o k (l.getD k (0,0)).1 ((l.getD k (0,0)).2.tdiv g))
    generalize (l.getD k (0,0)).1=V at c1 HM2 HS2 hkk
    generalize (l.getD k (0,0)).2=K at c2 HM2 HS2 hkk
    clear hrow hrb hmb hM hst hbel gc
    subst ea
    have tb:=heap_alloc_new wr (.cells #[.int .i64 V,.int .i64 K] 92)
    have hba:Below wr.heap.size wr (wr.alloc (.cells #[.int .i64 V,.int .i64 K] 92)):=(Below.refl _ wr).alloc (Nat.le_refl _) _
    have SA:Hid ((wr.alloc (.cells #[.int .i64 V,.int .i64 K] 92)).cell? ⟨No,1,none⟩=some (.slice (some ⟨G,0,none⟩) n n)∧(wr.alloc (.cells #[.int .i64 V,.int .i64 K] 92)).cell? ⟨wr.heap.size,0,none⟩=some (.int .i64 V)∧(wr.alloc (.cells #[.int .i64 V,.int .i64 K] 92)).cell? ⟨wr.heap.size,1,none⟩=some (.int .i64 K)):=
     ⟨(hba.cell (p:=⟨No,1,none⟩) nz).trans m1,by rw[cell_of_row _ _ _ _ _ _ tb];rfl,by rw[cell_of_row _ _ _ _ _ _ tb];rfl⟩
    have SE:Hid (∀x y,(((wr.setCell ⟨G,k*2,none⟩ x).setCell ⟨G,k*2+1,none⟩ y).alloc (.cells #[.int .i64 V,.int .i64 K] 92)).cell? ⟨No,1,none⟩=some (.slice (some ⟨G,0,none⟩) n n)∧(((wr.setCell ⟨G,k*2,none⟩ x).setCell ⟨G,k*2+1,none⟩ y).alloc (.cells #[.int .i64 V,.int .i64 K] 92)).cell? ⟨wr.heap.size,0,none⟩=some (.int .i64 V)∧(((wr.setCell ⟨G,k*2,none⟩ x).setCell ⟨G,k*2+1,none⟩ y).alloc (.cells #[.int .i64 V,.int .i64 K] 92)).cell? ⟨wr.heap.size,1,none⟩=some (.int .i64 K)):=fun x y=>by
     have hs:((wr.setCell ⟨G,k*2,none⟩ x).setCell ⟨G,k*2+1,none⟩ y).heap.size=wr.heap.size:=by rw[World.size_setCell,World.size_setCell]
     have tb2:=heap_alloc_new ((wr.setCell ⟨G,k*2,none⟩ x).setCell ⟨G,k*2+1,none⟩ y) (.cells #[.int .i64 V,.int .i64 K] 92)
     rw[hs]at tb2
     have hb2:Below ((wr.setCell ⟨G,k*2,none⟩ x).setCell ⟨G,k*2+1,none⟩ y).heap.size ((wr.setCell ⟨G,k*2,none⟩ x).setCell ⟨G,k*2+1,none⟩ y) (((wr.setCell ⟨G,k*2,none⟩ x).setCell ⟨G,k*2+1,none⟩ y).alloc (.cells #[.int .i64 V,.int .i64 K] 92)):=(Below.refl _ _).alloc (Nat.le_refl _) _
     refine⟨?_,by rw[cell_of_row _ _ _ _ _ _ tb2];rfl,by rw[cell_of_row _ _ _ _ _ _ tb2];rfl⟩
     rw[hb2.cell (p:=⟨No,1,none⟩) (by rw[hs];exact nz),World.cell?_setCell_other _ _ _ _ (by first | (simp;done) | (simp;omega)),World.cell?_setCell_other _ _ _ _ (by first | (simp;done) | (simp;omega))]
     exact m1
    have hwq:IntKind.i64.wrap (K.tdiv g)=K.tdiv g:=IntWalk.i64_in _ (by have:=tdiv_in (c:=K) (g:=g) (B:=1073741824) (by omega);omega)
    clear tb hba hkk
    go_wp2_with fail
    go_region_held3 (fun w'=>w'.cell? ⟨No,1,none⟩=some (.slice (some ⟨G,0,none⟩) n n)∧w'.cell? ⟨wr.heap.size,0,none⟩=some (.int .i64 V)∧w'.cell? ⟨wr.heap.size,1,none⟩=some (.int .i64 K))
     (first
       | exact SA.out
       | exact SE.out _ _
       | go_keep)
     (fail)
    go_wp2_with fail
    go_roundw
    case rel=>exact⟨k+1,_,by omega,by go_num,HM2,HS2.out _⟩
    case measure=>simp[intOf];omega
   ·have hMR:M=redL g l:=list_eq_of (by rw[hlen];unfold redL;rw[List.length_map,HN.out]) (fun i hi=>hM.out i (by omega))
    have m0:wr.cell? ⟨No,0,none⟩=some (.int .i64 u):=by rw[cell_of_row _ _ _ _ _ _ hmb];rfl
    have m1:wr.cell? ⟨No,1,none⟩=some (.slice (some ⟨G,0,none⟩) n n):=by rw[cell_of_row _ _ _ _ _ _ hmb];rfl
    have r0:wr.cell? ⟨w.heap.size+1,0,none⟩=some (.int .i64 0):=by rw[cell_of_row _ _ _ _ _ _ hrb];rfl
    have r1:wr.cell? ⟨w.heap.size+1,1,none⟩=some (.slice none 0 0):=by rw[cell_of_row _ _ _ _ _ _ hrb];rfl
    have rf:∀o,wr.frozen? ⟨w.heap.size+1,o,none⟩=false:=fun o=>frozen_of_row _ _ _ _ _ hrb
    obtain⟨e0,e1⟩:=res_cellsG wr (w.heap.size+1) (.int .i64 u) (.slice (some ⟨G,0,none⟩) n n) _ _ r0 r1
    have E9:=Lib.hid (And.intro e0 e1)
    have F9:Hid (Row w.heap.size (redL g l) (.slice (some ⟨G,0,none⟩) n n) ((wr.setCell ⟨w.heap.size+1,0,none⟩ (.int .i64 u)).setCell ⟨w.heap.size+1,1,none⟩ (.slice (some ⟨G,0,none⟩) n n))):=by
     rw[←hMR]
     have k1:wr.grownBy (wr.setCell ⟨w.heap.size+1,0,none⟩ (.int .i64 u)) (some (w.heap.size+1)):=⟨rfl,rfl,rfl,Nat.le_of_eq (World.size_setCell _ _ _).symm,fun q _ hq=>Below.heap_setCell _ _ _ _ (fun e=>hq (by rw[e]))⟩
     have k2:(wr.setCell ⟨w.heap.size+1,0,none⟩ (.int .i64 u)).grownBy ((wr.setCell ⟨w.heap.size+1,0,none⟩ (.int .i64 u)).setCell ⟨w.heap.size+1,1,none⟩ (.slice (some ⟨G,0,none⟩) n n)) (some (w.heap.size+1)):=⟨rfl,rfl,rfl,Nat.le_of_eq (World.size_setCell _ _ _).symm,fun q _ hq=>Below.heap_setCell _ _ _ _ (fun e=>hq (by rw[e]))⟩
     have hne2:(Value.slice (some ⟨G,0,none⟩) n n).ownBlock≠some (w.heap.size+1):=fun e=>by
      have e':some G=some (w.heap.size+1):=e
      injection e' with e';omega
     exact World.ownsRow.kept (World.ownsRow.kept hrow k1 (.inr hne2)) k2 (.inr hne2)
    have B9:=Lib.hid ((hbel.setCell (p:=⟨w.heap.size+1,0,none⟩) (Nat.le_succ _) (.int .i64 u)).setCell (p:=⟨w.heap.size+1,1,none⟩) (Nat.le_succ _) (.slice (some ⟨G,0,none⟩) n n))
    clear e0 e1 hrow hrb hmb hM hst hMR hbel l0 l1
    go_wp2_with fail
    clear r0 r1 rf m0 m1
    refine bodyPost_ret (v:= .agg #[.int .i64 u,.slice (some ⟨G,0,none⟩) n n]) ?_ rfl ⟨_,rfl,F9.out,B9.out⟩
    obtain⟨e0,e1⟩:=E9.out
    simp[results,Tryz.results128,go_sem,e0,e1]
end
section
theorem made_kids {n:Nat}{f:FT}(h:madeF (n+1) f=true):∀i,i<f.ks.length→madeF n (f.ks.getD i default)=true:=fun i hi=>by
 by_cases h0:f.kind=0∨f.kind=1
 ·rw[madeF_0 h0]at h
  simp at h
  rw[h.2]at hi
  cases hi
 ·by_cases h2:f.kind=2
  ·rw[madeF_2 h2]at h
   simp at h
   rw[h.2]at hi
   cases hi
  ·by_cases h4:f.kind=4
   ·rw[madeF_4 h4]at h
    simp only[Bool.and_eq_true,decide_eq_true_eq]at h
    obtain rfl:i=0:=by omega
    exact h.2.2.2
   ·by_cases h5:f.kind=5∨f.kind=6
    ·rw[madeF_5 h5]at h
     simp only[Bool.and_eq_true,decide_eq_true_eq]at h
     exact h.1 i hi
    ·rw[madeF_x ⟨h0,h2,h4,h5⟩]at h
     cases h
theorem made_pos {n:Nat}{f:FT}(h:madeF n f=true):1≤siz n f:=by
 cases n with
 | zero=>cases h
 | succ n=>exact siz_pos n f
theorem made_snd {n:Nat}{f:FT}(h:madeF (n+1) f=true)(h2:f.kind=2):snd f.c f.t=true∧f.ks.length=0:=by
 rw[madeF_2 h2]at h
 unfold canF at h
 simp only[Bool.and_eq_true,decide_eq_true_eq]at h
 exact⟨h.1.1,h.2⟩
theorem made_not {n:Nat}{f:FT}(h:madeF (n+1) f=true)(h4:f.kind=4):f.ks.length=1∧(f.ks.getD 0 default).kind=2:=by
 rw[madeF_4 h4]at h
 simp only[Bool.and_eq_true,decide_eq_true_eq]at h
 exact⟨h.2.1,h.2.2.1⟩
theorem made_kind {n:Nat}{f:FT}(h:madeF (n+1) f=true):f.kind=0∨f.kind=1∨f.kind=2∨f.kind=4∨f.kind=5∨f.kind=6:=by
 by_cases h0:f.kind=0∨f.kind=1
 ·omega
 ·by_cases h2:f.kind=2
  ·omega
  ·by_cases h4:f.kind=4
   ·omega
   ·by_cases h5:f.kind=5∨f.kind=6
    ·omega
    ·rw[madeF_x ⟨h0,h2,h4,h5⟩]at h
     cases h
def atN:List (Int×List (Int×Int))→Int×List (Int×Int)→Nat
 | [],_=>0
 | a :: am,x=>if a=x then 1 else if atN am x=0 then 0 else atN am x+1
theorem atN_le:∀(am:List (Int×List (Int×Int))) (x:Int×List (Int×Int)),atN am x≤am.length
 | [],_=>Nat.le_refl _
 | a :: am,x=>by
   have:=atN_le am x
   rw[atN,List.length_cons]
   split
   ·omega
   ·split<;>omega
theorem atN_snoc:∀(am:List (Int×List (Int×Int))) (x y:Int×List (Int×Int)),atN (am ++ [x]) y=if atN am y=0 then(if x=y then am.length+1 else 0) else atN am y
 | [],x,y=>by
   simp[atN]
 | a :: am,x,y=>by
   rw[List.cons_append,atN,atN_snoc am x y,atN,List.length_cons]
   by_cases h1:a=y
   ·simp[h1]
   ·by_cases h2:atN am y=0
    ·by_cases h3:x=y
     ·simp[h1,h2,h3]
     ·simp[h1,h2,h3]
    ·simp[h1,h2]
def addA (am:List (Int×List (Int×Int)))(x:Int×List (Int×Int)):List (Int×List (Int×Int)):=if atN am x=0 then am ++ [x] else am
theorem addA_len (am:List (Int×List (Int×Int)))(x:Int×List (Int×Int)):am.length≤(addA am x).length∧(addA am x).length≤am.length+1:=by
 unfold addA;split<;>simp
def gatF:Nat→FT→List (Int×List (Int×Int))→List (Int×List (Int×Int))
 | 0,_,am=>am
 | n+1,f,am=>if f.kind=2 then addA (f.ks.foldl (fun a k=>gatF n k a) am) (f.c,f.t) else f.ks.foldl (fun a k=>gatF n k a) am
def gatTo (n:Nat)(ks:List FT)(am:List (Int×List (Int×Int)))(i:Nat):List (Int×List (Int×Int)):=(ks.take i).foldl (fun a k=>gatF n k a) am
theorem gatTo_zero (n:Nat)(ks:List FT)(am:List (Int×List (Int×Int))):gatTo n ks am 0=am:=rfl
theorem gatTo_succ (n:Nat)(ks:List FT)(am:List (Int×List (Int×Int)))(i:Nat)(h:i<ks.length):gatTo n ks am (i+1)=gatF n (ks.getD i default) (gatTo n ks am i):=by
 unfold gatTo
 rw[List.take_succ_eq_append_getElem h,List.foldl_append]
 simp[List.getD_eq_getElem?_getD,h]
theorem gatTo_len (n:Nat)(f:FT)(am:List (Int×List (Int×Int))):gatF (n+1) f am=if f.kind=2 then addA (gatTo n f.ks am f.ks.length) (f.c,f.t) else gatTo n f.ks am f.ks.length:=by
 unfold gatTo;rw[List.take_length];rfl
theorem gatF_le:∀(n:Nat) (f:FT) (am:List (Int×List (Int×Int))),am.length≤(gatF n f am).length∧(gatF n f am).length≤am.length+siz n f
 | 0,f,am=>⟨Nat.le_refl _,by show am.length≤_;omega⟩
 | n+1,f,am=>by
   have hto:∀i,i≤f.ks.length→am.length≤(gatTo n f.ks am i).length∧(gatTo n f.ks am i).length≤am.length+sizTo n f.ks i:=fun i=>by
    induction i with
    | zero=>exact fun _=>⟨Nat.le_refl _,by show am.length≤_;omega⟩
    | succ i ih=>
      intro hi
      have h1:=ih (by omega)
      have h2:=gatF_le n (f.ks.getD i default) (gatTo n f.ks am i)
      rw[gatTo_succ n f.ks am i hi,sizTo_succ n f.ks i hi]
      omega
   have h:=hto f.ks.length (Nat.le_refl _)
   rw[gatTo_len,sizTo_len]
   split
   ·have:=addA_len (gatTo n f.ks am f.ks.length) (f.c,f.t)
    omega
   ·omega
theorem gatTo_le (n:Nat)(ks:List FT)(am:List (Int×List (Int×Int))):∀i,i≤ks.length→am.length≤(gatTo n ks am i).length∧(gatTo n ks am i).length≤am.length+sizTo n ks i
 | 0,_=>⟨Nat.le_refl _,by show am.length≤_;omega⟩
 | i+1,hi=>by
   have h1:=gatTo_le n ks am i (by omega)
   have h2:=gatF_le n (ks.getD i default) (gatTo n ks am i)
   rw[gatTo_succ n ks am i hi,sizTo_succ n ks i hi]
   omega
def joinL (v s:Int)(ls:List Int):List (List Int):=(ls.map fun l=>[-v,s*l]) ++ [v :: ls.map fun l=> -s*l]
def ownC (kind v:Int)(ls:List Int):List (List Int):=
 if kind=0 then[[v]] else if kind=1 then[[-v]] else if kind=5 then joinL v 1 ls else if kind=6 then joinL (-v) (-1) ls else[]
structure MkR where
 n:Nat
 cl:List (List Int)
 lit:Int
def mkF (am:List (Int×List (Int×Int))):Nat→FT→Nat→List (List Int)→MkR
 | 0,_,N,cl=>⟨N,cl,0⟩
 | n+1,f,N,cl=>
   if f.kind=2 then⟨N,cl,atN am (f.c,f.t)⟩
   else if f.kind=4 then⟨(mkF am n (f.ks.getD 0 default) N cl).n,(mkF am n (f.ks.getD 0 default) N cl).cl, -(mkF am n (f.ks.getD 0 default) N cl).lit⟩
   else
    let r:=f.ks.foldl (fun(a:Nat×List (List Int)×List Int) k=>((mkF am n k a.1 a.2.1).n,(mkF am n k a.1 a.2.1).cl,a.2.2 ++ [(mkF am n k a.1 a.2.1).lit])) (N,cl,[])
    ⟨r.1+1,r.2.1 ++ ownC f.kind (r.1+1:Nat) r.2.2,(r.1+1:Nat)⟩
def mkTo (am:List (Int×List (Int×Int)))(n:Nat)(ks:List FT)(N:Nat)(cl:List (List Int))(i:Nat):Nat×List (List Int)×List Int:=
 (ks.take i).foldl (fun(a:Nat×List (List Int)×List Int) k=>((mkF am n k a.1 a.2.1).n,(mkF am n k a.1 a.2.1).cl,a.2.2 ++ [(mkF am n k a.1 a.2.1).lit])) (N,cl,[])
theorem mkTo_succ (am:List (Int×List (Int×Int)))(n:Nat)(ks:List FT)(N:Nat)(cl:List (List Int))(i:Nat)(h:i<ks.length):
 mkTo am n ks N cl (i+1)=((mkF am n (ks.getD i default) (mkTo am n ks N cl i).1 (mkTo am n ks N cl i).2.1).n,(mkF am n (ks.getD i default) (mkTo am n ks N cl i).1 (mkTo am n ks N cl i).2.1).cl,(mkTo am n ks N cl i).2.2 ++ [(mkF am n (ks.getD i default) (mkTo am n ks N cl i).1 (mkTo am n ks N cl i).2.1).lit]):=by
 unfold mkTo
 rw[List.take_succ_eq_append_getElem h,List.foldl_append]
 simp[List.getD_eq_getElem?_getD,h]
theorem mkF_2 {am:List (Int×List (Int×Int))}{n:Nat}{f:FT}{N:Nat}{cl:List (List Int)}(h:f.kind=2):mkF am (n+1) f N cl=⟨N,cl,atN am (f.c,f.t)⟩:=by
 rw[mkF,if_pos h]
theorem mkF_4 {am:List (Int×List (Int×Int))}{n:Nat}{f:FT}{N:Nat}{cl:List (List Int)}(h:f.kind=4):mkF am (n+1) f N cl=⟨(mkF am n (f.ks.getD 0 default) N cl).n,(mkF am n (f.ks.getD 0 default) N cl).cl, -(mkF am n (f.ks.getD 0 default) N cl).lit⟩:=by
 rw[mkF,if_neg (by omega),if_pos h]
theorem mkF_x {am:List (Int×List (Int×Int))}{n:Nat}{f:FT}{N:Nat}{cl:List (List Int)}(h:f.kind≠2∧f.kind≠4):mkF am (n+1) f N cl=⟨(mkTo am n f.ks N cl f.ks.length).1+1,(mkTo am n f.ks N cl f.ks.length).2.1 ++ ownC f.kind ((mkTo am n f.ks N cl f.ks.length).1+1:Nat) (mkTo am n f.ks N cl f.ks.length).2.2,((mkTo am n f.ks N cl f.ks.length).1+1:Nat)⟩:=by
 rw[mkF,if_neg h.1,if_neg h.2]
 unfold mkTo
 rw[List.take_length]
structure Fits (A:Nat)(n0:Nat)(c0:List (List Int))(s d:Nat)(m:Nat)(cl:List (List Int)):Prop where
 n:n0≤m∧m≤n0+s
 c:c0.length≤cl.length∧cl.length+d≤c0.length+2*s
 l:∀c∈cl,c∈c0∨c.length≤s+2∧∀x∈c, -(A+n0+s:Int)≤x∧x≤A+n0+s
theorem ownC_len {kind v:Int}{ls:List Int}:(ownC kind v ls).length≤ls.length+1:=by
 unfold ownC joinL
 repeat (first | split | simp)
theorem ownC_in {kind v:Int}{ls:List Int}{m:Int}(hv: -m≤v∧v≤m)(hl:∀x∈ls, -m≤x∧x≤m):∀c∈ownC kind v ls,c.length≤ls.length+2∧∀x∈c, -m≤x∧x≤m:=fun c hc=>by
 have hj:∀u s:Int,(-m≤u∧u≤m)→(s=1∨s= -1)→∀c∈joinL u s ls,c.length≤ls.length+2∧∀x∈c, -m≤x∧x≤m:=fun u s hu hs c hc=>by
  unfold joinL at hc
  rcases List.mem_append.1 hc with hc | hc
  ·obtain⟨l,hl2,rfl⟩:=List.mem_map.1 hc
   have h1:=hl l hl2
   refine⟨by simp,fun x hx=> ?_⟩
   rcases List.mem_cons.1 hx with rfl | hx
   ·omega
   ·rw[List.mem_singleton]at hx
    subst hx
    rcases hs with rfl | rfl<;>omega
  ·rw[List.mem_singleton]at hc
   subst hc
   refine⟨by simp,fun x hx=> ?_⟩
   rcases List.mem_cons.1 hx with rfl | hx
   ·omega
   ·obtain⟨l,hl2,rfl⟩:=List.mem_map.1 hx
    have h1:=hl l hl2
    rcases hs with rfl | rfl<;>omega
 unfold ownC at hc
 split at hc
 ·rw[List.mem_singleton]at hc
  subst hc
  exact⟨by simp,fun x hx=>by rw[List.mem_singleton]at hx;subst hx;exact hv⟩
 ·split at hc
  ·rw[List.mem_singleton]at hc
   subst hc
   exact⟨by simp,fun x hx=>by rw[List.mem_singleton]at hx;subst hx;omega⟩
  ·split at hc
   ·exact hj v 1 hv (.inl rfl) c hc
   ·split at hc
    ·exact hj (-v) (-1) (by omega) (.inr rfl) c hc
    ·cases hc
theorem mkF_fits (am:List (Int×List (Int×Int))):∀(n:Nat) (f:FT) (N:Nat) (cl:List (List Int)),madeF n f=true→
 Fits am.length N cl (siz n f) 1 (mkF am n f N cl).n (mkF am n f N cl).cl∧(-(am.length+N+siz n f:Int)≤(mkF am n f N cl).lit∧(mkF am n f N cl).lit≤am.length+N+siz n f)
 | 0,f,N,cl,hm=>by cases hm
 | n+1,f,N,cl,hm=>by
   have hmk:=made_kids hm
   by_cases h2:f.kind=2
   ·rw[mkF_2 h2]
    have:=atN_le am (f.c,f.t)
    have hp:=siz_pos n f
    exact⟨⟨⟨Nat.le_refl _,Nat.le_add_right _ _⟩,⟨Nat.le_refl _,by show cl.length+1≤_;omega⟩,fun c hc=> .inl hc⟩,by show _≤((atN am (f.c,f.t):Nat):Int)∧((atN am (f.c,f.t):Nat):Int)≤_;omega⟩
   ·have hto:∀i,i≤f.ks.length→Fits am.length N cl (sizTo n f.ks i) i (mkTo am n f.ks N cl i).1 (mkTo am n f.ks N cl i).2.1∧(mkTo am n f.ks N cl i).2.2.length=i∧∀x∈(mkTo am n f.ks N cl i).2.2, -(am.length+N+sizTo n f.ks i:Int)≤x∧x≤am.length+N+sizTo n f.ks i:=fun i=>by
     induction i with
     | zero=>exact fun _=>⟨⟨⟨Nat.le_refl _,Nat.le_add_right _ _⟩,⟨Nat.le_refl _,Nat.le_add_right _ _⟩,fun c hc=> .inl hc⟩,rfl,fun x hx=>by cases hx⟩
     | succ i ih=>
       intro hi
       obtain⟨⟨a1,a2,a3⟩,a4,a5⟩:=ih (by omega)
       obtain⟨⟨b1,b2,b3⟩,b4⟩:=mkF_fits am n (f.ks.getD i default) (mkTo am n f.ks N cl i).1 (mkTo am n f.ks N cl i).2.1 (hmk i hi)
       rw[mkTo_succ am n f.ks N cl i hi,sizTo_succ n f.ks i hi]
       generalize mkTo am n f.ks N cl i=p at*
       generalize mkF am n (f.ks.getD i default) p.1 p.2.1=q at*
       generalize siz n (f.ks.getD i default)=s at*
       generalize sizTo n f.ks i=t at*
       refine⟨⟨by show N≤q.n∧q.n≤_;omega,by show _≤q.cl.length∧q.cl.length+_≤_;omega,fun c hc=> ?_⟩,by simp[a4],fun x hx=> ?_⟩
       ·rcases b3 c hc with h | ⟨h,h'⟩
        ·rcases a3 c h with h | ⟨h,h'⟩
         ·exact .inl h
         ·exact .inr ⟨by omega,fun x hx=>by have:=h' x hx;omega⟩
        ·exact .inr ⟨by omega,fun x hx=>by have:=h' x hx;omega⟩
       ·rcases List.mem_append.1 hx with hx | hx
        ·have:=a5 x hx;omega
        ·rw[List.mem_singleton]at hx
         subst hx
         omega
    obtain⟨⟨a1,a2,a3⟩,a4,a5⟩:=hto f.ks.length (Nat.le_refl _)
    have hs:=sizTo_len n f
    by_cases h4:f.kind=4
    ·have hk:=(made_not hm h4).1
     obtain⟨⟨b1,b2,b3⟩,b4⟩:=mkF_fits am n (f.ks.getD 0 default) N cl (hmk 0 (by omega))
     have h0:siz n (f.ks.getD 0 default)≤siz (n+1) f:=by
      have e:=sizTo_succ n f.ks 0 (by omega)
      have m:=sizTo_mono n f.ks (i:=1) (j:=f.ks.length) (by omega)
      rw[sizTo_zero]at e
      rw[show(0:Nat)+1=1 from rfl]at e
      omega
     rw[mkF_4 h4]
     generalize mkF am n (f.ks.getD 0 default) N cl=q at*
     generalize siz n (f.ks.getD 0 default)=s at*
     refine⟨⟨by show N≤q.n∧q.n≤_;omega,by show _≤q.cl.length∧q.cl.length+_≤_;omega,fun c hc=> ?_⟩,by show _≤ -q.lit∧ -q.lit≤_;omega⟩
     rcases b3 c hc with h | ⟨h,h'⟩
     ·exact .inl h
     ·exact .inr ⟨by omega,fun x hx=>by have:=h' x hx;omega⟩
    ·rw[mkF_x ⟨h2,h4⟩,hs]
     have hln:f.ks.length≤sizTo n f.ks f.ks.length:=by
      have:∀i,i≤f.ks.length→i≤sizTo n f.ks i:=fun i=>by
       induction i with
       | zero=>exact fun _=>Nat.zero_le _
       | succ i ih=>
         intro hi
         have h1:=ih (by omega)
         have h2:=made_pos (hmk i hi)
         rw[sizTo_succ n f.ks i hi]
         omega
      exact this _ (Nat.le_refl _)
     generalize mkTo am n f.ks N cl f.ks.length=p at*
     generalize sizTo n f.ks f.ks.length=t at*
     have ho:=ownC_len (kind:=f.kind) (v:=(p.1+1:Nat)) (ls:=p.2.2)
     have hi:=ownC_in (kind:=f.kind) (v:=(p.1+1:Nat)) (ls:=p.2.2) (m:=am.length+N+(1+t)) (by omega) (fun x hx=>by have:=a5 x hx;omega)
     refine⟨⟨by show N≤p.1+1∧p.1+1≤_;omega,by show _≤(p.2.1 ++ _).length∧(p.2.1 ++ _).length+1≤_;rw[List.length_append];omega,fun c hc=> ?_⟩,by show _≤((p.1+1:Nat):Int)∧((p.1+1:Nat):Int)≤_;omega⟩
     rcases List.mem_append.1 hc with hc | hc
     ·rcases a3 c hc with h | ⟨h,h'⟩
      ·exact .inl h
      ·exact .inr ⟨by omega,fun x hx=>by have:=h' x hx;omega⟩
     ·have:=hi c hc
      exact .inr ⟨by omega,fun x hx=>by have:=this.2 x hx;omega⟩
theorem mkTo_fits (am:List (Int×List (Int×Int)))(n:Nat)(ks:List FT)(N:Nat)(cl:List (List Int))(hmk:∀i,i<ks.length→madeF n (ks.getD i default)=true):∀i,i≤ks.length→Fits am.length N cl (sizTo n ks i) i (mkTo am n ks N cl i).1 (mkTo am n ks N cl i).2.1∧(mkTo am n ks N cl i).2.2.length=i∧∀x∈(mkTo am n ks N cl i).2.2, -(am.length+N+sizTo n ks i:Int)≤x∧x≤am.length+N+sizTo n ks i:=fun i=>by
 induction i with
 | zero=>exact fun _=>⟨⟨⟨Nat.le_refl _,Nat.le_add_right _ _⟩,⟨Nat.le_refl _,Nat.le_add_right _ _⟩,fun c hc=> .inl hc⟩,rfl,fun x hx=>by cases hx⟩
 | succ i ih=>
   intro hi
   obtain⟨⟨a1,a2,a3⟩,a4,a5⟩:=ih (by omega)
   obtain⟨⟨b1,b2,b3⟩,b4⟩:=mkF_fits am n (ks.getD i default) (mkTo am n ks N cl i).1 (mkTo am n ks N cl i).2.1 (hmk i hi)
   rw[mkTo_succ am n ks N cl i hi,sizTo_succ n ks i hi]
   generalize mkTo am n ks N cl i=p at*
   generalize mkF am n (ks.getD i default) p.1 p.2.1=q at*
   generalize siz n (ks.getD i default)=s at*
   generalize sizTo n ks i=t at*
   refine⟨⟨by show N≤q.n∧q.n≤_;omega,by show _≤q.cl.length∧q.cl.length+_≤_;omega,fun c hc=> ?_⟩,by simp[a4],fun x hx=> ?_⟩
   ·rcases b3 c hc with h | ⟨h,h'⟩
    ·rcases a3 c h with h | ⟨h,h'⟩
     ·exact .inl h
     ·exact .inr ⟨by omega,fun x hx=>by have:=h' x hx;omega⟩
    ·exact .inr ⟨by omega,fun x hx=>by have:=h' x hx;omega⟩
   ·rcases List.mem_append.1 hx with hx | hx
    ·have:=a5 x hx;omega
    ·rw[List.mem_singleton]at hx
     subst hx
     omega
theorem len_siz (n:Nat)(ks:List FT)(hmk:∀i,i<ks.length→madeF n (ks.getD i default)=true):∀i,i≤ks.length→i≤sizTo n ks i:=fun i=>by
 induction i with
 | zero=>exact fun _=>Nat.zero_le _
 | succ i ih=>
   intro hi
   have h1:=ih (by omega)
   have h2:=made_pos (hmk i hi)
   rw[sizTo_succ n ks i hi]
   omega
end
section
open Go.RowKit Go.Maps
theorem Tryz.lawStr:Keyed Tryz.prog 9:=string_keyed Tryz.underlying9
theorem Tryz.zeroInt (w:World):(zeroValue 3).run Tryz.prog w= .ok (.int .i64 0) w:=by kernel_rfl
structure Places (am:List (Int×List (Int×Int)))(mp:Nat)(w:World):Prop where
 ex:∃D:DataW Unit,w.ownsMap Tryz.prog 9 (plainElem Tryz.prog 3) mp am.length D∧∀c t,D.atKey (.string (textL c t)) (.lit (.int .i64 0))= .lit (.int .i64 (atN am (c,t)))
theorem Places.made (w:World):Places [] w.heap.size (w.alloc (.map #[] 0)):=⟨.map [],World.ownsMap_made _ _ _ _,fun c t=>rfl⟩
theorem Places.keep {am:List (Int×List (Int×Int))}{mp:Nat}{w w':World}(h:Places am mp w)(hk:w'.heap[mp]? =w.heap[mp]?):Places am mp w':=by
 obtain⟨D,⟨es,clock,hb,F,hs,hD⟩,h2⟩:=h.ex
 exact⟨D,⟨es,clock,hk.trans hb,F,hs,hD⟩,h2⟩
theorem key_of {c:Int}{t:List (Int×Int)}(hs:(textL c t).length≤4000):keyOf Tryz.prog 9 (.string ⟨(textL c t).toArray⟩)=some (.string (textL c t)):=by
 have:=Go.WideMaps.keyOf_string_mk (P:=Tryz.prog) Tryz.underlying9 (s:=⟨(textL c t).toArray⟩) (by show(textL c t).toArray.size≤_;rw[List.size_toArray];unfold maxLen;omega)
 simpa using this
theorem Places.look {am:List (Int×List (Int×Int))}{mp:Nat}{w:World}(h:Places am mp w){c:Int}{t:List (Int×Int)}(hs:(textL c t).length≤4000):
 (Instr.lookup 108 (.map (some mp)) (.string ⟨(textL c t).toArray⟩) false).run Tryz.prog w= .ok (.int .i64 (atN am (c,t))) w:=by
 obtain⟨D,h1,h2⟩:=h.ex
 obtain⟨x,hr,hx,_⟩:=h1.lookup_int Tryz.lawStr Tryz.underlying108 Tryz.underlying3 (Tryz.zeroInt _) (key_of hs)
 rw[h2]at hx
 injection hx with hx
 injection hx with _ hx
 rw[hr,hx]
theorem Places.put {am:List (Int×List (Int×Int))}{mp:Nat}{w:World}(h:Places am mp w){c:Int}{t:List (Int×Int)}(hs:(textL c t).length≤4000)(hn:am.length≤1000000)(h0:atN am (c,t)=0):
 ∃w',(Instr.mapUpdate 108 (.map (some mp)) (.string ⟨(textL c t).toArray⟩) (.int .i64 (am.length+1:Nat))).run Tryz.prog w= .ok () w'∧Places (am ++ [(c,t)]) mp w'∧w.grownBy w' (some mp):=by
 obtain⟨D,h1,h2⟩:=h.ex
 obtain⟨w',hr,h3,h4⟩:=h1.update Tryz.lawStr Tryz.underlying108 (by unfold maxLen;omega) (key_of hs) (plainElem_int Tryz.underlying3 (a:=((am.length+1:Nat):Int)) (WalkArith.wf_i64 (by omega)))
 refine⟨w',hr,⟨_,by rw[List.length_append];exact h3,fun c' t'=> ?_⟩,h4⟩
 rw[atN_snoc]
 by_cases e:(c,t)=(c',t')
 ·obtain⟨rfl,rfl⟩:c=c'∧t=t':=by injection e with e1 e2;exact⟨e1,e2⟩
  rw[if_pos h0,if_pos rfl]
  exact atKey_put_same h1.isMap (by exact trivial) _ _
 ·rw[atKey_put_other (fun h=>by
   injection h with h
   obtain⟨h5,h6⟩:=textL_inj h
   exact e (by rw[h5,h6])) _ _,h2]
  by_cases h5:atN am (c',t')=0
  ·rw[if_pos h5,if_neg e,h5]
  ·rw[if_neg h5]
end
end Go.Proofs.YtipahfcaplbifaaGreatDoor
