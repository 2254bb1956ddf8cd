/- Parts of a proof. -/
import Derived.Test.YtipahfcaplbifaaGreatDoorQ02
import Derived.Test.YtipahfcaplbifaaGreatDoorQ06
import Derived.Test.YtipahfcaplbifaaGreatDoorQ09
import Derived.Test.YtipahfcaplbifaaGreatDoorQ15
import Derived.Test.YtipahfcaplbifaaGreatDoorQ19
import Derived.Test.YtipahfcaplbifaaGreatDoorQ20
import Derived.Test.YtipahfcaplbifaaGreatDoorQ21
import Derived.Test.YtipahfcaplbifaaGreatDoorQ23
import Derived.Lib.SmallJoins
import Derived.ProofKit
import Derived.Deep.RegionLaw
import Derived.Maps.Range
set_option linter.unusedVariables false
set_option linter.unusedSimpArgs false
set_option maxHeartbeats 60000000
set_option maxRecDepth 100000
namespace Go.Proofs.YtipahfcaplbifaaGreatDoor
section
open Go.RowKit
def isF (n:Nat)(f:FT):Bool:=decide (dep n f≤128) && (decide (siz n f≤20480) && madeF n f)
theorem nis_any (n:Nat)(f:FT)(cs:List Value)(w:World)(h:FLies w.heap.size w n f cs):
 Calls Tryz.prog 52 #[.agg cs.toArray] w fun e w'=>e= .returned (.bool (isF n f))∧Below w.heap.size w w':=by
 have FL:=fun W (hb:Below w.heap.size w W)=>(h.below hb).mono hb.size
 cases n with
 | zero=>exact h.elim
 | succ n=>
   obtain⟨ta,tcap,ka,kcap,rfl,_⟩:=h
   have hd:=Lib.hid (fun W hb=>ndeeper_any (n+1) f _ 128 W (by omega) (by omega) (FL W hb))
   have hc:=Lib.hid (fun W hb=>ncount_any (n+1) f _ 20480 W (by omega) (by omega) (FL W hb))
   have hm:=Lib.hid (fun W hb=>made_any (n+1) f _ W (FL W hb))
   have T0:=Lib.hid (box_start w f.kind f.c ta ka f.t.length tcap f.ks.length kcap)
   unfold isF
   clear FL
   generalize dep (n+1) f=d at hd
   generalize siz (n+1) f=s at hc
   generalize madeF (n+1) f=b at hm
   generalize f.kind=fk at T0 hd hc hm
   generalize f.c=fc at T0 hd hc hm
   generalize f.t.length=ft at T0 hd hc hm
   generalize f.ks.length=fl at T0 hd hc hm
   by_cases h1:d≤128
   ·have e1:decide ((128:Int)<(d:Int))=false:=by simp;omega
    rw[e1]at hd
    rw[decide_eq_true h1,Bool.true_and]
    by_cases h2:s≤20480
    ·have e2:cnt s 20480=s:=by unfold cnt;rw[if_pos (by omega)]
     rw[e2]at hc
     rw[decide_eq_true h2,Bool.true_and]
     have h2':(s:Int)≤20480:=by omega
     go_enter Tryz.func52,Tryz.ntmps52
     go_wp2_with fail
     refine(hd.out _ T0.out.bel).mono ?_
     rintro e w1 ⟨rfl,hb1⟩
     have T1:=Lib.hid (T0.out.below hb1 T0.out.lt)
     clear hb1
     obtain⟨l1,p0,p1,p2,p3,_⟩:=T1.out
     go_wp2_with fail
     refine(hc.out _ T1.out.bel).mono ?_
     rintro e w2 ⟨rfl,hb2⟩
     have T2:=Lib.hid (T1.out.below hb2 T1.out.lt)
     clear hb2 l1 p0 p1 p2 p3
     obtain⟨l2,p0,p1,p2,p3,_⟩:=T2.out
     go_wp2_with fail
     refine(hm.out _ T2.out.bel).mono ?_
     rintro e w3 ⟨rfl,hb3⟩
     have T3:=Lib.hid (T2.out.below hb3 T2.out.lt)
     clear hb3 l2 p0 p1 p2 p3
     cases b
     all_goals
      go_wp2_with fail
      go_ret
      exact⟨rfl,T3.out.bel⟩
    ·have e2:cnt s 20480=20481:=by unfold cnt;rw[if_neg (by omega)];rfl
     rw[e2]at hc
     rw[decide_eq_false h2,Bool.false_and]
     clear hm
     go_enter Tryz.func52,Tryz.ntmps52
     go_wp2_with fail
     refine(hd.out _ T0.out.bel).mono ?_
     rintro e w1 ⟨rfl,hb1⟩
     have T1:=Lib.hid (T0.out.below hb1 T0.out.lt)
     clear hb1
     obtain⟨l1,p0,p1,p2,p3,_⟩:=T1.out
     go_wp2_with fail
     refine(hc.out _ T1.out.bel).mono ?_
     rintro e w2 ⟨rfl,hb2⟩
     have T2:=Lib.hid (T1.out.below hb2 T1.out.lt)
     clear hb2 l1 p0 p1 p2 p3
     go_wp2_with fail
     go_ret
     exact⟨rfl,T2.out.bel⟩
   ·have e1:decide ((128:Int)<(d:Int))=true:=by simp;omega
    rw[e1]at hd
    rw[decide_eq_false h1,Bool.false_and]
    clear hm hc
    go_enter Tryz.func52,Tryz.ntmps52
    go_wp2_with fail
    refine(hd.out _ T0.out.bel).mono ?_
    rintro e w1 ⟨rfl,hb1⟩
    have T1:=Lib.hid (T0.out.below hb1 T0.out.lt)
    clear hb1
    go_wp2_with fail
    go_ret
    exact⟨rfl,T1.out.bel⟩
theorem rnis_any (n:Nat)(f:FT)(cs:List Value)(w:World)(h:FLies w.heap.size w n f cs):
 Calls Tryz.prog 62 #[.agg cs.toArray] w fun e w'=>e= .returned (.bool (isF n f))∧Below w.heap.size w w':=by
 have FL:=fun W (hb:Below w.heap.size w W)=>(h.below hb).mono hb.size
 cases n with
 | zero=>exact h.elim
 | succ n=>
   obtain⟨ta,tcap,ka,kcap,rfl,_⟩:=h
   have hd:=Lib.hid (fun W hb=>rdepth_any (n+1) f _ 128 W (by omega) (by omega) (FL W hb))
   have hc:=Lib.hid (fun W hb=>rsize_any (n+1) f _ 20480 W (by omega) (by omega) (FL W hb))
   have hm:=Lib.hid (fun W hb=>only_any (n+1) f _ W (FL W hb))
   have T0:=Lib.hid (box_start w f.kind f.c ta ka f.t.length tcap f.ks.length kcap)
   unfold isF
   clear FL
   generalize dep (n+1) f=d at hd
   generalize siz (n+1) f=s at hc
   generalize madeF (n+1) f=b at hm
   generalize f.kind=fk at T0 hd hc hm
   generalize f.c=fc at T0 hd hc hm
   generalize f.t.length=ft at T0 hd hc hm
   generalize f.ks.length=fl at T0 hd hc hm
   by_cases h1:d≤128
   ·have e1:cnt d 128=d:=by unfold cnt;rw[if_pos (by omega)]
    rw[e1]at hd
    rw[decide_eq_true h1,Bool.true_and]
    have h1':(d:Int)≤128:=by omega
    by_cases h2:s≤20480
    ·have e2:szV s 20480=20480 - s:=by unfold szV;rw[if_pos (by omega)]
     rw[e2]at hc
     rw[decide_eq_true h2,Bool.true_and]
     have h2':(0:Int)≤20480 - s:=by omega
     generalize (20480:Int) - s=z at hc h2'
     go_enter Tryz.func62,Tryz.ntmps62
     go_wp2_with fail
     refine(hd.out _ T0.out.bel).mono ?_
     rintro e w1 ⟨rfl,hb1⟩
     have T1:=Lib.hid (T0.out.below hb1 T0.out.lt)
     clear hb1
     obtain⟨l1,p0,p1,p2,p3,_⟩:=T1.out
     go_wp2_with fail
     refine(hc.out _ T1.out.bel).mono ?_
     rintro e w2 ⟨rfl,hb2⟩
     have T2:=Lib.hid (T1.out.below hb2 T1.out.lt)
     clear hb2 l1 p0 p1 p2 p3
     obtain⟨l2,p0,p1,p2,p3,_⟩:=T2.out
     go_wp2_with fail
     refine(hm.out _ T2.out.bel).mono ?_
     rintro e w3 ⟨rfl,hb3⟩
     have T3:=Lib.hid (T2.out.below hb3 T2.out.lt)
     clear hb3 l2 p0 p1 p2 p3
     cases b
     all_goals
      go_wp2_with fail
      go_ret
      exact⟨rfl,T3.out.bel⟩
    ·have e2:szV s 20480= -1:=by unfold szV;rw[if_neg (by omega)]
     rw[e2]at hc
     rw[decide_eq_false h2,Bool.false_and]
     clear hm
     go_enter Tryz.func62,Tryz.ntmps62
     go_wp2_with fail
     refine(hd.out _ T0.out.bel).mono ?_
     rintro e w1 ⟨rfl,hb1⟩
     have T1:=Lib.hid (T0.out.below hb1 T0.out.lt)
     clear hb1
     obtain⟨l1,p0,p1,p2,p3,_⟩:=T1.out
     go_wp2_with fail
     refine(hc.out _ T1.out.bel).mono ?_
     rintro e w2 ⟨rfl,hb2⟩
     have T2:=Lib.hid (T1.out.below hb2 T1.out.lt)
     clear hb2 l1 p0 p1 p2 p3
     go_wp2_with fail
     go_ret
     exact⟨rfl,T2.out.bel⟩
   ·have e1:cnt d 128=129:=by unfold cnt;rw[if_neg (by omega)];rfl
    rw[e1]at hd
    rw[decide_eq_false h1,Bool.false_and]
    clear hm hc
    go_enter Tryz.func62,Tryz.ntmps62
    go_wp2_with fail
    refine(hd.out _ T0.out.bel).mono ?_
    rintro e w1 ⟨rfl,hb1⟩
    have T1:=Lib.hid (T0.out.below hb1 T0.out.lt)
    clear hb1
    go_wp2_with fail
    go_ret
    exact⟨rfl,T1.out.bel⟩
end
section
open Go.RowKit
theorem gAt_pos {c:Int}{l:List (Int×Int)}(hs:snd c l=true):∀n,0<n→n≤l.length→1≤gAt l n
 | 0,h,_=>by omega
 | n+1,_,h=>by
   have hk:=(okAt_in ((snd_iff.1 hs).2.2 n (by omega))).2.1
   have:0<Nat.gcd (gAt l n).natAbs (l.getD n (0,0)).2.natAbs:=Nat.gcd_pos_of_pos_right _ (by omega)
   show 1≤((Nat.gcd (gAt l n).natAbs (l.getD n (0,0)).2.natAbs:Nat):Int)
   omega
theorem redL_get (g:Int)(l:List (Int×Int))(k:Nat)(h:k<l.length):(redL g l).getD k (0,0)=((l.getD k (0,0)).1,(l.getD k (0,0)).2.tdiv g):=by
 unfold redL
 simp[List.getD_eq_getElem?_getD,h]
structure FB (W:World)(M:Nat):Prop where
 r0:W.cell? ⟨M,0,none⟩=some (.int .i64 0)
 r1:W.cell? ⟨M,1,none⟩=some (.int .i64 0)
 r2:W.cell? ⟨M,2,none⟩=some (.slice none 0 0)
 r3:W.cell? ⟨M,3,none⟩=some (.slice none 0 0)
 fz:∀o,W.frozen? ⟨M,o,none⟩=false
theorem FB.below {W W':World}{M B:Nat}(h:FB W M)(hb:Below B W W')(hM:M<B):FB W' M:=
 ⟨(hb.cell (p:=⟨M,0,none⟩) hM).trans h.r0,(hb.cell (p:=⟨M,1,none⟩) hM).trans h.r1,(hb.cell (p:=⟨M,2,none⟩) hM).trans h.r2,(hb.cell (p:=⟨M,3,none⟩) hM).trans h.r3,fun o=>(hb.frozen (p:=⟨M,o,none⟩) hM).trans (h.fz o)⟩
theorem fb_new (W:World)(N:Nat)(hN:W.heap.size=N):FB (W.alloc (.cells #[.int .i64 0,.int .i64 0,.slice none 0 0,.slice none 0 0] 39)) N:=by
 subst hN
 have hb:=heap_alloc_new W (.cells #[.int .i64 0,.int .i64 0,.slice none 0 0,.slice none 0 0] 39)
 exact⟨by rw[cell_of_row _ _ _ _ _ _ hb];rfl,by rw[cell_of_row _ _ _ _ _ _ hb];rfl,by rw[cell_of_row _ _ _ _ _ _ hb];rfl,by rw[cell_of_row _ _ _ _ _ _ hb];rfl,fun o=>frozen_of_row _ _ _ _ _ hb⟩
theorem res4 {W:World}{No:Nat}(h:FB W No)(x0 x1 x2 x3:Value):
 let W':=(((W.setCell ⟨No,0,none⟩ x0).setCell ⟨No,1,none⟩ x1).setCell ⟨No,2,none⟩ x2).setCell ⟨No,3,none⟩ x3
 W'.cell? ⟨No,0,none⟩=some x0∧W'.cell? ⟨No,1,none⟩=some x1∧W'.cell? ⟨No,2,none⟩=some x2∧W'.cell? ⟨No,3,none⟩=some x3:=by
 refine⟨?_, ?_, ?_, ?_⟩
 ·rw[World.cell?_setCell_other _ _ _ _ (by simp),World.cell?_setCell_other _ _ _ _ (by simp),World.cell?_setCell_other _ _ _ _ (by simp)]
  exact World.cell?_setCell_same _ _ _ h.r0
 ·rw[World.cell?_setCell_other _ _ _ _ (by simp),World.cell?_setCell_other _ _ _ _ (by simp)]
  refine World.cell?_setCell_same _ _ _ (u:= .int .i64 0) ?_
  rw[World.cell?_setCell_other _ _ _ _ (by simp)];exact h.r1
 ·rw[World.cell?_setCell_other _ _ _ _ (by simp)]
  refine World.cell?_setCell_same _ _ _ (u:= .slice none 0 0) ?_
  rw[World.cell?_setCell_other _ _ _ _ (by simp),World.cell?_setCell_other _ _ _ _ (by simp)];exact h.r2
 ·refine World.cell?_setCell_same _ _ _ (u:= .slice none 0 0) ?_
  rw[World.cell?_setCell_other _ _ _ _ (by simp),World.cell?_setCell_other _ _ _ _ (by simp),World.cell?_setCell_other _ _ _ _ (by simp)];exact h.r3
theorem Row.set4 {B:Nat}{l:List (Int×Int)}{v:Value}{W:World}(h:Row B l v W)(No:Nat)(hne:v.ownBlock≠some No)(x0 x1 x2 x3:Value):
 Row B l v ((((W.setCell ⟨No,0,none⟩ x0).setCell ⟨No,1,none⟩ x1).setCell ⟨No,2,none⟩ x2).setCell ⟨No,3,none⟩ x3):=by
 have k:∀(W:World) (o:Nat) (x:Value),W.grownBy (W.setCell ⟨No,o,none⟩ x) (some No):=fun W o x=>⟨rfl,rfl,rfl,Nat.le_of_eq (World.size_setCell _ _ _).symm,fun q _ hq=>Below.heap_setCell _ _ _ _ (fun e=>hq (by rw[e]))⟩
 exact World.ownsRow.kept (World.ownsRow.kept (World.ownsRow.kept (World.ownsRow.kept h (k _ _ _) (.inr hne)) (k _ _ _) (.inr hne)) (k _ _ _) (.inr hne)) (k _ _ _) (.inr hne)
theorem below4 {w W:World}{B No:Nat}(h:Below B w W)(hB:B≤No)(x0 x1 x2 x3:Value):Below B w ((((W.setCell ⟨No,0,none⟩ x0).setCell ⟨No,1,none⟩ x1).setCell ⟨No,2,none⟩ x2).setCell ⟨No,3,none⟩ x3):=
 (((h.setCell (p:=⟨No,0,none⟩) hB _).setCell (p:=⟨No,1,none⟩) hB _).setCell (p:=⟨No,2,none⟩) hB _).setCell (p:=⟨No,3,none⟩) hB _
theorem Row.monoG {B B':Nat}{l:List (Int×Int)}{v:Value}{w:World}(h:Row B l v w)(hB:B'≤B):Row B' l v w:=Joins.ownsRow_le h hB
theorem literal_pos (c:Int)(a:Option Addr)(n cap:Nat)(l:List (Int×Int))(w:World)(hn:l.length=n)(hl:Lies w.heap.size w a l)(hs:snd c l=true)(h0:0<n)(hp:0<(l.getD 0 (0,0)).2.tdiv (gAt l n)):
 Calls Tryz.prog 111 #[.agg #[.int .i64 c,.slice a n cap]] w fun e w'=>∃v,e= .returned (.tuple #[.agg #[.int .i64 2,.int .i64 (upI c (gAt l n)),v,.slice none 0 0],.nilIface])∧Row w.heap.size (redL (gAt l n) l) v w'∧Below w.heap.size w w':=by
 have hg1:=gAt_pos hs n h0 (by omega)
 have n64:n≤64:=by have:=(snd_iff.1 hs).2.1;omega
 have HCK:=Lib.hid (fun W (hb:Below w.heap.size w W)=>check_yes c a n cap l W hn ((hl.below hb).mono hb.size) hs)
 have HRE:=Lib.hid (fun W (hb:Below w.heap.size w W)=>reduced_any c a n cap l W hn ((hl.below hb).mono hb.size) hs h0 hg1)
 have hlen:(redL (gAt l n) l).length=n:=by unfold redL;rw[List.length_map,hn]
 have hget:=redL_get (gAt l n) l 0 (by omega)
 have hb1:Below w.heap.size w (w.alloc (.cells #[.int .i64 c,.slice a n cap] 36)):=(Below.refl _ w).alloc (Nat.le_refl _) _
 have B0:Hid (Below w.heap.size w ((w.alloc (.cells #[.int .i64 c,.slice a n cap] 36)).alloc (.cells #[.int .i64 0,.int .i64 0,.slice none 0 0,.slice none 0 0] 39))):=hb1.alloc hb1.size _
 have F0:=Lib.hid (fb_new (w.alloc (.cells #[.int .i64 c,.slice a n cap] 36)) (w.heap.size+1) (by simp))
 have L0:Hid (((w.alloc (.cells #[.int .i64 c,.slice a n cap] 36)).alloc (.cells #[.int .i64 0,.int .i64 0,.slice none 0 0,.slice none 0 0] 39)).cell? ⟨w.heap.size,0,none⟩=some (.int .i64 c)∧((w.alloc (.cells #[.int .i64 c,.slice a n cap] 36)).alloc (.cells #[.int .i64 0,.int .i64 0,.slice none 0 0,.slice none 0 0] 39)).cell? ⟨w.heap.size,1,none⟩=some (.slice a n cap)):=by
  have hb2:=(Below.refl (w.alloc (.cells #[.int .i64 c,.slice a n cap] 36)).heap.size (w.alloc (.cells #[.int .i64 c,.slice a n cap] 36))).alloc (Nat.le_refl _) (.cells #[.int .i64 0,.int .i64 0,.slice none 0 0,.slice none 0 0] 39)
  exact⟨by rw[hb2.cell (p:=⟨w.heap.size,0,none⟩) (by simp)];simp,by rw[hb2.cell (p:=⟨w.heap.size,1,none⟩) (by simp)];simp⟩
 clear hb1 hs hl hn
 generalize gAt l n=g at HRE hlen hget hp
 generalize upI c g=u at HRE
 generalize redL g l=R at HRE hlen hget
 go_enter Tryz.func111,Tryz.ntmps111
 have n1:=fun W=>Tryz.neNil W
 obtain⟨l0,l1⟩:=L0.out
 go_wp2_with fail
 refine(HCK.out _ B0.out).mono ?_
 rintro e w2 ⟨rfl,hb2⟩
 have hz2:w.heap.size+1<w2.heap.size:=by have:=hb2.size;simp at this;omega
 have B2:=Lib.hid (B0.out.trans (hb2.mono B0.out.size))
 have F2:=Lib.hid (F0.out.below hb2 (by simp))
 have d0:w2.cell? ⟨w.heap.size,0,none⟩=some (.int .i64 c):=(hb2.cell (p:=⟨w.heap.size,0,none⟩) (by simp;omega)).trans l0
 have d1:w2.cell? ⟨w.heap.size,1,none⟩=some (.slice a n cap):=(hb2.cell (p:=⟨w.heap.size,1,none⟩) (by simp;omega)).trans l1
 have en:((n:Int) == 0)=false:=by rw[len0];exact decide_eq_false (by omega)
 clear hb2 l0 l1
 go_wp2_with fail
 refine(HRE.out _ B2.out).mono ?_
 rintro e w3 ⟨v3,rfl,hrow3,hb3⟩
 obtain⟨a3,cap3,rfl,hlies3,_⟩:=hrow3.lies
 rw[hlen]at hrow3
 obtain⟨b3,off3,ea,hbl3,g1,g2⟩:=hlies3 0 (by omega)
 rw[hget]at g2
 simp only[Nat.zero_mul,Nat.add_zero]at g1 g2
 subst ea
 have hw3:w2.heap.size≤w3.heap.size:=hb3.size
 have hba:Below w3.heap.size w3 (w3.alloc (.cells #[.int .i64 u,.slice (some ⟨b3,off3,none⟩) n cap3] 36)):=(Below.refl _ w3).alloc (Nat.le_refl _) _
 have g2a:(w3.alloc (.cells #[.int .i64 u,.slice (some ⟨b3,off3,none⟩) n cap3] 36)).cell? ⟨b3,off3+1,none⟩=some (.int .i64 ((l.getD 0 (0,0)).2.tdiv g)):=(hba.cell (p:=⟨b3,off3+1,none⟩) hbl3).trans g2
 have R3:Hid (Row w.heap.size R (.slice (some ⟨b3,off3,none⟩) n cap3) (w3.alloc (.cells #[.int .i64 u,.slice (some ⟨b3,off3,none⟩) n cap3] 36))):=(Row.alloc hrow3 _).monoG B2.out.size
 have RO:Hid ((Value.slice (some ⟨b3,off3,none⟩) n cap3).ownBlock≠some (w.heap.size+1)):=fun e=>by
  have:=(World.ownsRow.lt hrow3 _ e).1;omega
 have B3:=Lib.hid ((B2.out.trans (hb3.mono B2.out.size)).alloc (Nat.le_trans B2.out.size hw3) (.cells #[.int .i64 u,.slice (some ⟨b3,off3,none⟩) n cap3] 36))
 have F3:=Lib.hid ((F2.out.below hb3 hz2).below hba (Nat.lt_of_lt_of_le hz2 hw3))
 clear hrow3 hlies3 g1 g2 hb3 hba d0 d1
 rw[hlen]
 generalize (l.getD 0 (0,0)).2.tdiv g=K at g2a hp
 obtain⟨r0,r1,r2,r3,rf⟩:=F3.out
 go_wp2_with fail
 clear r0 r1 r2 r3 rf g2a
 refine bodyPost_ret (v:= .tuple #[.agg #[.int .i64 2,.int .i64 u,.slice (some ⟨b3,off3,none⟩) n cap3,.slice none 0 0],.nilIface]) ?_ rfl ⟨_,rfl,R3.out.set4 (w.heap.size+1) RO.out _ _ _ _,below4 B3.out (Nat.le_succ _) _ _ _ _⟩
 obtain⟨e0,e1,e2,e3⟩:=res4 F3.out (.int .i64 2) (.int .i64 u) (.slice (some ⟨b3,off3,none⟩) n cap3) (.slice none 0 0)
 simp[results,Tryz.results111,go_sem,e0,e1,e2,e3]
end
namespace Cut
open Go.RowKit Go.Maps
theorem tell_any (a:Option Addr)(n cap:Nat)(ls:List (Int×List (Int×Int)))(pa:Option Addr)(pn pcap:Nat)(ps:List (Int×Int))(div:Int)(w:World)(hn:ls.length=n)(hm:n≤9223372036854775807)(hl:LLies w.heap.size w a ls)(hok:lsOk ls)(hpn:ps.length=pn)(hpm:pn≤9223372036854775807)(hp:Lies w.heap.size w pa ps)
 (R:List (Int×Int)) (hR:R=sumOf (tTo ls ps pn)) (x C:Int) (E:List (Int×Int)) (hx:TellIs n (cTo ls ps pn) div ps R x C E):
 Calls Tryz.prog 119 #[.slice a n cap,.agg #[.slice pa pn pcap,.int .i64 div]] w (LEnd w.heap.size x C E w):=by
 have T0:=Lib.hid (TellSt.start w pa pn pcap div)
 have HCK:=Lib.hid (fun W (hb:Below w.heap.size w W)=>ccheck_any n pa pn pcap ps div W hpn hpm ((hp.below hb).mono hb.size))
 have HX:=Lib.hid hx
 clear hx
 by_cases hk0:stepK n ps div=0
 ·rw[hk0,codeV_zero]at HCK
  obtain⟨hpk,hd1,hd2⟩:=stepK_ok (ls:=ls) (by rw[hn];exact hk0) hok
  have p64:pn≤64:=by rw[←hpn];exact hpk.1
  have hc:=cTo_in hpk pn (by omega)
  have HTL:=Lib.hid (tTo_in hpk pn (by omega))
  have HTV:=Lib.hid (tTo_vars hpk pn (by omega))
  have HSM:=Lib.hid (fun W (hb:Below w.heap.size w W)=>csum_any a n cap ls pa pn pcap ps W hn hm ((hl.below hb).mono hb.size) hpn ((hp.below hb).mono hb.size) hpk)
  have hRS:IsSum (tTo ls ps pn) R:=by rw[hR];exact sumOf_is _
  have hRL:R.length≤4096:=by rw[hR];have:=sumOf_len (tTo ls ps pn);have:=HTL.out.1;omega
  have HVB:Hid (∀m∈R,0≤m.1∧m.1≤1073741824):=fun m hm=>by
   obtain⟨y,hy,hy2⟩:=hRS.comes hm
   have:=HTV.out y hy
   omega
  have hTn:(tTo ls ps pn).length≤65536:=by have:=HTL.out.1;omega
  have HRS:=Lib.hid hRS
  have HX3:Hid (wi (cTo ls ps pn) 4398046511104=false∨allIn 4398046511104 R=false→x=3∧C=0∧E=[]):=fun h=>by
   have e:=tellK_far hk0 h
   have:=HX.out.bad (by rw[e];decide)
   rwa [e]at this
  have HX7:Hid (wi (cTo ls ps pn) 4398046511104=true→allIn 4398046511104 R=true→allDiv div R=false→x=7∧C=0∧E=[]):=fun h1 h2 h3=>by
   have e:=tellK_div hk0 h1 h2 h3
   have:=HX.out.bad (by rw[e];decide)
   rwa [e]at this
  have HX0:Hid (wi (cTo ls ps pn) 4398046511104=true→allIn 4398046511104 R=true→allDiv div R=true→DivIs (upI (cTo ls ps pn) div) (divT div R) x C E):=fun h1 h2 h3=>by
   have e:=tellK_ok hk0 h1 h2 h3
   exact⟨fun h=>HX.out.ok (by rw[e];exact h),fun h=>by have:=HX.out.bad (by rw[e];exact h);rwa [e]at this⟩
  clear HX hpk hl hp hpn hn hok hR hRS HTL HTV hk0
  generalize cTo ls ps pn=c at hc HSM HX3 HX7 HX0
  generalize tTo ls ps pn=T at HSM hTn HRS
  have CW:Hid (∀W,Calls Tryz.prog 134 #[.int .i64 c,.int .i64 4398046511104] W fun e w'=>e= .returned (.bool (wi c 4398046511104))∧W=w'):=fun W=>cwithin_any c 4398046511104 W (by omega) (by omega)
  go_enter Tryz.func119,Tryz.ntmps119
  obtain⟨s0,s1,r0,r1,rf,mz,hbel⟩:=T0.out
  have HB:=Lib.hid hbel
  clear hbel r0 r1 rf
  go_wp2_with fail
  clear s0 s1
  refine(HCK.out _ HB.out).mono ?_
  rintro e w2 ⟨rfl,hb2⟩
  have T2:=Lib.hid (T0.out.below hb2 (by omega))
  clear T0 HB mz hb2 HCK
  obtain⟨s0,s1,r0,r1,rf,mz,hbel⟩:=T2.out
  have HB:=Lib.hid hbel
  clear hbel r0 r1 rf s1
  go_wp2_with fail
  refine(HSM.out _ HB.out).mono ?_
  rintro e w3 ⟨rfl,hs3,hb3⟩
  have T3:=Lib.hid (T2.out.below hb3 (by omega))
  have hz3:=hs3.ex.choose_spec.1.lt
  have hST:=standing_any T R T.length w2.heap.size w3 hs3 HRS.out hTn
  have HS3:=Lib.hid hs3
  clear T2 HB mz hb3 HSM s0 hs3
  go_wp2_with fail
  refine hST.mono ?_
  rintro e w4 ⟨vv,rfl,hr4,hb4⟩
  have T4:=Lib.hid (T3.out.below hb4 (by have:=T3.out.mz;omega))
  have HS4:=Lib.hid (HS3.out.below hb4 hz3)
  obtain⟨va,vcap,rfl,hnums⟩:=hr4.nums
  rw[List.length_map]at hr4⊢
  have HNU:=Lib.hid hnums
  clear T3 hb4 HS3 hST hr4 hnums
  generalize w2.heap.size=B at HS4⊢
  by_cases hwc:wi c 4398046511104=true
  ·rw[hwc]at CW
   replace HX3:=Lib.hid (fun h=>HX3.out (.inr h))
   replace HX7:=Lib.hid (HX7.out hwc)
   replace HX0:=Lib.hid (HX0.out hwc)
   have hwc4:=Lib.hid hwc
   clear hwc
   go_wp2_with fail
   refine(CW.out _).mono ?_
   rintro e w5 ⟨rfl,rfl⟩
   go_wp2_with fail
   clear CW
   go_loopw [38] (fun i wr=>∃(j:Nat),j≤R.length∧i= .int .i64 j∧Hid (∀m,m<j→wi (R.getD m (0,0)).2 4398046511104=true)∧wr=w4) (fun i _=>R.length - (intOf i).toNat)
   case atStart=>exact⟨0,Nat.zero_le _,rfl,fun m hm=>absurd hm (Nat.not_lt_zero _),rfl⟩
   case round=>
    obtain⟨j,hj,rfl,hai,rfl⟩:=hrel
    by_cases hjt:j<R.length
    ·obtain⟨b,off,rfl,hblt,c1⟩:=HNU.out j (by rw[List.length_map];exact hjt)
     rw[map_getD R j hjt]at c1
     have hmem:R.getD j (0,0)∈R:=by rw[List.getD_eq_getElem?_getD,List.getElem?_eq_getElem hjt];exact List.getElem_mem hjt
     have hvb:=HVB.out _ hmem
     obtain⟨D,hown,hat0⟩:=HS4.out.ex
     have hv0:=hat0 (R.getD j (0,0)).1
     rw[show coef T (R.getD j (0,0)).1=(R.getD j (0,0)).2 by rw[←HRS.out.eq,coef_up HRS.out.up hmem]]at hv0
     have hkj:wi (R.getD j (0,0)).2 4398046511104=true→Hid (∀m,m<j+1→wi (R.getD m (0,0)).2 4398046511104=true):=fun h m hm=>by
      by_cases e:m=j
      ·subst e;exact h
      ·exact hai.out m (by omega)
     have hbad:wi (R.getD j (0,0)).2 4398046511104=false→Hid (x=3∧C=0∧E=[]):=fun h=>HX3.out (allIn_not hjt h)
     have CJ:Hid (∀W,Calls Tryz.prog 134 #[.int .i64 (R.getD j (0,0)).2,.int .i64 4398046511104] W fun e w'=>e= .returned (.bool (wi (R.getD j (0,0)).2 4398046511104))∧W=w'):=fun W=>cwithin_any _ 4398046511104 W (by omega) (by omega)
     clear hat0 hmem
     generalize (R.getD j (0,0)).1=V at c1 hvb hv0
     generalize (R.getD j (0,0)).2=K at hkj hbad CJ hv0
     have hkey:keyOf Tryz.prog 3 (.int .i64 V)=some (.int .i64 V):=keyOf_int_mk Tryz.underlying3 (WalkArith.wf_i64 (by omega))
     by_cases hwk:wi K 4398046511104=true
     ·rw[hwk]at CJ
      have HKJ:=hkj hwk
      clear hkj hbad
      go_wp2_with (first
       | (at_lookup;refine wpList_lookup_own_int _ rfl _ _ 199 rfl 3 3 .i64 Tryz.lawInt Tryz.underlying199 Tryz.underlying3 (Tryz.zeroInt _) B T.length D rfl hown _ _ rfl hkey ?_;intro c9 hat hwc;obtain rfl:c9=K:=by have h9:=hat.symm.trans hv0;injection h9 with h9;injection h9))
      refine(CJ.out _).mono ?_
      rintro e w5 ⟨rfl,rfl⟩
      go_wp2_with fail
      refine⟨⟨j+1,by omega,by go_num,HKJ,trivial⟩,by simp[intOf];omega⟩
     ·rw[Bool.not_eq_true]at hwk
      rw[hwk]at CJ
      obtain⟨rfl,rfl,rfl⟩:=(hbad hwk).out
      clear hkj hbad
      go_wp2_with (first
       | (at_lookup;refine wpList_lookup_own_int _ rfl _ _ 199 rfl 3 3 .i64 Tryz.lawInt Tryz.underlying199 Tryz.underlying3 (Tryz.zeroInt _) B T.length D rfl hown _ _ rfl hkey ?_;intro c9 hat hwc;obtain rfl:c9=K:=by have h9:=hat.symm.trans hv0;injection h9 with h9;injection h9))
      refine(CJ.out _).mono ?_
      rintro e w5 ⟨rfl,rfl⟩
      obtain⟨s0,s1,r0,r1,rf,mz,hbel⟩:=T4.out
      obtain⟨e0,e1⟩:=res2 r0 r1 (.int .i64 0) (.slice none 0 0)
      have HE:=Lib.hid (And.intro e0 e1)
      have HBE:=Lib.hid hbel
      clear e0 e1 hbel s0 s1
      go_wp2_with fail
      refine bodyPost_ret (v:= .tuple #[.agg #[.int .i64 0,.slice none 0 0],.iface 60 (.int .i64 3)]) ?_ rfl (LEnd.none rfl (below2 HBE.out (by omega) _ _))
      obtain⟨e0,e1⟩:=HE.out
      simp[results,Tryz.results119,go_sem,e0,e1]
    ·obtain rfl:j=R.length:=by omega
     have hall:=allIn_of (M:=4398046511104) (R:=R) (fun m hm=>hai.out m hm)
     have HAL:=Lib.hid hall
     replace HX7:=Lib.hid (HX7.out hall)
     replace HX0:=Lib.hid (HX0.out hall)
     clear hall hai HX3
     obtain⟨w9,rfl⟩:∃w9:World,w9=wr:=⟨_,rfl⟩
     go_wp2_with fail
     go_loopw [52] (fun i wr=>∃(j:Nat),j≤R.length∧i= .int .i64 j∧Hid (∀m,m<j→(R.getD m (0,0)).2.tmod div=0)∧wr=w9) (fun i _=>R.length - (intOf i).toNat)
     case atStart=>exact⟨0,Nat.zero_le _,rfl,fun m hm=>absurd hm (Nat.not_lt_zero _),rfl⟩
     case round=>
      obtain⟨j,hj,rfl,hai,rfl⟩:=hrel
      by_cases hjt:j<R.length
      ·obtain⟨b,off,rfl,hblt,c1⟩:=HNU.out j (by rw[List.length_map];exact hjt)
       rw[map_getD R j hjt]at c1
       have hmem:R.getD j (0,0)∈R:=by rw[List.getD_eq_getElem?_getD,List.getElem?_eq_getElem hjt];exact List.getElem_mem hjt
       have hvb:=HVB.out _ hmem
       have hin:=allIn_get HAL.out j hjt
       obtain⟨D,hown,hat0⟩:=HS4.out.ex
       have hv0:=hat0 (R.getD j (0,0)).1
       rw[show coef T (R.getD j (0,0)).1=(R.getD j (0,0)).2 by rw[←HRS.out.eq,coef_up HRS.out.up hmem]]at hv0
       have hkj:(R.getD j (0,0)).2.tmod div=0→Hid (∀m,m<j+1→(R.getD m (0,0)).2.tmod div=0):=fun h m hm=>by
        by_cases e:m=j
        ·subst e;exact h
        ·exact hai.out m (by omega)
       have hbad:(R.getD j (0,0)).2.tmod div≠0→Hid (x=7∧C=0∧E=[]):=fun h=>HX7.out (allDiv_not hjt h)
       clear hat0 hmem
       generalize (R.getD j (0,0)).1=V at c1 hvb hv0
       generalize (R.getD j (0,0)).2=K at hkj hbad hv0 hin
       have hKb: -4398046511104≤K∧K≤4398046511104:=by unfold wi at hin;simpa using hin
       have hd0:div≠0:=by omega
       have hkey:keyOf Tryz.prog 3 (.int .i64 V)=some (.int .i64 V):=keyOf_int_mk Tryz.underlying3 (WalkArith.wf_i64 (by omega))
       have s1:=T4.out.s1
       by_cases hwk:K.tmod div=0
       ·have HKJ:=hkj hwk
        clear hkj hbad
        go_wp2_with (first
         | (at_lookup;refine wpList_lookup_own_int _ rfl _ _ 199 rfl 3 3 .i64 Tryz.lawInt Tryz.underlying199 Tryz.underlying3 (Tryz.zeroInt _) B T.length D rfl hown _ _ rfl hkey ?_;intro c9 hat hwc;obtain rfl:c9=K:=by have h9:=hat.symm.trans hv0;injection h9 with h9;injection h9))
        refine⟨⟨j+1,by omega,by go_num,HKJ,trivial⟩,by simp[intOf];omega⟩
       ·obtain⟨rfl,rfl,rfl⟩:=(hbad hwk).out
        clear hkj hbad
        obtain⟨s0,_,r0,r1,rf,mz,hbel⟩:=T4.out
        obtain⟨e0,e1⟩:=res2 r0 r1 (.int .i64 0) (.slice none 0 0)
        have HE:=Lib.hid (And.intro e0 e1)
        have HBE:=Lib.hid hbel
        clear e0 e1 hbel s0
        go_wp2_with (first
         | (at_lookup;refine wpList_lookup_own_int _ rfl _ _ 199 rfl 3 3 .i64 Tryz.lawInt Tryz.underlying199 Tryz.underlying3 (Tryz.zeroInt _) B T.length D rfl hown _ _ rfl hkey ?_;intro c9 hat hwc;obtain rfl:c9=K:=by have h9:=hat.symm.trans hv0;injection h9 with h9;injection h9))
        refine bodyPost_ret (v:= .tuple #[.agg #[.int .i64 0,.slice none 0 0],.iface 60 (.int .i64 7)]) ?_ rfl (LEnd.none rfl (below2 HBE.out (by omega) _ _))
        obtain⟨e0,e1⟩:=HE.out
        simp[results,Tryz.results119,go_sem,e0,e1]
      ·obtain rfl:j=R.length:=by omega
       have hDI:=HX0.out (allDiv_of (fun m hm=>hai.out m hm))
       have HDV:=Lib.hid (divided_any c div B T.length T R va R.length vcap wr ⟨hd1,hd2⟩ (by have h:=hwc4.out;unfold wi at h;simpa using h) HS4.out HRS.out HAL.out rfl HNU.out (by have:=hRL;omega) HVB.out x C E hDI)
       have s1:=T4.out.s1
       clear hDI
       go_wp2_with fail
       refine HDV.out.mono ?_
       rintro e w7 ⟨v7,rfl,hr7,hb7⟩
       have T7:=T4.out.below hb7 (by have:=T4.out.mz;omega)
       obtain⟨a7,cap7,rfl,_,_⟩:=hr7.lies
       obtain⟨s0,_,r0,r1,rf,mz,hbel⟩:=T7
       obtain⟨e0,e1⟩:=res2 r0 r1 (.int .i64 C) (.slice a7 E.length cap7)
       have HE:=Lib.hid (And.intro e0 e1)
       have HBE:=Lib.hid hbel
       have HR7:=Lib.hid hr7
       have HMZ:=Lib.hid T4.out.mz
       clear e0 e1 hbel s0 hr7 hb7
       go_wp2_with fail
       refine bodyPost_ret (v:= .tuple #[.agg #[.int .i64 C,.slice a7 E.length cap7],codeV x]) ?_ rfl ⟨.slice a7 E.length cap7,rfl,Joins.ownsRow_le (HR7.out.set2 HMZ.out _ _) (by have:=HMZ.out;omega),below2 HBE.out (by omega) _ _⟩
       obtain⟨e0,e1⟩:=HE.out
       simp[results,Tryz.results119,go_sem,e0,e1]
  ·rw[Bool.not_eq_true]at hwc
   rw[hwc]at CW
   obtain⟨rfl,rfl,rfl⟩:=HX3.out (.inl hwc)
   obtain⟨s0,s1,r0,r1,rf,mz,hbel⟩:=T4.out
   obtain⟨e0,e1⟩:=res2 r0 r1 (.int .i64 0) (.slice none 0 0)
   have HE:=Lib.hid (And.intro e0 e1)
   have HBE:=Lib.hid hbel
   clear e0 e1 hbel s0 s1
   go_wp2_with fail
   refine(CW.out _).mono ?_
   rintro e w5 ⟨rfl,rfl⟩
   go_wp2_with fail
   refine bodyPost_ret (v:= .tuple #[.agg #[.int .i64 0,.slice none 0 0],.iface 60 (.int .i64 3)]) ?_ rfl (LEnd.none rfl (below2 HBE.out (by omega) _ _))
   obtain⟨e0,e1⟩:=HE.out
   simp[results,Tryz.results119,go_sem,e0,e1]
 ·rw[codeV_ne hk0]at HCK
  have hk1:=tellK_step (c:=cTo ls ps pn) (R:=R) hk0
  obtain⟨hx0,rfl,rfl⟩:=HX.out.bad (by rw[hk1];exact hk0)
  rw[hk1]at hx0
  have HXE:=Lib.hid hx0
  generalize stepK n ps div=K at HCK hk0 HXE hx0
  clear HX hk1 hl hp hpn hn hok hR
  go_enter Tryz.func119,Tryz.ntmps119
  obtain⟨s0,s1,r0,r1,rf,mz,hbel⟩:=T0.out
  have HB:=Lib.hid hbel
  clear hbel r0 r1 rf
  go_wp2_with fail
  refine(HCK.out _ HB.out).mono ?_
  rintro e w2 ⟨rfl,hb2⟩
  have T2:=Lib.hid (T0.out.below hb2 (by omega))
  clear T0 HB s0 s1 mz hb2 HCK
  obtain⟨s0,s1,r0,r1,rf,mz,hbel⟩:=T2.out
  obtain⟨e0,e1⟩:=res2 r0 r1 (.int .i64 0) (.slice none 0 0)
  have HE:=Lib.hid (And.intro e0 e1)
  have HBE:=Lib.hid hbel
  clear e0 e1 hbel s0 s1
  go_wp2_with fail
  refine bodyPost_ret (v:= .tuple #[.agg #[.int .i64 0,.slice none 0 0],.iface 60 (.int .i64 K)]) ?_ rfl (LEnd.none (by rw[HXE.out,codeV_ne hk0]) (below2 HBE.out (by omega) _ _))
  obtain⟨e0,e1⟩:=HE.out
  simp[results,Tryz.results119,go_sem,e0,e1]
end Cut
section
open Go.RowKit
def LitEnd (B:Nat)(f:FT)(x:Value)(w:World)(e:Ending)(w':World):Prop:=∃cs,e= .returned (.tuple #[.agg cs.toArray,x])∧FLiesQ (fun b=>B≤b∧b<w'.heap.size) w' 2 f cs∧Below B w w'
theorem flies_flat {S:Nat→Prop}{w:World}{k c:Int}:FLiesQ S w 2 (.mk k c [] []) [.int .i64 k,.int .i64 c,.slice none 0 0,.slice none 0 0]:=
 ⟨none,0,none,0,rfl,fun i hi=>absurd hi (Nat.not_lt_zero i),by simp[FT.t],by simp[FT.ks],fun i hi=>absurd hi (by simp[FT.ks])⟩
theorem Row.liesQ {B:Nat}{l:List (Int×Int)}{v:Value}{w:World}(h:Row B l v w):∃a cap,v= .slice a l.length cap∧LiesQ (fun b=>B≤b∧b<w.heap.size) w a l:=by
 obtain⟨a,cap,rfl,hl,_⟩:=h.lies
 refine⟨a,cap,rfl,fun i hi=> ?_⟩
 obtain⟨b,off,rfl,hb,g0,g1⟩:=hl i hi
 exact⟨b,off,rfl,⟨(World.ownsRow.lt h b rfl).1,hb⟩,g0,g1⟩
theorem flies_leafS {S:Nat→Prop}{w:World}{n:Nat}{k c:Int}{t:List (Int×Int)}{ta:Option Addr}{tcap:Nat}(ht:t.length≤9223372036854775807)(h:LiesQ S w ta t):FLiesQ S w (n+1) (.mk k c t []) [.int .i64 k,.int .i64 c,.slice ta t.length tcap,.slice none 0 0]:=
 ⟨ta,tcap,none,0,rfl,h,ht,by simp[FT.ks],fun i hi=>absurd hi (by simp[FT.ks])⟩
theorem literal_bad (c:Int)(a:Option Addr)(n cap:Nat)(l:List (Int×Int))(w:World)(hn:l.length=n)(hm:n≤9223372036854775807)(hl:Lies w.heap.size w a l)(hs:snd c l=false):
 Calls Tryz.prog 111 #[.agg #[.int .i64 c,.slice a n cap]] w (LitEnd w.heap.size (.mk 0 0 [] []) (.iface 60 (.int .i64 5)) w):=by
 have HCK:=Lib.hid (fun W (hb:Below w.heap.size w W)=>check_no c a n cap l W hn hm ((hl.below hb).mono hb.size) hs)
 have hb1:Below w.heap.size w (w.alloc (.cells #[.int .i64 c,.slice a n cap] 36)):=(Below.refl _ w).alloc (Nat.le_refl _) _
 have B0:Hid (Below w.heap.size w ((w.alloc (.cells #[.int .i64 c,.slice a n cap] 36)).alloc (.cells #[.int .i64 0,.int .i64 0,.slice none 0 0,.slice none 0 0] 39))):=hb1.alloc hb1.size _
 have F0:=Lib.hid (fb_new (w.alloc (.cells #[.int .i64 c,.slice a n cap] 36)) (w.heap.size+1) (by simp))
 have hb2:=(Below.refl (w.alloc (.cells #[.int .i64 c,.slice a n cap] 36)).heap.size (w.alloc (.cells #[.int .i64 c,.slice a n cap] 36))).alloc (Nat.le_refl _) (.cells #[.int .i64 0,.int .i64 0,.slice none 0 0,.slice none 0 0] 39)
 have l0:((w.alloc (.cells #[.int .i64 c,.slice a n cap] 36)).alloc (.cells #[.int .i64 0,.int .i64 0,.slice none 0 0,.slice none 0 0] 39)).cell? ⟨w.heap.size,0,none⟩=some (.int .i64 c):=by rw[hb2.cell (p:=⟨w.heap.size,0,none⟩) (by simp)];simp
 have l1:((w.alloc (.cells #[.int .i64 c,.slice a n cap] 36)).alloc (.cells #[.int .i64 0,.int .i64 0,.slice none 0 0,.slice none 0 0] 39)).cell? ⟨w.heap.size,1,none⟩=some (.slice a n cap):=by rw[hb2.cell (p:=⟨w.heap.size,1,none⟩) (by simp)];simp
 clear hb1 hb2 hs hl hn
 go_enter Tryz.func111,Tryz.ntmps111
 have n1:=fun W=>Tryz.neCode 5 W
 go_wp2_with fail
 refine(HCK.out _ B0.out).mono ?_
 rintro e w2 ⟨rfl,hb2⟩
 have B2:=Lib.hid (B0.out.trans (hb2.mono B0.out.size))
 have F2:=Lib.hid (F0.out.below hb2 (by simp))
 clear hb2 l0 l1
 obtain⟨r0,r1,r2,r3,rf⟩:=F2.out
 go_wp2_with fail
 clear r0 r1 r2 r3 rf
 refine bodyPost_ret (v:= .tuple #[.agg #[.int .i64 0,.int .i64 0,.slice none 0 0,.slice none 0 0],.iface 60 (.int .i64 5)]) ?_ rfl ⟨_,rfl,flies_flat,below4 B2.out (Nat.le_succ _) _ _ _ _⟩
 obtain⟨e0,e1,e2,e3⟩:=res4 F2.out (.int .i64 0) (.int .i64 0) (.slice none 0 0) (.slice none 0 0)
 simp[results,Tryz.results111,go_sem,e0,e1,e2,e3]
theorem literal_none (c:Int)(a:Option Addr)(cap:Nat)(w:World)(hs:snd c []=true)(k:Int)(hk:k=if c≤0 then 0 else 1):
 Calls Tryz.prog 111 #[.agg #[.int .i64 c,.slice a 0 cap]] w (LitEnd w.heap.size (.mk k 0 [] []) .nilIface w):=by
 have HCK:=Lib.hid (fun W (hb:Below w.heap.size w W)=>check_yes c a 0 cap [] W rfl (fun i hi=>absurd hi (Nat.not_lt_zero i)) hs)
 have hb1:Below w.heap.size w (w.alloc (.cells #[.int .i64 c,.slice a 0 cap] 36)):=(Below.refl _ w).alloc (Nat.le_refl _) _
 have B0:Hid (Below w.heap.size w ((w.alloc (.cells #[.int .i64 c,.slice a 0 cap] 36)).alloc (.cells #[.int .i64 0,.int .i64 0,.slice none 0 0,.slice none 0 0] 39))):=hb1.alloc hb1.size _
 have F0:=Lib.hid (fb_new (w.alloc (.cells #[.int .i64 c,.slice a 0 cap] 36)) (w.heap.size+1) (by simp))
 have hb2:=(Below.refl (w.alloc (.cells #[.int .i64 c,.slice a 0 cap] 36)).heap.size (w.alloc (.cells #[.int .i64 c,.slice a 0 cap] 36))).alloc (Nat.le_refl _) (.cells #[.int .i64 0,.int .i64 0,.slice none 0 0,.slice none 0 0] 39)
 have l0:((w.alloc (.cells #[.int .i64 c,.slice a 0 cap] 36)).alloc (.cells #[.int .i64 0,.int .i64 0,.slice none 0 0,.slice none 0 0] 39)).cell? ⟨w.heap.size,0,none⟩=some (.int .i64 c):=by rw[hb2.cell (p:=⟨w.heap.size,0,none⟩) (by simp)];simp
 have l1:((w.alloc (.cells #[.int .i64 c,.slice a 0 cap] 36)).alloc (.cells #[.int .i64 0,.int .i64 0,.slice none 0 0,.slice none 0 0] 39)).cell? ⟨w.heap.size,1,none⟩=some (.slice a 0 cap):=by rw[hb2.cell (p:=⟨w.heap.size,1,none⟩) (by simp)];simp
 clear hb1 hb2 hs
 have n1:=fun W=>Tryz.neNil W
 by_cases hc:c≤0
 ·rw[if_pos hc]at hk
  subst hk
  go_enter Tryz.func111,Tryz.ntmps111
  go_wp2_with fail
  refine(HCK.out _ B0.out).mono ?_
  rintro e w2 ⟨rfl,hb2⟩
  have B2:=Lib.hid (B0.out.trans (hb2.mono B0.out.size))
  have F2:=Lib.hid (F0.out.below hb2 (by simp))
  have d0:w2.cell? ⟨w.heap.size,0,none⟩=some (.int .i64 c):=(hb2.cell (p:=⟨w.heap.size,0,none⟩) (by simp;omega)).trans l0
  have d1:w2.cell? ⟨w.heap.size,1,none⟩=some (.slice a 0 cap):=(hb2.cell (p:=⟨w.heap.size,1,none⟩) (by simp;omega)).trans l1
  clear hb2 l0 l1
  obtain⟨r0,r1,r2,r3,rf⟩:=F2.out
  go_wp2_with fail
  clear r0 r1 r2 r3 rf d0 d1
  refine bodyPost_ret (v:= .tuple #[.agg #[.int .i64 0,.int .i64 0,.slice none 0 0,.slice none 0 0],.nilIface]) ?_ rfl ⟨_,rfl,flies_flat,below4 B2.out (Nat.le_succ _) _ _ _ _⟩
  obtain⟨e0,e1,e2,e3⟩:=res4 F2.out (.int .i64 0) (.int .i64 0) (.slice none 0 0) (.slice none 0 0)
  simp[results,Tryz.results111,go_sem,e0,e1,e2,e3]
 ·rw[if_neg hc]at hk
  subst hk
  go_enter Tryz.func111,Tryz.ntmps111
  go_wp2_with fail
  refine(HCK.out _ B0.out).mono ?_
  rintro e w2 ⟨rfl,hb2⟩
  have B2:=Lib.hid (B0.out.trans (hb2.mono B0.out.size))
  have F2:=Lib.hid (F0.out.below hb2 (by simp))
  have d0:w2.cell? ⟨w.heap.size,0,none⟩=some (.int .i64 c):=(hb2.cell (p:=⟨w.heap.size,0,none⟩) (by simp;omega)).trans l0
  have d1:w2.cell? ⟨w.heap.size,1,none⟩=some (.slice a 0 cap):=(hb2.cell (p:=⟨w.heap.size,1,none⟩) (by simp;omega)).trans l1
  clear hb2 l0 l1
  obtain⟨r0,r1,r2,r3,rf⟩:=F2.out
  go_wp2_with fail
  clear r0 r1 r2 r3 rf d0 d1
  refine bodyPost_ret (v:= .tuple #[.agg #[.int .i64 1,.int .i64 0,.slice none 0 0,.slice none 0 0],.nilIface]) ?_ rfl ⟨_,rfl,flies_flat,below4 B2.out (Nat.le_succ _) _ _ _ _⟩
  obtain⟨e0,e1,e2,e3⟩:=res4 F2.out (.int .i64 1) (.int .i64 0) (.slice none 0 0) (.slice none 0 0)
  simp[results,Tryz.results111,go_sem,e0,e1,e2,e3]
end
section
open Go.RowKit
theorem okAt_mkG {l:List (Int×Int)}{i:Nat}(h:lastAt l i<(l.getD i (0,0)).1∧(l.getD i (0,0)).2≠0∧0≤(l.getD i (0,0)).1∧(l.getD i (0,0)).1<1048576∧ -1073741824≤(l.getD i (0,0)).2∧(l.getD i (0,0)).2≤1073741824):okAt l i=true:=by
 obtain⟨h1,h2,h3,h4,h5,h6⟩:=h
 unfold okAt chk mst wi
 simp only[Bool.and_eq_true,decide_eq_true_eq]
 exact⟨h1,h2,⟨h3,h4⟩,h5,h6⟩
theorem upI_wi {c g:Int}(hc: -1073741824≤c∧c≤1073741824)(hg:1≤g): -1073741824≤upI c g∧upI c g≤1073741824:=by
 have h:=tdiv_in (c:=c) (g:=g) (B:=1073741824) (by omega)
 unfold upI
 split
 ·rename_i hm
  have hg2:2≤g:=by
   by_cases e:g=1
   ·subst e;rw[Int.tmod_one]at hm;omega
   ·omega
  have h1:(c.tdiv g).natAbs=c.natAbs / g.natAbs:=Int.natAbs_tdiv c g
  have h2:c.natAbs / g.natAbs≤c.natAbs / 2:=Nat.div_le_div_left (by omega) (by omega)
  omega
 ·omega
theorem gAt_dvd (l:List (Int×Int)):∀n j,j<n→gAt l n∣(l.getD j (0,0)).2
 | 0,_,h=>absurd h (Nat.not_lt_zero _)
 | n+1,j,h=>by
   have e:gAt l (n+1)=(Nat.gcd (gAt l n).natAbs (l.getD n (0,0)).2.natAbs:Nat):=rfl
   rw[e]
   by_cases hj:j=n
   ·subst hj
    exact Int.ofNat_dvd_left.2 (Nat.gcd_dvd_right _ _)
   ·have ih:=gAt_dvd l n j (by omega)
    have h1:((Nat.gcd (gAt l n).natAbs (l.getD n (0,0)).2.natAbs:Nat):Int)∣gAt l n:=Int.ofNat_dvd_left.2 (Nat.gcd_dvd_left _ _)
    exact Int.dvd_trans h1 ih
theorem tdiv_ne {k g:Int}(hk:k≠0)(hg:1≤g)(hd:g∣k):k.tdiv g≠0:=by
 obtain⟨q,rfl⟩:=hd
 rw[Int.mul_tdiv_cancel_left _ (by omega)]
 intro h
 subst h
 exact hk (Int.mul_zero _)
theorem redL_len (g:Int)(l:List (Int×Int)):(redL g l).length=l.length:=by unfold redL;rw[List.length_map]
theorem redL_last (g:Int)(l:List (Int×Int))(i:Nat)(h:i<l.length):lastAt (redL g l) i=lastAt l i:=by
 unfold lastAt
 by_cases h0:i=0
 ·rw[if_pos h0,if_pos h0]
 ·rw[if_neg h0,if_neg h0,redL_get g l (i - 1) (by omega)]
theorem red_snd {c:Int}{l:List (Int×Int)}(hs:snd c l=true)(h0:0<l.length):snd (upI c (gAt l l.length)) (redL (gAt l l.length) l)=true:=by
 obtain⟨hc,h64,hall⟩:=snd_iff.1 hs
 have hcb: -1073741824≤c∧c≤1073741824:=by unfold wi at hc;simpa using hc
 have hg:=gAt_pos hs l.length h0 (Nat.le_refl _)
 refine snd_iff.2 ⟨wi_t (upI_wi hcb hg),by rw[redL_len];exact h64,fun i hi=> ?_⟩
 rw[redL_len]at hi
 obtain⟨h1,h2,h3,h4,h5,h6⟩:=okAt_in (hall i hi)
 have hd:=tdiv_ne h2 hg (gAt_dvd l l.length i hi)
 have hb:=tdiv_in (c:=(l.getD i (0,0)).2) (g:=gAt l l.length) (B:=1073741824) (by omega)
 refine okAt_mkG ?_
 rw[redL_last _ _ _ hi,redL_get _ _ _ hi]
 exact⟨h1,hd,h3,h4,by omega,by omega⟩
theorem snd_lt {c:Int}{l:List (Int×Int)}(hs:snd c l=true):∀j i,i<j→j<l.length→(l.getD i (0,0)).1<(l.getD j (0,0)).1
 | 0,i,h,_=>absurd h (Nat.not_lt_zero i)
 | j+1,i,h,hj=>by
   have h1:=(okAt_in ((snd_iff.1 hs).2.2 (j+1) hj)).1
   rw[lastAt_succ]at h1
   by_cases e:i=j
   ·rw[e];exact h1
   ·have:=snd_lt hs j i (by omega) (by omega)
    omega
theorem snd_Up {c:Int}{l:List (Int×Int)}(hs:snd c l=true):Up l:=by
 refine List.pairwise_iff_getElem.2 fun i j hi hj hij=> ?_
 have:=snd_lt hs j i hij hj
 rwa [List.getD_eq_getElem?_getD,List.getElem?_eq_getElem hi,List.getD_eq_getElem?_getD,List.getElem?_eq_getElem hj]at this
theorem neg_sum {c:Int}{l:List (Int×Int)}(hs:snd c l=true):IsSum (scale 1 [] ++ scale (-1) l) (scale (-1) l):=by
 refine⟨?_,fun m hm=> ?_,fun v=>by rw[show scale 1 []=[] from rfl,List.nil_append]⟩
 ·exact List.Pairwise.map _ (fun a b h=>h) (snd_Up hs)
 ·obtain⟨p,hp,rfl⟩:=List.mem_map.1 hm
  obtain⟨i,hi,rfl⟩:=List.getElem_of_mem hp
  have:=(okAt_in ((snd_iff.1 hs).2.2 i hi)).2.1
  rw[List.getD_eq_getElem?_getD,List.getElem?_eq_getElem hi]at this
  simp only[Option.getD_some]at this
  simp only
  omega
theorem neg_wi {c:Int}{l:List (Int×Int)}(hs:snd c l=true):∀m∈scale (-1) l,wi m.2 1073741824=true:=fun m hm=>by
 obtain⟨p,hp,rfl⟩:=List.mem_map.1 hm
 have:=(snd_terms hs p hp).2
 exact wi_t (by simp only;omega)
end
section
open Go.RowKit
theorem upI_ceil {c g:Int}(hg:1≤g):c≤upI c g*g∧(upI c g - 1)*g<c:=by
 have h1:c.tmod g+g*c.tdiv g=c:=Int.tmod_add_mul_tdiv c g
 have h2:c.tmod g<g:=Int.tmod_lt_of_pos c (by omega)
 have h3: -g<c.tmod g:=by
  have:=Int.natAbs_tmod c g
  have h4:c.natAbs % g.natAbs<g.natAbs:=Nat.mod_lt _ (by omega)
  omega
 rw[Int.mul_comm]at h1
 unfold upI
 generalize c.tdiv g=q at h1⊢
 generalize c.tmod g=r at h1 h2 h3⊢
 have e1:(q+1)*g=q*g+g:=by rw[Int.add_mul,Int.one_mul]
 have e2:(q - 1)*g=q*g - g:=by rw[Int.sub_mul,Int.one_mul]
 generalize q*g=X at h1 e1 e2
 split
 ·rw[e1,show q+1 - 1=q by omega]
  constructor
  ·omega
  ·rename_i h5
   have:q*g=X:=by have:=e1;rw[Int.add_mul,Int.one_mul]at this;omega
   omega
 ·rw[e2]
  have:q*g=X:=by have:=e1;rw[Int.add_mul,Int.one_mul]at this;omega
  omega
theorem upI_near (c g:Int):c.tdiv g=upI c g∨c.tdiv g=upI c g - 1:=by
 unfold upI
 split<;>omega
theorem rup_any (c g:Int)(w:World)(hg:1≤g∧g≤1073741824)(hc: -1073741824≤c∧c≤1073741824):
 Calls Tryz.prog 124 #[.int .i64 c,.int .i64 g] w fun e w'=>e= .returned (.int .i64 (upI c g))∧w=w':=by
 have hg0:g≠0:=by omega
 obtain⟨k1,k2⟩:=upI_ceil (c:=c) hg.1
 have hn:=upI_near c g
 have hub:=upI_in (c:=c) (g:=g) (B:=1073741824) (by omega)
 have hqb:=tdiv_in (c:=c) (g:=g) (B:=1073741824) (by omega)
 have hwd:IntKind.i64.wrap (c.tdiv g)=c.tdiv g:=IntWalk.i64_in _ (by omega)
 generalize upI c g=u at k1 k2 hn hub⊢
 have e2:(u - 1)*g=u*g - g:=by rw[Int.sub_mul,Int.one_mul]
 have hw1:IntKind.i64.wrap (u*g)=u*g:=IntWalk.i64_in _ (by rw[e2]at k2;omega)
 have hw2:IntKind.i64.wrap ((u - 1)*g)=(u - 1)*g:=IntWalk.i64_in _ (by rw[e2]at k2⊢;omega)
 have k1':¬u*g<c:=by omega
 have k2':¬c≤(u - 1)*g:=by omega
 have HN:=Lib.hid hn
 clear hn e2 k1
 go_enter Tryz.func124,Tryz.ntmps124
 go_wp2_with fail
 go_loopw [5] (fun s wr=>∃q:Int,s= .int .i64 q∧(q=u∨q=u - 1)∧w=wr) (fun s _=>(u - intOf s).toNat)
 case atStart=>exact⟨c.tdiv g,rfl,HN.out,rfl⟩
 case round=>
  obtain⟨q,rfl,hq,rfl⟩:=hrel
  rcases hq with rfl | rfl
  ·go_wp2_with fail
   go_loopw [5] (fun s wr=>s= .int .i64 q∧w=wr) (fun _ _=>0)
   case atStart=>exact⟨rfl,rfl⟩
   case round=>
    obtain⟨rfl,rfl⟩:=hrel
    go_wp2_with fail
    go_ret
    exact⟨rfl,rfl⟩
  ·have k3:(u - 1)*g<c:=by omega
   go_wp2_with fail
   go_roundw
   case rel=>exact⟨u,by go_num,.inl rfl,trivial⟩
   case measure=>simp[intOf];omega
end
section
open Go.RowKit
theorem rlit_bad (c:Int)(a:Option Addr)(n cap:Nat)(l:List (Int×Int))(w:World)(hn:l.length=n)(hm:n≤9223372036854775807)(hl:Lies w.heap.size w a l)(hs:snd c l=false):
 Calls Tryz.prog 96 #[.agg #[.int .i64 c,.slice a n cap]] w (LitEnd w.heap.size (.mk 0 0 [] []) (.int .i64 5) w):=by
 have HCK:Hid (∀W,Below w.heap.size w W→Calls Tryz.prog 24 #[.agg #[.int .i64 c,.slice a n cap]] W fun e w'=>e= .returned (.bool false)∧Below W.heap.size W w'):=fun W hb=>by
  have:=rcheck_any c a n cap l W hn hm ((hl.below hb).mono hb.size)
  rwa [hs]at this
 have hb1:Below w.heap.size w (w.alloc (.cells #[.int .i64 c,.slice a n cap] 36)):=(Below.refl _ w).alloc (Nat.le_refl _) _
 have B0:Hid (Below w.heap.size w ((w.alloc (.cells #[.int .i64 c,.slice a n cap] 36)).alloc (.cells #[.int .i64 0,.int .i64 0,.slice none 0 0,.slice none 0 0] 39))):=hb1.alloc hb1.size _
 have F0:=Lib.hid (fb_new (w.alloc (.cells #[.int .i64 c,.slice a n cap] 36)) (w.heap.size+1) (by simp))
 have hb2:=(Below.refl (w.alloc (.cells #[.int .i64 c,.slice a n cap] 36)).heap.size (w.alloc (.cells #[.int .i64 c,.slice a n cap] 36))).alloc (Nat.le_refl _) (.cells #[.int .i64 0,.int .i64 0,.slice none 0 0,.slice none 0 0] 39)
 have l0:((w.alloc (.cells #[.int .i64 c,.slice a n cap] 36)).alloc (.cells #[.int .i64 0,.int .i64 0,.slice none 0 0,.slice none 0 0] 39)).cell? ⟨w.heap.size,0,none⟩=some (.int .i64 c):=by rw[hb2.cell (p:=⟨w.heap.size,0,none⟩) (by simp)];simp
 have l1:((w.alloc (.cells #[.int .i64 c,.slice a n cap] 36)).alloc (.cells #[.int .i64 0,.int .i64 0,.slice none 0 0,.slice none 0 0] 39)).cell? ⟨w.heap.size,1,none⟩=some (.slice a n cap):=by rw[hb2.cell (p:=⟨w.heap.size,1,none⟩) (by simp)];simp
 clear hb1 hb2 hs hl hn
 go_enter Tryz.func96,Tryz.ntmps96
 go_wp2_with fail
 refine(HCK.out _ B0.out).mono ?_
 rintro e w2 ⟨rfl,hb2⟩
 have B2:=Lib.hid (B0.out.trans (hb2.mono B0.out.size))
 have F2:=Lib.hid (F0.out.below hb2 (by simp))
 clear hb2 l0 l1
 obtain⟨r0,r1,r2,r3,rf⟩:=F2.out
 go_wp2_with fail
 clear r0 r1 r2 r3 rf
 refine bodyPost_ret (v:= .tuple #[.agg #[.int .i64 0,.int .i64 0,.slice none 0 0,.slice none 0 0],.int .i64 5]) ?_ rfl ⟨_,rfl,flies_flat,below4 B2.out (Nat.le_succ _) _ _ _ _⟩
 obtain⟨e0,e1,e2,e3⟩:=res4 F2.out (.int .i64 0) (.int .i64 0) (.slice none 0 0) (.slice none 0 0)
 simp[results,Tryz.results96,go_sem,e0,e1,e2,e3]
theorem rlit_none (c:Int)(a:Option Addr)(cap:Nat)(w:World)(hs:snd c []=true)(k:Int)(hk:k=if c≤0 then 0 else 1):
 Calls Tryz.prog 96 #[.agg #[.int .i64 c,.slice a 0 cap]] w (LitEnd w.heap.size (.mk k 0 [] []) (.int .i64 0) w):=by
 have HCK:Hid (∀W,Below w.heap.size w W→Calls Tryz.prog 24 #[.agg #[.int .i64 c,.slice a 0 cap]] W fun e w'=>e= .returned (.bool true)∧Below W.heap.size W w'):=fun W hb=>by
  have:=rcheck_any c a 0 cap [] W rfl (by omega) (fun i hi=>absurd hi (Nat.not_lt_zero i))
  rwa [hs]at this
 have hb1:Below w.heap.size w (w.alloc (.cells #[.int .i64 c,.slice a 0 cap] 36)):=(Below.refl _ w).alloc (Nat.le_refl _) _
 have B0:Hid (Below w.heap.size w ((w.alloc (.cells #[.int .i64 c,.slice a 0 cap] 36)).alloc (.cells #[.int .i64 0,.int .i64 0,.slice none 0 0,.slice none 0 0] 39))):=hb1.alloc hb1.size _
 have F0:=Lib.hid (fb_new (w.alloc (.cells #[.int .i64 c,.slice a 0 cap] 36)) (w.heap.size+1) (by simp))
 have hb2:=(Below.refl (w.alloc (.cells #[.int .i64 c,.slice a 0 cap] 36)).heap.size (w.alloc (.cells #[.int .i64 c,.slice a 0 cap] 36))).alloc (Nat.le_refl _) (.cells #[.int .i64 0,.int .i64 0,.slice none 0 0,.slice none 0 0] 39)
 have l0:((w.alloc (.cells #[.int .i64 c,.slice a 0 cap] 36)).alloc (.cells #[.int .i64 0,.int .i64 0,.slice none 0 0,.slice none 0 0] 39)).cell? ⟨w.heap.size,0,none⟩=some (.int .i64 c):=by rw[hb2.cell (p:=⟨w.heap.size,0,none⟩) (by simp)];simp
 have l1:((w.alloc (.cells #[.int .i64 c,.slice a 0 cap] 36)).alloc (.cells #[.int .i64 0,.int .i64 0,.slice none 0 0,.slice none 0 0] 39)).cell? ⟨w.heap.size,1,none⟩=some (.slice a 0 cap):=by rw[hb2.cell (p:=⟨w.heap.size,1,none⟩) (by simp)];simp
 clear hb1 hb2 hs
 by_cases hc:c≤0
 ·rw[if_pos hc]at hk
  subst hk
  have hc':¬ 0<c:=by omega
  go_enter Tryz.func96,Tryz.ntmps96
  go_wp2_with fail
  refine(HCK.out _ B0.out).mono ?_
  rintro e w2 ⟨rfl,hb2⟩
  have B2:=Lib.hid (B0.out.trans (hb2.mono B0.out.size))
  have F2:=Lib.hid (F0.out.below hb2 (by simp))
  have d0:w2.cell? ⟨w.heap.size,0,none⟩=some (.int .i64 c):=(hb2.cell (p:=⟨w.heap.size,0,none⟩) (by simp;omega)).trans l0
  have d1:w2.cell? ⟨w.heap.size,1,none⟩=some (.slice a 0 cap):=(hb2.cell (p:=⟨w.heap.size,1,none⟩) (by simp;omega)).trans l1
  clear hb2 l0 l1
  obtain⟨r0,r1,r2,r3,rf⟩:=F2.out
  go_wp2_with fail
  clear r0 r1 r2 r3 rf d0 d1
  refine bodyPost_ret (v:= .tuple #[.agg #[.int .i64 0,.int .i64 0,.slice none 0 0,.slice none 0 0],.int .i64 0]) ?_ rfl ⟨_,rfl,flies_flat,below4 B2.out (Nat.le_succ _) _ _ _ _⟩
  obtain⟨e0,e1,e2,e3⟩:=res4 F2.out (.int .i64 0) (.int .i64 0) (.slice none 0 0) (.slice none 0 0)
  simp[results,Tryz.results96,go_sem,e0,e1,e2,e3]
 ·rw[if_neg hc]at hk
  subst hk
  have hc':0<c:=by omega
  go_enter Tryz.func96,Tryz.ntmps96
  go_wp2_with fail
  refine(HCK.out _ B0.out).mono ?_
  rintro e w2 ⟨rfl,hb2⟩
  have B2:=Lib.hid (B0.out.trans (hb2.mono B0.out.size))
  have F2:=Lib.hid (F0.out.below hb2 (by simp))
  have d0:w2.cell? ⟨w.heap.size,0,none⟩=some (.int .i64 c):=(hb2.cell (p:=⟨w.heap.size,0,none⟩) (by simp;omega)).trans l0
  have d1:w2.cell? ⟨w.heap.size,1,none⟩=some (.slice a 0 cap):=(hb2.cell (p:=⟨w.heap.size,1,none⟩) (by simp;omega)).trans l1
  clear hb2 l0 l1
  obtain⟨r0,r1,r2,r3,rf⟩:=F2.out
  go_wp2_with fail
  clear r0 r1 r2 r3 rf d0 d1
  refine bodyPost_ret (v:= .tuple #[.agg #[.int .i64 1,.int .i64 0,.slice none 0 0,.slice none 0 0],.int .i64 0]) ?_ rfl ⟨_,rfl,flies_flat,below4 B2.out (Nat.le_succ _) _ _ _ _⟩
  obtain⟨e0,e1,e2,e3⟩:=res4 F2.out (.int .i64 1) (.int .i64 0) (.slice none 0 0) (.slice none 0 0)
  simp[results,Tryz.results96,go_sem,e0,e1,e2,e3]
structure LitSt (w W:World)(c u:Int)(a:Option Addr)(n cap Mb:Nat)(v:Value)(r:List (Int×Int)):Prop where
 row:Row (Mb+1) r v W
 l0:W.cell? ⟨w.heap.size,0,none⟩=some (.int .i64 c)
 l1:W.cell? ⟨w.heap.size,1,none⟩=some (.slice a n cap)
 fb:FB W (w.heap.size+1)
 m0:W.cell? ⟨Mb,0,none⟩=some (.int .i64 u)
 m1:W.cell? ⟨Mb,1,none⟩=some v
 mf:∀o,W.frozen? ⟨Mb,o,none⟩=false
 lt:w.heap.size+1<Mb
 mz:Mb<W.heap.size
 bel:Below w.heap.size w W
theorem LitSt.start {w w1:World}{c u:Int}{a:Option Addr}{n cap:Nat}(hb:Below w.heap.size w w1)(hz:w.heap.size+1<w1.heap.size)(p0:w1.cell? ⟨w.heap.size,0,none⟩=some (.int .i64 c))(p1:w1.cell? ⟨w.heap.size,1,none⟩=some (.slice a n cap))(hf:FB w1 (w.heap.size+1)):
 LitSt w (w1.alloc (.cells #[.int .i64 u,.slice none 0 0] 36)) c u a n cap w1.heap.size (.slice none 0 0) []:=by
 have hba:Below w1.heap.size w1 (w1.alloc (.cells #[.int .i64 u,.slice none 0 0] 36)):=(Below.refl _ w1).alloc (Nat.le_refl _) _
 have hn:=heap_alloc_new w1 (.cells #[.int .i64 u,.slice none 0 0] 36)
 exact⟨World.ownsRow_nil _ _ _ _,(hba.cell (p:=⟨w.heap.size,0,none⟩) (by show w.heap.size<_;omega)).trans p0,(hba.cell (p:=⟨w.heap.size,1,none⟩) (by show w.heap.size<_;omega)).trans p1,hf.below hba hz,
  by rw[cell_of_row _ _ _ _ _ _ hn];rfl,by rw[cell_of_row _ _ _ _ _ _ hn];rfl,fun o=>frozen_of_row _ _ _ _ _ hn,hz,by simp,hb.trans (hba.mono hb.size)⟩
theorem LitSt.below {w W w6 w5:World}{c u:Int}{a:Option Addr}{n cap Mb:Nat}{v:Value}{r:List (Int×Int)}(h:LitSt w W c u a n cap Mb v r)(hb5:Below (Mb+1) W w5)(hg:w5.grownBy w6 v.ownBlock):Below (Mb+1) W w6:=
 hb5.grown hg (Nat.le_trans h.mz hb5.size) (fun j hj=>(World.ownsRow.lt h.row j hj).1)
theorem LitSt.far {w W w6 w5:World}{c u:Int}{a:Option Addr}{n cap Mb:Nat}{v:Value}{r:List (Int×Int)}(h:LitSt w W c u a n cap Mb v r)(hb5:Below (Mb+1) W w5)(hg:w5.grownBy w6 v.ownBlock):
 w6.cell? ⟨Mb,1,none⟩=some v∧∀o,w6.frozen? ⟨Mb,o,none⟩=false:=by
 have hb6:=h.below hb5 hg
 exact⟨(hb6.cell (p:=⟨Mb,1,none⟩) (Nat.lt_succ_self _)).trans h.m1,fun o=>(hb6.frozen (p:=⟨Mb,o,none⟩) (Nat.lt_succ_self _)).trans (h.mf o)⟩
theorem LitSt.step {w W w6 w5:World}{c u:Int}{a:Option Addr}{n cap Mb:Nat}{v v6:Value}{r r6:List (Int×Int)}(h:LitSt w W c u a n cap Mb v r)(hb5:Below (Mb+1) W w5)(hg:w5.grownBy w6 v.ownBlock)(hr:Row (Mb+1) r6 v6 w6):
 LitSt w (w6.setCell ⟨Mb,1,none⟩ v6) c u a n cap Mb v6 r6:=by
 have hb6:=h.below hb5 hg
 have hlt:=h.lt
 have hz6:Mb<w6.heap.size:=Nat.lt_of_lt_of_le h.mz hb6.size
 have k:w6.grownBy (w6.setCell ⟨Mb,1,none⟩ v6) (some Mb):=⟨rfl,rfl,rfl,Nat.le_of_eq (World.size_setCell _ _ _).symm,fun q _ hq=>Below.heap_setCell _ _ _ _ (fun e=>hq (by rw[e]))⟩
 have hc:∀b o,b<Mb→(w6.setCell ⟨Mb,1,none⟩ v6).cell? ⟨b,o,none⟩=W.cell? ⟨b,o,none⟩:=fun b o hb=>by
  rw[World.cell?_setCell_other _ _ _ _ (by simp<;>omega)]
  exact hb6.cell (p:=⟨b,o,none⟩) (by show b<_;omega)
 have hf:∀b o,b≤Mb→(w6.setCell ⟨Mb,1,none⟩ v6).frozen? ⟨b,o,none⟩=W.frozen? ⟨b,o,none⟩:=fun b o hb=>(World.frozen?_setCell _ _ _ _).trans (hb6.frozen (p:=⟨b,o,none⟩) (by show b<_;omega))
 refine⟨World.ownsRow.kept hr k (.inr (fun e=> ?_)),(hc _ _ (by omega)).trans h.l0,(hc _ _ (by omega)).trans h.l1,⟨(hc _ _ hlt).trans h.fb.r0,(hc _ _ hlt).trans h.fb.r1,(hc _ _ hlt).trans h.fb.r2,(hc _ _ hlt).trans h.fb.r3,fun o=>(hf _ o (by omega)).trans (h.fb.fz o)⟩, ?_, ?_,fun o=>(hf _ o (Nat.le_refl _)).trans (h.mf o),hlt,by rw[World.size_setCell];exact hz6,(h.bel.trans (hb6.mono (by omega))).setCell (p:=⟨Mb,1,none⟩) (by show _≤Mb;omega) _⟩
 ·have:=(World.ownsRow.lt hr _ e).1;omega
 ·rw[World.cell?_setCell_other _ _ _ _ (by simp)]
  exact(hb6.cell (p:=⟨Mb,0,none⟩) (Nat.lt_succ_self _)).trans h.m0
 ·exact World.cell?_setCell_same _ _ _ (h.far hb5 hg).1
end
end Go.Proofs.YtipahfcaplbifaaGreatDoor
