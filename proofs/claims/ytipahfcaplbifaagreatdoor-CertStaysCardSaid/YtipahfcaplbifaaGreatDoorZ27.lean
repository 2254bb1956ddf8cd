/- Parts of a proof. -/
import Derived.Test.YtipahfcaplbifaaGreatDoorZ05
import Derived.Test.YtipahfcaplbifaaGreatDoorZ13
import Derived.Test.YtipahfcaplbifaaGreatDoorZ14
import Derived.Test.YtipahfcaplbifaaGreatDoorZ15
import Derived.Test.YtipahfcaplbifaaGreatDoorZ17
import Derived.Test.YtipahfcaplbifaaGreatDoorZ19
import Derived.Lib.QuietBelow
import Derived.BigQuiet
import Derived.Carry
import Derived.Lib.SmallJoins
import Derived.Deep.RegionWith
set_option linter.unusedVariables false
set_option linter.unusedSimpArgs false
set_option maxHeartbeats 60000000
set_option maxRecDepth 100000
namespace Go.Proofs.YtipahfcaplbifaaGreatDoor
section
open Go.RowKit
def atomsF (n:Nat)(f:FT):List (Int×List (Int×Int)):=gatF n f []
def makF (n:Nat)(f:FT):MkR:=mkF (atomsF n f) n f (atomsF n f).length []
def clsF (n:Nat)(f:FT):List (List Int):=(makF n f).cl ++ [[(makF n f).lit]]
def cnfK (n:Nat)(f:FT):Int:=if isF n f=false then 5 else if 8192<(makF n f).n∨Prp.chkK (makF n f).n (clsF n f)≠0 then 2 else 0
def CnfOk (n:Nat)(f:FT)(B:Nat)(w':World)(av cv:Value):Prop:=
 ∃(K:Nat) (Sa Sc:Nat→Prop),B≤K∧K≤w'.heap.size∧OwnP linSh 36 B Sa (atomsF n f) av w'∧(∀b,Sa b→B≤b∧b<K)∧(∀q,av.ownBlock=some q→q<K)∧OwnP Pak.clauseSh 23 K Sc (clsF n f) cv w'∧(∀b,Sc b→K≤b)∧(∀b,(Sa b∨Sc b)→∀o,w'.frozen? ⟨b,o,none⟩=false)
def CnfEnd (n:Nat)(f:FT)(w:World)(e:Ending)(w':World):Prop:=
 (cnfK n f≠0→e= .returned (.tuple #[.agg #[.int .i64 0,.slice none 0 0,.slice none 0 0],.iface 60 (.int .i64 (cnfK n f))]))∧(cnfK n f=0→∃av cv,e= .returned (.tuple #[.agg #[.int .i64 (makF n f).n,av,cv],.nilIface])∧CnfOk n f w.heap.size w' av cv)∧Below w.heap.size w w'
structure RC (W:World)(No:Nat):Prop where
 r0:W.cell? ⟨No,0,none⟩=some (.int .i64 0)
 r1:W.cell? ⟨No,1,none⟩=some (.slice none 0 0)
 r2:W.cell? ⟨No,2,none⟩=some (.slice none 0 0)
 fz:∀o,W.frozen? ⟨No,o,none⟩=false
theorem RC.keep {W W':World}{M:Nat}(h:RC W M)(hb:W'.heap[M]? =W.heap[M]?):RC W' M:=by
 have c:=fun j=>World.cell?_of_block (a:=⟨M,j,none⟩) hb
 exact⟨(c 0).trans h.r0,(c 1).trans h.r1,(c 2).trans h.r2,fun o=>(World.frozen?_of_block (a:=⟨M,o,none⟩) hb).trans (h.fz o)⟩
theorem rc_new (W:World)(N:Nat)(hN:W.heap.size=N):RC (W.alloc (.cells #[.int .i64 0,.slice none 0 0,.slice none 0 0] 71)) N:=by
 subst hN
 have hb:=heap_alloc_new W (.cells #[.int .i64 0,.slice none 0 0,.slice none 0 0] 71)
 exact⟨by rw[cell_of_row _ _ _ _ _ _ hb];rfl,by rw[cell_of_row _ _ _ _ _ _ hb];rfl,by rw[cell_of_row _ _ _ _ _ _ hb];rfl,fun o=>frozen_of_row _ _ _ _ _ hb⟩
theorem res3 {W:World}{No:Nat}(h:RC W No)(x0 x1 x2:Value):
 let W':=((W.setCell ⟨No,0,none⟩ x0).setCell ⟨No,1,none⟩ x1).setCell ⟨No,2,none⟩ x2
 W'.cell? ⟨No,0,none⟩=some x0∧W'.cell? ⟨No,1,none⟩=some x1∧W'.cell? ⟨No,2,none⟩=some x2:=by
 refine⟨?_, ?_, ?_⟩
 ·rw[World.cell?_setCell_other _ _ _ _ (by simp),World.cell?_setCell_other _ _ _ _ (by simp)]
  exact World.cell?_setCell_same _ _ _ h.r0
 ·rw[World.cell?_setCell_other _ _ _ _ (by simp)]
  refine World.cell?_setCell_same _ _ _ (u:= .slice none 0 0) ?_
  rw[World.cell?_setCell_other _ _ _ _ (by simp)];exact h.r1
 ·refine World.cell?_setCell_same _ _ _ (u:= .slice none 0 0) ?_
  rw[World.cell?_setCell_other _ _ _ _ (by simp),World.cell?_setCell_other _ _ _ _ (by simp)];exact h.r2
theorem below3 {w W:World}{B No:Nat}(h:Below B w W)(hB:B≤No)(x0 x1 x2:Value):Below B w (((W.setCell ⟨No,0,none⟩ x0).setCell ⟨No,1,none⟩ x1).setCell ⟨No,2,none⟩ x2):=
 ((h.setCell (p:=⟨No,0,none⟩) hB _).setCell (p:=⟨No,1,none⟩) hB _).setCell (p:=⟨No,2,none⟩) hB _
theorem cnfOk_set {n:Nat}{f:FT}{B No:Nat}{W:World}{av cv:Value}(h:CnfOk n f B W av cv)(hN:No<B)(x0 x1 x2:Value):CnfOk n f B (((W.setCell ⟨No,0,none⟩ x0).setCell ⟨No,1,none⟩ x1).setCell ⟨No,2,none⟩ x2) av cv:=by
 obtain⟨K,Sa,Sc,h1,h2,h3,h4,h5,h6,h7,h8⟩:=h
 have hsz:(((W.setCell ⟨No,0,none⟩ x0).setCell ⟨No,1,none⟩ x1).setCell ⟨No,2,none⟩ x2).heap.size=W.heap.size:=by simp[World.setCell]
 have hk:∀q,B≤q→(((W.setCell ⟨No,0,none⟩ x0).setCell ⟨No,1,none⟩ x1).setCell ⟨No,2,none⟩ x2).heap[q]? =W.heap[q]? :=fun q hq=>by
  rw[Below.heap_setCell _ _ _ _ (show q≠No by omega),Below.heap_setCell _ _ _ _ (show q≠No by omega),Below.heap_setCell _ _ _ _ (show q≠No by omega)]
 refine⟨K,Sa,Sc,h1,by rw[hsz];exact h2,h3.keep (Nat.le_of_eq hsz.symm) (fun q hq=>hk q ?_),h4,h5,h6.keep (Nat.le_of_eq hsz.symm) (fun q hq=>hk q ?_),h7,fun b hb o=>by rw[World.frozen?_setCell,World.frozen?_setCell,World.frozen?_setCell];exact h8 b hb o⟩
 ·rcases hq with hq | hq
  ·exact(h4 q hq).1
  ·exact(h3.lt q hq).1
 ·rcases hq with hq | hq
  ·exact Nat.le_trans h1 (h7 q hq)
  ·exact Nat.le_trans h1 (h6.lt q hq).1
theorem cls_len {n:Nat}{f:FT}(h:isF n f=true):2*(atomsF n f).length+siz n f≤100000∧(makF n f).n≤60000∧(clsF n f).length≤60000∧∀c∈clsF n f,c.length≤60000:=by
 unfold isF at h
 simp only[Bool.and_eq_true,decide_eq_true_eq]at h
 obtain⟨_,h1,h2⟩:=h
 have ha:=gatF_le n f []
 have hf:=(mkF_fits (atomsF n f) n f (atomsF n f).length [] h2).1
 have e:(atomsF n f).length≤siz n f:=by have:=ha.2;simp at this;exact this
 refine⟨by omega,by have:=hf.n;unfold makF;omega, ?_,fun c hc=> ?_⟩
 ·have:=hf.c
  unfold clsF makF
  rw[List.length_append]
  simp at this⊢
  omega
 ·unfold clsF at hc
  rcases List.mem_append.1 hc with hc | hc
  ·rcases hf.l c hc with h | h
   ·cases h
   ·omega
  ·rw[List.mem_singleton]at hc
   subst hc
   simp
end
section
open Go.RowKit
theorem GS.start {w:World}{mp:Nat}(hmp:w.heap.size=mp):GS (mp+1) (mp+2) mp [] none (fun _=>False) ((w.alloc (.map #[] 0)).alloc (.cells #[.int .i64 0,.slice none 0 0,.slice none 0 0,.map (some mp)] 110)):=by
 subst hmp
 have hz:(w.alloc (.map #[] 0)).heap.size=w.heap.size+1:=by simp
 have hn:=heap_alloc_new (w.alloc (.map #[] 0)) (.cells #[.int .i64 0,.slice none 0 0,.slice none 0 0,.map (some w.heap.size)] 110)
 rw[hz]at hn
 have hA:Below (w.alloc (.map #[] 0)).heap.size (w.alloc (.map #[] 0)) ((w.alloc (.map #[] 0)).alloc (.cells #[.int .i64 0,.slice none 0 0,.slice none 0 0,.map (some w.heap.size)] 110)):=(Below.refl _ _).alloc (Nat.le_refl _) _
 refine⟨(cell_of_row _ _ _ _ _ _ hn).trans rfl,⟨_,(cell_of_row _ _ _ _ _ _ hn).trans rfl,rfl,OwnP.nil _ _ _ _⟩,(cell_of_row _ _ _ _ _ _ hn).trans rfl,(cell_of_row _ _ _ _ _ _ hn).trans rfl,fun b hb=>hb.elim,fun j=>frozen_of_row _ _ _ _ _ hn,⟨Nat.lt_succ_self _,Nat.lt_succ_self _,by simp⟩,(Places.made w).keep (hA.block _ (by rw[hz];exact Nat.lt_succ_self _)),fun b hb=>hb.elim⟩
theorem GS.begin {M K mp:Nat}{am:List (Int×List (Int×Int))}{r:Option Nat}{S:Nat→Prop}{w:World}{v:Value}(h:GS M K mp am r S w)(hv:w.cell? ⟨M,1,none⟩=some v)(N:Nat):
 LS M w.heap.size mp v N [] none (fun _=>False) (w.setCell ⟨M,0,none⟩ (.int .i64 N))∧Places am mp (w.setCell ⟨M,0,none⟩ (.int .i64 N)):=by
 have hl:=h.lt
 have hsz:(w.setCell ⟨M,0,none⟩ (.int .i64 N)).heap.size=w.heap.size:=by simp[World.setCell]
 refine⟨⟨World.cell?_setCell_same' _ _ _ (by rw[h.c0];rfl),(World.cell?_setCell_other w ⟨M,0,none⟩ ⟨M,1,none⟩ _ (by simp)).trans hv,⟨_,(World.cell?_setCell_other w ⟨M,0,none⟩ ⟨M,2,none⟩ _ (by simp)).trans h.c2,rfl,OwnP.nil _ _ _ _⟩,fun b hb=>hb.elim,(World.cell?_setCell_other w ⟨M,0,none⟩ ⟨M,3,none⟩ _ (by simp)).trans h.c3,fun j=>by rw[World.frozen?_setCell];exact h.fz j,⟨by omega,by rw[hsz];exact Nat.le_refl _⟩,fun b hb=>hb.elim⟩,h.pl.keep (Below.heap_setCell _ _ _ _ (show mp≠M by omega))⟩
structure MkEnd (n:Nat)(f:FT)(w W:World)(M:Nat)(av cv:Value):Prop where
 ok:CnfOk n f (w.heap.size+2) W av cv
 c0:W.cell? ⟨M,0,none⟩=some (.int .i64 (makF n f).n)
 c1:W.cell? ⟨M,1,none⟩=some av
 c2:W.cell? ⟨M,2,none⟩=some cv
 rc:RC W (w.heap.size+1)
 lt:w.heap.size+2<M∧M<W.heap.size
 bel:Below w.heap.size w W
theorem MkEnd.below {n:Nat}{f:FT}{w W W':World}{M:Nat}{av cv:Value}(h:MkEnd n f w W M av cv)(hb:Below W.heap.size W W'):MkEnd n f w W' M av cv:=by
 obtain⟨K,Sa,Sc,h1,h2,h3,h4,h5,h6,h7,h8⟩:=h.ok
 have hl:=h.lt
 have c:=fun j=>hb.cell (p:=⟨M,j,none⟩) hl.2
 exact⟨⟨K,Sa,Sc,h1,Nat.le_trans h2 hb.size,h3.below hb,h4,h5,h6.below hb,h7,fun b hbb o=>(World.frozen?_of_block (a:=⟨b,o,none⟩) (hb.block b (by
  rcases hbb with hbb | hbb
  ·exact(h3.ok b hbb).1
  ·exact(h6.ok b hbb).1))).trans (h8 b hbb o)⟩,(c 0).trans h.c0,(c 1).trans h.c1,(c 2).trans h.c2,h.rc.keep (hb.block _ (by omega)),⟨hl.1,Nat.lt_of_lt_of_le hl.2 hb.size⟩,h.bel.trans (hb.mono h.bel.size)⟩
end
section
open Go.RowKit
theorem make_no (n:Nat)(f:FT)(cs:List Value)(w:World)(h:FLies w.heap.size w (n+1) f cs)(hi:isF (n+1) f=false):
 Calls Tryz.prog 31 #[.agg cs.toArray] w (CnfEnd (n+1) f w):=by
 obtain⟨ta,tcap,ka,kcap,rfl,h4,h5,h6,h7⟩:=h
 have hfl:FLies w.heap.size w (n+1) f [.int .i64 f.kind,.int .i64 f.c,.slice ta f.t.length tcap,.slice ka f.ks.length kcap]:=⟨ta,tcap,ka,kcap,rfl,h4,h5,h6,h7⟩
 have HK:Hid (cnfK (n+1) f=5):=Lib.hid (by unfold cnfK;rw[if_pos hi])
 have hA:Below w.heap.size w (w.alloc (.cells #[.int .i64 f.kind,.int .i64 f.c,.slice ta f.t.length tcap,.slice ka f.ks.length kcap] 39)):=(Below.refl _ w).alloc (Nat.le_refl _) _
 have HB:=box_start w f.kind f.c ta ka f.t.length tcap f.ks.length kcap
 have hA2:Below (w.alloc (.cells #[.int .i64 f.kind,.int .i64 f.c,.slice ta f.t.length tcap,.slice ka f.ks.length kcap] 39)).heap.size (w.alloc (.cells #[.int .i64 f.kind,.int .i64 f.c,.slice ta f.t.length tcap,.slice ka f.ks.length kcap] 39)) ((w.alloc (.cells #[.int .i64 f.kind,.int .i64 f.c,.slice ta f.t.length tcap,.slice ka f.ks.length kcap] 39)).alloc (.cells #[.int .i64 0,.slice none 0 0,.slice none 0 0] 71)):=(Below.refl _ _).alloc (Nat.le_refl _) _
 have hz1:(w.alloc (.cells #[.int .i64 f.kind,.int .i64 f.c,.slice ta f.t.length tcap,.slice ka f.ks.length kcap] 39)).heap.size=w.heap.size+1:=by simp
 have hrc:=rc_new (w.alloc (.cells #[.int .i64 f.kind,.int .i64 f.c,.slice ta f.t.length tcap,.slice ka f.ks.length kcap] 39)) (w.heap.size+1) hz1
 have hAA:=hA.trans (hA2.mono hA.size)
 have hz2:((w.alloc (.cells #[.int .i64 f.kind,.int .i64 f.c,.slice ta f.t.length tcap,.slice ka f.ks.length kcap] 39)).alloc (.cells #[.int .i64 0,.slice none 0 0,.slice none 0 0] 71)).heap.size=w.heap.size+2:=by simp
 have HIS:=Lib.hid (nis_any (n+1) f _ _ ((hfl.below hAA).mono hAA.size))
 rw[hi]at HIS
 have hbx:=fun j=>hA2.cell (p:=⟨w.heap.size,j,none⟩) (show w.heap.size<_ by rw[hz1];omega)
 have b0:=(hbx 0).trans HB.c0
 have b1:=(hbx 1).trans HB.c1
 have b2:=(hbx 2).trans HB.c2
 have b3:=(hbx 3).trans HB.c3
 have HZ2:=Lib.hid hz2
 have HRC:=Lib.hid hrc
 have HAA:=Lib.hid hAA
 unfold CnfEnd
 rw[HK.out]
 clear HK hA HB hA2 hz1 hz2 hrc hAA hbx hfl h4 h7 hi
 generalize f.kind=fk at*
 generalize f.c=fc at*
 generalize f.t.length=ft at*
 generalize f.ks.length=fl at*
 go_enter Tryz.func31,Tryz.ntmps31
 go_wp2_with fail
 generalize (w.alloc (.cells #[.int .i64 fk,.int .i64 fc,.slice ta ft tcap,.slice ka fl kcap] 39)).alloc (.cells #[.int .i64 0,.slice none 0 0,.slice none 0 0] 71)=W2 at*
 refine HIS.out.mono ?_
 rintro e w3 ⟨rfl,hb3⟩
 have hr3:=HRC.out.keep (hb3.block (w.heap.size+1) (by rw[HZ2.out];omega))
 have HR3:=Lib.hid hr3
 have HB3:=Lib.hid (HAA.out.trans (hb3.mono HAA.out.size))
 clear hb3 hr3 b0 b1 b2 b3
 obtain⟨r0,r1,r2,rf⟩:=HR3.out
 go_wp2_with fail
 clear r0 r1 r2 rf
 refine bodyPost_ret (v:= .tuple #[.agg #[.int .i64 0,.slice none 0 0,.slice none 0 0],.iface 60 (.int .i64 5)]) ?_ rfl ⟨fun _=>rfl,fun h=>absurd h (by decide),below3 HB3.out (Nat.le_succ _) _ _ _⟩
 obtain⟨e0,e1,e2⟩:=res3 HR3.out (.int .i64 0) (.slice none 0 0) (.slice none 0 0)
 simp[results,Tryz.results31,go_sem,e0,e1,e2]
end
section
open Go.RowKit
theorem OwnP.lower {T:Type}{sh:Pak.Sh T}{e:TypeId}{B B':Nat}{S:Nat→Prop}{xs:List T}{v:Value}{w:World}(h:OwnP sh e B S xs v w)(hB:B'≤B):OwnP sh e B' S xs v w:=by
 obtain⟨css,h1,h2,h3⟩:=h.row
 exact⟨⟨css,h1,Joins.ownsRow_le h2 hB,h3⟩,h.ok⟩
theorem mk_end {n:Nat}{f:FT}{w w5 w8:World}{mp:Nat}{r5 r8:Option Nat}{S5 S8:Nat→Prop}{av:Value}(hm:w.heap.size+2≤mp)(hG5:GS (mp+1) (mp+2) mp (atomsF n f) r5 S5 w5)(hO5:OwnP linSh 36 (mp+2) S5 (atomsF n f) av w5)
 (hk:∀q,q<w5.heap.size→q≠mp+1→w8.heap[q]? =w5.heap[q]?) (hL8:LS (mp+1) w5.heap.size mp av (makF n f).n (clsF n f) r8 S8 w8) (hsz:w5.heap.size≤w8.heap.size) (hb:Below w.heap.size w w8) (hrc:RC w8 (w.heap.size+1)):∃cv,MkEnd n f w w8 (mp+1) av cv:=by
 obtain⟨cv,h2,h3,h4⟩:=hL8.ex
 have hlt:=hG5.lt
 refine⟨cv,⟨⟨w5.heap.size,S5,S8,by omega,hsz,(hO5.lower (by omega)).keep hsz (fun q hq=>hk q ?_ ?_),fun b hb=>⟨by have:=hG5.lo b hb;omega,hG5.ok b hb⟩,fun q hq=>(hO5.lt q hq).2,h4,hL8.lo,fun b hb o=> ?_⟩,hL8.c0,hL8.c1,h2,hrc,⟨by omega,by omega⟩,hb⟩⟩
 ·rcases hq with hq | hq
  ·exact hG5.ok q hq
  ·exact(hO5.lt q hq).2
 ·rcases hq with hq | hq
  ·have:=hG5.lo q hq;omega
  ·have:=(hO5.lt q hq).1;omega
 ·rcases hb with hb | hb
  ·exact(World.frozen?_of_block (a:=⟨b,o,none⟩) (hk b (hG5.ok b hb) (by have:=hG5.lo b hb;omega))).trans (hG5.nf b hb o)
  ·exact hL8.nf b hb o
theorem make_go (n:Nat)(f:FT)(cs:List Value)(w:World)(h:FLies w.heap.size w (n+1) f cs)(ht:Tens w.heap.size w)(hi:isF (n+1) f=true):
 Calls Tryz.prog 31 #[.agg cs.toArray] w (CnfEnd (n+1) f w):=by
 obtain⟨ta,tcap,ka,kcap,rfl,h4,h5,h6,h7⟩:=h
 have hfl:FLies w.heap.size w (n+1) f [.int .i64 f.kind,.int .i64 f.c,.slice ta f.t.length tcap,.slice ka f.ks.length kcap]:=⟨ta,tcap,ka,kcap,rfl,h4,h5,h6,h7⟩
 obtain⟨hq1,hq2,hq3,hq4⟩:=cls_len hi
 have hmd:madeF (n+1) f=true:=by unfold isF at hi;simp only[Bool.and_eq_true]at hi;exact hi.2.2
 have HK:Hid (cnfK (n+1) f=if 8192<(makF (n+1) f).n∨Prp.chkK (makF (n+1) f).n (clsF (n+1) f)≠0 then 2 else 0):=Lib.hid (by unfold cnfK;rw[if_neg (by rw[hi];simp)])
 have hA:Below w.heap.size w (w.alloc (.cells #[.int .i64 f.kind,.int .i64 f.c,.slice ta f.t.length tcap,.slice ka f.ks.length kcap] 39)):=(Below.refl _ w).alloc (Nat.le_refl _) _
 have HB:=box_start w f.kind f.c ta ka f.t.length tcap f.ks.length kcap
 have hA2:Below (w.alloc (.cells #[.int .i64 f.kind,.int .i64 f.c,.slice ta f.t.length tcap,.slice ka f.ks.length kcap] 39)).heap.size (w.alloc (.cells #[.int .i64 f.kind,.int .i64 f.c,.slice ta f.t.length tcap,.slice ka f.ks.length kcap] 39)) ((w.alloc (.cells #[.int .i64 f.kind,.int .i64 f.c,.slice ta f.t.length tcap,.slice ka f.ks.length kcap] 39)).alloc (.cells #[.int .i64 0,.slice none 0 0,.slice none 0 0] 71)):=(Below.refl _ _).alloc (Nat.le_refl _) _
 have hz1:(w.alloc (.cells #[.int .i64 f.kind,.int .i64 f.c,.slice ta f.t.length tcap,.slice ka f.ks.length kcap] 39)).heap.size=w.heap.size+1:=by simp
 have hrc:=rc_new (w.alloc (.cells #[.int .i64 f.kind,.int .i64 f.c,.slice ta f.t.length tcap,.slice ka f.ks.length kcap] 39)) (w.heap.size+1) hz1
 have hAA:=hA.trans (hA2.mono hA.size)
 have hz2:((w.alloc (.cells #[.int .i64 f.kind,.int .i64 f.c,.slice ta f.t.length tcap,.slice ka f.ks.length kcap] 39)).alloc (.cells #[.int .i64 0,.slice none 0 0,.slice none 0 0] 71)).heap.size=w.heap.size+2:=by simp
 have HIS:=Lib.hid (nis_any (n+1) f _ _ ((hfl.below hAA).mono hAA.size))
 rw[hi]at HIS
 have hbx:=fun j=>hA2.cell (p:=⟨w.heap.size,j,none⟩) (show w.heap.size<_ by rw[hz1];omega)
 have b0:=(hbx 0).trans HB.c0
 have b1:=(hbx 1).trans HB.c1
 have b2:=(hbx 2).trans HB.c2
 have b3:=(hbx 3).trans HB.c3
 have HGAT:=Lib.hid (fun(W:World) (mp:Nat) (hmp:w.heap.size≤mp) (hb:Below w.heap.size w W) (hS:GS (mp+1) (mp+2) mp [] none (fun _=>False) W)=>gat_any w.heap.size (mp+1) (mp+2) mp hmp (n+1) f _ [] none (fun _=>False) W (hfl.below hb) hmd hS (ht.up hb hmp) (by have:=hq1;simp;omega))
 have HLIT:=Lib.hid (fun(W:World) (mp K:Nat) (av:Value) (hmp:w.heap.size≤mp) (hb:Below w.heap.size w W) (hS:LS (mp+1) K mp av (atomsF (n+1) f).length [] none (fun _=>False) W) (hp:Places (atomsF (n+1) f) mp W)=>lit_any (atomsF (n+1) f) w.heap.size (mp+1) K mp av (by omega) (by omega) (n+1) f _ (atomsF (n+1) f).length [] none (fun _=>False) W (hfl.below hb) hmd hS hp (ht.up hb (by omega)) (by omega) (by simp;omega))
 have hlf:=mkF_far (am:=atomsF (n+1) f) (N:=(atomsF (n+1) f).length) (cl:=[]) hmd (by omega)
 have HQ:=Lib.hid (And.intro hq1 (And.intro hq2 (And.intro hq3 hq4)))
 have HZ2:=Lib.hid hz2
 have HRC:=Lib.hid hrc
 have HAA:=Lib.hid hAA
 have HMK:Hid (mkF (atomsF (n+1) f) (n+1) f (atomsF (n+1) f).length []=makF (n+1) f):=rfl
 have HCL:Hid (clsF (n+1) f=(makF (n+1) f).cl ++ [[(makF (n+1) f).lit]]):=rfl
 rw[HMK.out]at HLIT hlf
 clear hA HB hA2 hz1 hz2 hrc hAA hbx hfl h4 h7 hi ht hmd hq1 hq2 hq3 hq4
 unfold CnfEnd
 generalize f.kind=fk at*
 generalize f.c=fc at*
 generalize f.t.length=ft at*
 generalize f.ks.length=fl at*
 go_enter Tryz.func31,Tryz.ntmps31
 go_wp2_with fail
 generalize (w.alloc (.cells #[.int .i64 fk,.int .i64 fc,.slice ta ft tcap,.slice ka fl kcap] 39)).alloc (.cells #[.int .i64 0,.slice none 0 0,.slice none 0 0] 71)=W2 at*
 refine HIS.out.mono ?_
 rintro e w3 ⟨rfl,hb3⟩
 have hk3:=fun j=>hb3.cell (p:=⟨w.heap.size,j,none⟩) (show w.heap.size<_ by rw[HZ2.out];omega)
 have x0:=(hk3 0).trans b0
 have x1:=(hk3 1).trans b1
 have x2:=(hk3 2).trans b2
 have x3:=(hk3 3).trans b3
 have hz3:w.heap.size+2≤w3.heap.size:=by have:=hb3.size;rw[HZ2.out]at this;exact this
 obtain⟨mp,hmp⟩:∃mp,w3.heap.size=mp:=⟨_,rfl⟩
 have hGS:=GS.start hmp
 have HM:Hid (w.heap.size+2≤mp):=by rw[←hmp];exact hz3
 have hAm:Below w3.heap.size w3 ((w3.alloc (.map #[] 0)).alloc (.cells #[.int .i64 0,.slice none 0 0,.slice none 0 0,.map (some mp)] 110)):=((Below.refl _ w3).alloc (Nat.le_refl _) _).alloc (by simp) _
 have HB3:=Lib.hid (HAA.out.trans (hb3.mono HAA.out.size))
 have HR3:=Lib.hid (HRC.out.keep (hb3.block (w.heap.size+1) (by rw[HZ2.out];omega)))
 have HB4:=Lib.hid (HB3.out.trans (hAm.mono HB3.out.size))
 have HR4:=Lib.hid (HR3.out.keep (hAm.block (w.heap.size+1) (by omega)))
 have HG4:=Lib.hid (HGAT.out _ mp (by omega) HB4.out hGS)
 have hk4:=fun j=>hAm.cell (p:=⟨w.heap.size,j,none⟩) (show w.heap.size<_ by omega)
 have y0:=(hk4 0).trans x0
 have y1:=(hk4 1).trans x1
 have y2:=(hk4 2).trans x2
 have y3:=(hk4 3).trans x3
 have HGS:=Lib.hid hGS
 have HY:=Lib.hid (And.intro y0 (And.intro y1 (And.intro y2 y3)))
 have hmm:= @run_makeMap Tryz.prog
 clear hb3 b0 b1 b2 b3 hk3 hk4 HGAT HIS HR3 HB3 hAm hGS x0 x1 x2 x3
 subst hmp
 clear hz3
 go_wp2_with fail
 clear hmm
 clear y0 y1 y2 y3
 generalize (w3.alloc (.map #[] 0)).alloc (.cells #[.int .i64 0,.slice none 0 0,.slice none 0 0,.map (some w3.heap.size)] 110)=W4 at*
 generalize w3.heap.size=mp at*
 refine HG4.out.mono ?_
 rintro e w5 ⟨rfl,S5,hS5,r5,hG5,hr5,hK5⟩
 obtain⟨av,ha5,hrow5,hO5⟩:=hG5.ex
 obtain⟨aa,ac,rfl⟩:=hO5.form
 have hl5:=HGS.out.low hK5
 have hb5:Below w.heap.size w w5:=HB4.out.trans (hl5.mono (by have:=HM.out;omega))
 have hmpw:w.heap.size<mp:=by have:=HM.out;omega
 have hk5:=fun j=>hl5.cell (p:=⟨w.heap.size,j,none⟩) hmpw
 have y0:=(hk5 0).trans HY.out.1
 have y1:=(hk5 1).trans HY.out.2.1
 have y2:=(hk5 2).trans HY.out.2.2.1
 have y3:=(hk5 3).trans HY.out.2.2.2
 have HR5:=Lib.hid (HR4.out.keep (hl5.block (w.heap.size+1) (by have:=HM.out;omega)))
 have m0:=hG5.c0
 have mf:=hG5.fz 0
 have HBG:=Lib.hid (hG5.begin ha5 (atomsF (n+1) f).length)
 have HG5:Hid (GS (mp+1) (mp+2) mp (atomsF (n+1) f) r5 S5 w5):=Lib.hid hG5
 have HO5:Hid (OwnP linSh 36 (mp+2) S5 (atomsF (n+1) f) (.slice aa (atomsF (n+1) f).length ac) w5):=Lib.hid hO5
 have HB5:=Lib.hid hb5
 have hln:gatF (n+1) f []=atomsF (n+1) f:=rfl
 rw[hln]at ha5 HBG
 have HST:Hid (Below mp w5 (w5.setCell ⟨mp+1,0,none⟩ (.int .i64 (atomsF (n+1) f).length))):=(Below.refl mp w5).setCell (p:=⟨mp+1,0,none⟩) (Nat.le_succ _) _
 have HSB:Hid (∀q,q≠mp+1→(w5.setCell ⟨mp+1,0,none⟩ (.int .i64 (atomsF (n+1) f).length)).heap[q]? =w5.heap[q]?):=Lib.hid fun q hq=>Below.heap_setCell _ _ _ _ hq
 have HLT:=Lib.hid (HLIT.out (w5.setCell ⟨mp+1,0,none⟩ (.int .i64 (atomsF (n+1) f).length)) mp w5.heap.size (.slice aa (atomsF (n+1) f).length ac) (by omega) (HB5.out.trans (HST.out.mono (by omega))) HBG.out.1 HBG.out.2)
 have hne:mp+1≠w.heap.size:=by omega
 have hz6:(w5.setCell ⟨mp+1,0,none⟩ (.int .i64 (atomsF (n+1) f).length)).heap.size=w5.heap.size:=by simp[World.setCell]
 have HZ6:=Lib.hid hz6
 have HMW:=Lib.hid hmpw
 clear hl5 hb5 hk5 hG5 hO5 hrow5 hK5 hr5 hS5 HLIT HG4 HR4 hln HY hz6 HGS hmpw
 generalize (atomsF (n+1) f).length=al at*
 go_wp2_with fail
 clear y0 y1 y2 y3 m0 mf
 generalize w5.setCell ⟨mp+1,0,none⟩ (.int .i64 al)=w6 at*
 refine HLT.out.mono ?_
 rintro e w7 ⟨rfl,S7,hS7,r7,hL7,hr7,hK7⟩
 have hA7:Below w7.heap.size w7 (w7.alloc (.cells #[.int .i64 (makF (n+1) f).lit] 3)):=(Below.refl _ _).alloc (Nat.le_refl _) _
 have hIn:=ints_new w7 [(makF (n+1) f).lit] (fun y hy=>by
  rw[List.mem_singleton]at hy
  subst hy;omega) (by simp)
 have hcl:(makF (n+1) f).cl.length≤4194304:=by
  have:=HQ.out.2.2.1
  rw[HCL.out,List.length_append]at this
  omega
 have hz67:=hK7.size
 have HZ7:=Lib.hid hz67
 have HCA:=Lib.hid (clause_any (mp+1) w5.heap.size mp _ _ _ _ _ _ 1 1 [(makF (n+1) f).lit] S7 _ (hL7.below hA7) hcl rfl hIn (fun b hb=>by
  subst hb
  exact⟨by rw[←HZ6.out];exact hz67,by simp,fun e=>by have:=(hL7.row _ e).2.1;omega⟩) (fun b hb o=>by
  subst hb
  exact frozen_of_row _ _ _ _ _ (heap_alloc_new w7 _)))
 have HA7:=Lib.hid hA7
 have HK7:=Lib.hid hK7
 have HR7:=Lib.hid hr7
 clear hA7 hIn hcl hz67 hK7 hr7 hL7 hS7 HLT HBG
 go_wp2_with fail
 generalize w7.alloc (.cells #[.int .i64 (makF (n+1) f).lit] 3)=w8a at*
 refine HCA.out.mono ?_
 rintro e w8 ⟨rfl,r8,hL8,hr8,hK8⟩
 have hk8:∀q,q<w5.heap.size→q≠mp+1→w8.heap[q]? =w5.heap[q]? :=fun q hq hn=>by
  have z7:=HZ7.out
  have z6:=HZ6.out
  have za:=HA7.out.size
  have h1:=hK8.block q (by omega) hn (fun e=>by
   rcases HR7.out with h | ⟨u,h,hu⟩
   ·rw[h]at e;cases e
   ·rw[h]at e;injection e with e;omega)
  have h2:=HA7.out.block q (by omega)
  have h3:=HK7.out.block q (by omega) hn (fun e=>by cases e)
  exact h1.trans (h2.trans (h3.trans (HSB.out q hn)))
 have hz8:w5.heap.size≤w8.heap.size:=by
  have z7:=HZ7.out
  have z6:=HZ6.out
  have za:=HA7.out.size
  have zb:=hK8.size
  omega
 have hbl8:Below w.heap.size w w8:=by
  refine HB5.out.trans ((HST.out.mono (by have:=HMW.out;omega)).trans ?_)
  have z7:=HZ7.out
  have z6:=HZ6.out
  have za:=HA7.out.size
  have zm:=HG5.out.lt
  have zw:=HMW.out
  refine⟨hK8.os.trans (HA7.out.os.trans HK7.out.os),hK8.tape.trans (HA7.out.tape.trans HK7.out.tape),hK8.output.trans (HA7.out.output.trans HK7.out.output),by have:=hK8.size;omega,fun q hq=> ?_⟩
  rw[hk8 q (by omega) (by omega),HSB.out q (by omega)]
 have hrc8:RC w8 (w.heap.size+1):=HR5.out.keep (hk8 _ (by have:=HG5.out.lt;have:=HM.out;omega) (by have:=HM.out;omega))
 rw[←HCL.out]at hL8
 obtain⟨cv,hE⟩:=mk_end HM.out HG5.out HO5.out hk8 hL8 hz8 hbl8 hrc8
 have HE:=Lib.hid hE
 clear hk8 hz8 hbl8 hrc8 hL8 hr8 hK8 HA7 HZ7 HZ6 HSB HR7 HK7 HST HB5 HG5 HO5 HR5 HCA HB4 hlf hE
 have HM2:Hid (w.heap.size+2<mp+1):=Lib.hid (by have:=HM.out;omega)
 clear HM HMW hne HCL HMK HAA HRC HZ2
 obtain⟨K,Sa,Sc,k1,k2,k3,k4,k5,k6,k7,k8⟩:=HE.out.ok
 obtain⟨ca,cc,rfl,hsit⟩:=k6.slot (by have:=HQ.out.2.2.1;omega)
 have hcl:=clies_of hsit (B:=w8.heap.size) (fun b hb=>by
  rcases hb with hb | hb
  ·exact(k6.ok b hb).1
  ·exact(k6.lt b hb).2)
 have HCH:=Lib.hid (fun W (hb:Below w8.heap.size w8 W)=>Prp.check_any (makF (n+1) f).n ca (clsF (n+1) f).length cc (clsF (n+1) f) W rfl (by have:=HQ.out.2.2.1;omega) ((hcl.below hb).mono hb.size) (fun _ j hj=>by
  have:=HQ.out.2.2.2 ((clsF (n+1) f).getD j []) (by rw[List.getD_eq_getElem?_getD,List.getElem?_eq_getElem hj];exact List.getElem_mem hj)
  omega))
 have cS:=fun p os=>Calls.regrown_of (HCH.out _ (regrown_trans (Below.refl w8.heap.size w8) (Nat.le_refl _) p os))
 have q0:=fun d os=>cell_regrown HE.out.c0 d os
 have q2:=fun d os=>cell_regrown HE.out.c2 d os
 have n1:=fun W=>Tryz.neNil W
 have n2:∀(k:Int) (W:World),(binOp .neq 26 (.iface 60 (.int .i64 k)) .nilIface).run Tryz.prog W= .ok (.bool true) W:=fun k W=>by simp[go_sem]
 clear hcl hsit k1 k2 k3 k4 k5 k6 k7 k8 HCH HQ h5 h6
 by_cases hbad:8192<(makF (n+1) f).n∨Prp.chkK (makF (n+1) f).n (clsF (n+1) f)≠0
 ·have HKV:Hid (cnfK (n+1) f=2):=Lib.hid (by rw[HK.out,if_pos hbad])
  by_cases hlong:8192<(makF (n+1) f).n
  ·have hli:(8192:Int)<((makF (n+1) f).n:Int):=by omega
   clear hbad hlong HK
   go_wp2_with fail
   refine wp_region_quiet_below (by kernel_rfl) (by kernel_rfl) ?_
   repeat (go_big_quiet_step (with_reducible exact cS _ _))
   refine wpQuiet_nil ?_
   intro w9 hw'
   obtain⟨⟨dq,osq⟩,hw''⟩:=hw'
   have HE9:Hid (MkEnd (n+1) f w w9 (mp+1) (.slice aa al ac) (.slice ca (clsF (n+1) f).length cc)):=Lib.hid (by rw[hw''];exact HE.out.below (below_regrown w8 dq osq))
   clear hw'' q0 q2 cS HE n1 n2
   obtain⟨r0,r1,r2,rf⟩:=HE9.out.rc
   go_wp2_with fail
   clear r0 r1 r2 rf
   refine bodyPost_ret (v:= .tuple #[.agg #[.int .i64 0,.slice none 0 0,.slice none 0 0],.iface 60 (.int .i64 2)]) ?_ rfl ⟨fun _=>by rw[HKV.out],fun h=>absurd h (by rw[HKV.out];decide),below3 HE9.out.bel (Nat.le_succ _) _ _ _⟩
   obtain⟨e0,e1,e2⟩:=res3 HE9.out.rc (.int .i64 0) (.slice none 0 0) (.slice none 0 0)
   simp[results,Tryz.results31,go_sem,e0,e1,e2]
  ·have hli:decide ((8192:Int)<((makF (n+1) f).n:Int))=false:=decide_eq_false (by omega)
   have hck:Prp.chkK (makF (n+1) f).n (clsF (n+1) f)≠0:=(hbad.resolve_left hlong)
   have hcv:Prp.codeV (Prp.chkK (makF (n+1) f).n (clsF (n+1) f))= .iface 60 (.int .i64 (Prp.chkK (makF (n+1) f).n (clsF (n+1) f))):=by unfold Prp.codeV;rw[if_neg hck]
   rw[hcv]at cS
   clear hbad hlong HK hck hcv
   generalize Prp.chkK (makF (n+1) f).n (clsF (n+1) f)=kk at*
   go_wp2_with fail
   refine wp_region_quiet_below (by kernel_rfl) (by kernel_rfl) ?_
   repeat (go_big_quiet_step (with_reducible exact cS _ _))
   refine wpQuiet_nil ?_
   intro w9 hw'
   obtain⟨⟨dq,osq⟩,hw''⟩:=hw'
   have HE9:Hid (MkEnd (n+1) f w w9 (mp+1) (.slice aa al ac) (.slice ca (clsF (n+1) f).length cc)):=Lib.hid (by rw[hw''];exact HE.out.below (below_regrown w8 dq osq))
   clear hw'' q0 q2 cS HE n1 n2
   obtain⟨r0,r1,r2,rf⟩:=HE9.out.rc
   go_wp2_with fail
   clear r0 r1 r2 rf
   refine bodyPost_ret (v:= .tuple #[.agg #[.int .i64 0,.slice none 0 0,.slice none 0 0],.iface 60 (.int .i64 2)]) ?_ rfl ⟨fun _=>by rw[HKV.out],fun h=>absurd h (by rw[HKV.out];decide),below3 HE9.out.bel (Nat.le_succ _) _ _ _⟩
   obtain⟨e0,e1,e2⟩:=res3 HE9.out.rc (.int .i64 0) (.slice none 0 0) (.slice none 0 0)
   simp[results,Tryz.results31,go_sem,e0,e1,e2]
 ·have HKV:Hid (cnfK (n+1) f=0):=Lib.hid (by rw[HK.out,if_neg hbad])
  have hli:decide ((8192:Int)<((makF (n+1) f).n:Int))=false:=decide_eq_false (by omega)
  have hck:Prp.chkK (makF (n+1) f).n (clsF (n+1) f)=0:=Classical.byContradiction fun h=>hbad (.inr h)
  have hcv:Prp.codeV (Prp.chkK (makF (n+1) f).n (clsF (n+1) f))= .nilIface:=by unfold Prp.codeV;rw[if_pos hck]
  rw[hcv]at cS
  clear hbad HK hck hcv
  go_wp2_with fail
  refine wp_region_quiet_below (by kernel_rfl) (by kernel_rfl) ?_
  repeat (go_big_quiet_step (with_reducible exact cS _ _))
  refine wpQuiet_nil ?_
  intro w9 hw'
  obtain⟨⟨dq,osq⟩,hw''⟩:=hw'
  have HE9:Hid (MkEnd (n+1) f w w9 (mp+1) (.slice aa al ac) (.slice ca (clsF (n+1) f).length cc)):=Lib.hid (by rw[hw''];exact HE.out.below (below_regrown w8 dq osq))
  clear hw'' q0 q2 cS HE n1 n2
  obtain⟨r0,r1,r2,rf⟩:=HE9.out.rc
  have h0:=HE9.out.c0
  have h1:=HE9.out.c1
  have h2:=HE9.out.c2
  go_wp2_with fail
  clear r0 r1 r2 rf h0 h1 h2
  refine bodyPost_ret (v:= .tuple #[.agg #[.int .i64 (makF (n+1) f).n,.slice aa al ac,.slice ca (clsF (n+1) f).length cc],.nilIface]) ?_ rfl ⟨fun h=>absurd HKV.out h,fun h=>⟨_,_,rfl, ?_⟩,below3 HE9.out.bel (Nat.le_succ _) _ _ _⟩
  ·obtain⟨e0,e1,e2⟩:=res3 HE9.out.rc (.int .i64 (makF (n+1) f).n) (.slice aa al ac) (.slice ca (clsF (n+1) f).length cc)
   simp[results,Tryz.results31,go_sem,e0,e1,e2]
  ·obtain⟨K,Sa,Sc,k1,k2,k3,k4,k5,k6,k7,k8⟩:=cnfOk_set HE9.out.ok (show w.heap.size+1<w.heap.size+2 by omega) (.int .i64 (makF (n+1) f).n) (.slice aa al ac) (.slice ca (clsF (n+1) f).length cc)
   exact⟨K,Sa,Sc,by omega,k2,k3.lower (by omega),fun b hb=>⟨by have:=(k4 b hb).1;omega,(k4 b hb).2⟩,k5,k6,k7,k8⟩
theorem make_any (n:Nat)(f:FT)(cs:List Value)(w:World)(h:FLies w.heap.size w n f cs)(ht:Tens w.heap.size w):
 Calls Tryz.prog 31 #[.agg cs.toArray] w (CnfEnd n f w):=by
 cases n with
 | zero=>exact h.elim
 | succ n=>
   cases hi:isF (n+1) f with
   | false=>exact make_no n f cs w h hi
   | true=>exact make_go n f cs w h ht hi
end
section
open Go.RowKit
theorem ret_made {n:Nat}{f:FT}(h:isF n f=true):madeF n f=true:=by
 unfold isF at h
 simp only[Bool.and_eq_true]at h
 exact h.2.2
end
section
open Go.RowKit
theorem flies_leafU (B:Nat)(w:World)(k c:Int)(t:List (Int×Int))(ta:Option Addr)(tcap:Nat)(ht:t.length≤9223372036854775807)(h:Lies B w ta t):FLies B w 1 (.mk k c t []) [.int .i64 k,.int .i64 c,.slice ta t.length tcap,.slice none 0 0]:=
 ⟨ta,tcap,none,0,rfl,h,ht,Nat.zero_le _,fun i hi=>absurd hi (Nat.not_lt_zero i)⟩
theorem Tryz.eqNilNil (w:World):(binOp .eql 26 .nilIface .nilIface).run Tryz.prog w= .ok (.bool true) w:=by simp[go_sem]
def LLies (B:Nat)(w:World)(a:Option Addr)(ls:List (Int×List (Int×Int))):Prop:=
 ∀i,i<ls.length→∃b off ta tcap,a=some ⟨b,off,none⟩∧b<B∧w.cell? ⟨b,off+i*2,none⟩=some (.int .i64 (ls.getD i (0,[])).1)∧w.cell? ⟨b,off+i*2+1,none⟩=some (.slice ta (ls.getD i (0,[])).2.length tcap)∧Lies B w ta (ls.getD i (0,[])).2
theorem llies_of {S:Nat→Prop}{w:World}{a:Option Addr}{ls:List (Int×List (Int×Int))}{B:Nat}(h:Pak.Sits linSh S w a ls)(hS:∀b,S b→b<B):LLies B w a ls:=fun i hi=>by
 obtain⟨b,off,us,e,hb,hc,ta,cap,rfl,hn⟩:=h.2 i hi
 have e1:linSh.k=2:=rfl
 have c0:=hc 0 _ rfl
 have c1:=hc 1 _ rfl
 rw[e1,Nat.add_zero]at c0
 rw[e1]at c1
 rw[List.getD_eq_getElem?_getD,List.getElem?_eq_getElem hi,Option.getD_some]
 exact⟨b,off,ta,cap,e,hS b hb,c0,c1,hn.lies hS⟩
theorem LLies.below {B:Nat}{w w':World}{a:Option Addr}{ls:List (Int×List (Int×Int))}(h:LLies B w a ls)(hb:Below B w w'):LLies B w' a ls:=fun i hi=>by
 obtain⟨b,off,ta,tcap,e,hlt,c0,c1,hl⟩:=h i hi
 exact⟨b,off,ta,tcap,e,hlt,(hb.cell (p:=⟨b,off+i*2,none⟩) hlt).trans c0,(hb.cell (p:=⟨b,off+i*2+1,none⟩) hlt).trans c1,hl.below hb⟩
theorem LLies.mono {B B':Nat}{w:World}{a:Option Addr}{ls:List (Int×List (Int×Int))}(h:LLies B w a ls)(hb:B≤B'):LLies B' w a ls:=fun i hi=>by
 obtain⟨b,off,ta,tcap,e,hlt,c0,c1,hl⟩:=h i hi
 exact⟨b,off,ta,tcap,e,Nat.lt_of_lt_of_le hlt hb,c0,c1,hl.mono hb⟩
end
section
theorem lit_of {B:Nat}{w:World}:∀ {n:Nat} {f:FT} {cs:List Value},FLies B w n f cs→sndF n f=true→siz n f≤4096→litF n f
 | 0,_,_,h,_,_=>h.elim
 | n+1,f,cs,h,hs,hz=>by
   obtain⟨ta,tcap,ka,kcap,_,_,_,_,hks⟩:=h
   obtain⟨ho,hk⟩:=sndF_split hs
   have hsz:=sizTo_len n f
   have hpos:∀i,i<f.ks.length→1≤siz n (f.ks.getD i default):=fun i hi=>by
    obtain⟨_,_,_,_,_,_,_,_,_,_,_,_,hf⟩:=hks i hi
    cases n with
    | zero=>exact hf.elim
    | succ n=>exact siz_pos n _
   have hle:∀i,i≤f.ks.length→i≤sizTo n f.ks i:=fun i=>by
    induction i with
    | zero=>exact fun _=>Nat.zero_le _
    | succ i ih=>
      intro hi
      have h1:=ih (by omega)
      have h2:=hpos i hi
      rw[sizTo_succ n f.ks i hi]
      omega
   have hl:=hle f.ks.length (Nat.le_refl _)
   refine⟨?_,by omega,fun i hi=> ?_⟩
   ·rcases ownF_kind ho with h0 | h0 | h0 | h0 | h0 | h0
    ·unfold ownF ownV at ho
     rw[if_pos (.inl h0)]at ho
     simp at ho
     first | omega | simp[ho]
    ·unfold ownF ownV at ho
     rw[if_pos (.inr h0)]at ho
     simp at ho
     first | omega | simp[ho]
    ·have:=(snd_iff.1 (ownF_form ho h0)).2.1
     omega
    ·unfold ownF ownV at ho
     rw[if_neg (by omega),if_neg (by omega),if_pos h0]at ho
     simp at ho
     first | omega | simp[ho]
    ·unfold ownF ownV at ho
     rw[if_neg (by omega),if_neg (by omega),if_neg (by omega),if_pos (.inl h0)]at ho
     simp at ho
     first | omega | simp[ho]
    ·unfold ownF ownV at ho
     rw[if_neg (by omega),if_neg (by omega),if_neg (by omega),if_pos (.inr h0)]at ho
     simp at ho
     first | omega | simp[ho]
   ·obtain⟨_,_,_,_,_,_,_,_,_,_,_,_,hf⟩:=hks i hi
    have h1:=sizTo_succ n f.ks i hi
    have h2:=sizTo_mono n f.ks (i:=i+1) (j:=f.ks.length) hi
    exact lit_of hf (hk i hi) (by omega)
end
section
open Go.RowKit
theorem cnfK_made {n:Nat}{f:FT}(h:cnfK n f=0):isF n f=true:=by
 unfold cnfK at h
 split at h
 ·cases h
 ·rename_i hh;simpa using hh
theorem tree_cells (w:World)(x y z:Value):(w.alloc (.cells #[x,y,z] 71)).cell? ⟨w.heap.size,0,none⟩=some x∧(w.alloc (.cells #[x,y,z] 71)).cell? ⟨w.heap.size,1,none⟩=some y∧(w.alloc (.cells #[x,y,z] 71)).cell? ⟨w.heap.size,2,none⟩=some z:=by
 have hn:=heap_alloc_new w (.cells #[x,y,z] 71)
 exact⟨(cell_of_row _ _ _ _ _ _ hn).trans rfl,(cell_of_row _ _ _ _ _ _ hn).trans rfl,(cell_of_row _ _ _ _ _ _ hn).trans rfl⟩
theorem CnfOk.lies {n:Nat}{f:FT}{B:Nat}{w:World}{av cv:Value}(h:CnfOk n f B w av cv)(hi:isF n f=true):∃aa ac ca cc,av= .slice aa (atomsF n f).length ac∧cv= .slice ca (clsF n f).length cc∧LLies w.heap.size w aa (atomsF n f)∧Prp.CLies w.heap.size w ca (clsF n f):=by
 obtain⟨K,Sa,Sc,k1,k2,k3,k4,k5,k6,k7,k8⟩:=h
 obtain⟨q1,q2,q3,q4⟩:=cls_len hi
 obtain⟨aa,ac,rfl,hs⟩:=k3.slot (by omega)
 obtain⟨ca,cc,rfl,ht⟩:=k6.slot (by omega)
 refine⟨aa,ac,ca,cc,rfl,rfl,llies_of hs (fun b hb=> ?_),clies_of ht (fun b hb=> ?_)⟩
 ·rcases hb with hb | hb
  ·exact(k3.ok b hb).1
  ·exact(k3.lt b hb).2
 ·rcases hb with hb | hb
  ·exact(k6.ok b hb).1
  ·exact(k6.lt b hb).2
end
end Go.Proofs.YtipahfcaplbifaaGreatDoor
