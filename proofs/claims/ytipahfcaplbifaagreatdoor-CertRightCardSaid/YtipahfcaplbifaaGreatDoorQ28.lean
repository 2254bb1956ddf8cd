/- Parts of a proof. -/
import Derived.Test.YtipahfcaplbifaaGreatDoorQ19
import Derived.Test.YtipahfcaplbifaaGreatDoorQ23
set_option linter.unusedVariables false
set_option linter.unusedSimpArgs false
set_option maxHeartbeats 60000000
set_option maxRecDepth 100000
namespace Go.Proofs.YtipahfcaplbifaaGreatDoor
section
open Go.RowKit
def SK (N No:Nat)(v:Value)(W:World)(b:Nat):Prop:=N+1<b∧b<W.heap.size∧b≠No∧v.ownBlock≠some b
structure CS (N No n:Nat)(f:FT)(a3:Option Addr)(k:Nat)(css:List (List Value))(v:Value)(W:World):Prop where
 row:ORow N css v W
 len:css.length=k
 four:∀c∈css,c.length=4
 own:∀g,v.ownBlock=some g→No<g
 lt:N+1<No
 ltz:No<W.heap.size
 ts:LiesQ (SK N No v W) W a3 f.t
 ks:∀j,j<k→FLiesQ (SK N No v W) W n (f.ks.getD j default) (css.getD j [])
theorem getD_snoc {α:Type}(l:List α)(x d:α)(j:Nat):(l ++ [x]).getD j d=if j<l.length then l.getD j d else if j=l.length then x else d:=by
 rw[List.getD_eq_getElem?_getD,List.getD_eq_getElem?_getD]
 split
 ·rw[List.getElem?_append_left (by assumption)]
 ·rw[List.getElem?_append_right (by omega)]
  split
  ·rename_i h;subst h;simp
  ·rw[List.getElem?_eq_none (by simp;omega)];rfl
theorem CS.step {N No n:Nat}{f:FT}{a3:Option Addr}{k:Nat}{css:List (List Value)}{v v' x:Value}{W w1 w2:World}{cs1:List Value}{o:Obj}(h:CS N No n f a3 k css v W)(hb:Below W.heap.size W w1)
 (hk:FLiesQ (fun b=>W.heap.size≤b∧b<w1.heap.size) w1 n (f.ks.getD k default) cs1) (hrow:ORow N (css ++ [cs1]) v' w2) (hg:(w1.alloc o).grownBy w2 v.ownBlock) (hat:v'.ownBlock=v.ownBlock∨v'.ownBlock=some (w1.heap.size+1)):
 CS N No n f a3 (k+1) (css ++ [cs1]) v' (w2.setCell ⟨No,3,none⟩ x):=by
 have hz:=hb.size
 have hz2:w1.heap.size<w2.heap.size:=by have:=hg.size;simp at this;omega
 have hlz:=h.ltz
 have hll:=h.lt
 have hown:∀g,v.ownBlock=some g→g<W.heap.size:=fun g hg=>(World.ownsRow.lt h.row g hg).2
 have hc:∀b o,b<w1.heap.size→b≠No→v.ownBlock≠some b→(w2.setCell ⟨No,3,none⟩ x).cell? ⟨b,o,none⟩=w1.cell? ⟨b,o,none⟩:=fun b o h1 h2 h3=>by
  rw[World.cell?_setCell_other _ _ _ _ (by first | (simp;done) | (simp;omega)),hg.cell_far ⟨b,o,none⟩ (by first | (simp;done) | (simp;omega)) (fun e=>h3 e.symm)]
  exact((Below.refl w1.heap.size w1).alloc (Nat.le_refl _) _).cell (p:=⟨b,o,none⟩) h1
 have hne:∀b,b<w1.heap.size→v.ownBlock≠some b→v'.ownBlock≠some b:=fun b h1 h2 e=>by
  rcases hat with e2 | e2
  ·exact h2 (by rw[←e2];exact e)
  ·rw[e2]at e;injection e with e;omega
 have hsz:(w2.setCell ⟨No,3,none⟩ x).heap.size=w2.heap.size:=World.size_setCell _ _ _
 have hS:∀b,SK N No v W b→SK N No v' (w2.setCell ⟨No,3,none⟩ x) b:=fun b ⟨h1,h2,h3,h4⟩=>⟨h1,by omega,h3,hne b (by omega) h4⟩
 have hK:∀b o,SK N No v W b→(w2.setCell ⟨No,3,none⟩ x).cell? ⟨b,o,none⟩=W.cell? ⟨b,o,none⟩:=fun b o ⟨h1,h2,h3,h4⟩=>(hc b o (by omega) h3 h4).trans (hb.cell (p:=⟨b,o,none⟩) h2)
 refine⟨?_,by rw[List.length_append,h.len];rfl,fun c hcm=> ?_,fun g hgg=> ?_,hll,by omega,h.ts.keep hS hK,fun j hj=> ?_⟩
 ·refine World.ownsRow.kept (row:=some No) hrow ⟨rfl,rfl,rfl,by rw[World.size_setCell];exact Nat.le_refl _,fun q _ hq=>Below.heap_setCell _ _ _ _ (fun e=>hq (by rw[e]))⟩ ?_
  cases hv:v'.ownBlock with
  | none=>exact .inl rfl
  | some g=>
    right
    intro e
    injection e with e
    rcases hat with e2 | e2
    ·rw[hv]at e2
     have:=h.own g e2.symm
     omega
    ·rw[hv]at e2;injection e2 with e2;omega
 ·rcases List.mem_append.1 hcm with hcm | hcm
  ·exact h.four c hcm
  ·obtain rfl:=List.mem_singleton.1 hcm
   obtain⟨_,_,_,_,rfl⟩:=hk.four
   rfl
 ·rcases hat with e2 | e2
  ·exact h.own g (by rw[←e2];exact hgg)
  ·rw[e2]at hgg;injection hgg with hgg;omega
 ·rw[getD_snoc,h.len]
  by_cases hjk:j<k
  ·rw[if_pos hjk]
   exact(h.ks j hjk).keep hS hK
  ·obtain rfl:j=k:=by omega
   rw[if_neg hjk,if_pos rfl]
   refine hk.keep (fun b ⟨h1,h2⟩=>⟨by omega,by omega,by omega, ?_⟩) (fun b o ⟨h1,h2⟩=>hc b o h2 (by omega) ?_)
   ·exact hne b h2 (fun e=>by have:=hown b e;omega)
   ·exact fun e=>by have:=hown b e;omega
structure OB (W:World)(No:Nat)(fk fc:Int)(a3:Option Addr)(ft cap3:Nat)(v:Value):Prop where
 o0:W.cell? ⟨No,0,none⟩=some (.int .i64 fk)
 o1:W.cell? ⟨No,1,none⟩=some (.int .i64 fc)
 o2:W.cell? ⟨No,2,none⟩=some (.slice a3 ft cap3)
 o3:W.cell? ⟨No,3,none⟩=some v
 fz:∀o,W.frozen? ⟨No,o,none⟩=false
structure RB (W:World)(M:Nat):Prop where
 r0:W.cell? ⟨M,0,none⟩=some (.int .i64 0)
 r1:W.cell? ⟨M,1,none⟩=some (.int .i64 0)
 r2:W.cell? ⟨M,2,none⟩=some (.slice none 0 0)
 r3:W.cell? ⟨M,3,none⟩=some (.slice none 0 0)
 fz:∀o,W.frozen? ⟨M,o,none⟩=false
theorem OB.keep {W W':World}{No:Nat}{fk fc:Int}{a3:Option Addr}{ft cap3:Nat}{v:Value}(h:OB W No fk fc a3 ft cap3 v)(hk:∀o,W'.cell? ⟨No,o,none⟩=W.cell? ⟨No,o,none⟩)(hf:∀o,W'.frozen? ⟨No,o,none⟩=W.frozen? ⟨No,o,none⟩):OB W' No fk fc a3 ft cap3 v:=
 ⟨(hk _).trans h.o0,(hk _).trans h.o1,(hk _).trans h.o2,(hk _).trans h.o3,fun o=>(hf o).trans (h.fz o)⟩
theorem RB.keep {W W':World}{M:Nat}(h:RB W M)(hk:∀o,W'.cell? ⟨M,o,none⟩=W.cell? ⟨M,o,none⟩)(hf:∀o,W'.frozen? ⟨M,o,none⟩=W.frozen? ⟨M,o,none⟩):RB W' M:=
 ⟨(hk _).trans h.r0,(hk _).trans h.r1,(hk _).trans h.r2,(hk _).trans h.r3,fun o=>(hf o).trans (h.fz o)⟩
theorem OB.set {W:World}{No:Nat}{fk fc:Int}{a3:Option Addr}{ft cap3:Nat}{v:Value}(h:OB W No fk fc a3 ft cap3 v)(x:Value):OB (W.setCell ⟨No,3,none⟩ x) No fk fc a3 ft cap3 x:=
 ⟨by rw[World.cell?_setCell_other _ _ _ _ (by simp)];exact h.o0,by rw[World.cell?_setCell_other _ _ _ _ (by simp)];exact h.o1,by rw[World.cell?_setCell_other _ _ _ _ (by simp)];exact h.o2,World.cell?_setCell_same _ _ _ h.o3,fun o=>by rw[World.frozen?_setCell];exact h.fz o⟩
theorem CS.done {N No n:Nat}{f:FT}{a3:Option Addr}{cap3:Nat}{css:List (List Value)}{v:Value}{W w':World}(h:CS N No n f a3 f.ks.length css v W)(ht:f.t.length≤9223372036854775807)(hk:f.ks.length≤9223372036854775807)
 (hz:W.heap.size≤w'.heap.size) (hc:∀b o,N+1<b→w'.cell? ⟨b,o,none⟩=W.cell? ⟨b,o,none⟩) (hcap:∃kcap,v= .slice (v.ownBlock.map fun g=>⟨g,0,none⟩) f.ks.length kcap):
 ∃c3,v=c3∧FLiesQ (fun b=>N≤b∧b<w'.heap.size) w' (n+1) f [.int .i64 f.kind,.int .i64 f.c,.slice a3 f.t.length cap3,c3]:=by
 obtain⟨kcap,hv⟩:=hcap
 have hlt:=h.lt
 refine⟨v,rfl,a3,cap3,v.ownBlock.map (fun g=>⟨g,0,none⟩),kcap,by rw[←hv],h.ts.keep (fun b ⟨h1,h2,_,_⟩=>⟨by omega,by omega⟩) (fun b o ⟨h1,_,_,_⟩=>hc b o h1),ht,hk,fun i hi=> ?_⟩
 have hfour:(css.getD i []).length=4:=by
  have:=h.len
  rw[List.getD_eq_getElem?_getD,List.getElem?_eq_getElem (by omega)]
  exact h.four _ (List.getElem_mem _)
 obtain⟨c0,c1,c2,c3,e⟩:∃c0 c1 c2 c3,css.getD i []=[c0,c1,c2,c3]:=(h.ks i hi).four
 cases hob:v.ownBlock with
 | none=>
   rcases h.row.2 with ⟨rfl,h0⟩ | ⟨g,cap,cur,hvv,_⟩
   ·have:=h.len;omega
   ·rw[hvv]at hob;cases hob
 | some g=>
   have hg:=h.own g hob
   have hcell:=fun j hj=>(World.ownsRow.cells h.row hob (i*4+j) _ ((flat4_get css h.four i j (by have:=h.len;omega) hj).trans (List.getElem?_eq_getElem (show j<(css.getD i []).length by omega))))
   have ha:∀k,(⟨g,0,none⟩:Addr).add k=⟨g,0+k,none⟩:=fun k=>by
    unfold Addr.add
    by_cases hk0:k=0
    ·subst hk0;rfl
    ·rw[if_neg hk0]
   have q0:=hcell 0 (by omega)
   have q1:=hcell 1 (by omega)
   have q2:=hcell 2 (by omega)
   have q3:=hcell 3 (by omega)
   simp only[e]at q0 q1 q2 q3
   rw[ha,←Nat.add_assoc]at q0 q1 q2 q3
   have hfk:=h.ks i hi
   rw[e]at hfk
   have hgz:=(World.ownsRow.lt h.row g hob).2
   refine⟨g,0,c0,c1,c2,c3,rfl,⟨by omega,by omega⟩,(hc _ _ (by omega)).trans q0,(hc _ _ (by omega)).trans q1,(hc _ _ (by omega)).trans q2,(hc _ _ (by omega)).trans q3,hfk.keep (fun b ⟨h1,h2,_,_⟩=>⟨by omega,by omega⟩) (fun b o ⟨h1,_,_,_⟩=>hc b o h1)⟩
def set4 (W:World)(No:Nat)(x0 x1 x2 x3:Value):World:=(((W.setCell ⟨No,0,none⟩ x0).setCell ⟨No,1,none⟩ x1).setCell ⟨No,2,none⟩ x2).setCell ⟨No,3,none⟩ x3
theorem set4_far (W:World)(No:Nat)(x0 x1 x2 x3:Value)(b o:Nat)(h:b≠No):(set4 W No x0 x1 x2 x3).cell? ⟨b,o,none⟩=W.cell? ⟨b,o,none⟩:=by
 unfold set4
 have hn:∀j,(⟨b,o,none⟩:Addr)≠⟨No,j,none⟩:=fun j e=>h (by injection e)
 have hn':∀j,(⟨No,j,none⟩:Addr)≠⟨b,o,none⟩:=fun j e=>h (by injection e with e;exact e.symm)
 rw[World.cell?_setCell_other _ _ _ _ (by first | exact hn 3 | exact hn' 3),World.cell?_setCell_other _ _ _ _ (by first | exact hn 2 | exact hn' 2),World.cell?_setCell_other _ _ _ _ (by first | exact hn 1 | exact hn' 1),World.cell?_setCell_other _ _ _ _ (by first | exact hn 0 | exact hn' 0)]
theorem set4_frozen (W:World)(No:Nat)(x0 x1 x2 x3:Value)(p:Addr):(set4 W No x0 x1 x2 x3).frozen? p=W.frozen? p:=by
 unfold set4
 rw[World.frozen?_setCell,World.frozen?_setCell,World.frozen?_setCell,World.frozen?_setCell]
theorem set4_size (W:World)(No:Nat)(x0 x1 x2 x3:Value):(set4 W No x0 x1 x2 x3).heap.size=W.heap.size:=by
 unfold set4
 rw[World.size_setCell,World.size_setCell,World.size_setCell,World.size_setCell]
theorem set4_at {W:World}{No:Nat}{u0 u1 u2 u3:Value}(h0:W.cell? ⟨No,0,none⟩=some u0)(h1:W.cell? ⟨No,1,none⟩=some u1)(h2:W.cell? ⟨No,2,none⟩=some u2)(h3:W.cell? ⟨No,3,none⟩=some u3)(x0 x1 x2 x3:Value):
 (set4 W No x0 x1 x2 x3).cell? ⟨No,0,none⟩=some x0∧(set4 W No x0 x1 x2 x3).cell? ⟨No,1,none⟩=some x1∧(set4 W No x0 x1 x2 x3).cell? ⟨No,2,none⟩=some x2∧(set4 W No x0 x1 x2 x3).cell? ⟨No,3,none⟩=some x3:=by
 unfold set4
 refine⟨?_, ?_, ?_, ?_⟩
 ·rw[World.cell?_setCell_other _ _ _ _ (by simp),World.cell?_setCell_other _ _ _ _ (by simp),World.cell?_setCell_other _ _ _ _ (by simp)]
  exact World.cell?_setCell_same _ _ _ h0
 ·rw[World.cell?_setCell_other _ _ _ _ (by simp),World.cell?_setCell_other _ _ _ _ (by simp)]
  refine World.cell?_setCell_same _ _ _ (u:=u1) ?_
  rw[World.cell?_setCell_other _ _ _ _ (by simp)];exact h1
 ·rw[World.cell?_setCell_other _ _ _ _ (by simp)]
  refine World.cell?_setCell_same _ _ _ (u:=u2) ?_
  rw[World.cell?_setCell_other _ _ _ _ (by simp),World.cell?_setCell_other _ _ _ _ (by simp)];exact h2
 ·refine World.cell?_setCell_same _ _ _ (u:=u3) ?_
  rw[World.cell?_setCell_other _ _ _ _ (by simp),World.cell?_setCell_other _ _ _ _ (by simp),World.cell?_setCell_other _ _ _ _ (by simp)];exact h3
theorem FLiesQ.form {S:Nat→Prop}{w:World}:∀ {n:Nat} {f:FT} {cs:List Value},FLiesQ S w n f cs→∃(k c:Int) (ta:Option Addr) (tn tcap:Nat) (ka:Option Addr) (kn kcap:Nat),cs=[.int .i64 k,.int .i64 c,.slice ta tn tcap,.slice ka kn kcap]
 | 0,_,_,h=>h.elim
 | _+1,_,_,⟨_,_,_,_,h1,_⟩=>⟨_,_,_,_,_,_,_,_,h1⟩
theorem four_one (k c:Int)(ta:Option Addr)(tn tcap:Nat)(ka:Option Addr)(kn kcap:Nat):∀u∈[Value.int .i64 k,.int .i64 c,.slice ta tn tcap,.slice ka kn kcap],u.oneCell'=true:=by
 intro u hu
 simp at hu
 rcases hu with rfl | rfl | rfl | rfl<;>rfl
theorem four_new (W:World)(x0 x1 x2 x3:Value)(t:TypeId)(M:Nat)(hM:W.heap.size=M):∀j u,[x0,x1,x2,x3][j]? =some u→(W.alloc (.cells #[x0,x1,x2,x3] t)).cell? ((⟨M,0,none⟩:Addr).add j)=some u:=by
 subst hM
 intro j u hj
 have hb:=heap_alloc_new W (.cells #[x0,x1,x2,x3] t)
 match j,hj with
 | 0,hj=>simp at hj;subst hj;exact cell_of_row _ _ _ _ _ _ hb
 | 1,hj=>simp at hj;subst hj;exact cell_of_row _ _ _ _ _ _ hb
 | 2,hj=>simp at hj;subst hj;exact cell_of_row _ _ _ _ _ _ hb
 | 3,hj=>simp at hj;subst hj;exact cell_of_row _ _ _ _ _ _ hb
theorem ORow.form {B:Nat}{css:List (List Value)}{v:Value}{w:World}(h:ORow B css v w):∃a kcap,v= .slice a css.length kcap∧a=v.ownBlock.map fun g=>⟨g,0,none⟩:=by
 rcases h.2 with ⟨rfl,h0⟩ | ⟨g,cap,cur,hv,_⟩
 ·exact⟨none,0,by rw[h0],rfl⟩
 ·exact⟨some ⟨g,0,none⟩,cap,hv,by rw[hv];rfl⟩
theorem round_far {B No:Nat}{css:List (List Value)}{v v6:Value}{W w5 w6:World}{o:Obj}(hrow:ORow B css v W)(hb:Below W.heap.size W w5)(hg:(w5.alloc o).grownBy w6 v.ownBlock)(b p:Nat)(h1:b<W.heap.size)(h2:v.ownBlock≠some b):
 w6.cell? ⟨b,p,none⟩=W.cell? ⟨b,p,none⟩∧w6.frozen? ⟨b,p,none⟩=W.frozen? ⟨b,p,none⟩∧(b≠No→(w6.setCell ⟨No,3,none⟩ v6).cell? ⟨b,p,none⟩=W.cell? ⟨b,p,none⟩):=by
 have hz:=hb.size
 have ha:Below w5.heap.size w5 (w5.alloc o):=(Below.refl _ w5).alloc (Nat.le_refl _) _
 have e1:w6.cell? ⟨b,p,none⟩=W.cell? ⟨b,p,none⟩:=by
  rw[hg.cell_far ⟨b,p,none⟩ (by have:=ha.size;show b<_;omega) (fun e=>h2 e.symm),ha.cell (p:=⟨b,p,none⟩) (by show b<_;omega)]
  exact hb.cell (p:=⟨b,p,none⟩) h1
 refine⟨e1, ?_,fun h3=> ?_⟩
 ·rw[hg.frozen_far ⟨b,p,none⟩ (by have:=ha.size;show b<_;omega) (fun e=>h2 e.symm),ha.frozen (p:=⟨b,p,none⟩) (by show b<_;omega)]
  exact hb.frozen (p:=⟨b,p,none⟩) h1
 ·rw[World.cell?_setCell_other _ _ _ _ (by first | (simp;done) | (simp;omega))]
  exact e1
end
end Go.Proofs.YtipahfcaplbifaaGreatDoor
