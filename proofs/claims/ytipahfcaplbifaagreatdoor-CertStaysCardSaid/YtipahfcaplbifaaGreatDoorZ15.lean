/- Parts of a proof. -/
import Derived.Test.YtipahfcaplbifaaGreatDoorZ02
import Derived.Test.YtipahfcaplbifaaGreatDoorZ03
import Derived.Test.YtipahfcaplbifaaGreatDoorZ05
import Derived.Test.YtipahfcaplbifaaGreatDoorZ06
import Derived.Test.YtipahfcaplbifaaGreatDoorZ13
import Derived.Deep.RegionHeld3
set_option linter.unusedVariables false
set_option linter.unusedSimpArgs false
set_option maxHeartbeats 60000000
set_option maxRecDepth 100000
namespace Go.Proofs.YtipahfcaplbifaaGreatDoor
section
open Go.RowKit
section
variable {T:Type}
structure OwnP (sh:Pak.Sh T)(e:TypeId)(B:Nat)(S:Nat→Prop)(xs:List T)(v:Value)(w:World):Prop where
 row:∃css:List (List Value),css.length=xs.length∧w.ownsRow B e sh.k v xs.length css.flatten∧∀i (h:i<xs.length) (h2:i<css.length),sh.rel S w css[i] xs[i]
 ok:∀b,S b→b<w.heap.size∧v.ownBlock≠some b
theorem OwnP.nil (sh:Pak.Sh T)(e:TypeId)(B:Nat)(w:World):OwnP sh e B (fun _=>False) [] (.slice none 0 0) w:=⟨⟨[],rfl,World.ownsRow_nil _ _ _ _,fun i hi=>absurd hi (Nat.not_lt_zero i)⟩,fun b h=>h.elim⟩
theorem OwnP.lt {sh:Pak.Sh T}{e:TypeId}{B:Nat}{S:Nat→Prop}{xs:List T}{v:Value}{w:World}(h:OwnP sh e B S xs v w):∀q,v.ownBlock=some q→B≤q∧q<w.heap.size:=fun q hq=>by
 obtain⟨css,h1,h2,h3⟩:=h.row
 exact World.ownsRow.lt h2 q hq
theorem OwnP.form {sh:Pak.Sh T}{e:TypeId}{B:Nat}{S:Nat→Prop}{xs:List T}{v:Value}{w:World}(h:OwnP sh e B S xs v w):∃a cap,v= .slice a xs.length cap:=by
 obtain⟨css,h1,h2,h3⟩:=h.row
 exact Pak.own_slice h2
theorem OwnP.nf {sh:Pak.Sh T}{e:TypeId}{B:Nat}{S:Nat→Prop}{xs:List T}{v:Value}{w:World}(h:OwnP sh e B S xs v w):∀q,v.ownBlock=some q→∀o,w.frozen? ⟨q,o,none⟩=false:=fun q hq o=>by
 obtain⟨css,h1,h2,h3⟩:=h.row
 obtain⟨_,⟨rfl,_⟩ | ⟨g,cap,cur,rfl,_,hh,_⟩⟩:=h2
 ·cases hq
 ·injection hq with hq
  subst hq
  exact frozen_of_row _ _ _ _ _ hh
theorem OwnP.keep {sh:Pak.Sh T}{e:TypeId}{B:Nat}{S:Nat→Prop}{xs:List T}{v:Value}{w w':World}(h:OwnP sh e B S xs v w)(hsz:w.heap.size≤w'.heap.size)(hk:∀q,(S q∨v.ownBlock=some q)→w'.heap[q]? =w.heap[q]?):OwnP sh e B S xs v w':=by
 obtain⟨css,h1,h2,h3⟩:=h.row
 refine⟨⟨css,h1, ?_,fun i hi hi2=>sh.keep (fun b hb=>hb) (fun b o hb=>World.cell?_of_block (hk b (.inl hb))) (h3 i hi hi2)⟩,fun b hb=>⟨Nat.lt_of_lt_of_le (h.ok b hb).1 hsz,(h.ok b hb).2⟩⟩
 obtain⟨hl,h0 | ⟨g,cap,cur,hv,hb,hh,r⟩⟩:=h2
 ·exact⟨hl,.inl h0⟩
 ·exact⟨hl,.inr ⟨g,cap,cur,hv,hb,by rw[hk g (.inr (by rw[hv];rfl))];exact hh,r⟩⟩
theorem OwnP.below {sh:Pak.Sh T}{e:TypeId}{B:Nat}{S:Nat→Prop}{xs:List T}{v:Value}{w w':World}(h:OwnP sh e B S xs v w)(hb:Below w.heap.size w w'):OwnP sh e B S xs v w':=
 h.keep hb.size (fun q hq=>hb.block q (by
  rcases hq with hq | hq
  ·exact(h.ok q hq).1
  ·exact(h.lt q hq).2))
theorem OwnP.grown {sh:Pak.Sh T}{e:TypeId}{B:Nat}{S:Nat→Prop}{xs:List T}{v:Value}{w w':World}{row:Option Nat}(h:OwnP sh e B S xs v w)(hg:w.grownBy w' row)(hr:∀q,row=some q→¬S q∧v.ownBlock≠some q):OwnP sh e B S xs v w':=
 h.keep hg.size (fun q hq=>hg.block q (by
  rcases hq with hq | hq
  ·exact(h.ok q hq).1
  ·exact(h.lt q hq).2) (fun e=>by
  rcases hq with hq | hq
  ·exact(hr q e.symm).1 hq
  ·exact(hr q e.symm).2 hq))
theorem OwnP.keptW {sh:Pak.Sh T}{e:TypeId}{B M:Nat}{r:Option Nat}{S:Nat→Prop}{xs:List T}{v:Value}{w w':World}(h:OwnP sh e B S xs v w)(hk:Pak.KeptW M r w w')(hM:¬S M∧v.ownBlock≠some M)(hr:∀q,r=some q→¬S q∧v.ownBlock≠some q):OwnP sh e B S xs v w':=
 h.keep hk.size (fun q hq=>hk.block q (by
  rcases hq with hq | hq
  ·exact(h.ok q hq).1
  ·exact(h.lt q hq).2) (fun e=>by
  subst e
  rcases hq with hq | hq
  ·exact hM.1 hq
  ·exact hM.2 hq) (fun e=>by
  rcases hq with hq | hq
  ·exact(hr q e.symm).1 hq
  ·exact(hr q e.symm).2 hq))
theorem OwnP.more {sh:Pak.Sh T}{e:TypeId}{B:Nat}{S S':Nat→Prop}{xs:List T}{v:Value}{w:World}(h:OwnP sh e B S xs v w)(hS:∀b,S b→S' b)(hok:∀b,S' b→b<w.heap.size∧v.ownBlock≠some b):OwnP sh e B S' xs v w:=by
 obtain⟨css,h1,h2,h3⟩:=h.row
 exact⟨⟨css,h1,h2,fun i hi hi2=>sh.keep hS (fun b o hb=>rfl) (h3 i hi hi2)⟩,hok⟩
theorem OwnP.put {P:Program}{sh:Pak.Sh T}{t e:TypeId}{B:Nat}{S Sx:Nat→Prop}{xs:List T}{x:T}{v:Value}{w:World}{cs:List Value}(ht:P.underlying t=some (.slice e)){by':Nat}(hin:(P.info? e).map (fun i=>(i.zero.map fun z=>z.cells.size,i.size,i.bytes))=some (some sh.k,sh.k,by'))(hk:0<sh.k)(hby:by'≤100)
 (h:OwnP sh e B S xs v w) (hn:xs.length≤4194304) (hB:B≤w.heap.size) (hx:sh.rel Sx w cs x) (hSx:∀b,Sx b→b<w.heap.size∧v.ownBlock≠some b):
 ∃v6 w6,(∀ty,(Builtin.append_ #[t,t] ty #[v,.slice (some ⟨w.heap.size,0,none⟩) 1 1]).run P (w.alloc (.cells cs.toArray e))= .ok v6 w6)∧OwnP sh e B (fun b=>S b∨Sx b) (xs ++ [x]) v6 w6∧w.grownBy w6 v.ownBlock∧(v6.ownBlock=v.ownBlock∨∃q,v6.ownBlock=some q∧w.heap.size≤q):=by
 have hA:Below w.heap.size w (w.alloc (.cells cs.toArray e)):=(Below.refl _ w).alloc (Nat.le_refl _) _
 obtain⟨css,h1,h2,h3⟩:=(h.below hA).row
 obtain⟨i0,hi,hz,hs,hb⟩:∃i0,P.info? e=some i0∧(∃z,i0.zero=some z∧z.cells.size=sh.k)∧i0.size=sh.k∧i0.bytes=by':=by
  cases hp:P.info? e with
  | none=>rw[hp]at hin;cases hin
  | some i=>
    rw[hp]at hin
    simp at hin
    obtain⟨⟨z,a1,a2⟩,a3,a4⟩:=hin
    exact⟨i,rfl,⟨z,a1,a2⟩,a3,a4⟩
 obtain⟨z,hz1,hz2⟩:=hz
 have hlen:=sh.len hx
 have hrun:=fun ty=>run_append_own_at (P:=P) (w.alloc (.cells cs.toArray e)) B t ty e i0 z sh.k by' ht hi hz1 hs hb hz2 hk v xs.length css.flatten h2 ⟨w.heap.size,0,none⟩ 1 1 cs (by rw[hlen];omega) (by
  have:=World.news_of_block (heap_alloc_new w (.cells cs.toArray e))
  simpa using this) (sh.one hx) (by unfold maxLen;omega) (by
  have:(xs.length+1)*by'≤(4194304+1)*100:=Nat.mul_le_mul (by omega) hby
  omega) (Nat.le_trans hB hA.size)
 obtain⟨v6,w6,hr,k2,k3,_,k5⟩:=hrun t
 have hvb:=h.lt
 have hkeep:∀b o,b<w.heap.size→v.ownBlock≠some b→w6.cell? ⟨b,o,none⟩=w.cell? ⟨b,o,none⟩:=fun b o hb hne=>(World.cell?_of_block (k3.block b (Nat.lt_of_lt_of_le hb hA.size) (fun e=>hne e.symm))).trans (hA.cell (p:=⟨b,o,none⟩) hb)
 have hsz:w.heap.size≤w6.heap.size:=Nat.le_trans hA.size k3.size
 have k6:v6.ownBlock=v.ownBlock∨∃q,v6.ownBlock=some q∧w.heap.size≤q:=by
  rcases k5 with k5 | k5
  ·exact .inl k5
  ·exact .inr ⟨_,k5,hA.size⟩
 have hne6:∀b,b<w.heap.size→v.ownBlock≠some b→v6.ownBlock≠some b:=fun b hb hne e=>by
  rcases k6 with k5 | ⟨q,k5,hq⟩
  ·exact hne (k5.symm.trans e)
  ·rw[k5]at e
   injection e with e
   omega
 refine⟨v6,w6,fun ty=>hr,⟨⟨css ++ [cs],by simp[h1], ?_,fun i hi hi2=> ?_⟩,fun b hb=> ?_⟩,⟨k3.os.trans hA.os,k3.tape.trans hA.tape,k3.output.trans hA.output,hsz,fun q hq hne=>(k3.block q (Nat.lt_of_lt_of_le hq hA.size) hne).trans (hA.block q hq)⟩,k6⟩
 ·rw[List.length_append,List.flatten_append]
  simpa using k2
 ·by_cases hlt:i<xs.length
  ·rw[List.getElem_append_left hlt,List.getElem_append_left (by omega)]
   have h3':=h3 i hlt (by omega)
   exact sh.keep (fun b hb=> .inl hb) (fun b o hb=>World.cell?_of_block (k3.block b (Nat.lt_of_lt_of_le (h.ok b hb).1 hA.size) (fun e=>(h.ok b hb).2 e.symm))) h3'
  ·have hi':i=xs.length:=by simp at hi;omega
   subst hi'
   simp only[List.getElem_concat_length]
   have e2:(css ++ [cs])[xs.length]'hi2=cs:=by simp only[←h1,List.getElem_concat_length]
   rw[e2]
   exact sh.keep (fun b hb=> .inr hb) (fun b o hb=>hkeep b o (hSx b hb).1 (hSx b hb).2) hx
 ·have h6:b<w.heap.size∧v.ownBlock≠some b:=by
   rcases hb with hb | hb
   ·exact h.ok b hb
   ·exact hSx b hb
  exact⟨Nat.lt_of_lt_of_le h6.1 hsz,hne6 b h6.1 h6.2⟩
theorem OwnP.slot {sh:Pak.Sh T}{e:TypeId}{B:Nat}{S:Nat→Prop}{xs:List T}{v:Value}{w:World}(h:OwnP sh e B S xs v w)(hm:xs.length≤9223372036854775807):Pak.Slot sh (fun b=>S b∨v.ownBlock=some b) w v xs:=by
 obtain⟨css,h1,h2,h3⟩:=h.row
 have hk:∀cs∈css,cs.length=sh.k:=fun cs hc=>by
  obtain⟨i,hi,rfl⟩:=List.getElem_of_mem hc
  exact sh.len (h3 i (by omega) hi)
 have hc:=fun g=>World.ownsRow.cells h2 (g:=g)
 obtain⟨_,⟨rfl,h0⟩ | ⟨g,cap,cur,rfl,_⟩⟩:=h2
 ·exact⟨none,0,by rw[h0],hm,fun i hi=>by omega⟩
 ·refine⟨some ⟨g,0,none⟩,cap,rfl,hm,fun i hi=>⟨g,0,css[i]'(by omega),rfl,.inr rfl,fun j u hu=> ?_,sh.keep (fun b hb=> .inl hb) (fun b o _=>rfl) (h3 i hi (by omega))⟩⟩
  have hj:j<sh.k:=by
   have:=(List.getElem?_eq_some_iff.1 hu).1
   rwa [hk _ (List.getElem_mem _)]at this
  have:=hc g rfl (i*sh.k+j) u (by rw[Pak.flatten_get hk i j (by omega) hj];exact hu)
  rwa [show(⟨g,0,none⟩:Addr).add (i*sh.k+j)=⟨g,0+i*sh.k+j,none⟩ by unfold Addr.add;split<;>simp_all]at this
end
def LiesS (S:Nat→Prop)(w:World)(a:Option Addr)(l:List (Int×Int)):Prop:=
 ∀i,i<l.length→∃b off,a=some ⟨b,off,none⟩∧S b∧w.cell? ⟨b,off+i*2,none⟩=some (.int .i64 (l.getD i (0,0)).1)∧w.cell? ⟨b,off+i*2+1,none⟩=some (.int .i64 (l.getD i (0,0)).2)
def linSh:Pak.Sh (Int×List (Int×Int)) where
 k:=2
 rel:=fun S w cs x=>∃ta tcap,cs=[.int .i64 x.1,.slice ta x.2.length tcap]∧LiesS S w ta x.2
 len:=fun h=>by obtain⟨_,_,rfl,_⟩:=h;rfl
 one:=fun h u hu=>by
  obtain⟨_,_,rfl,_⟩:=h
  simp at hu
  rcases hu with rfl | rfl<;>rfl
 keep:=fun hS hk h=>by
  obtain⟨ta,tcap,rfl,h⟩:=h
  exact⟨ta,tcap,rfl,fun i hi=>by
   obtain⟨b,off,e,hb,h1,h2⟩:=h i hi
   exact⟨b,off,e,hS b hb,(hk b _ hb).trans h1,(hk b _ hb).trans h2⟩⟩
theorem LiesS.lies {S:Nat→Prop}{w:World}{a:Option Addr}{l:List (Int×Int)}{B:Nat}(h:LiesS S w a l)(hS:∀b,S b→b<B):Lies B w a l:=fun i hi=>by
 obtain⟨b,off,e,hb,h1,h2⟩:=h i hi
 exact⟨b,off,e,hS b hb,h1,h2⟩
theorem nums_of {S:Nat→Prop}{w:World}{a:Option Addr}{xs:List Int}{B:Nat}(h:Pak.Sits Pak.intSh S w a xs)(hS:∀b,S b→b<B):Prp.Nums B w a xs:=fun i hi=>by
 obtain⟨b,off,cs,e,hb,hc,rfl,_⟩:=h.2 i hi
 refine⟨b,off,e,hS b hb, ?_⟩
 have:=hc 0 _ rfl
 have e1:Pak.intSh.k=1:=rfl
 rw[e1,Nat.mul_one,Nat.add_zero]at this
 rw[this,List.getD_eq_getElem?_getD,List.getElem?_eq_getElem hi,Option.getD_some]
theorem clies_of {S:Nat→Prop}{w:World}{a:Option Addr}{cs:List (List Int)}{B:Nat}(h:Pak.Sits Pak.clauseSh S w a cs)(hS:∀b,S b→b<B):Prp.CLies B w a cs:=fun i hi=>by
 obtain⟨b,off,us,e,hb,hc,v,rfl,ta,cap,rfl,hn⟩:=h.2 i hi
 have e1:Pak.clauseSh.k=1:=rfl
 have:=hc 0 _ rfl
 rw[e1,Nat.mul_one,Nat.add_zero]at this
 rw[List.getD_eq_getElem?_getD,List.getElem?_eq_getElem hi,Option.getD_some]
 exact⟨b,off,ta,cap,e,hS b hb,this,nums_of hn hS⟩
end
section
open Go.RowKit
structure LS (M K mp:Nat)(av:Value)(N:Nat)(cl:List (List Int))(r:Option Nat)(S:Nat→Prop)(w:World):Prop where
 c0:w.cell? ⟨M,0,none⟩=some (.int .i64 N)
 c1:w.cell? ⟨M,1,none⟩=some av
 ex:∃v,w.cell? ⟨M,2,none⟩=some v∧v.ownBlock=r∧OwnP Pak.clauseSh 23 K S cl v w
 lo:∀b,S b→K≤b
 c3:w.cell? ⟨M,3,none⟩=some (.map (some mp))
 fz:∀j,w.frozen? ⟨M,j,none⟩=false
 lt:M<K∧K≤w.heap.size
 nf:∀b,S b→∀o,w.frozen? ⟨b,o,none⟩=false
def LTo (M K mp:Nat)(av:Value)(N:Nat)(cl:List (List Int))(r:Option Nat)(S':Nat→Prop)(w w':World):Prop:=∃r',LS M K mp av N cl r' S' w'∧(r'=r∨∃q,r'=some q∧w.heap.size≤q)∧Pak.KeptW M r w w'
theorem keptW_trans {M:Nat}{r r':Option Nat}{w w1 w2:World}(hr:r'=r∨∃q,r'=some q∧w.heap.size≤q)(h:Pak.KeptW M r w w1)(k:Pak.KeptW M r' w1 w2):Pak.KeptW M r w w2:=
 ⟨k.os.trans h.os,k.tape.trans h.tape,k.output.trans h.output,Nat.le_trans h.size k.size,fun q hq h1 h2=>(k.block q (Nat.lt_of_lt_of_le hq h.size) h1 (fun e=>by
   rcases hr with rfl | ⟨p,rfl,hp⟩
   ·exact h2 e
   ·injection e with e;omega)).trans (h.block q hq h1 h2)⟩
theorem next_trans {r r' r2:Option Nat}{w w1:World}(hr:r'=r∨∃q,r'=some q∧w.heap.size≤q)(hs:w.heap.size≤w1.heap.size)(k:r2=r'∨∃q,r2=some q∧w1.heap.size≤q):r2=r∨∃q,r2=some q∧w.heap.size≤q:=by
 rcases k with rfl | ⟨q,rfl,hq⟩
 ·exact hr
 ·exact .inr ⟨q,rfl,by omega⟩
section
variable {M K mp:Nat} {av:Value} {N:Nat} {cl:List (List Int)} {r r':Option Nat} {S:Nat→Prop} {w w1 w2 w':World}
theorem LTo.refl (h:LS M K mp av N cl r S w):LTo M K mp av N cl r S w w:=⟨r,h,.inl rfl,.of_below (Below.refl _ _)⟩
theorem LTo.trans (hr:r'=r∨∃q,r'=some q∧w.heap.size≤q)(h:Pak.KeptW M r w w1)(k:LTo M K mp av N cl r' S w1 w2):LTo M K mp av N cl r S w w2:=by
 obtain⟨r2,k1,k2,k3⟩:=k
 exact⟨r2,k1,next_trans hr h.size k2,keptW_trans hr h k3⟩
theorem LS.size (h:LS M K mp av N cl r S w):M<w.heap.size:=Nat.lt_of_lt_of_le h.lt.1 h.lt.2
theorem LS.keep (h:LS M K mp av N cl r S w)(hsz:w.heap.size≤w'.heap.size)(hM:w'.heap[M]? =w.heap[M]?)(hk:∀q,(S q∨r=some q)→w'.heap[q]? =w.heap[q]?):LS M K mp av N cl r S w':=by
 obtain⟨v,h1,h2,h3⟩:=h.ex
 have c:=fun j=>World.cell?_of_block (a:=⟨M,j,none⟩) hM
 exact⟨(c 0).trans h.c0,(c 1).trans h.c1,⟨v,(c 2).trans h1,h2,h3.keep hsz (fun q hq=>hk q (by rw[←h2];exact hq))⟩,h.lo,(c 3).trans h.c3,fun j=>(World.frozen?_of_block (a:=⟨M,j,none⟩) hM).trans (h.fz j),⟨h.lt.1,Nat.le_trans h.lt.2 hsz⟩,fun b hb o=>(World.frozen?_of_block (a:=⟨b,o,none⟩) (hk b (.inl hb))).trans (h.nf b hb o)⟩
theorem LS.row (h:LS M K mp av N cl r S w):∀q,r=some q→K≤q∧q<w.heap.size∧¬S q:=fun q hq=>by
 obtain⟨v,h1,h2,h3⟩:=h.ex
 exact⟨(h3.lt q (h2.trans hq)).1,(h3.lt q (h2.trans hq)).2,fun hs=>(h3.ok q hs).2 (h2.trans hq)⟩
theorem LS.ok (h:LS M K mp av N cl r S w):∀b,S b→b<w.heap.size:=fun b hb=>by
 obtain⟨v,h1,h2,h3⟩:=h.ex
 exact(h3.ok b hb).1
theorem LS.below (h:LS M K mp av N cl r S w)(hb:Below w.heap.size w w'):LS M K mp av N cl r S w':=
 h.keep hb.size (hb.block M h.size) (fun q hq=>hb.block q (by
  rcases hq with hq | hq
  ·exact h.ok q hq
  ·exact(h.row q hq).2.1))
theorem LS.grown (h:LS M K mp av N cl r S w){row:Option Nat}(hg:w.grownBy w' row)(hr:∀q,row=some q→q≠M∧¬S q∧r≠some q):LS M K mp av N cl r S w':=
 h.keep hg.size (hg.block M h.size (fun e=>(hr M e.symm).1 rfl)) (fun q hq=>hg.block q (by
  rcases hq with hq | hq
  ·exact h.ok q hq
  ·exact(h.row q hq).2.1) (fun e=>by
  rcases hq with hq | hq
  ·exact(hr q e.symm).2.1 hq
  ·exact(hr q e.symm).2.2 hq))
theorem LTo.below (h:LTo M K mp av N cl r S w w1)(hb:Below w1.heap.size w1 w2):LTo M K mp av N cl r S w w2:=by
 obtain⟨r2,k1,k2,k3⟩:=h
 exact⟨r2,k1.below hb,k2,keptW_trans k2 k3 (.of_below hb)⟩
theorem LS.low (hs:LS M K mp av N cl r S w)(k3:Pak.KeptW M r w w'):Below M w w':=by
 have h1:=hs.lt
 exact⟨k3.os,k3.tape,k3.output,k3.size,fun q hq=>k3.block q (by omega) (by omega) (fun e=>by have:=hs.row q e.symm;omega)⟩
theorem grown_set {j:Nat}(v:Value):w.grownBy (w.setCell ⟨M,j,none⟩ v) (some M):=⟨rfl,rfl,rfl,by simp[World.setCell],fun q hq hn=>Below.heap_setCell _ _ _ _ (fun e=>hn (by rw[e]))⟩
theorem LS.count (h:LS M K mp av N cl r S w)(n:Nat):LTo M K mp av n cl r S w (w.setCell ⟨M,0,none⟩ (.int .i64 n)):=by
 obtain⟨v,h1,h2,h3⟩:=h.ex
 have hsz:(w.setCell ⟨M,0,none⟩ (.int .i64 n)).heap.size=w.heap.size:=by simp[World.setCell]
 have hl:=h.lt
 refine⟨r,⟨World.cell?_setCell_same' _ _ _ (by rw[h.c0];rfl),(World.cell?_setCell_other w ⟨M,0,none⟩ ⟨M,1,none⟩ _ (by simp)).trans h.c1,⟨v,(World.cell?_setCell_other w ⟨M,0,none⟩ ⟨M,2,none⟩ _ (by simp)).trans h1,h2,h3.grown (grown_set _) (fun q hq=> ?_)⟩,h.lo,(World.cell?_setCell_other w ⟨M,0,none⟩ ⟨M,3,none⟩ _ (by simp)).trans h.c3,fun j=>by rw[World.frozen?_setCell];exact h.fz j,⟨hl.1,by rw[hsz];exact hl.2⟩,fun b hb o=>by rw[World.frozen?_setCell];exact h.nf b hb o⟩,.inl rfl,⟨rfl,rfl,rfl,Nat.le_of_eq hsz.symm,fun q hq h1 h2=>Below.heap_setCell _ _ _ _ h1⟩⟩
 injection hq with hq
 subst hq
 exact⟨fun hb=>by have:=h.lo M hb;omega,fun e=>by have:=(h3.lt M e).1;omega⟩
theorem LS.add {a:Option Addr}{cap:Nat}{xs:List Int}{Sx:Nat→Prop}(h:LS M K mp av N cl r S w)(hn:cl.length≤4194304)(hx:Pak.Sits Pak.intSh Sx w a xs)(hSx:∀b,Sx b→K≤b∧b<w.heap.size∧r≠some b)(hNx:∀b,Sx b→∀o,w.frozen? ⟨b,o,none⟩=false):
 ∃v a6 n6 c6 w6,w.cell? ⟨M,2,none⟩=some v∧(∀ty,(Builtin.append_ #[41,41] ty #[v,.slice (some ⟨w.heap.size,0,none⟩) 1 1]).run Tryz.prog (w.alloc (.cells #[.slice a xs.length cap] 23))= .ok (.slice a6 n6 c6) w6)∧w6.cell? ⟨M,2,none⟩=some v∧w6.frozen? ⟨M,2,none⟩=false∧LTo M K mp av N (cl ++ [xs]) r (fun b=>S b∨Sx b) w (w6.setCell ⟨M,2,none⟩ (.slice a6 n6 c6)):=by
 obtain⟨v,h1,h2,h3⟩:=h.ex
 have h4:=h.lo
 have hl:=h.lt
 obtain⟨v6,w6,hr,k1,k2,k3⟩:=h3.put (P:=Tryz.prog) (t:=41) (x:=xs) (cs:=[.slice a xs.length cap]) (Sx:=Sx) Tryz.underlying41 (by':=24) (by kernel_rfl) (by decide) (by decide) hn hl.2 ⟨_,rfl,a,cap,rfl,hx⟩ (fun b hb=>⟨(hSx b hb).2.1,by rw[h2];exact(hSx b hb).2.2⟩)
 have hrM:v.ownBlock≠some M:=fun e=>by have:=(h3.lt M e).1;omega
 have hlt:M<w.heap.size:=by omega
 have hg6:w6.heap[M]? =w.heap[M]? :=k2.block M hlt (fun e=>hrM e.symm)
 have c:=fun j=>World.cell?_of_block (a:=⟨M,j,none⟩) hg6
 have hs6:=k2.size
 have hsz:(w6.setCell ⟨M,2,none⟩ v6).heap.size=w6.heap.size:=by simp[World.setCell]
 have k4:∀b,S b∨Sx b→K≤b:=fun b hb=>by
  rcases hb with hb | hb
  ·exact h4 b hb
  ·exact(hSx b hb).1
 have hv6:∀q,v6.ownBlock=some q→K≤q:=fun q hq=>(k1.lt q hq).1
 obtain⟨a6,c6,e6⟩:=k1.form
 generalize (cl ++ [xs]).length=n6 at e6
 subst e6
 refine⟨v,a6,n6,c6,w6,h1,hr,(c 2).trans h1,(World.frozen?_of_block (a:=⟨M,2,none⟩) hg6).trans (h.fz 2),Value.ownBlock (.slice a6 n6 c6),⟨(World.cell?_setCell_other w6 ⟨M,2,none⟩ ⟨M,0,none⟩ _ (by simp)).trans ((c 0).trans h.c0),(World.cell?_setCell_other w6 ⟨M,2,none⟩ ⟨M,1,none⟩ _ (by simp)).trans ((c 1).trans h.c1),⟨_,World.cell?_setCell_same' _ _ _ (by rw[c 2,h1];rfl),rfl,k1.grown (grown_set _) (fun q hq=> ?_)⟩,k4,(World.cell?_setCell_other w6 ⟨M,2,none⟩ ⟨M,3,none⟩ _ (by simp)).trans ((c 3).trans h.c3),fun j=> ?_,⟨hl.1,by omega⟩,fun b hb o=> ?_⟩,by rw[←h2];exact k3,⟨k2.os,k2.tape,k2.output,by omega,fun q hq h5 h6=> ?_⟩⟩
 ·injection hq with hq
  subst hq
  exact⟨fun hb=>by have:=k4 M hb;omega,fun e=>by have:=hv6 M e;omega⟩
 ·rw[World.frozen?_setCell,World.frozen?_of_block (a:=⟨M,j,none⟩) hg6]
  exact h.fz j
 ·have hbz:b<w.heap.size∧v.ownBlock≠some b:=by
   rcases hb with hb | hb
   ·exact h3.ok b hb
   ·exact⟨(hSx b hb).2.1,by rw[h2];exact(hSx b hb).2.2⟩
  rw[World.frozen?_setCell,World.frozen?_of_block (a:=⟨b,o,none⟩) (k2.block b hbz.1 (fun e=>hbz.2 e.symm))]
  rcases hb with hb | hb
  ·exact h.nf b hb o
  ·exact hNx b hb o
 ·rw[Below.heap_setCell _ _ _ _ h5,k2.block q hq (by rw[h2];exact h6)]
end
def LEnd (M K mp:Nat)(av:Value)(N:Nat)(cl:List (List Int))(r:Option Nat)(S':Nat→Prop)(w:World)(e:Ending)(w':World):Prop:=e= .returned (.tuple #[])∧LTo M K mp av N cl r S' w w'
theorem clause_any (M K mp:Nat)(av:Value)(N:Nat)(cl:List (List Int))(r:Option Nat)(w:World)(a:Option Addr)(n cap:Nat)(xs:List Int)(S Sx:Nat→Prop)(h:LS M K mp av N cl r S w)(hn:cl.length≤4194304)(hxn:xs.length=n)(hx:Pak.Sits Pak.intSh Sx w a xs)(hSx:∀b,Sx b→K≤b∧b<w.heap.size∧r≠some b)(hNx:∀b,Sx b→∀o,w.frozen? ⟨b,o,none⟩=false):
 Calls Tryz.prog 54 #[.pointer (some ⟨M,0,none⟩),.slice a n cap] w (LEnd M K mp av N (cl ++ [xs]) r (fun b=>S b∨Sx b) w):=by
 obtain⟨v,a6,n6,c6,w6,h1,hr,h2,h3,h4⟩:=h.add (cap:=cap) hn hx hSx hNx
 rw[hxn]at hr
 have H4:=Lib.hid h4
 clear h hn hx hSx hNx h4
 go_enter Tryz.func54,Tryz.ntmps54
 go_wp2_with (at_builtin;refine Lib.wpList_append_run _ rfl _ _ _ _ rfl _ _ rfl rfl _ _ (hr _) ?_)
 go_end0
 exact⟨rfl,H4.out⟩
end
section
open Go.RowKit
def sm (B x:Int):Prop:= -B≤x∧x≤B
theorem ints_new (w:World)(xs:List Int)(h:∀x∈xs, -9223372036854775808≤x∧x≤9223372036854775807)(hl:xs.length≤9223372036854775807):Pak.Sits Pak.intSh (fun b=>b=w.heap.size) (w.alloc (.cells (xs.map (Value.int .i64)).toArray 3)) (some ⟨w.heap.size,0,none⟩) xs:=by
 refine⟨hl,fun i hi=>⟨w.heap.size,0,[.int .i64 xs[i]],rfl,rfl,fun j u hu=> ?_,rfl,h _ (List.getElem_mem hi)⟩⟩
 have hj:j=0:=by have:=(List.getElem?_eq_some_iff.1 hu).1;simp at this;exact this
 subst hj
 rw[cell_of_row _ _ _ _ _ _ (heap_alloc_new w _)]
 simp at hu
 subst hu
 have e:Pak.intSh.k=1:=rfl
 simp[e,hi]
theorem own_new (w:World)(x:Int)(h: -9223372036854775808≤x∧x≤9223372036854775807){K:Nat}(hK:K≤w.heap.size):OwnP Pak.intSh 3 K (fun _=>False) [x] (.slice (some ⟨w.heap.size,0,none⟩) 1 1) (w.alloc (.cells #[.int .i64 x] 3)):=
 ⟨⟨[[.int .i64 x]],rfl,⟨rfl,.inr ⟨w.heap.size,1, #[.int .i64 x],rfl,hK,heap_alloc_new w _,Nat.le_refl _,by decide,rfl,rfl⟩⟩,fun i hi hi2=>by
   have:i=0:=by simp at hi;exact hi
   subst this
   exact⟨rfl,h⟩⟩,fun b hb=>hb.elim⟩
def joinK (v s:Int)(ls:List Int)(k:Nat):List (List Int):=(ls.take k).map fun l=>[-v,s*l]
def lastK (v s:Int)(ls:List Int)(k:Nat):List Int:=v :: (ls.take k).map fun l=> -s*l
theorem joinK_succ {v s:Int}{ls:List Int}{k:Nat}(h:k<ls.length):joinK v s ls (k+1)=joinK v s ls k ++ [[-v,s*ls[k]]]:=by
 unfold joinK;rw[List.take_succ_eq_append_getElem h,List.map_append];rfl
theorem lastK_succ {v s:Int}{ls:List Int}{k:Nat}(h:k<ls.length):lastK v s ls (k+1)=lastK v s ls k ++ [-s*ls[k]]:=by
 unfold lastK;rw[List.take_succ_eq_append_getElem h,List.map_append];rfl
theorem join_all (v s:Int)(ls:List Int):joinK v s ls ls.length ++ [lastK v s ls ls.length]=joinL v s ls:=by
 unfold joinK lastK joinL;rw[List.take_length]
def JEnd (M K mp:Nat)(av:Value)(N:Nat)(cl:List (List Int))(r:Option Nat)(S:Nat→Prop)(w:World)(w':World):Prop:=∃S',(∀b,S' b→S b∨w.heap.size≤b)∧LTo M K mp av N cl r S' w w'
theorem join_any (M K mp:Nat)(av:Value)(N:Nat)(cl:List (List Int))(r:Option Nat)(S Sl:Nat→Prop)(w:World)(v s:Int)(a:Option Addr)(n cap:Nat)(ls:List Int)(h:LS M K mp av N cl r S w)(hn:cl.length+n≤4000000)(hln:ls.length=n)(hl:Pak.Sits Pak.intSh Sl w a ls)(hSl:∀b,Sl b→b<w.heap.size∧b≠M∧r≠some b)
 (hv:sm 1000000000000 v) (hs:s=1∨s= -1) (hx:∀x∈ls,sm 1000000000000 x):
 Calls Tryz.prog 87 #[.pointer (some ⟨M,0,none⟩),.int .i64 v,.int .i64 s,.slice a n cap] w fun e w'=>e= .returned (.tuple #[])∧JEnd M K mp av N (cl ++ joinL v s ls) r S w w':=by
 unfold sm at hv hx
 have hA:Below w.heap.size w (w.alloc (.cells #[.int .i64 v] 3)):=(Below.refl _ _).alloc (Nat.le_refl _) _
 have hK:=h.lt.2
 have HO:=Lib.hid (own_new w v (by omega) hK)
 have HS:=Lib.hid (h.below hA)
 have HN:=Lib.hid hln
 have HL:=Lib.hid hl
 have HSL:=Lib.hid hSl
 have HX:=Lib.hid hx
 have HK:=Lib.hid hK
 have hsz:(w.alloc (.cells #[.int .i64 v] 3)).heap.size=w.heap.size+1:=by simp
 have HZ:=Lib.hid hsz
 have HW:Hid (Pak.KeptW M r w (w.alloc (.cells #[.int .i64 v] 3))):=Lib.hid (.of_below hA)
 have HH:=Lib.hid h
 have hsm:n≤4000000:=by omega
 have e1:IntKind.i64.wrap (-v)= -v:=IntWalk.i64_in _ (by omega)
 have e2:IntKind.i64.wrap (-s)= -s:=IntWalk.i64_in _ (by omega)
 clear h hl hSl hx hln hA hK hsz
 go_enter Tryz.func87,Tryz.ntmps87
 go_wp2_with fail
 generalize w.alloc (.cells #[.int .i64 v] 3)=W0 at*
 go_loopw [8,15] (fun o i wr=>∃k:Nat,i= .int .i64 k∧k≤n∧∃r' S',Hid (LS M K mp av N (cl ++ joinK v s ls k) r' S' wr)∧Hid (r'=r∨∃q,r'=some q∧w.heap.size≤q)∧Hid (Pak.KeptW M r w wr)∧Hid (∀b,S' b→S b∨w.heap.size≤b)∧Hid (OwnP Pak.intSh 3 K (fun _=>False) (lastK v s ls k) o wr)∧Hid (∀q,o.ownBlock=some q→w.heap.size≤q∧r'≠some q∧¬S' q)) (fun _ i _=>n - (intOf i).toNat)
 case atStart=>
  refine⟨0,rfl,Nat.zero_le _,r,S,Lib.hid (by simpa [joinK]using HS.out),Lib.hid (.inl rfl),HW,Lib.hid (fun b hb=> .inl hb),HO,Lib.hid (fun q hq=> ?_)⟩
  injection hq with hq
  have hq:w.heap.size=q:=hq
  subst hq
  exact⟨Nat.le_refl _,fun e=>by have:=(HH.out.row _ e).2.1;omega,fun e=>by have:=HH.out.ok _ e;omega⟩
 case round=>
  clear HS HO HW
  obtain⟨k,rfl,hk,r1,S1,hS,hr,hW,hS1,hO,hq⟩:=hrel
  by_cases hlt:k<n
  ·have hlti:(k:Int)<(n:Int):=by omega
   have hkl:k<ls.length:=by rw[HN.out];exact hlt
   obtain⟨b,off,us,rfl,hb,hc,rfl,hi⟩:=HL.out.2 k hkl
   have c1:=hc 0 _ rfl
   have hbl:=HSL.out b hb
   have ek:Pak.intSh.k=1:=rfl
   rw[ek,Nat.mul_one,Nat.add_zero]at c1
   have c2:=(World.cell?_of_block (a:=⟨b,off+k,none⟩) (hW.out.block b hbl.1 hbl.2.1 (fun e=>hbl.2.2 e.symm))).trans c1
   have hxk:=HX.out _ (List.getElem_mem hkl)
   have HJ:=Lib.hid (joinK_succ (v:=v) (s:=s) hkl)
   have HT:=Lib.hid (lastK_succ (v:=v) (s:=s) hkl)
   clear hc hi c1 hbl ek
   generalize ls[k]=x at*
   have hb1: -1000000000000≤s*x∧s*x≤1000000000000:=by rcases hs with rfl | rfl<;>omega
   have hb2: -1000000000000≤ -s*x∧ -s*x≤1000000000000:=by rcases hs with rfl | rfl<;>omega
   have e3:IntKind.i64.wrap (s*x)=s*x:=IntWalk.i64_in _ (by omega)
   have e4:IntKind.i64.wrap (-s*x)= -s*x:=IntWalk.i64_in _ (by omega)
   have hA1:Below wr.heap.size wr (wr.alloc (.cells #[.int .i64 (-v),.int .i64 (s*x)] 3)):=(Below.refl _ _).alloc (Nat.le_refl _) _
   have hI:Pak.Sits Pak.intSh (fun b=>b=wr.heap.size) (wr.alloc (.cells #[.int .i64 (-v),.int .i64 (s*x)] 3)) (some ⟨wr.heap.size,0,none⟩) [-v,s*x]:=ints_new wr [-v,s*x] (fun y hy=>by
    rcases List.mem_cons.1 hy with rfl | hy
    ·omega
    ·rw[List.mem_singleton]at hy
     subst hy;omega) (by simp)
   have hKr:=hS.out.lt.2
   have hz1:(wr.alloc (.cells #[.int .i64 (-v),.int .i64 (s*x)] 3)).heap.size=wr.heap.size+1:=by simp
   have HC:=Lib.hid (clause_any M K mp av N _ r1 _ _ 2 2 [-v,s*x] S1 (fun b=>b=wr.heap.size) (hS.out.below hA1) (by rw[List.length_append];unfold joinK;rw[List.length_map,List.length_take];omega) rfl hI (fun b hb=>by
    subst hb
    exact⟨hKr,by omega,fun e=>by have:=(hS.out.row _ e).2.1;omega⟩) (fun b hb o=>by
    subst hb
    exact frozen_of_row _ _ _ _ _ (heap_alloc_new wr _)))
   have HO1:=Lib.hid (hO.out.below hA1)
   have HW1:=Lib.hid (keptW_trans hr.out hW.out (.of_below hA1))
   have HQ:=Lib.hid (fun q h=>And.intro (hq.out q h).1 (And.intro (hq.out q h).2.1 (And.intro (hq.out q h).2.2 (hO.out.lt q h).2)))
   have HZ1:Hid ((wr.alloc (.cells #[.int .i64 (-v),.int .i64 (s*x)] 3)).heap.size=wr.heap.size+1):=Lib.hid hz1
   have HKW:Hid (w.heap.size≤wr.heap.size):=Lib.hid hW.out.size
   clear hA1 hI hKr hz1 hS hO hW hq
   go_wp2_with fail
   clear c2
   generalize wr.alloc (.cells #[.int .i64 (-v),.int .i64 (s*x)] 3)=w1 at*
   refine HC.out.mono ?_
   rintro e w2 ⟨rfl,r2,hS2,hr2,hW2⟩
   have hO2:=HO1.out.keptW hW2 ⟨fun h=>h,fun e=>by have:=(HO1.out.lt _ e).1;have:=hS2.lt.1;omega⟩ (fun q e=>⟨fun h=>h,fun e2=>(HQ.out q e2).2.1 e⟩)
   have hz2:=hW2.size
   have hlen:(lastK v s ls k).length≤4194304:=by unfold lastK;rw[List.length_cons,List.length_map,List.length_take];omega
   obtain⟨v3,w3,hr3,hO3,hg3,hv3⟩:=hO2.put (P:=Tryz.prog) (t:=23) (x:= -s*x) (cs:=[.int .i64 (-s*x)]) (Sx:=fun _=>False) Tryz.underlying23 (by':=8) (by kernel_rfl) (by decide) (by decide) hlen (Nat.le_trans hS2.lt.2 (Nat.le_refl _)) ⟨rfl,by omega⟩ (fun b hb=>hb.elim)
   have hS3:=hS2.grown hg3 (fun q e=>by
    obtain⟨q1,q2,q3,q4⟩:=HQ.out q e
    have hM:=hS2.lt
    have hK2:=HK.out
    refine⟨by omega,fun h=> ?_,fun h=> ?_⟩
    ·rcases h with h | h
     ·exact q3 h
     ·omega
    ·rcases hr2 with rfl | ⟨p,rfl,hp⟩
     ·exact q2 h
     ·injection h with h;have:=HZ1.out;omega)
   have hW3:Pak.KeptW M r w w3:=by
    have h1:=keptW_trans hr.out HW1.out hW2
    refine⟨hg3.os.trans h1.os,hg3.tape.trans h1.tape,hg3.output.trans h1.output,Nat.le_trans h1.size hg3.size,fun q hq a1 a2=>(hg3.block q (Nat.lt_of_lt_of_le hq h1.size) (fun e=> ?_)).trans (h1.block q hq a1 a2)⟩
    have:=(HQ.out q e.symm).1
    omega
   obtain⟨a3,c3,e3'⟩:=hO3.form
   have HF:Hid (∃r' S',Hid (LS M K mp av N (cl ++ joinK v s ls (k+1)) r' S' w3)∧Hid (r'=r∨∃q,r'=some q∧w.heap.size≤q)∧Hid (Pak.KeptW M r w w3)∧Hid (∀b,S' b→S b∨w.heap.size≤b)∧Hid (OwnP Pak.intSh 3 K (fun _=>False) (lastK v s ls (k+1)) v3 w3)∧Hid (∀q,v3.ownBlock=some q→w.heap.size≤q∧r'≠some q∧¬S' q)):=by
    refine Lib.hid ⟨r2,_,Lib.hid (by rw[HJ.out,←List.append_assoc];exact hS3),Lib.hid (next_trans hr.out (Nat.le_trans HKW.out (Nat.le_of_lt (by have:=HZ1.out;omega))) hr2),Lib.hid hW3,Lib.hid (fun b hb=> ?_),Lib.hid (by rw[HT.out];exact hO3.more (fun b hb=>by rcases hb with hb | hb<;>exact hb) (fun b hb=>hb.elim)),Lib.hid (fun q e=> ?_)⟩
    ·rcases hb with hb | hb
     ·exact hS1.out b hb
     ·right;have:=HKW.out;omega
    ·have hz1:=HZ1.out
     rcases hv3 with hv3 | ⟨p,hv3,hp⟩
     ·obtain⟨q1,q2,q3,q4⟩:=HQ.out q (hv3.symm.trans e)
      refine⟨q1,fun h=> ?_,fun h=> ?_⟩
      ·rcases hr2 with rfl | ⟨p,rfl,hp⟩
       ·exact q2 h
       ·injection h with h;omega
      ·rcases h with h | h
       ·exact q3 h
       ·omega
     ·rw[hv3]at e
      injection e with e
      subst e
      have:=HKW.out
      refine⟨by omega,fun h=>by have:=(hS2.row _ h).2.1;omega,fun h=>by have:=hS2.ok _ h;omega⟩
   subst e3'
   generalize (lastK v s ls k ++ [-s*x]).length=n3 at*
   clear hS2 hr2 hW2 hO2 hO3 hg3 hv3 hS3 hW3 HO1 HW1 HC HQ hS1 hr hlen
   go_wp2_with (at_builtin;refine Lib.wpList_append_run _ rfl _ _ _ _ rfl _ _ rfl rfl _ _ (hr3 _) ?_)
   go_roundw
   case rel=>exact⟨k+1,by go_num,by omega,HF.out⟩
   case measure=>simp[intOf];omega
  ·have hlti:¬(k:Int)<(n:Int):=by omega
   obtain rfl:k=n:=by omega
   have hlen:(lastK v s ls k).length=k+1:=by unfold lastK;rw[List.length_cons,List.length_map,List.length_take,HN.out];omega
   obtain⟨a9,c9,e9,hs9⟩:=hO.out.slot (by omega)
   subst e9
   obtain⟨m9,y2⟩:∃m9,(lastK v s ls k).length=m9:=⟨_,rfl⟩
   rw[y2]at hs9 hlen hO hq
   rw[y2]
   have HC:=Lib.hid (clause_any M K mp av N _ r1 _ _ _ c9 (lastK v s ls k) S1 _ hS.out (by rw[List.length_append];unfold joinK;rw[List.length_map,List.length_take];omega) y2 hs9 (fun b hb=>by
    rcases hb with hb | hb
    ·exact hb.elim
    ·exact⟨(hO.out.lt b hb).1,(hO.out.lt b hb).2,(hq.out b hb).2.1⟩) (fun b hb o=>by
    rcases hb with hb | hb
    ·exact hb.elim
    ·exact hO.out.nf b hb o))
   have hlo:=fun b (hb:S1 b∨(False∨_))=>(show S b∨w.heap.size≤b by
    rcases hb with hb | hb | hb
    ·exact hS1.out b hb
    ·exact hb.elim
    ·exact .inr (hq.out b hb).1)
   have HLO:=Lib.hid hlo
   have HALL:=Lib.hid (join_all v s ls)
   have HNK:=Lib.hid HN.out
   clear hlo y2 hs9 hS hO hS1 hq hlen HN HSL HL HX HH HZ
   go_wp2_with fail
   refine HC.out.mono ?_
   rintro e w2 ⟨rfl,r2,hS2,hr2,hW2⟩
   have HE:Hid (JEnd M K mp av N (cl ++ joinL v s ls) r S w w2):=by
    refine Lib.hid ⟨_,HLO.out, ?_⟩
    have hj:=HALL.out
    rw[HNK.out]at hj
    rw[←hj,←List.append_assoc]
    exact⟨r2,hS2,next_trans hr.out hW.out.size hr2,keptW_trans hr.out hW.out hW2⟩
   clear hS2 hr2 hW2
   go_wp2_with fail
   go_end0
   exact⟨rfl,HE.out⟩
end
section
open Go.RowKit
theorem same_self (c:Int)(l:List (Int×Int)):same c c l l=true:=by unfold same;simp
theorem same2_any:∀(n:Nat) (f:FT) (csa csb:List Value) (w:World),FLies w.heap.size w n f csa→FLies w.heap.size w n f csb→
 Calls Tryz.prog 20 #[.agg csa.toArray,.agg csb.toArray] w fun e w'=>e= .returned (.bool true)∧Below w.heap.size w w'
 | 0,_,_,_,_,h,_=>h.elim
 | n+1,f,csa,csb,w,ha,hb=>by
   have IH:=same2_any n
   obtain⟨ta,tcap,ka,kcap,rfl,hlta,ht4,hk4,hksa⟩:=ha
   obtain⟨tb,tcapb,kb,kcapb,rfl,hltb,_,_,hksb⟩:=hb
   have hsz:(w.alloc (.cells #[.int .i64 f.kind,.int .i64 f.c,.slice ta f.t.length tcap,.slice ka f.ks.length kcap] 39)).heap.size=w.heap.size+1:=by simp
   have hbB:=box_start (w.alloc (.cells #[.int .i64 f.kind,.int .i64 f.c,.slice ta f.t.length tcap,.slice ka f.ks.length kcap] 39)) f.kind f.c tb kb f.t.length tcapb f.ks.length kcapb
   rw[hsz]at hbB
   have B0:=Lib.hid (And.intro ((box_start w f.kind f.c ta ka f.t.length tcap f.ks.length kcap).below hbB.bel (Nat.lt_succ_self _)) hbB)
   have HS:=Lib.hid (fun W (hb:Below w.heap.size w W)=>same_any f.c f.c ta tb f.t.length f.t.length tcap tcapb f.t f.t W rfl rfl ht4 ht4 ((hlta.below hb).mono hb.size) ((hltb.below hb).mono hb.size))
   rw[same_self]at HS
   have HI:=Lib.hid IH
   have HA:=Lib.hid hksa
   have HB:=Lib.hid hksb
   have e1:(f.kind != f.kind)=false:=by simp
   have e2:((f.ks.length:Int) != (f.ks.length:Int))=false:=by simp
   clear IH hksa hksb hlta hltb hsz hbB
   generalize f.kind=fk at B0 e1
   generalize f.c=fc at B0 HS
   generalize f.t.length=ft at B0 HS ht4
   generalize hl:f.ks.length=len at B0 HA HB hk4 e2
   clear hl
   generalize hw1:w.alloc (.cells #[.int .i64 fk,.int .i64 fc,.slice ta ft tcap,.slice ka len kcap] 39)=w1 at B0
   have L0:=B0.out.2.lt
   obtain⟨_,p0,p1,p2,p3,bela⟩:=B0.out.1
   obtain⟨_,r0,r1,r2,r3,_⟩:=B0.out.2
   have BA:=Lib.hid bela
   clear bela
   subst hw1
   go_enter Tryz.func20,Tryz.ntmps20
   go_wp2_with fail
   refine(HS.out _ BA.out).mono ?_
   rintro e w2 ⟨rfl,hb2⟩
   have T2:=Lib.hid (And.intro (B0.out.1.below hb2 (Nat.lt_of_succ_lt L0)) (B0.out.2.below hb2 L0))
   clear hb2 p0 p1 p2 p3 r0 r1 r2 r3 HS
   generalize w.alloc (.cells #[.int .i64 fk,.int .i64 fc,.slice ta ft tcap,.slice ka len kcap] 39)=w1 at B0 T2 BA
   go_wp2_with fail
   go_loopw [5] (fun i wr=>∃(k:Nat),k≤len∧i= .int .i64 k∧Hid (Box w wr w.heap.size fk fc ta ft tcap ka len kcap∧Box w1 wr (w.heap.size+1) fk fc tb ft tcapb kb len kcapb)) (fun i _=>len - (intOf i).toNat)
   case atStart=>exact⟨0,Nat.zero_le _,rfl,T2⟩
   case round=>
    obtain⟨k,hk,rfl,hbx⟩:=hrel
    obtain⟨bz,_,_,_,q3,hb⟩:=hbx.out.1
    obtain⟨bz2,_,_,_,s3,_⟩:=hbx.out.2
    by_cases hlt:k<len
    ·obtain⟨ba,offa,c0,c1,c2,c3,rfl,hba,g0,g1,g2,g3,hfa⟩:=HA.out k hlt
     obtain⟨bb,offb,d0,d1,d2,d3,rfl,hbb,h0,h1,h2,h3,hfb⟩:=HB.out k hlt
     rw[←hb.cell (p:=⟨ba,_,none⟩) hba]at g0 g1 g2 g3
     rw[←hb.cell (p:=⟨bb,_,none⟩) hbb]at h0 h1 h2 h3
     obtain⟨ck,cc,cta,ctn,ctcap,cka,ckn,ckcap,rfl,rfl,rfl,rfl⟩:=hfa.form
     obtain⟨dk,dc,dta,dtn,dtcap,dka,dkn,dkcap,rfl,rfl,rfl,rfl⟩:=hfb.form
     have HIH:=Lib.hid (fun W (hb:Below w.heap.size w W)=>HI.out (f.ks.getD k default) _ _ W ((hfa.below hb).mono hb.size) ((hfb.below hb).mono hb.size))
     have K5:Hid (∀W':World,(∀b' o,b'≤w.heap.size+1→W'.cell? ⟨b',o,none⟩=wr.cell? ⟨b',o,none⟩)→W'.cell? ⟨w.heap.size,3,none⟩=some (.slice (some ⟨ba,offa,none⟩) len kcap)∧W'.cell? ⟨w.heap.size+1,3,none⟩=some (.slice (some ⟨bb,offb,none⟩) len kcapb)∧
      W'.cell? ⟨ba,offa+k*4,none⟩=some (.int .i64 ck)∧W'.cell? ⟨ba,offa+k*4+1,none⟩=some (.int .i64 cc)∧W'.cell? ⟨ba,offa+k*4+2,none⟩=some (.slice cta ctn ctcap)∧W'.cell? ⟨ba,offa+k*4+3,none⟩=some (.slice cka ckn ckcap)∧
      W'.cell? ⟨bb,offb+k*4,none⟩=some (.int .i64 dk)∧W'.cell? ⟨bb,offb+k*4+1,none⟩=some (.int .i64 dc)∧W'.cell? ⟨bb,offb+k*4+2,none⟩=some (.slice dta dtn dtcap)∧W'.cell? ⟨bb,offb+k*4+3,none⟩=some (.slice dka dkn dkcap)):=
      fun W' h=>⟨(h _ _ (by omega)).trans q3,(h _ _ (by omega)).trans s3,(h _ _ (by omega)).trans g0,(h _ _ (by omega)).trans g1,(h _ _ (by omega)).trans g2,(h _ _ (by omega)).trans g3,(h _ _ (by omega)).trans h0,(h _ _ (by omega)).trans h1,(h _ _ (by omega)).trans h2,(h _ _ (by omega)).trans h3⟩
     clear hfa hfb
     go_wp2_with fail
     go_region_held3 (fun W'=>W'.cell? ⟨w.heap.size,3,none⟩=some (.slice (some ⟨ba,offa,none⟩) len kcap)∧W'.cell? ⟨w.heap.size+1,3,none⟩=some (.slice (some ⟨bb,offb,none⟩) len kcapb)∧
      W'.cell? ⟨ba,offa+k*4,none⟩=some (.int .i64 ck)∧W'.cell? ⟨ba,offa+k*4+1,none⟩=some (.int .i64 cc)∧W'.cell? ⟨ba,offa+k*4+2,none⟩=some (.slice cta ctn ctcap)∧W'.cell? ⟨ba,offa+k*4+3,none⟩=some (.slice cka ckn ckcap)∧
      W'.cell? ⟨bb,offb+k*4,none⟩=some (.int .i64 dk)∧W'.cell? ⟨bb,offb+k*4+1,none⟩=some (.int .i64 dc)∧W'.cell? ⟨bb,offb+k*4+2,none⟩=some (.slice dta dtn dtcap)∧W'.cell? ⟨bb,offb+k*4+3,none⟩=some (.slice dka dkn dkcap))
      (first
        | with_reducible exact T5.out
        | go_keep)
      (first
        | (go_at_call 20
           refine(HIH.out _ hb.drew).mono ?_
           rintro e w5 ⟨rfl,hb5⟩
           have HB5:Hid (Below wr.heap.size wr w5):=(Below.refl _ wr).drew.trans hb5
           have T5:=Lib.hid (K5.out w5 (fun b' o h=>HB5.out.cell (p:=⟨b',o,none⟩) (by show b'<_;omega)))))
     have BX5:=Lib.hid (And.intro (hbx.out.1.below HB5.out bz) (hbx.out.2.below HB5.out bz2))
     clear g0 g1 g2 g3 h0 h1 h2 h3 q3 s3 T5 HIH K5 hb5
     go_wp2_with fail
     go_roundw
     case rel=>exact⟨k+1,by omega,by go_num,BX5⟩
     case measure=>simp[intOf];omega
    ·go_wp2_with fail
     go_ret
     exact⟨rfl,hb⟩
end
section
open Go.RowKit
theorem ownF_form {f:FT}(h:ownF f=true)(hk:f.kind=2∨f.kind=3):snd f.c f.t=true:=by
 unfold ownF ownV at h
 rw[if_neg (by omega),if_pos hk]at h
 simp at h
 exact h.1
theorem ownF_kind {f:FT}(h:ownF f=true):f.kind=0∨f.kind=1∨(f.kind=2∨f.kind=3)∨f.kind=4∨f.kind=5∨f.kind=6:=by
 by_cases hk:f.kind=0∨f.kind=1∨(f.kind=2∨f.kind=3)∨f.kind=4∨f.kind=5∨f.kind=6
 ·exact hk
 ·unfold ownF ownV at h
  rw[if_neg (by omega),if_neg (by omega),if_neg (by omega),if_neg (by omega)]at h
  cases h
theorem sndF_split {n:Nat}{f:FT}(h:sndF (n+1) f=true):ownF f=true∧∀i,i<f.ks.length→sndF n (f.ks.getD i default)=true:=by
 have:(ownF f && decide (∀i,i<f.ks.length→sndF n (f.ks.getD i default)=true))=true:=h
 rw[Bool.and_eq_true]at this
 exact⟨this.1,of_decide_eq_true this.2⟩
end
end Go.Proofs.YtipahfcaplbifaaGreatDoor
