/- Parts of a proof. -/
import Derived.WalkKit
import Derived.Below
import Derived.Lib.Hide
import Derived.Deep.AppendLies
import Derived.Lib.Varint
import Derived.Lib.VarintMem
import Derived.Test.YtipahfcaplbifaaGreatDoorProg
import Derived.BigQuiet
import Derived.RegionTactic
import Derived.Deep.QuietTactic
import Derived.Deep.RegionLaw
import Derived.Deep.AppendSrc
import Derived.Lib.Zigzag
import Derived.Lib.AppendZerosOnto
import Derived.Lib.AppendStr
import Derived.Laws.IdiomStrings
import Derived.Lib.ItoaMem
import Derived.Lib.ItoaLen
import Derived.LaidEql
import Derived.Stop.Asserts
import Derived.RowKitTokens
import Derived.Test.YtipahfcaplbifaaGreatDoorRows
import Derived.ProofKit
import Derived.OpenShut
import Derived.ChangeOld
import Derived.Deep.Slices
import Derived.Deep.Fields
import Derived.Lib.SmallJoins
import Derived.OrdersHeld
import Derived.StillTail
import Derived.Deep.RegionHeld3
set_option linter.unusedVariables false
set_option linter.unusedSimpArgs false
set_option maxHeartbeats 60000000
set_option maxRecDepth 100000
namespace Go.Proofs.YtipahfcaplbifaaGreatDoor
namespace Pak
open Go.RowKit
section
variable {T:Type}
structure Sh (T:Type) where
 k:Nat
 rel:(Nat→Prop)→World→List Value→T→Prop
 len:∀ {S w cs x},rel S w cs x→cs.length=k
 one:∀ {S w cs x},rel S w cs x→∀u∈cs,u.oneCell'=true
 keep:∀ {S S':Nat→Prop} {w w':World} {cs:List Value} {x:T},(∀b,S b→S' b)→(∀b o,S b→w'.cell? ⟨b,o,none⟩=w.cell? ⟨b,o,none⟩)→rel S w cs x→rel S' w' cs x
def Sits (sh:Sh T)(S:Nat→Prop)(w:World)(a:Option Addr)(xs:List T):Prop:=
 xs.length≤9223372036854775807∧∀i (h:i<xs.length),∃b off cs,a=some ⟨b,off,none⟩∧S b∧(∀j u,cs[j]? =some u→w.cell? ⟨b,off+i*sh.k+j,none⟩=some u)∧sh.rel S w cs xs[i]
theorem Sits.keep {sh:Sh T}{S S':Nat→Prop}{w w':World}{a:Option Addr}{xs:List T}(hS:∀b,S b→S' b)(hk:∀b o,S b→w'.cell? ⟨b,o,none⟩=w.cell? ⟨b,o,none⟩)(h:Sits sh S w a xs):Sits sh S' w' a xs:=
 ⟨h.1,fun i hi=>by
   obtain⟨b,off,cs,e,hb,h1,h2⟩:=h.2 i hi
   exact⟨b,off,cs,e,hS b hb,fun j u hu=>(hk _ _ hb).trans (h1 j u hu),sh.keep hS hk h2⟩⟩
theorem Sits.nil (sh:Sh T)(S:Nat→Prop)(w:World)(a:Option Addr):Sits sh S w a []:=⟨Nat.zero_le _,fun i hi=>absurd hi (Nat.not_lt_zero i)⟩
abbrev Lo (B:Nat):Nat→Prop:=fun b=>b<B
theorem Sits.below {sh:Sh T}{B B':Nat}{w w':World}{a:Option Addr}{xs:List T}(h:Sits sh (Lo B) w a xs)(hb:Below B w w')(hB:B≤B'):Sits sh (Lo B') w' a xs:=
 h.keep (fun b (hb:b<B)=>Nat.lt_of_lt_of_le hb hB) (fun b o hb2=>hb.cell (p:=⟨b,o,none⟩) hb2)
theorem Sits.up {sh:Sh T}{B:Nat}{w w':World}{a:Option Addr}{xs:List T}(h:Sits sh (Lo B) w a xs)(hb:Below B w w'):Sits sh (Lo B) w' a xs:=h.below hb (Nat.le_refl _)
def Slot (sh:Sh T)(S:Nat→Prop)(w:World)(v:Value)(xs:List T):Prop:=∃a cap,v= .slice a xs.length cap∧Sits sh S w a xs
theorem Slot.keep {sh:Sh T}{S S':Nat→Prop}{w w':World}{v:Value}{xs:List T}(hS:∀b,S b→S' b)(hk:∀b o,S b→w'.cell? ⟨b,o,none⟩=w.cell? ⟨b,o,none⟩)(h:Slot sh S w v xs):Slot sh S' w' v xs:=by
 obtain⟨a,cap,e,h1⟩:=h
 exact⟨a,cap,e,h1.keep hS hk⟩
theorem Slot.one {sh:Sh T}{S:Nat→Prop}{w:World}{v:Value}{xs:List T}(h:Slot sh S w v xs):v.oneCell'=true:=by
 obtain⟨a,cap,rfl,_⟩:=h
 rfl
structure Own (sh:Sh T)(e:TypeId)(B:Nat)(xs:List T)(v:Value)(w:World):Prop where
 row:∃css:List (List Value),css.length=xs.length∧w.ownsRow B e sh.k v xs.length css.flatten∧∀i (h:i<xs.length) (h2:i<css.length),sh.rel (fun b=>B≤b∧b<w.heap.size∧v.ownBlock≠some b) w css[i] xs[i]
theorem Own.nil (sh:Sh T)(e:TypeId)(B:Nat)(w:World):Own sh e B [] (.slice none 0 0) w:=⟨⟨[],rfl,World.ownsRow_nil _ _ _ _,fun i hi=>absurd hi (Nat.not_lt_zero i)⟩⟩
theorem Own.below {sh:Sh T}{e:TypeId}{B:Nat}{xs:List T}{v:Value}{w w':World}(h:Own sh e B xs v w)(hb:Below w.heap.size w w'):Own sh e B xs v w':=by
 obtain⟨css,h1,h2,h3⟩:=h.row
 exact⟨⟨css,h1,World.ownsRow.kept (row:=none) h2 ⟨hb.os,hb.tape,hb.output,hb.size,fun q hq _=>hb.block q hq⟩ (by cases v.ownBlock<;>simp),fun i hi hi2=>sh.keep (fun b ⟨a1,a2,a3⟩=>⟨a1,Nat.lt_of_lt_of_le a2 hb.size,a3⟩) (fun b o ⟨_,a2,_⟩=>hb.cell (p:=⟨b,o,none⟩) a2) (h3 i hi hi2)⟩⟩
theorem flatten_get {k:Nat}:∀ {css:List (List Value)},(∀cs∈css,cs.length=k)→∀(i j:Nat) (hi:i<css.length),j<k→css.flatten[i*k+j]? =css[i][j]?
 | [],_,i,j,hi,_=>absurd hi (Nat.not_lt_zero i)
 | c :: css,h,0,j,_,hj=>by
   rw[List.flatten_cons,Nat.zero_mul,Nat.zero_add,List.getElem?_append_left (by rw[h c List.mem_cons_self];exact hj)]
   rfl
 | c :: css,h,i+1,j,hi,hj=>by
   have:=flatten_get (css:=css) (fun cs hc=>h cs (List.mem_cons_of_mem _ hc)) i j (by simpa using hi) hj
   rw[List.flatten_cons,List.getElem?_append_right (by rw[h c List.mem_cons_self,Nat.succ_mul];omega),h c List.mem_cons_self,show(i+1)*k+j - k=i*k+j by rw[Nat.succ_mul];omega,this]
   rfl
theorem Own.sits {sh:Sh T}{e:TypeId}{B:Nat}{xs:List T}{v:Value}{w:World}(h:Own sh e B xs v w)(hm:xs.length≤9223372036854775807):Slot sh (fun b=>B≤b∧b<w.heap.size) w v xs:=by
 obtain⟨css,h1,h2,h3⟩:=h.row
 have hk:∀cs∈css,cs.length=sh.k:=fun cs hc=>by
  obtain⟨i,hi,rfl⟩:=List.getElem_of_mem hc
  exact sh.len (h3 i (by omega) hi)
 have hc:=fun g=>World.ownsRow.cells h2 (g:=g)
 have hlt:=World.ownsRow.lt h2
 obtain⟨_,⟨rfl,h0⟩ | ⟨g,cap,cur,rfl,_⟩⟩:=h2
 ·exact⟨none,0,by rw[h0],hm,fun i hi=>by omega⟩
 ·refine⟨some ⟨g,0,none⟩,cap,rfl,hm,fun i hi=>⟨g,0,css[i]'(by omega),rfl,hlt g rfl,fun j u hu=> ?_,sh.keep (fun b ⟨a1,a2,_⟩=>⟨a1,a2⟩) (fun b o _=>rfl) (h3 i hi (by omega))⟩⟩
  have hj:j<sh.k:=by
   have:=(List.getElem?_eq_some_iff.1 hu).1
   rwa [hk _ (List.getElem_mem _)]at this
  have:=hc g rfl (i*sh.k+j) u (by rw[flatten_get hk i j (by omega) hj];exact hu)
  rwa [show(⟨g,0,none⟩:Addr).add (i*sh.k+j)=⟨g,0+i*sh.k+j,none⟩ by unfold Addr.add;split<;>simp_all]at this
theorem Own.step {sh:Sh T}{e:TypeId}{B:Nat}{xs:List T}{x:T}{v v6:Value}{w w5 w6:World}{g H:Nat}{cs:List Value}(h:Own sh e B xs v w)(hb5:Below w.heap.size w w5)(hB:B≤w.heap.size)(hx:sh.rel (fun b=>w.heap.size≤b∧b<w5.heap.size) w5 cs x)(hg:w5.grownBy w6 v.ownBlock)(hH:w5.heap.size≤H)
 (hv:v6.ownBlock=some g) (hat:v.ownBlock=some g∨g=H) (hr:∀zs,w5.ownsRow B e sh.k v xs.length zs→w6.ownsRow B e sh.k v6 (xs.length+1) (zs ++ cs)):Own sh e B (xs ++ [x]) v6 w6:=by
 obtain⟨css,h1,h2,h3⟩:=h.row
 have hvb:∀b,v.ownBlock=some b→b<w.heap.size:=fun b e=>(World.ownsRow.lt h2 b e).2
 have hk:∀b o,b<w5.heap.size→v.ownBlock≠some b→w6.cell? ⟨b,o,none⟩=w5.cell? ⟨b,o,none⟩:=fun b o hb hne=>World.cell?_of_block (hg.block b hb (fun e=>hne e.symm))
 have hne6:∀b,b<w5.heap.size→v.ownBlock≠some b→v6.ownBlock≠some b:=fun b hb hne e=>by
  rw[hv]at e
  rcases hat with hat | hat
  ·exact hne (hat.trans e)
  ·injection e with e;omega
 have h25:w5.ownsRow B e sh.k v xs.length css.flatten:=World.ownsRow.kept (row:=none) h2 ⟨hb5.os,hb5.tape,hb5.output,hb5.size,fun q hq _=>hb5.block q hq⟩ (by cases v.ownBlock<;>simp)
 refine⟨⟨css ++ [cs],by simp[h1], ?_,fun i hi hi2=> ?_⟩⟩
 ·rw[List.length_append,List.flatten_append]
  simpa using hr _ h25
 ·by_cases hlt:i<xs.length
  ·rw[List.getElem_append_left hlt,List.getElem_append_left (by omega)]
   refine sh.keep (fun b ⟨a1,a2,a3⟩=> ?_) (fun b o ⟨a1,a2,a3⟩=> ?_) (h3 i hlt (by omega))
   ·have h5:=Nat.lt_of_lt_of_le a2 hb5.size
    exact⟨a1,Nat.lt_of_lt_of_le h5 hg.size,hne6 b h5 a3⟩
   ·exact(hk b o (Nat.lt_of_lt_of_le a2 hb5.size) a3).trans (hb5.cell (p:=⟨b,o,none⟩) a2)
  ·have hi':i=xs.length:=by simp at hi;omega
   subst hi'
   simp only[List.getElem_concat_length]
   have e2:(css ++ [cs])[xs.length]'hi2=cs:=by
    simp only[←h1,List.getElem_concat_length]
   rw[e2]
   refine sh.keep (fun b ⟨a1,a2⟩=> ?_) (fun b o ⟨a1,a2⟩=> ?_) hx
   ·have hne:v.ownBlock≠some b:=fun e=>by have:=hvb b e;omega
    exact⟨by omega,Nat.lt_of_lt_of_le a2 hg.size,hne6 b a2 hne⟩
   ·exact hk b o a2 (fun e=>by have:=hvb b e;omega)
end
def intSh:Sh Int where
 k:=1
 rel:=fun _ _ cs x=>cs=[.int .i64 x]∧(-9223372036854775808≤x∧x≤9223372036854775807)
 len:=fun h=>by rw[h.1];rfl
 one:=fun h u hu=>by rw[h.1]at hu;simp at hu;rw[hu];rfl
 keep:=fun _ _ h=>h
def i64 (x:Int):Prop:= -9223372036854775808≤x∧x≤9223372036854775807
def clauseSh:Sh (List Int) where
 k:=1
 rel:=fun S w cs x=>∃v,cs=[v]∧Slot intSh S w v x
 len:=fun⟨v,h,_⟩=>by rw[h];rfl
 one:=fun⟨v,h,h2⟩ u hu=>by rw[h]at hu;simp at hu;rw[hu];exact h2.one
 keep:=fun hS hk ⟨v,h,h2⟩=>⟨v,h,h2.keep hS hk⟩
structure KeptW (g:Nat)(r:Option Nat)(w w':World):Prop where
 os:w'.os=w.os
 tape:w'.tape=w.tape
 output:w'.output=w.output
 size:w.heap.size≤w'.heap.size
 block:∀q,q<w.heap.size→q≠g→some q≠r→w'.heap[q]? =w.heap[q]?
theorem KeptW.of_below {g:Nat}{r:Option Nat}{w w':World}(hb:Below w.heap.size w w'):KeptW g r w w':=⟨hb.os,hb.tape,hb.output,hb.size,fun q hq _ _=>hb.block q hq⟩
theorem Tryz.infoByte:(Tryz.prog.info? 5).map (fun i=>(i.zero,i.size,i.bytes))=some (some (.int .u8 0),1,1):=by kernel_rfl
theorem info_parts {p:Option TypeInfo}{a:Option Value}{b c:Nat}(h:p.map (fun i=>(i.zero,i.size,i.bytes))=some (a,b,c)):∃i,p=some i∧i.zero=a∧i.size=b∧i.bytes=c:=by
 cases p with
 | none=>cases h
 | some i=>simp at h;exact⟨i,rfl,h.1,h.2.1,h.2.2⟩
theorem own_slice {w:World}{B k n:Nat}{e:TypeId}{v:Value}{xs:List Value}(h:w.ownsRow B e k v n xs):∃a cap,v= .slice a n cap:=by
 rcases h.2 with ⟨e,e0⟩ | ⟨q,cap,_,e,_⟩
 ·exact⟨none,0,by rw[e,e0]⟩
 ·exact⟨_,cap,e⟩
def byteSh:Sh UInt8 where
 k:=1
 rel:=fun _ _ cs x=>cs=[.int .u8 (x.toNat:Int)]
 len:=fun h=>by rw[h];rfl
 one:=fun h u hu=>by rw[h]at hu;simp at hu;rw[hu];rfl
 keep:=fun _ _ h=>h
def BRow (B:Nat)(l:List UInt8)(v:Value)(w:World):Prop:=w.ownsRow B 5 1 v l.length (Lib.byteCells l)
theorem BRow.nil (B:Nat)(w:World):BRow B [] (.slice none 0 0) w:=World.ownsRow_nil _ _ _ _
theorem BRow.below {B:Nat}{l:List UInt8}{v:Value}{w w':World}(h:BRow B l v w)(hb:Below w.heap.size w w'):BRow B l v w':=
 World.ownsRow.kept (row:=none) h ⟨hb.os,hb.tape,hb.output,hb.size,fun q hq _=>hb.block q hq⟩ (by cases v.ownBlock<;>simp)
theorem BRow.slice {B:Nat}{l:List UInt8}{v:Value}{w:World}(h:BRow B l v w):∃a cap,v= .slice a l.length cap:=own_slice h
theorem BRow.slot {B:Nat}{l:List UInt8}{v:Value}{w:World}(h:BRow B l v w)(hm:l.length≤9223372036854775807):Slot byteSh (fun b=>B≤b∧b<w.heap.size) w v l:=by
 have hc:=fun g=>World.ownsRow.cells h (g:=g)
 have hlt:=World.ownsRow.lt h
 obtain⟨_,⟨rfl,h0⟩ | ⟨g,cap,cur,rfl,_⟩⟩:=h
 ·exact⟨none,0,by rw[h0],hm,fun i hi=>by omega⟩
 ·refine⟨some ⟨g,0,none⟩,cap,rfl,hm,fun i hi=>⟨g,0,_,rfl,hlt g rfl,fun j u hu=> ?_,rfl⟩⟩
  have hj:j=0:=by have:=(List.getElem?_eq_some_iff.1 hu).1;simp at this;exact this
  subst hj
  have:=hc g rfl i (.int .u8 (l[i].toNat:Int)) (by simp[Lib.byteCells,hi])
  rw[show(⟨g,0,none⟩:Addr).add i=⟨g,0+i,none⟩ by unfold Addr.add;split<;>simp_all]at this
  simp at hu
  subst hu
  simpa [byteSh]using this
theorem run_cat {w:World}{B:Nat}{l m:List UInt8}{v u:Value}{S:Nat→Prop}(hv:BRow B l v w)(hu:Slot byteSh S w u m)(hB:B≤w.heap.size)(hsz:l.length+m.length≤140000000000000):
 ∃v' w',(∀ty,(Builtin.append_ #[182,182] ty #[v,u]).run Tryz.prog w= .ok v' w')∧BRow B (l ++ m) v' w'∧Below B w w':=by
 obtain⟨i0,hi,hz0,hz1,hz2⟩:=info_parts Tryz.infoByte
 obtain⟨a,cap,rfl,hm,hs⟩:=hu
 have hvb:=fun k (hk:v.ownBlock=some k)=>(World.ownsRow.lt hv k hk).1
 by_cases h0:m.length=0
 ·have hy:m=[]:=List.length_eq_zero_iff.1 h0
  subst hy
  refine⟨v,w,fun ty=> ?_,by simpa using hv,Below.refl _ _⟩
  have hf:∀ad:Addr,(Builtin.firstCells 1 0 (.slice (some ad) 0 cap)).run Tryz.prog w= .ok #[] w:=fun ad=>run_firstCells_some w 1 0 ad 0 cap [] (by simp) (fun j u h=>by cases h)
  have hf0:=run_firstCells_none (P:=Tryz.prog) w 1 0 0 cap
  have ht:=Tryz.underlying182
  rcases hv.2 with ⟨rfl,hl0⟩ | ⟨g,cap',cur,rfl,_,_,hnc,_⟩
  ·cases a<;>simp[Builtin.append_,run_underlying ht,sizeOf,typeInfo,hi,hz1,Builtin.lenOf,hf,hf0]
  ·cases a<;>simp[Builtin.append_,run_underlying ht,sizeOf,typeInfo,hi,hz1,Builtin.lenOf,hf,hf0,hnc,storeCells]
 ·obtain⟨b,off,cs,rfl,_⟩:=hs 0 (by omega)
  have hnews:∀j u,(Lib.byteCells m)[j]? =some u→w.cell? ((⟨b,off,none⟩:Addr).add j)=some u:=fun j u hj=>by
   have hjl:j<m.length:=by have:=(List.getElem?_eq_some_iff.1 hj).1;simpa [Lib.byteCells]using this
   obtain⟨b',off',cs,e,_,hc,rfl⟩:=hs j hjl
   injection e with e
   injection e with e1 e2 e3
   subst e1 e2
   have:=hc 0 _ rfl
   rw[show(⟨b,off,none⟩:Addr).add j=⟨b,off+j,none⟩ by unfold Addr.add;split<;>simp_all]
   simp[Lib.byteCells,hjl]at hj
   subst hj
   simpa [byteSh]using this
  have hrun:=fun ty=>run_append_own_at (P:=Tryz.prog) w B 182 ty 5 i0 _ 1 1 Tryz.underlying182 hi hz0 hz1 hz2 rfl (by decide) v l.length (Lib.byteCells l) hv ⟨b,off,none⟩ m.length cap (Lib.byteCells m) (by simp[Lib.byteCells]) hnews (fun u hu=>by
   obtain⟨x,_,rfl⟩:=List.mem_map.1 hu;rfl) (by unfold maxLen;omega) (by omega) hB
  obtain⟨v',w',hr,h2,h3,_⟩:=hrun 182
  refine⟨v',w',fun ty=>hr, ?_,(Below.refl B w).grown h3 hB hvb⟩
  unfold BRow
  rw[List.length_append,Lib.byteCells_append]
  exact h2
theorem byte_new (w:World)(c:UInt8)(v:Int)(hv:v=(c.toNat:Int)):Slot byteSh (fun _=>True) (w.alloc (.cells #[.int .u8 v] 5)) (.slice (some ⟨w.heap.size,0,none⟩) 1 1) [c]:=by
 subst hv
 refine⟨_,_,rfl,by simp,fun i hi=> ?_⟩
 have hi0:i=0:=by simp at hi;exact hi
 subst hi0
 refine⟨_,_,[.int .u8 (c.toNat:Int)],rfl,trivial,fun j u hu=> ?_,rfl⟩
 have hj:j=0:=by have:=(List.getElem?_eq_some_iff.1 hu).1;simp at this;exact this
 subst hj
 rw[cell_of_row _ _ _ _ _ _ (heap_alloc_new w _)]
 simpa using hu
theorem run_cat2 {w:World}{B:Nat}{l m:List UInt8}{v u:Value}{S:Nat→Prop}(hv:BRow B l v w)(hu:Slot byteSh S w u m)(hB:B≤w.heap.size)(hsz:l.length+m.length≤140000000000000):
 ∃v' w',(∀ty,(Builtin.append_ #[182,182] ty #[v,u]).run Tryz.prog w= .ok v' w')∧BRow B (l ++ m) v' w'∧Below B w w'∧w.grownBy w' v.ownBlock∧(v'.ownBlock=v.ownBlock∨v'.ownBlock=some w.heap.size):=by
 obtain⟨v',w',h1,h2,h3⟩:=run_cat hv hu hB hsz
 refine⟨v',w',h1,h2,h3, ?_⟩
 obtain⟨i0,hi,hz0,hz1,hz2⟩:=info_parts Tryz.infoByte
 obtain⟨a,cap,rfl,hm,hs⟩:=hu
 by_cases h0:m.length=0
 ·have hy:m=[]:=List.length_eq_zero_iff.1 h0
  subst hy
  have key:∀ty,(Builtin.append_ #[182,182] ty #[v,.slice a 0 cap]).run Tryz.prog w= .ok v w:=fun ty=>by
   have hf:∀ad:Addr,(Builtin.firstCells 1 0 (.slice (some ad) 0 cap)).run Tryz.prog w= .ok #[] w:=fun ad=>run_firstCells_some w 1 0 ad 0 cap [] (by simp) (fun j u h=>by cases h)
   have hf0:=run_firstCells_none (P:=Tryz.prog) w 1 0 0 cap
   have ht:=Tryz.underlying182
   rcases hv.2 with ⟨rfl,hl0⟩ | ⟨g,cap',cur,rfl,_,_,hnc,_⟩
   ·cases a<;>simp[Builtin.append_,run_underlying ht,sizeOf,typeInfo,hi,hz1,Builtin.lenOf,hf,hf0]
   ·cases a<;>simp[Builtin.append_,run_underlying ht,sizeOf,typeInfo,hi,hz1,Builtin.lenOf,hf,hf0,hnc,storeCells]
  have:=(h1 182).symm.trans (key 182)
  injection this with e1 e2
  subst e1 e2
  exact⟨⟨rfl,rfl,rfl,Nat.le_refl _,fun _ _ _=>rfl⟩,.inl rfl⟩
 ·obtain⟨b,off,cs,rfl,_⟩:=hs 0 (by omega)
  have hnews:∀j u,(Lib.byteCells m)[j]? =some u→w.cell? ((⟨b,off,none⟩:Addr).add j)=some u:=fun j u hj=>by
   have hjl:j<m.length:=by have:=(List.getElem?_eq_some_iff.1 hj).1;simpa [Lib.byteCells]using this
   obtain⟨b',off',cs,e,_,hc,rfl⟩:=hs j hjl
   injection e with e
   injection e with e1 e2 e3
   subst e1 e2
   have:=hc 0 _ rfl
   rw[show(⟨b,off,none⟩:Addr).add j=⟨b,off+j,none⟩ by unfold Addr.add;split<;>simp_all]
   simp[Lib.byteCells,hjl]at hj
   subst hj
   simpa [byteSh]using this
  have hrun:=fun ty=>run_append_own_at (P:=Tryz.prog) w B 182 ty 5 i0 _ 1 1 Tryz.underlying182 hi hz0 hz1 hz2 rfl (by decide) v l.length (Lib.byteCells l) hv ⟨b,off,none⟩ m.length cap (Lib.byteCells m) (by simp[Lib.byteCells]) hnews (fun u hu=>by
   obtain⟨x,_,rfl⟩:=List.mem_map.1 hu;rfl) (by unfold maxLen;omega) (by omega) hB
  obtain⟨v2,w2,hr,k2,k3,_,k5⟩:=hrun 182
  have:=(h1 182).symm.trans hr
  injection this with e1 e2
  subst e1 e2
  exact⟨k3,k5⟩
theorem conv_bytes {w:World}{S:Nat→Prop}{a:Option Addr}{l:List UInt8}(cap:Nat)(hs:Sits byteSh S w a l):(convert 182 9 (.slice a l.length cap)).run Tryz.prog w= .ok (.string ⟨l.toArray⟩) w:=by
 cases a with
 | none=>
   have h0:l=[]:=by
    cases l with
    | nil=>rfl
    | cons x l=>obtain⟨_,_,_,e,_⟩:=hs.2 0 (by simp);cases e
   subst h0
   show(convert 182 9 (.slice none 0 cap)).run Tryz.prog w=_
   rw[run_convert_bytes_string w _ _ 5 none 0 cap Tryz.underlying182 Tryz.underlying5 Tryz.underlying9]
   rfl
 | some a=>
   refine run_convert_bytes_back w _ _ 5 a cap l Tryz.underlying182 Tryz.underlying5 Tryz.underlying9 (fun j hj=> ?_)
   obtain⟨b,off,cs,e,_,hc,rfl⟩:=hs.2 j hj
   injection e with e
   subst e
   have:=hc 0 _ rfl
   rw[show(⟨b,off,none⟩:Addr).add j=⟨b,off+j,none⟩ by unfold Addr.add;split<;>simp_all]
   simpa [byteSh]using this
theorem BRow.conv {B:Nat}{l:List UInt8}{v:Value}{w:World}(h:BRow B l v w)(hm:l.length≤9223372036854775807):(convert 182 9 v).run Tryz.prog w= .ok (.string ⟨l.toArray⟩) w:=by
 obtain⟨a,cap,rfl,hs⟩:=h.slot hm
 exact conv_bytes cap hs
end Pak
section
def decV (l:List UInt8):Nat:=l.foldl (fun a b=>a*10+(b.toNat - 48)) 0
theorem decV_snoc (l:List UInt8)(b:UInt8):decV (l ++ [b])=decV l*10+(b.toNat - 48):=by simp[decV,List.foldl_append]
theorem ofNat_dig {d:Nat}(h:d<10):(UInt8.ofNat (48+d)).toNat=48+d:=by
 show(48+d) % 256=_
 omega
theorem decV_digits:∀(n u:Nat),u<n→decV (Lib.decDigits u)=u∧Lib.decDigits u≠[]∧∀b∈Lib.decDigits u,48≤b.toNat∧b.toNat≤57
 | 0,u,h=>absurd h (Nat.not_lt_zero _)
 | n+1,u,h=>by
   by_cases h1:u<10
   ·rw[Lib.decDigits_one h1]
    refine⟨?_,by simp,fun b hb=> ?_⟩
    ·show 0*10+((UInt8.ofNat (48+u)).toNat - 48)=u
     rw[ofNat_dig h1];omega
    ·rw[List.mem_singleton]at hb
     subst hb
     rw[ofNat_dig h1];omega
   ·obtain⟨h2,h3,h4⟩:=decV_digits n (u / 10) (by omega)
    have hm:u % 10<10:=Nat.mod_lt _ (by decide)
    rw[Lib.decDigits,dif_neg h1]
    refine⟨?_,by simp,fun b hb=> ?_⟩
    ·rw[decV_snoc,h2,ofNat_dig hm];omega
    ·rcases List.mem_append.1 hb with hb | hb
     ·exact h4 b hb
     ·rw[List.mem_singleton]at hb
      subst hb
      rw[ofNat_dig hm];omega
theorem decDigits_inj {u v:Nat}(h:Lib.decDigits u=Lib.decDigits v):u=v:=by
 rw[←(decV_digits (u+1) u (by omega)).1,h]
 exact(decV_digits (v+1) v (by omega)).1
theorem itoa_bytes (i:Int):∀b∈Lib.itoa i,b≠32:=fun b hb e=>by
 subst e
 unfold Lib.itoa at hb
 split at hb
 ·rcases List.mem_cons.1 hb with hb | hb
  ·cases hb
  ·have:=(decV_digits _ _ (Nat.lt_succ_self _)).2.2 _ hb
   have e:(32:UInt8).toNat=32:=rfl
   omega
 ·have:=(decV_digits _ _ (Nat.lt_succ_self _)).2.2 _ hb
  have e:(32:UInt8).toNat=32:=rfl
  omega
theorem itoa_inj {i j:Int}(h:Lib.itoa i=Lib.itoa j):i=j:=by
 unfold Lib.itoa at h
 have hd:=fun u=>(decV_digits (u+1) u (by omega)).2
 have h45:(45:UInt8).toNat=45:=rfl
 split at h<;>split at h
 ·injection h with _ h
  have:=decDigits_inj h
  omega
 ·have:=(hd j.toNat).2 45 (by rw[←h];simp)
  omega
 ·have:=(hd i.toNat).2 45 (by rw[h];simp)
  omega
 ·have:=decDigits_inj h
  omega
def restT (t:List (Int×Int)):List UInt8:=t.flatMap fun m=>32 :: (Lib.itoa m.1 ++ 32 :: Lib.itoa m.2)
def textL (c:Int)(t:List (Int×Int)):List UInt8:=Lib.itoa c ++ restT t
theorem restT_snoc (t:List (Int×Int))(m:Int×Int):restT (t ++ [m])=restT t ++ (32 :: (Lib.itoa m.1 ++ 32 :: Lib.itoa m.2)):=by simp[restT]
theorem cut_space:∀ {a b x y:List UInt8},(∀u∈a,u≠32)→(∀u∈b,u≠32)→(x=[]∨∃r,x=32 :: r)→(y=[]∨∃r,y=32 :: r)→a ++ x=b ++ y→a=b∧x=y
 | [],[],x,y,_,_,_,_,h=>⟨rfl,h⟩
 | [],u :: b,x,y,_,hb,hx,_,h=>by
   rcases hx with rfl | ⟨r,rfl⟩
   ·simp at h
   ·simp at h
    exact absurd h.1.symm (hb u (by simp))
 | u :: a,[],x,y,ha,_,_,hy,h=>by
   rcases hy with rfl | ⟨r,rfl⟩
   ·simp at h
   ·simp at h
    exact absurd h.1 (ha u (by simp))
 | u :: a,v :: b,x,y,ha,hb,hx,hy,h=>by
   simp at h
   obtain⟨h1,h2⟩:=cut_space (fun z hz=>ha z (by simp[hz])) (fun z hz=>hb z (by simp[hz])) hx hy h.2
   exact⟨by rw[h.1,h1],h2⟩
theorem restT_form (t:List (Int×Int)):restT t=[]∨∃r,restT t=32 :: r:=by
 cases t with
 | nil=>exact .inl rfl
 | cons m t=>exact .inr ⟨_,rfl⟩
theorem restT_inj:∀ {t u:List (Int×Int)},restT t=restT u→t=u
 | [],[],_=>rfl
 | [],m :: u,h=>by cases h
 | m :: t,[],h=>by cases h
 | m :: t,k :: u,h=>by
   have e:∀(m:Int×Int) t,restT (m :: t)=32 :: (Lib.itoa m.1 ++ (32 :: (Lib.itoa m.2 ++ restT t))):=fun m t=>by simp[restT]
   rw[e,e]at h
   injection h with _ h
   obtain⟨h1,h2⟩:=cut_space (itoa_bytes _) (itoa_bytes _) (.inr ⟨_,rfl⟩) (.inr ⟨_,rfl⟩) h
   injection h2 with _ h2
   obtain⟨h3,h4⟩:=cut_space (itoa_bytes _) (itoa_bytes _) (restT_form t) (restT_form u) h2
   rw[restT_inj h4,Prod.ext (itoa_inj h1) (itoa_inj h3)]
theorem textL_inj {c d:Int}{t u:List (Int×Int)}(h:textL c t=textL d u):c=d∧t=u:=by
 obtain⟨h1,h2⟩:=cut_space (itoa_bytes _) (itoa_bytes _) (restT_form t) (restT_form u) h
 exact⟨itoa_inj h1,restT_inj h2⟩
end
namespace Prp
open Go.RowKit Go.Extern.Stop Go.Stop Go.Extern
theorem Tryz.valueOfPP (t:Addr)(w:World):(ReflectliteValue.unpack (.iface 94 (.pointer (some t)))).run Tryz.prog w
 = .ok (.agg #[.pointer (some ⟨4,94,none⟩),.pointer (some ⟨w.heap.size,0,none⟩),.int .u64 150]) (w.alloc (.cells #[.pointer (some t)] 94)):=by kernel_rfl
theorem Tryz.typePP (a:Addr)(w:World):(ReflectliteValue.methodAny (ReflectliteValue.valueError "reflectlite.Value.Type" 0) (fun t _ _ _=>ReflectliteType.toType t) #[.agg #[.pointer (some ⟨4,94,none⟩),.pointer (some a),.int .u64 150]]).run Tryz.prog w
 = .ok (.iface 162 (.agg #[.pointer (some ⟨4,94,none⟩)])) w:=by kernel_rfl
theorem Tryz.methodKind (h:Value)(w:World):(Go.method 376 162 (.agg #[h]) "Kind").run Tryz.prog w= .ok (203,h) w:=by kernel_rfl
theorem Tryz.kindPP (w:World):((ReflectliteType.abiMethod fun t=>(fun a:Nat=>Value.int IntKind.u8 (a:Int)) <$> Rtype.kind t) #[.pointer (some ⟨4,94,none⟩)]).run Tryz.prog w= .ok (.int .u8 22) w:=by kernel_rfl
theorem Tryz.kindP (w:World):((ReflectliteType.abiMethod fun t=>(fun a:Nat=>Value.int IntKind.u8 (a:Int)) <$> Rtype.kind t) #[.pointer (some ⟨4,76,none⟩)]).run Tryz.prog w= .ok (.int .u8 22) w:=by kernel_rfl
theorem rlm (z:Sem Value)(f:TypeId→Addr→Nat→Nat→Sem Value)(v:Value):
 ReflectliteValue.method z f #[v]=(do match←ReflectliteValue.parts v with | none=>z | some (t,a,fl)=>f t a fl (fl % 32)):=rfl
theorem Tryz.partsPP (a:Addr)(w:World):(ReflectliteValue.parts (.agg #[.pointer (some ⟨4,94,none⟩),.pointer (some a),.int .u64 150])).run Tryz.prog w= .ok (some (94,a,150)) w:=by kernel_rfl
theorem Tryz.isNilPP (a p:Addr)(W:World)(ha:W.cell? a=some (.pointer (some p))):
 (ReflectliteValue.method (ReflectliteValue.valueError "reflectlite.Value.IsNil" 0) ReflectliteValue.isNil #[.agg #[.pointer (some ⟨4,94,none⟩),.pointer (some a),.int .u64 150]]).run Tryz.prog W= .ok (.bool false) W:=by
 rw[rlm]
 simp only[Sem.run_bind,Tryz.partsPP,Result.andThen]
 simp[ReflectliteValue.isNil,loadVar,isAgg,underlying,Tryz.underlying94,ha,Result.andThen]
theorem Tryz.methodElem (h:Value)(w:World):(Go.method 376 162 (.agg #[h]) "Elem").run Tryz.prog w= .ok (215,.agg #[h]) w:=by kernel_rfl
theorem Tryz.methodImplements (h:Value)(w:World):(Go.method 376 162 (.agg #[h]) "Implements").run Tryz.prog w= .ok (216,.agg #[h]) w:=by kernel_rfl
theorem Tryz.methodAssignableTo (h:Value)(w:World):(Go.method 376 162 (.agg #[h]) "AssignableTo").run Tryz.prog w= .ok (213,.agg #[h]) w:=by kernel_rfl
theorem Tryz.methodComparable (h:Value)(w:World):(Go.method 376 162 (.agg #[h]) "Comparable").run Tryz.prog w= .ok (214,.agg #[h]) w:=by kernel_rfl
theorem Tryz.elemPP (w:World):(ReflectliteType.method ReflectliteType.elem #[.agg #[.pointer (some ⟨4,94,none⟩)]]).run Tryz.prog w= .ok (.iface 162 (.agg #[.pointer (some ⟨4,76,none⟩)])) w:=by kernel_rfl
theorem Tryz.implementsP (w:World):(ReflectliteType.relation "Implements" ReflectliteType.implements_ #[.agg #[.pointer (some ⟨4,76,none⟩)],.iface 162 (.agg #[.pointer (some ⟨4,26,none⟩)])]).run Tryz.prog w= .ok (.bool true) w:=by kernel_rfl
theorem Tryz.typeOfP (v:Value)(w:World):(ReflectliteType.typeOf #[.iface 76 v]).run Tryz.prog w= .ok (.iface 162 (.agg #[.pointer (some ⟨4,76,none⟩)])) w:=by kernel_rfl
theorem Tryz.typeOfC (v:Value)(w:World):(ReflectliteType.typeOf #[.iface 60 v]).run Tryz.prog w= .ok (.iface 162 (.agg #[.pointer (some ⟨4,60,none⟩)])) w:=by kernel_rfl
theorem Tryz.comparableC (w:World):((ReflectliteType.method fun t=>do Rtype.noPackHeld "Comparable" t;pure (.bool (←typeInfo t).comparable)) #[.agg #[.pointer (some ⟨4,60,none⟩)]]).run Tryz.prog w= .ok (.bool true) w:=by kernel_rfl
theorem Tryz.assignableP (w:World):(ReflectliteType.relation "AssignableTo" ReflectliteType.assignableTo #[.agg #[.pointer (some ⟨4,76,none⟩)],.iface 162 (.agg #[.pointer (some ⟨4,76,none⟩)])]).run Tryz.prog w= .ok (.bool true) w:=by kernel_rfl
theorem Tryz.valueOfP (e:Addr)(w:World):(ReflectliteValue.unpack (.iface 76 (.pointer (some e)))).run Tryz.prog w
 = .ok (.agg #[.pointer (some ⟨4,76,none⟩),.pointer (some ⟨w.heap.size,0,none⟩),.int .u64 150]) (w.alloc (.cells #[.pointer (some e)] 76)):=by kernel_rfl
theorem Tryz.elemOfPP (w:World):(Rtype.elem? 94).run Tryz.prog w= .ok (some 76) w:=by kernel_rfl
theorem Tryz.mkP (p:Addr)(w:World):(ReflectliteValue.mk 76 p ReflectliteValue.flagAddr).run Tryz.prog w= .ok (.agg #[.pointer (some ⟨4,76,none⟩),.pointer (some p),.int .u64 406]) w:=by kernel_rfl
theorem Tryz.elemVPP (a p:Addr)(W:World)(ha:W.cell? a=some (.pointer (some p))):
 (ReflectliteValue.method (ReflectliteValue.valueError "reflectlite.Value.Elem" 0) ReflectliteValue.elem #[.agg #[.pointer (some ⟨4,94,none⟩),.pointer (some a),.int .u64 150]]).run Tryz.prog W
   = .ok (.agg #[.pointer (some ⟨4,76,none⟩),.pointer (some p),.int .u64 406]) W:=by
 rw[rlm]
 simp only[Sem.run_bind,Tryz.partsPP,Result.andThen]
 simp[ReflectliteValue.elem,loadVar,isAgg,underlying,Tryz.underlying94,ha,Result.andThen,Tryz.elemOfPP,Tryz.mkP]
theorem rls (v x:Value):ReflectliteValue.set #[v,x]=(do
 let (some (dst,a,fl),some (src,b,_)):=(←ReflectliteValue.parts v,←ReflectliteValue.parts x)
  | unsupported (.noEntry "extern/(internal/reflectlite.Value).Set.zeroValue")
 if fl / ReflectliteValue.flagAddr % 2 == 0 then unsupported (.noEntry "extern/(internal/reflectlite.Value).Set.unaddressable")
 let val←loadVar src b
 if←Rtype.directlyAssignable dst src then storeVar dst a val
 else if←Rtype.implements dst src then
  if(←Rtype.kind src) == 20 then
   match val with
   | .nilIface=>unsupported (.noEntry "extern/reflectlite: a nil value of one interface type handed on as a value of another")
   | _=>storeVar dst a val
  else storeVar dst a (.iface src val)
 else panicString ("reflectlite.Set: value of type " ++ (←Rtype.spelt src) ++ " is not assignable to type " ++ (←Rtype.spelt dst))
 pure (.tuple #[])):=rfl
theorem Tryz.partsPa (a:Addr)(w:World):(ReflectliteValue.parts (.agg #[.pointer (some ⟨4,76,none⟩),.pointer (some a),.int .u64 406])).run Tryz.prog w= .ok (some (76,a,406)) w:=by kernel_rfl
theorem Tryz.partsP (a:Addr)(w:World):(ReflectliteValue.parts (.agg #[.pointer (some ⟨4,76,none⟩),.pointer (some a),.int .u64 150])).run Tryz.prog w= .ok (some (76,a,150)) w:=by kernel_rfl
theorem Tryz.directP (w:World):(Rtype.directlyAssignable 76 76).run Tryz.prog w= .ok true w:=by kernel_rfl
theorem Tryz.setP (ta b e:Addr)(old:Value)(W:World)(hb:W.cell? b=some (.pointer (some e)))(ht:W.cell? ta=some old)(hf:W.frozen? ta=false):
 (ReflectliteValue.set #[.agg #[.pointer (some ⟨4,76,none⟩),.pointer (some ta),.int .u64 406],.agg #[.pointer (some ⟨4,76,none⟩),.pointer (some b),.int .u64 150]]).run Tryz.prog W
   = .ok (.tuple #[]) (W.setCell ta (.pointer (some e))):=by
 rw[rls]
 simp only[Sem.run_bind,Tryz.partsPa,Tryz.partsP,Result.andThen]
 simp[ReflectliteValue.flagAddr,loadVar,isAgg,underlying,Tryz.underlying76,hb,Result.andThen,Tryz.directP,storeVar,Value.cells,storeCells,Addr.add]
 rw[run_store Tryz.prog W ta _ _ (by rfl)]
 simp[ht,hf]
end Prp
namespace Pak
open Go.ChangeShapes Go.WideShapes Go.RowKit Go.Deep
theorem flatten_len {k:Nat}:∀ {css:List (List Value)},(∀cs∈css,cs.length=k)→css.flatten.length=css.length*k
 | [],_=>by simp
 | c :: css,h=>by
   have:=flatten_len (css:=css) (fun cs hc=>h cs (List.mem_cons_of_mem _ hc))
   rw[List.flatten_cons,List.length_append,this,h c List.mem_cons_self,List.length_cons,Nat.succ_mul]
   omega
def partSh:Sh (Int×Int) where
 k:=2
 rel:=fun _ _ cs x=>cs=[.int .i64 x.1,.int .i64 x.2]∧i64 x.1∧i64 x.2
 len:=fun h=>by rw[h.1];rfl
 one:=fun h u hu=>by rw[h.1]at hu;simp at hu;rcases hu with rfl | rfl<;>rfl
 keep:=fun _ _ h=>h
def stepSh:Sh (List (Int×Int)×Int) where
 k:=2
 rel:=fun S w cs x=>∃v,cs=[v,.int .i64 x.2]∧i64 x.2∧Slot partSh S w v x.1
 len:=fun⟨v,h,_⟩=>by rw[h];rfl
 one:=fun⟨v,h,_,h2⟩ u hu=>by rw[h]at hu;simp at hu;rcases hu with rfl | rfl;exact h2.one;rfl
 keep:=fun hS hk ⟨v,h,hd,h2⟩=>⟨v,h,hd,h2.keep hS hk⟩
def lemSh:Sh (List Int×List (List (Int×Int)×Int)) where
 k:=2
 rel:=fun S w cs x=>∃v u,cs=[v,u]∧Slot intSh S w v x.1∧Slot stepSh S w u x.2
 len:=fun⟨v,u,h,_⟩=>by rw[h];rfl
 one:=fun⟨v,z,h,h2,h3⟩ u hu=>by rw[h]at hu;simp at hu;rcases hu with rfl | rfl;exact h2.one;exact h3.one
 keep:=fun hS hk ⟨v,u,h,h2,h3⟩=>⟨v,u,h,h2.keep hS hk,h3.keep hS hk⟩
theorem list_ofC {α:Type}(n:Nat)(p:Nat→α→Prop)(h:∀i,i<n→∃m,p i m):∃l:List α,l.length=n∧∀i (hi:i<l.length),p i l[i]:=by
 induction n with
 | zero=>exact⟨[],rfl,fun i hi=>absurd hi (Nat.not_lt_zero i)⟩
 | succ n ih=>
   obtain⟨l,hl,hp⟩:=ih (fun i hi=>h i (by omega))
   obtain⟨m,hm⟩:=h n (by omega)
   refine⟨l ++ [m],by simp[hl],fun i hi=> ?_⟩
   by_cases e:i<l.length
   ·rw[List.getElem_append_left e];exact hp i e
   ·have e2:i=l.length:=by simp at hi;omega
    subst e2
    simp only[List.getElem_concat_length]
    rw[hl];exact hm
section
variable {H:Type} {enc:TypeId×Value→H} {w:World} {base:Nat} {spare:Nat→Bool} {held:Bool}
variable (enc w base spare held) in
def Opn {T:Type}(sh:Sh T)(e:TypeId):Prop:=∀ {fuel:Nat} {cs:List Value} {x:DataW H×List MemPlace},DataW.trod enc Tryz.prog w base spare held fuel e cs=some x→∃y:T,sh.rel (Lo w.heap.size) w cs y
theorem open_row {T:Type}{sh:Sh T}{t e:TypeId}(ht:Tryz.prog.underlying t=some (.slice e))(hk:Tryz.prog.cellsOf e=sh.k)(hpos:0<sh.k)(ho:Opn enc w base spare held sh e){fuel:Nat}{cs:List Value}{x:DataW H×List MemPlace}(h:DataW.trod enc Tryz.prog w base spare held fuel t cs=some x):
 ∃a cap xs,cs=[.slice a xs.length cap]∧Sits sh (Lo w.heap.size) w a xs∧xs.length≤cap∧cap≤maxLen∧(a=none→cap=0):=by
 rcases open_slice ht h with ⟨h0,_⟩ | ⟨a,len,cap,m,n,D,Pl,hcs,_,hl,hm,hmm,_,hi⟩
 ·exact⟨none,0,[],h0,Sits.nil _ _ _ _,Nat.le_refl _,Nat.zero_le _,fun _=>rfl⟩
 ·have hlm:len≤m:=by rw[hmm];split<;>omega
  have hp:∀i,i<len→∃y:T,∃cs',(∀j u,cs'[j]? =some u→w.cell? (a.add (i*sh.k+j))=some u)∧sh.rel (Lo w.heap.size) w cs' y:=fun i hil=>by
   obtain⟨cs',hc,ht'⟩:=hi i (by omega)
   obtain⟨y,hy⟩:=ho ht'
   rw[hk]at hc
   obtain⟨_,hcl,hat⟩:=World.cells?_some hc
   refine⟨y,cs',fun j u hu=> ?_,hy⟩
   obtain⟨hj,rfl⟩:=List.getElem?_eq_some_iff.1 hu
   have:=hat j (by omega)
   rw[←Go.Deep.add_add]
   simpa [List.getElem?_eq_getElem hj]using this
  obtain⟨l,hll,hlp⟩:=list_ofC len _ hp
  obtain⟨b,off,sp⟩:=a
  have h63:maxLen=9223372036854775807:=rfl
  refine⟨some ⟨b,off,sp⟩,cap,l,by rw[hll];exact hcs,⟨by omega,fun i hil=> ?_⟩,by omega,hm,fun e=>by cases e⟩
  obtain⟨cs',h1,h2⟩:=hlp i hil
  have hlen:=sh.len h2
  have hc0:=h1 0 _ (List.getElem?_eq_getElem (by omega))
  have hsp:sp=none:=by
   obtain⟨cs0,h10,h20⟩:=hlp 0 (by omega)
   have hc00:=h10 0 _ (List.getElem?_eq_getElem (by have:=sh.len h20;omega))
   have:=World.cell?_spot hc00
   simpa [Addr.add]using this
  subst hsp
  rw[Go.WideShapes.add_plain]at hc0
  refine⟨b,off,cs',rfl,by simpa using block_lt_of_cell hc0,fun j u hu=> ?_,h2⟩
  have:=h1 j u hu
  rw[Go.WideShapes.add_plain]at this
  rwa [Nat.add_assoc]
theorem i64_of {x:Int}(h:(Lit.int .i64 x).wf=true):i64 x:=by
 have h2:=h
 unfold Lit.wf at h2
 rw[Bool.and_eq_true,decide_eq_true_eq,decide_eq_true_eq]at h2
 exact h2
theorem opn_int:Opn enc w base spare held intSh 3:=fun h=>by
 obtain⟨z,rfl,_,hw⟩:=DataW.trod_int Tryz.underlying3 h
 exact⟨z,rfl,i64_of hw⟩
theorem two_fields {t:TypeId}{f0 f1:Field}{fuel:Nat}{cs:List Value}{x:DataW H×List MemPlace}(ht:Tryz.prog.underlying t=some (.struct #[f0,f1]))(hk:Tryz.prog.cellsOf t=2)(h0:f0.offset=0∧Tryz.prog.cellsOf f0.type=1)(h1:f1.offset=1∧Tryz.prog.cellsOf f1.type=1)
 (h:DataW.trod enc Tryz.prog w base spare held fuel t cs=some x):∃c0 c1 y0 y1 n,cs=[c0,c1]∧DataW.trod enc Tryz.prog w base spare held n f0.type [c0]=some y0∧DataW.trod enc Tryz.prog w base spare held n f1.type [c1]=some y1:=by
 obtain⟨ys,n,_,_,hl,hyl,hf⟩:=DataW.trod_struct ht h
 rw[hk]at hl
 match cs,hl with
 | [c0,c1],_=>
   have a0:DataW.trod enc Tryz.prog w base spare held n f0.type (([c0,c1].drop f0.offset).take (Tryz.prog.cellsOf f0.type))=ys[0]? :=hf 0 _ rfl
   have a1:DataW.trod enc Tryz.prog w base spare held n f1.type (([c0,c1].drop f1.offset).take (Tryz.prog.cellsOf f1.type))=ys[1]? :=hf 1 _ rfl
   have hy:ys.length=2:=hyl
   rw[List.getElem?_eq_getElem (by omega)]at a0 a1
   rw[h0.1,h0.2]at a0
   rw[h1.1,h1.2]at a1
   exact⟨c0,c1,_,_,n,rfl,a0,a1⟩
theorem opn_part:Opn enc w base spare held partSh 193:=fun h=>by
 obtain⟨c0,c1,y0,y1,n,rfl,h0,h1⟩:=two_fields Tryz.underlying193 (by kernel_rfl) ⟨rfl,by kernel_rfl⟩ ⟨rfl,by kernel_rfl⟩ h
 obtain⟨z0,e0,_,w0⟩:=DataW.trod_int Tryz.underlying3 h0
 obtain⟨z1,e1,_,w1⟩:=DataW.trod_int Tryz.underlying3 h1
 injection e0 with e0
 injection e1 with e1
 subst e0 e1
 exact⟨⟨z0,z1⟩,rfl,i64_of w0,i64_of w1⟩
theorem opn_slot {T:Type}{sh:Sh T}{t e:TypeId}(ht:Tryz.prog.underlying t=some (.slice e))(hk:Tryz.prog.cellsOf e=sh.k)(hpos:0<sh.k)(ho:Opn enc w base spare held sh e){fuel:Nat}{c:Value}{x:DataW H×List MemPlace}(h:DataW.trod enc Tryz.prog w base spare held fuel t [c]=some x):∃xs,Slot sh (Lo w.heap.size) w c xs:=by
 obtain⟨a,cap,xs,e,hs,_⟩:=open_row ht hk hpos ho h
 injection e with e
 exact⟨xs,a,cap,e,hs⟩
theorem opn_step:Opn enc w base spare held stepSh 104:=fun h=>by
 obtain⟨c0,c1,y0,y1,n,rfl,h0,h1⟩:=two_fields Tryz.underlying104 (by kernel_rfl) ⟨rfl,by kernel_rfl⟩ ⟨rfl,by kernel_rfl⟩ h
 obtain⟨xs,hs⟩:=opn_slot (sh:=partSh) Tryz.underlying102 (by kernel_rfl) (by decide) opn_part h0
 obtain⟨z1,e1,_,w1⟩:=DataW.trod_int Tryz.underlying3 h1
 injection e1 with e1
 subst e1
 exact⟨⟨xs,z1⟩,_,rfl,i64_of w1,hs⟩
theorem opn_clause:Opn enc w base spare held clauseSh 23:=fun h=>by
 obtain⟨a,cap,xs,rfl,hs,_⟩:=open_row (sh:=intSh) Tryz.underlying23 (by kernel_rfl) (by decide) opn_int h
 exact⟨xs,_,rfl,a,cap,rfl,hs⟩
theorem opn_lem:Opn enc w base spare held lemSh 57:=fun h=>by
 obtain⟨c0,c1,y0,y1,n,rfl,h0,h1⟩:=two_fields Tryz.underlying57 (by kernel_rfl) ⟨rfl,by kernel_rfl⟩ ⟨rfl,by kernel_rfl⟩ h
 obtain⟨xs,hs⟩:=opn_slot (sh:=intSh) Tryz.underlying23 (by kernel_rfl) (by decide) opn_int h0
 obtain⟨ys,hs2⟩:=opn_slot (sh:=stepSh) Tryz.underlying55 (by kernel_rfl) (by decide) opn_step h1
 exact⟨⟨xs,ys⟩,_,_,rfl,hs,hs2⟩
end
end Pak
section
section
variable {P:Program} {ops:Array Oper} {Q:Exit→Act→World→Prop} {md:Region.Mode} {S:World→Prop} {n:Nat}
def AnyT (P:Program)(md:Region.Mode)(ops:Array Oper)(Q:Exit→Act→World→Prop)(S:World→Prop)(n:Nat):Nat→Array Bool→Act→World→Prop
 | 0,listed,a,w=>Region.ready md ops listed=[]∧Q .normal a w
 | f+1,listed,a,w=>
   (Region.ready md ops listed=[]→Q .normal a w)∧
   ∀i∈Region.ready md ops listed,wpOp P ops Q i (fun a' w'=>(i≠n→S w')∧AnyT P md ops Q S n f (listed.setIfInBounds i true) a' w') a w
theorem any_of_t:∀(f:Nat) (listed:Array Bool) (a:Act) (w:World),AnyT P md ops Q S n f listed a w→wpAny P md ops Q f listed a w
 | 0,_,_,_,h=>h
 | f+1,_,_,_,h=>⟨h.1,fun i hi=>wpOp_mono (fun a' w' h'=>any_of_t f _ a' w' h'.2) (h.2 i hi)⟩
theorem anyT_first {i:Nat}{oi:Oper}{v:Value}(hi:ops[i]? =some oi)(hsel:∀(j:Nat) (o:Oper) cs b,ops[j]? =some o→o.op≠ .select cs b)
 (hs:Region.sinkB md ops n=true) (hc:Region.chainB md ops n=true) (hn:n<ops.size) (hin:i<n)
 (hQ:∀c a w,Q (.panic c) (a.put oi.dst v) w→Q (.panic c) a w):
 ∀(f:Nat) (listed:Array Bool) (a:Act) (w:World),HeadInv md ops n listed→
  (∀j oj,ops[j]? =some oj→j≠i→listed.getD j true=false→(∀e∈oj.after,Region.binds md e=true→e.on≠i)→oi.apart ops oj=true)→
  i∈Region.ready md ops listed→YieldsIf P ops S oi v a→S w→
  AnyT P md ops Q S n f (listed.setIfInBounds i true) (a.put oi.dst v) w→AnyT P md ops Q S n (f+1) listed a w:=by
 intro f
 induction f with
 | zero=>
   intro listed a w inv _ hr hy hS H
   refine⟨fun h=>(by rw[h]at hr;cases hr),fun j hj=> ?_⟩
   by_cases hji:j=i
   ·subst hji;exact hy.wpOp hi hS ⟨fun _=>hS,H⟩
   ·have:=ready_mono hj hji
    rw[H.1]at this
    cases this
 | succ f ih=>
   intro listed a w inv hfree hr hy hS H
   refine⟨fun h=>(by rw[h]at hr;cases hr),fun j hj=> ?_⟩
   by_cases hji:j=i
   ·subst hji;exact hy.wpOp hi hS ⟨fun _=>hS,H⟩
   ·have h1:=H.2 j (ready_mono hj hji)
    have hun:=(mem_ready.1 hr).1
    have hjn:j<n:=by
     rcases Nat.lt_or_ge j n with h | h
     ·exact h
     ·exact absurd hj (tail_waits hs hc hn inv _ i rfl hin hun j h)
    obtain⟨hjun,oj,hoj,hall⟩:=mem_ready.1 hj
    have hnot:∀e∈oj.after,Region.binds md e=true→e.on≠i:=fun e he hb heq=>by
     have h1:=hall e he hb
     rw[heq,getD_both hun]at h1
     cases h1
    have h2:=wpOp_putIf hoj (hfree j oj hoj hji hjun hnot) (fun cs b=>hsel i oi cs b hi) (fun cs b=>hsel j oj cs b hoj) hQ hy h1
    have hfree':∀k ok,ops[k]? =some ok→k≠i→(listed.setIfInBounds j true).getD k true=false→
     (∀e∈ok.after,Region.binds md e=true→e.on≠i)→oi.apart ops ok=true:=fun k ok hk hki hun hno=>by
     refine hfree k ok hk hki ?_ hno
     by_cases hjk:j=k
     ·subst hjk;exact hjun
     ·rw[getD_set_ne true hjk]at hun;exact hun
    refine wpOp_mono (fun a' w' h3=>⟨fun _=>h3.2.1 (by omega),ih (listed.setIfInBounds j true) a' w' (inv.set hj hjn) hfree' (ready_mono hr (Ne.symm hji)) h3.1 (h3.2.1 (by omega)) ?_⟩) h2
    rw[Array.setIfInBounds_comm _ _ hji]
    exact h3.2.2
def closedB (md:Region.Mode)(ops:Array Oper)(listed:Array Bool):Bool:=
 (List.range ops.size).all fun j=> !listed.getD j false || (match ops[j]? with | some oj=>oj.after.all fun e=> !Region.binds md e || listed.getD e.on false | none=>true)
def headB (md:Region.Mode)(ops:Array Oper)(n:Nat)(listed:Array Bool):Bool:=
 decide (listed.size=ops.size) && closedB md ops listed && (List.range ops.size).all fun t=>decide (t<n) || !listed.getD t true
theorem headB_spec {listed:Array Bool}(h:headB md ops n listed=true):HeadInv md ops n listed:=by
 simp only[headB,Bool.and_eq_true,decide_eq_true_eq]at h
 obtain⟨⟨h1,h2⟩,h3⟩:=h
 refine⟨h1,fun j oj hj hl e he hb=> ?_,fun t ht ht2=> ?_⟩
 ·have hjs:j<ops.size:=(Array.getElem?_eq_some_iff.1 hj).1
  have:=List.all_eq_true.1 h2 j (List.mem_range.2 hjs)
  rw[hj,hl]at this
  simp only[Bool.not_true,Bool.false_or]at this
  have h4:=Array.all_eq_true'.1 this e he
  rw[hb]at h4
  simpa using h4
 ·have:=List.all_eq_true.1 h3 t (List.mem_range.2 ht2)
  have hd:decide (t<n)=false:=decide_eq_false (by omega)
  rw[hd]at this
  simpa using this
def takeB (md:Region.Mode)(ops:Array Oper)(n:Nat)(listed:Array Bool)(i:Nat):Bool:=
 Region.noSelect ops && Region.free md ops listed i && (Region.ready md ops listed).contains i && Region.sinkB md ops n && Region.chainB md ops n && decide (n<ops.size) && decide (i<n) && headB md ops n listed
theorem anyT_take {i:Nat}{oi:Oper}{v:Value}{f:Nat}{listed:Array Bool}{a:Act}{w:World}(hi:ops[i]? =some oi)(hB:takeB md ops n listed i=true)
 (hQ:∀c a w,Q (.panic c) (a.put oi.dst v) w→Q (.panic c) a w) (hy:YieldsIf P ops S oi v a) (hS:S w)
 (h:AnyT P md ops Q S n f (listed.setIfInBounds i true) (a.put oi.dst v) w):AnyT P md ops Q S n (f+1) listed a w:=by
 simp only[takeB,Bool.and_eq_true,decide_eq_true_eq]at hB
 obtain⟨⟨⟨⟨⟨⟨⟨h1,h2⟩,h3⟩,h4⟩,h5⟩,h6⟩,h7⟩,h8⟩:=hB
 exact anyT_first hi (Region.noSelect_spec h1) h4 h5 h6 h7 hQ f listed a w (headB_spec h8) (Region.free_spec hi h2) (by simpa using h3) hy hS h
theorem anyT_ready {rs:List Nat}{f:Nat}{listed:Array Bool}{a:Act}{w:World}(hr:Region.ready md ops listed=rs)(hne:rs≠[])
 (h:∀i∈rs,wpOp P ops Q i (fun a' w'=>(i≠n→S w')∧AnyT P md ops Q S n f (listed.setIfInBounds i true) a' w') a w):AnyT P md ops Q S n (f+1) listed a w:=
 ⟨fun h0=>absurd (hr ▸ h0) hne,hr ▸ h⟩
theorem anyT_done {listed:Array Bool}{a:Act}{w:World}(hr:Region.ready md ops listed=[])(h:Q .normal a w):∀f,AnyT P md ops Q S n f listed a w
 | 0=>⟨hr,h⟩
 | _+1=>⟨fun _=>h,by rw[hr];simp⟩
theorem anyT_one {i:Nat}{oi:Oper}{f:Nat}{listed:Array Bool}{a:Act}{w:World}(hr:Region.ready md ops listed=[i])(hi:ops[i]? =some oi)(hg:oi.guard=none)
 (h:∀K,(∀a' w',(i≠n→S w')→AnyT P md ops Q S n f (listed.setIfInBounds i true) a' w'→K a' w')→Oper.wp P oi a w K Q):AnyT P md ops Q S n (f+1) listed a w:=by
 refine anyT_ready hr (by simp) fun j hj=> ?_
 obtain rfl:j=i:=by simpa using hj
 have hw:Region.wanted oi (yielded ops a.tmps)=true:=by simp[Region.wanted,hg]
 unfold wpOp
 simp only[hi,hw,if_true]
 exact .inl (h _ fun a' w' h1 h2=>⟨h1,h2⟩)
theorem anyT_two {i j:Nat}{oi oj:Oper}{f:Nat}{listed:Array Bool}{a:Act}{w:World}(hr:Region.ready md ops listed=[i,j])(hi:ops[i]? =some oi)(hj:ops[j]? =some oj)(hg:oi.guard=none)(hgj:oj.guard=none)
 (h:∀K,(∀a' w',(i≠n→S w')→AnyT P md ops Q S n f (listed.setIfInBounds i true) a' w'→K a' w')→Oper.wp P oi a w K Q)
 (h2:∀K,(∀a' w',(j≠n→S w')→AnyT P md ops Q S n f (listed.setIfInBounds j true) a' w'→K a' w')→Oper.wp P oj a w K Q):AnyT P md ops Q S n (f+1) listed a w:=by
 refine anyT_ready hr (by simp) fun k hk=> ?_
 have hw:∀o:Oper,o.guard=none→Region.wanted o (yielded ops a.tmps)=true:=fun o ho=>by simp[Region.wanted,ho]
 have hk:k=i∨k=j:=by simpa using hk
 unfold wpOp
 rcases hk with rfl | rfl
 ·simp only[hi,hw _ hg,if_true]
  exact .inl (h _ fun a' w' h1 h2=>⟨h1,h2⟩)
 ·simp only[hj,hw _ hgj,if_true]
  exact .inl (h2 _ fun a' w' h1 h2=>⟨h1,h2⟩)
theorem region_t {id:Nat}{a:Act}{w:World}(S:World→Prop)(n:Nat)(hm:P.follows .mixedOrders=true)
 (h:AnyT P .any ops Q S n ops.size (Array.replicate ops.size false) a w.drew):(Code.region id ops true).wp P Q a w:=
 wp_region_any hm (any_of_t _ _ _ _ h)
end
end
end Go.Proofs.YtipahfcaplbifaaGreatDoor
