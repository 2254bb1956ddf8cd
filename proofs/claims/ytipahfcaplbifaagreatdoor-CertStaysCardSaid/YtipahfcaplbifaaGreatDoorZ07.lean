/- Parts of a proof. -/
import Derived.Test.YtipahfcaplbifaaGreatDoorZ02
import Derived.Test.YtipahfcaplbifaaGreatDoorRows
import Derived.ProofKit
import Derived.OpenShut
import Derived.ChangeOld
import Derived.Deep.Slices
import Derived.Deep.Fields
import Derived.Lib.SmallJoins
set_option linter.unusedVariables false
set_option linter.unusedSimpArgs false
set_option maxHeartbeats 60000000
set_option maxRecDepth 100000
namespace Go.Proofs.YtipahfcaplbifaaGreatDoor
section
open Go.ChangeShapes Go.WideShapes Go.RowKit Go.Deep
section
variable {H:Type} {enc:TypeId×Value→H} {P:Program} {w:World} {base:Nat} {spare:Nat→Bool} {held:Bool}
theorem open_slice_fields {t e:TypeId}{fs:Array Field}{fuel:Nat}{cs:List Value}{x:DataW H×List MemPlace}(ht:P.underlying t=some (.slice e))(he:P.underlying e=some (.struct fs))
 (hone:oneCellFields P fs=true) (hC:P.cellsOf e=fs.size) (h:DataW.trod enc P w base spare held fuel t cs=some x):
 (cs=[.slice none 0 0]∧x=(.nil,[]))∨
 ∃(a:Addr) (len cap m:Nat),cs=[.slice (some a) len cap]∧len≤cap∧cap≤maxLen∧len≤m∧
  ∀i,i<m→∃(n:Nat),
   ∀(j:Nat) (f:Field),fs[j]? =some f→∃(v:Value) (y:DataW H×List MemPlace),w.cell? (a.add (i*fs.size+j))=some v∧DataW.trod enc P w base spare held n f.type [v]=some y:=by
 rcases open_slice ht h with h0 | ⟨a,len,cap,m,n,D,Pl,hcs,_,hl,hm,hmm,_,hi⟩
 ·exact .inl h0
 ·refine .inr ⟨a,len,cap,m,hcs,hl,hm,by rw[hmm];split<;>omega,fun i him=> ?_⟩
  obtain⟨cs',hc,ht'⟩:=hi i him
  rw[hC]at hc
  obtain⟨ys,n',_,_,_,hyl,hf⟩:=DataW.trod_struct he ht'
  obtain⟨_,hcl,hat⟩:=World.cells?_some hc
  refine⟨n',fun j f hj=> ?_⟩
  obtain⟨ho,hk⟩:=hone_of hone j f hj
  have hjl:j<fs.size:=(Array.getElem?_eq_some_iff.1 hj).1
  have hcell:=hat j hjl
  have hv:cs'[j]? =some (cs'[j]'(by omega)):=List.getElem?_eq_getElem (by omega)
  have h1:=hf j f hj
  rw[ho,hk]at h1
  have hone':(cs'.drop j).take 1=[cs'[j]'(by omega)]:=by
   rw[List.drop_eq_getElem_cons (by omega)]
   rfl
  rw[hone']at h1
  have hys:ys[j]? =some (ys[j]'(by omega)):=List.getElem?_eq_getElem (by omega)
  refine⟨_,_, ?_,h1.trans hys⟩
  rw[←Go.Deep.add_add,hcell,hv]
end
def Came (w:World)(a:Option Addr)(n cap:Nat)(l:List (Int×Int)):Prop:=
 l.length=n∧n≤cap∧cap≤maxLen∧(a=none→n=0∧cap=0)∧Lies w.heap.size w a l∧∀m∈l,(Lit.int .i64 m.1).wf=true∧(Lit.int .i64 m.2).wf=true
theorem list_of (n:Nat)(p:Nat→Int×Int→Prop)(h:∀i,i<n→∃m,p i m):∃l:List (Int×Int),l.length=n∧∀i,i<n→p i (l.getD i (0,0)):=by
 induction n with
 | zero=>exact⟨[],rfl,fun i hi=>absurd hi (Nat.not_lt_zero i)⟩
 | succ n ih=>
   obtain⟨l,hl,hp⟩:=ih (fun i hi=>h i (by omega))
   obtain⟨m,hm⟩:=h n (by omega)
   refine⟨l ++ [m],by simp[hl],fun i hi=> ?_⟩
   by_cases e:i=n
   ·subst e
    rw[List.getD_eq_getElem?_getD,List.getElem?_append_right (by omega),hl]
    simpa using hm
   ·have:=hp i (by omega)
    rw[List.getD_eq_getElem?_getD]at this⊢
    rwa [List.getElem?_append_left (by omega)]
section
variable {H:Type} {enc:TypeId×Value→H} {w:World} {base:Nat} {spare:Nat→Bool} {held:Bool}
theorem open_monos {fuel:Nat}{v:Value}{x:DataW H×List MemPlace}(h:DataW.trod enc Tryz.prog w base spare held fuel 34 [v]=some x):∃a n cap l,v= .slice a n cap∧Came w a n cap l:=by
 rcases open_slice_fields Tryz.underlying34 Tryz.underlying92 (by kernel_rfl) (by kernel_rfl) h with ⟨hcs,_⟩ | ⟨a,len,cap,m,hcs,hl,hm,hlm,hi⟩
 ·injection hcs with hv
  exact⟨none,0,0,[],hv,rfl,Nat.le_refl _,Nat.zero_le _,fun _=>⟨rfl,rfl⟩,fun i hi=>absurd hi (Nat.not_lt_zero i),fun m hm=>by cases hm⟩
 ·injection hcs with hv
  have hp:∀i,i<len→∃m:Int×Int,w.cell? (a.add (i*2))=some (.int .i64 m.1)∧w.cell? (a.add (i*2+1))=some (.int .i64 m.2)∧(Lit.int .i64 m.1).wf=true∧(Lit.int .i64 m.2).wf=true:=by
   intro i hil
   obtain⟨n,hf⟩:=hi i (by omega)
   obtain⟨v0,y0,c0,t0⟩:=hf 0 _ rfl
   obtain⟨v1,y1,c1,t1⟩:=hf 1 _ rfl
   obtain⟨x0,e0,_,w0⟩:=DataW.trod_int Tryz.underlying3 t0
   obtain⟨x1,e1,_,w1⟩:=DataW.trod_int Tryz.underlying3 t1
   injection e0 with e0
   injection e1 with e1
   subst e0 e1
   exact⟨(x0,x1),c0,c1,w0,w1⟩
  obtain⟨l,hll,hlp⟩:=list_of len _ hp
  refine⟨some a,len,cap,l,hv,hll,hl,hm,(fun e=>by cases e),fun i hi=> ?_,fun m hm=> ?_⟩
  ·obtain⟨c0,c1,_,_⟩:=hlp i (by omega)
   obtain⟨b,off,spot⟩:=a
   have hs:spot=none:=by
    have:=World.cell?_spot c1
    by_cases h0:spot=none
    ·exact h0
    ·have c00:=(hlp 0 (by omega)).1
     simpa [Addr.add]using World.cell?_spot c00
   subst hs
   refine⟨b,off,rfl, ?_, ?_, ?_⟩
   ·have:=block_lt_of_cell c1
    simpa [Addr.add]using this
   ·rw[Go.WideShapes.add_plain]at c0;exact c0
   ·rw[Go.WideShapes.add_plain]at c1;exact c1
  ·obtain⟨i,hi,rfl⟩:=List.getElem_of_mem hm
   have:=hlp i (by omega)
   rw[List.getD_eq_getElem?_getD,List.getElem?_eq_getElem hi]at this
   exact this.2.2
end
end
end Go.Proofs.YtipahfcaplbifaaGreatDoor
