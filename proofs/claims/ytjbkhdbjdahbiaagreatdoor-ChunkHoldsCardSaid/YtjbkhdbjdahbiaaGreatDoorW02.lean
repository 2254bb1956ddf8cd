/- Parts of a proof. -/
import Derived.Test.YtjbkhdbjdahbiaaGreatDoorQ02
import Derived.Test.YtjbkhdbjdahbiaaGreatDoorRows
import Derived.ProofKit
import Derived.OpenShut
import Derived.ChangeOld
import Derived.Deep.Slices
import Derived.Deep.Fields
import Derived.Lib.SmallJoins
set_option linter.unusedVariables false
set_option linter.unusedSimpArgs false
set_option maxHeartbeats 60000000
set_option maxRecDepth 100000
namespace Go.Proofs.YtjbkhdbjdahbiaaGreatDoor
namespace Lf
open Go.ChangeShapes Go.WideShapes Go.RowKit Go.Deep
section
variable {H:Type} {enc:TypeId×Value→H} {P:Program} {w:World} {base:Nat} {spare:Nat→Bool} {held:Bool}
end
section
variable {H:Type} {enc:TypeId×Value→H} {w:World} {base:Nat} {spare:Nat→Bool} {held:Bool}
theorem open_nums {r:Reach}{b0:Nat}{v:Value}{d:DataW H}{p:List MemPlace}(hv:Value.okWide Tryz.prog w r b0 54 v)(h:DataW.Trod enc Tryz.prog w base spare held 54 v d p):
 ∃(a:Option Addr) (n cap:Nat) (zs:List Int),v= .slice a n cap∧zs.length=n∧n≤cap∧cap≤maxLen∧(∀i,i<zs.length→∃b off,a=some ⟨b,off,none⟩∧b<w.heap.size∧w.cell? ⟨b,off+i,none⟩=some (.int .i64 (zs.getD i 0)))∧∀m∈zs,(Lit.int .i64 m).wf=true:=by
 obtain⟨a,len,cap,rfl⟩:=okWide_slice Tryz.underlying54 hv
 obtain⟨fuel,hf⟩:=h
 rcases open_ints Tryz.underlying54 Tryz.underlying3 (by kernel_rfl) hf with ⟨hcs,_⟩ | ⟨x,l,c,zs,hcs,_,hl,hm,hz,_,hcell,hwz⟩
 ·simp[Value.cells]at hcs
  obtain⟨rfl,rfl,rfl⟩:=hcs
  exact⟨none,0,0,[],rfl,rfl,Nat.le_refl _,Nat.zero_le _,fun i hi=>absurd hi (Nat.not_lt_zero i),fun m hm=>by cases hm⟩
 ·simp[Value.cells]at hcs
  obtain⟨rfl,rfl,rfl⟩:=hcs
  have hz':len≤zs.length:=by rw[hz];split<;>omega
  clear hz
  refine⟨some x,len,cap,zs.take len,rfl,by simp;omega,hl,hm,fun i hi=> ?_,fun m hm=>hwz m (List.mem_of_mem_take hm)⟩
  have hi':i<len:=by rw[List.length_take]at hi;omega
  obtain⟨b,off,rfl,hc⟩:=ints_at hcell (by omega)
  have h1:=hc i (by omega)
  refine⟨b,off,rfl,by simpa using block_lt_of_cell h1, ?_⟩
  rw[h1]
  simp[List.getD_eq_getElem?_getD,hi']
end
end Lf
end Go.Proofs.YtjbkhdbjdahbiaaGreatDoor
