/- Parts of a proof. -/
import Derived.Test.YtjbkhdbjdahbiaaGreatDoorW01
import Derived.Test.YtjbkhdbjdahbiaaGreatDoorW02
import Derived.Test.YtjbkhdbjdahbiaaGreatDoorQ04
import Derived.Test.YtjbkhdbjdahbiaaGreatDoorQ03
import Derived.Test.YtjbkhdbjdahbiaaGreatDoorQ20
set_option linter.unusedVariables false
set_option linter.unusedSimpArgs false
set_option maxHeartbeats 60000000
set_option maxRecDepth 100000
namespace Go.Proofs.YtjbkhdbjdahbiaaGreatDoor
namespace Lf
open Go.RowKit
def evl (zs:List Int)(l:List (Int×Int)):Int:=(l.map fun m=>m.2*valOf zs m.1).sum
theorem evl_nil (zs:List Int):evl zs []=0:=rfl
theorem evl_cons (zs:List Int)(m:Int×Int)(l:List (Int×Int)):evl zs (m :: l)=m.2*valOf zs m.1+evl zs l:=by simp[evl]
theorem evl_append (zs:List Int)(l r:List (Int×Int)):evl zs (l ++ r)=evl zs l+evl zs r:=by simp[evl,List.sum_append]
theorem evl_perm (zs:List Int){l r:List (Int×Int)}(h:l.Perm r):evl zs l=evl zs r:=by
 induction h with
 | nil=>rfl
 | cons x _ ih=>rw[evl_cons,evl_cons,ih]
 | swap x y l=>simp only[evl_cons];omega
 | trans _ _ h1 h2=>exact h1.trans h2
theorem evl_scale (zs:List Int)(x:Int)(l:List (Int×Int)):evl zs (scale x l)=x*evl zs l:=by
 induction l with
 | nil=>simp[scale,evl]
 | cons m r ih=>
   have e:scale x (m :: r)=(m.1,x*m.2) :: scale x r:=rfl
   rw[e,evl_cons,evl_cons,ih,Int.mul_add,Int.mul_assoc]
theorem evl_togStep (zs:List Int)(r:List (Int×Int))(m:Int×Int):evl zs (togStep r m)=evl zs r+m.2*valOf zs m.1:=by
 obtain⟨mv,mk⟩:=m
 rcases snoc_cases r with rfl | ⟨r',⟨pv,pk⟩,rfl⟩
 ·rw[togStep_nil,evl_cons,evl_nil];omega
 ·by_cases e:pv=mv
  ·subst e
   rw[togStep_eq,evl_append,evl_append,evl_cons,evl_cons,evl_nil]
   simp only[Int.add_mul];omega
  ·rw[togStep_ne _ _ _ e,evl_append,evl_cons,evl_nil];omega
theorem evl_tog (zs:List Int)(l:List (Int×Int)):∀k,k≤l.length→evl zs (tog (l.take k))=evl zs (l.take k)
 | 0,_=>by simp[tog]
 | k+1,hk=>by rw[take_snoc l k (by omega),tog_snoc,evl_togStep,evl_tog zs l k (by omega),evl_append,evl_cons,evl_nil];omega
theorem evl_filter (zs:List Int)(l:List (Int×Int)):evl zs (l.filter fun m=>m.2 != 0)=evl zs l:=by
 induction l with
 | nil=>rfl
 | cons m r ih=>
   by_cases h:m.2=0
   ·rw[List.filter_cons_of_neg (by simp[h]),ih,evl_cons,h];simp
   ·rw[List.filter_cons_of_pos (by simp[h]),evl_cons,evl_cons,ih]
theorem asc_sort (l:List (Int×Int)):Asc (l.mergeSort fun a b=>decide (a.1≤b.1)):=by
 intro i j hij hj
 have hs:=List.pairwise_mergeSort (le:=fun a b:Int×Int=>decide (a.1≤b.1)) (fun a b c h1 h2=>by simp at *; omega) (fun a b=>by simp;omega) l
 have:=List.pairwise_iff_getElem.1 hs i j (by omega) hj hij
 simp only[List.getD_eq_getElem?_getD]
 rw[List.getElem?_eq_getElem hj,List.getElem?_eq_getElem (by omega)]
 simpa using this
theorem IsSum.evl {l R:List (Int×Int)}(h:IsSum l R)(zs:List Int):evl zs R=evl zs l:=by
 have hp:=List.mergeSort_perm l fun a b=>decide (a.1≤b.1)
 have h2:=(tog_isSum _ (asc_sort l)).perm hp
 rw[h.unique h2,evl_filter]
 have:=evl_tog zs (l.mergeSort fun a b=>decide (a.1≤b.1)) _ (Nat.le_refl _)
 rw[List.take_length]at this
 rw[this,evl_perm zs hp]
theorem sAt_evl (c:Int)(l:List (Int×Int))(zs:List Int):∀k,k≤l.length→sAt c l zs k=c+evl zs (l.take k)
 | 0,_=>by simp[sAt,evl]
 | k+1,hk=>by
   rw[take_snoc l k (by omega),evl_append,evl_cons,evl_nil]
   unfold sAt
   rw[sAt_evl c l zs k (by omega)]
   omega
end Lf
section
open Go.ChangeShapes Go.WideShapes Go.ChangeAt Go.RowKit
section
variable {H:Type} {enc:TypeId×Value→H} {w:World} {base:Nat} {spare:Nat→Bool} {held:Bool}
theorem open_chunks3 {ts:List TypeId}{ds:List (DataW H)}{j:Nat}{r:Reach}{b0:Nat}{v:Value}{d:DataW H}{p:List MemPlace}(hsz:(DataW.weightsEach Tryz.prog ts ds).all (·≤reachBytes)=true)(ht:ts[j]? =some 22)(hd:ds[j]? =some d)(hv:Value.okWide Tryz.prog w r b0 22 v)(h:DataW.Trod enc Tryz.prog w base spare held 22 v d p):
 ∃a m cap xs,v= .slice a m cap∧xs.length=m∧Pak.Sits ckSh (Pak.Lo w.heap.size) w a xs∧(∀x∈xs,CkB x)∧m≤cap∧cap≤9223372036854775807:=by
 obtain⟨a,m,cap,xs,rfl,h1,h2,h3⟩:=open_chunks hsz ht hd hv h
 refine⟨a,m,cap,xs,rfl,h1,h2,h3, ?_⟩
 obtain⟨fuel,hf⟩:=h
 have h63:maxLen=9223372036854775807:=rfl
 rcases DataW.trod_slice Tryz.underlying22 hf with ⟨h0,_⟩ | ⟨b,len,cap',elems,rest,n,_,hcs,_,_,hl,hm,_⟩
 ·injection h0 with h0
  injection h0 with q1 q2 q3
  omega
 ·injection hcs with hcs
  injection hcs with q1 q2 q3
  omega
end
end
end Go.Proofs.YtjbkhdbjdahbiaaGreatDoor
