/- Parts of a proof. -/
import Derived.Test.YtcinokljkieijaaGreatDoorW14
set_option linter.unusedVariables false
set_option linter.unusedSimpArgs false
set_option maxHeartbeats 60000000
set_option maxRecDepth 100000
namespace Go.Proofs.YtcinokljkieijaaGreatDoor
section
open Go.RowKit
def bFrom:Nat→ByteArray
 | 0=>(⟨#[40,32]⟩:ByteArray)
 | 1=>(⟨#[50,32,42,32]⟩:ByteArray)
 | 2=>(⟨#[33,32]⟩:ByteArray)
 | 3=>(⟨#[91,32]⟩:ByteArray)
 | _=>(⟨#[105,102,32,116,114,117,101,32,123,32]⟩:ByteArray)
def bTo:Nat→ByteArray
 | 0=>(⟨#[32,41]⟩:ByteArray)
 | 1=>(⟨#[]⟩:ByteArray)
 | 2=>(⟨#[]⟩:ByteArray)
 | 3=>(⟨#[32,93]⟩:ByteArray)
 | _=>(⟨#[32,125,32,101,108,115,101,32,123,32,125]⟩:ByteArray)
def bIn:Nat→ByteArray
 | 0=>(⟨#[120]⟩:ByteArray)
 | 1=>(⟨#[120]⟩:ByteArray)
 | 2=>(⟨#[116,114,117,101]⟩:ByteArray)
 | 3=>(⟨#[116,114,117,101]⟩:ByteArray)
 | _=>(⟨#[115,107,105,112,32,59]⟩:ByteArray)
def bNest (k:Nat):Nat→ByteArray
 | 0=>bIn k
 | n+1=>bFrom k ++ bNest k n ++ bTo k
def bStmt (k:Nat)(x:ByteArray):ByteArray:=match k with
 | 0=>(⟨#[120,32,58,61,32]⟩:ByteArray) ++ x ++ (⟨#[32,59]⟩:ByteArray)
 | 1=>(⟨#[120,32,58,61,32]⟩:ByteArray) ++ x ++ (⟨#[32,59]⟩:ByteArray)
 | 2=>(⟨#[97,115,115,101,114,116,32]⟩:ByteArray) ++ x ++ (⟨#[32,59]⟩:ByteArray)
 | 3=>(⟨#[97,115,115,101,114,116,32]⟩:ByteArray) ++ x ++ (⟨#[32,59]⟩:ByteArray)
 | _=>x
def bSrc (k n:Nat):ByteArray:=(⟨#[112,114,111,99,32,112,32,40,32,59,32,41,32,114,101,113,117,105,114,101,115,32,101,109,112,32,101,110,115,117,114,101,115,32,101,109,112,32,123,32]⟩:ByteArray) ++ bStmt k (bNest k n) ++ (⟨#[32,125]⟩:ByteArray)
theorem bNest_size (k n:Nat):(bNest k n).size≤6+21*n:=by
 have h1:(bFrom k).size≤10:=by match k with | 0=>decide | 1=>decide | 2=>decide | 3=>decide | _+4=>exact of_decide_eq_true (by rfl)
 have h2:(bTo k).size≤11:=by match k with | 0=>decide | 1=>decide | 2=>decide | 3=>decide | _+4=>exact of_decide_eq_true (by rfl)
 have h3:(bIn k).size≤6:=by match k with | 0=>decide | 1=>decide | 2=>decide | 3=>decide | _+4=>exact of_decide_eq_true (by rfl)
 induction n with
 | zero=>exact h3
 | succ n ih=>
   show(bFrom k ++ bNest k n ++ bTo k).size≤_
   rw[ByteArray.size_append,ByteArray.size_append]
   omega
theorem bStmt_size (k:Nat)(x:ByteArray):(bStmt k x).size≤x.size+9:=by
 have e1:((⟨#[120,32,58,61,32]⟩:ByteArray):ByteArray).size=5:=rfl
 have e2:((⟨#[97,115,115,101,114,116,32]⟩:ByteArray):ByteArray).size=7:=rfl
 have e3:((⟨#[32,59]⟩:ByteArray):ByteArray).size=2:=rfl
 match k with
 | 0 | 1 | 2 | 3=>
   unfold bStmt
   simp only[ByteArray.size_append]
   omega
 | _+4=>exact Nat.le_add_right _ _
theorem bSrc_size (k n:Nat):(bSrc k n).size≤57+21*n:=by
 have e1:((⟨#[112,114,111,99,32,112,32,40,32,59,32,41,32,114,101,113,117,105,114,101,115,32,101,109,112,32,101,110,115,117,114,101,115,32,101,109,112,32,123,32]⟩:ByteArray):ByteArray).size=40:=rfl
 have e2:((⟨#[32,125]⟩:ByteArray):ByteArray).size=2:=rfl
 have h1:=bStmt_size k (bNest k n)
 have h2:=bNest_size k n
 unfold bSrc
 rw[ByteArray.size_append,ByteArray.size_append]
 omega
def DeepSaid:Prop:=∀k n,k<5→n≤200→(n≤40→(pparse (bSrc k n)).1=0)∧(52≤n→(pparse (bSrc k n)).1≠0)
theorem deep_er (hd:DeepSaid){k n:Nat}(hk:k<5)(hn:n≤200){B:Nat}{er:Value}{w:World}(h:ErrIs B (pparse (bSrc k n)).1 (pparse (bSrc k n)).2.1 er w):
 (n≤40∧er= .nilIface)∨(40<n∧n<52∧(er= .nilIface∨∃t u,er= .iface t u))∨(52≤n∧∃t u,er= .iface t u):=by
 obtain⟨h1,h2⟩:=hd k n hk hn
 have nil:(pparse (bSrc k n)).1=0→er= .nilIface:=fun h0=>by
  rw[h.1 (by rw[pparse_code _ h0];decide),h0];rfl
 by_cases a:n≤40
 ·exact .inl ⟨a,nil (h1 a)⟩
 ·by_cases b:52≤n
  ·exact .inr (.inr ⟨b,errIs_form h (h2 b)⟩)
  ·refine .inr (.inl ⟨by omega,by omega, ?_⟩)
   by_cases c:(pparse (bSrc k n)).1=0
   ·exact .inl (nil c)
   ·exact .inr (errIs_form h c)
end
end Go.Proofs.YtcinokljkieijaaGreatDoor
