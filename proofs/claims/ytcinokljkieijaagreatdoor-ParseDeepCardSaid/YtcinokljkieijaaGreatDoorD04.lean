/- Parts of a proof. -/
import Derived.Test.YtcinokljkieijaaGreatDoorD01
set_option linter.unusedVariables false
set_option linter.unusedSimpArgs false
set_option maxHeartbeats 60000000
set_option maxRecDepth 100000
namespace Go.Proofs.YtcinokljkieijaaGreatDoor
section
open Go.RowKit
def lFrom (k:Nat):List UInt8:=(bFrom k).data.toList
def lHead (k:Nat):List UInt8:=(⟨#[112,114,111,99,32,112,32,40,32,59,32,41,32,114,101,113,117,105,114,101,115,32,101,109,112,32,101,110,115,117,114,101,115,32,101,109,112,32,123,32]⟩:ByteArray).data.toList ++ (match k with
 | 0=>(⟨#[120,32,58,61,32]⟩:ByteArray).data.toList
 | 1=>(⟨#[120,32,58,61,32]⟩:ByteArray).data.toList
 | 2=>(⟨#[97,115,115,101,114,116,32]⟩:ByteArray).data.toList
 | 3=>(⟨#[97,115,115,101,114,116,32]⟩:ByteArray).data.toList
 | _=>[])
def lRep (l:List UInt8):Nat→List UInt8→List UInt8
 | 0,r=>r
 | n+1,r=>l ++ lRep l n r
def deepT (k:Nat):List Tok:=match scanF 1000 (lHead k ++ lRep (lFrom k) 52 []) 0 []with
 | .ok ts=>ts
 | _=>[]
def deepI (k:Nat):Nat:=(lHead k ++ lRep (lFrom k) 52 []).length
theorem scan_deep0 (r:List UInt8)(f:Nat):scanF (f+128) (lHead 0 ++ lRep (lFrom 0) 52 r) 0 []=scanF f r (deepI 0) (deepT 0):=by kernel_rfl
theorem parse_deep0 (vs:List Tok)(en:Nat):(pprog (deepT 0 ++ vs) en).1=4:=by kernel_rfl
theorem scan_deep1 (r:List UInt8)(f:Nat):scanF (f+232) (lHead 1 ++ lRep (lFrom 1) 52 r) 0 []=scanF f r (deepI 1) (deepT 1):=by kernel_rfl
theorem parse_deep1 (vs:List Tok)(en:Nat):(pprog (deepT 1 ++ vs) en).1=4:=by kernel_rfl
theorem scan_deep2 (r:List UInt8)(f:Nat):scanF (f+126) (lHead 2 ++ lRep (lFrom 2) 52 r) 0 []=scanF f r (deepI 2) (deepT 2):=by kernel_rfl
theorem parse_deep2 (vs:List Tok)(en:Nat):(pprog (deepT 2 ++ vs) en).1=4:=by kernel_rfl
theorem scan_deep3 (r:List UInt8)(f:Nat):scanF (f+126) (lHead 3 ++ lRep (lFrom 3) 52 r) 0 []=scanF f r (deepI 3) (deepT 3):=by kernel_rfl
theorem parse_deep3 (vs:List Tok)(en:Nat):(pprog (deepT 3 ++ vs) en).1=4:=by kernel_rfl
theorem scan_deep4 (r:List UInt8)(f:Nat):scanF (f+332) (lHead 4 ++ lRep (lFrom 4) 52 r) 0 []=scanF f r (deepI 4) (deepT 4):=by kernel_rfl
theorem parse_deep4 (vs:List Tok)(en:Nat):(pprog (deepT 4 ++ vs) en).1=4:=by kernel_rfl
theorem scanF_more:∀(f:Nat) (r:List UInt8) (i:Nat) (ts us:List Tok),scanF f r i ts= .ok us→∃vs,us=ts ++ vs
 | 0,r,i,ts,us,h=>by rw[scanF]at h;injection h with h;exact⟨[],by rw[h,List.append_nil]⟩
 | f+1,r,i,ts,us,h=>by
   rw[scanF]at h
   split at h
   ·injection h with h;exact⟨[],by rw[h,List.append_nil]⟩
   ·cases h
   ·exact scanF_more f _ _ _ _ h
   ·obtain⟨vs,e⟩:=scanF_more f _ _ _ _ h
    exact⟨_ :: vs,by rw[e,List.append_assoc];rfl⟩
theorem deep_bad {s:ByteArray}{l r:List UInt8}{st i:Nat}{ts:List Tok}(hs:s.data.toList=l)(hl:st≤l.length)(h1:∀f,scanF (f+st) l 0 []=scanF f r i ts)(h2:∀vs en,(pprog (ts ++ vs) en).1=4):(pparse s).1≠0:=by
 by_cases h0:(resOf s).1=0
 ·unfold pparse
  rw[if_pos h0]
  unfold resOf at h0⊢
  split at h0
  ·cases h0
  ·next hz=>
   rw[if_neg hz]
   obtain⟨f,hf⟩:∃f,l.length=f+st:=⟨l.length - st,by omega⟩
   rw[hs,hf,h1]at h0⊢
   cases e:scanF f r i ts with
   | ok us=>
     obtain⟨vs,rfl⟩:=scanF_more _ _ _ _ _ e
     show(pprog (ts ++ vs) _).1≠0
     rw[h2]
     decide
   | bad c j=>
     rw[e]at h0
     have:=scanF_codes _ _ _ _ _ _ e
     have h0:c=0:=h0
     omega
 ·unfold pparse
  rw[if_neg h0]
  exact h0
def lTo (k:Nat):List UInt8:=(bTo k).data.toList
def lNest (k:Nat):Nat→List UInt8
 | 0=>(bIn k).data.toList
 | n+1=>lFrom k ++ (lNest k n ++ lTo k)
def lTail (k:Nat):List UInt8:=(match k with
 | 0=>(⟨#[32,59]⟩:ByteArray).data.toList
 | 1=>(⟨#[32,59]⟩:ByteArray).data.toList
 | 2=>(⟨#[32,59]⟩:ByteArray).data.toList
 | 3=>(⟨#[32,59]⟩:ByteArray).data.toList
 | _=>[]) ++ (⟨#[32,125]⟩:ByteArray).data.toList
def lSrc (k n:Nat):List UInt8:=lHead k ++ (lNest k n ++ lTail k)
theorem cat_list (a b:ByteArray):(a ++ b).data.toList=a.data.toList ++ b.data.toList:=by rw[ByteArray.data_append,Array.toList_append]
theorem bNest_list (k:Nat):∀n,(bNest k n).data.toList=lNest k n
 | 0=>rfl
 | n+1=>by
   show(bFrom k ++ bNest k n ++ bTo k).data.toList=lFrom k ++ (lNest k n ++ lTo k)
   rw[cat_list,cat_list,bNest_list k n,List.append_assoc]
   rfl
theorem bSrc_list (k n:Nat)(hk:k<5):(bSrc k n).data.toList=lSrc k n:=by
 unfold bSrc lSrc
 rw[cat_list,cat_list]
 match k,hk with
 | 0,_ | 1,_ | 2,_ | 3,_=> 
   unfold bStmt lHead lTail
   simp only[cat_list,bNest_list,List.append_assoc]
 | 4,_=>
   unfold bStmt lHead lTail
   simp only[bNest_list,List.append_assoc,List.nil_append]
theorem lRep_shift (l:List UInt8):∀m r,lRep l m (l ++ r)=lRep l (m+1) r
 | 0,r=>rfl
 | m+1,r=>by
   show l ++ lRep l m (l ++ r)=l ++ lRep l (m+1) r
   rw[lRep_shift l m r]
theorem lNest_rep (k n:Nat):∀m r,lNest k (n+m) ++ r=lRep (lFrom k) m (lNest k n ++ (lRep (lTo k) m r))
 | 0,r=>rfl
 | m+1,r=>by
   show(lFrom k ++ (lNest k (n+m) ++ lTo k)) ++ r=lFrom k ++ lRep (lFrom k) m _
   rw[List.append_assoc,List.append_assoc,lNest_rep k n m,lRep_shift]
theorem src_deep (k n:Nat)(hk:k<5)(hn:52≤n):∃r,(bSrc k n).data.toList=lHead k ++ lRep (lFrom k) 52 r:=by
 have h:=lNest_rep k (n - 52) 52 (lTail k)
 rw[Nat.sub_add_cancel hn]at h
 exact⟨_,by rw[bSrc_list k n hk,lSrc,h]⟩
theorem lRep_len (l:List UInt8):∀n r,n*l.length≤(lRep l n r).length
 | 0,r=>by omega
 | n+1,r=>by
   show _≤(l ++ lRep l n r).length
   have:=lRep_len l n r
   rw[List.length_append,Nat.add_mul]
   omega
theorem deep_len {l t r:List UInt8}{n a b st:Nat}(h1:l.length=a)(h2:t.length=b)(h:st≤a+n*b):st≤(l ++ lRep t n r).length:=by
 have:=lRep_len t n r
 rw[List.length_append,h1]
 rw[h2]at this
 omega
theorem deep_fail0 (n:Nat)(hn:52≤n):(pparse (bSrc 0 n)).1≠0:=by
 obtain⟨r,hr⟩:=src_deep 0 n (by decide) hn
 exact deep_bad (st:=128) (i:=deepI 0) (ts:=deepT 0) hr (deep_len (a:=45) (b:=2) (by kernel_rfl) (by kernel_rfl) (by decide)) (scan_deep0 r) parse_deep0
theorem deep_fail1 (n:Nat)(hn:52≤n):(pparse (bSrc 1 n)).1≠0:=by
 obtain⟨r,hr⟩:=src_deep 1 n (by decide) hn
 exact deep_bad (st:=232) (i:=deepI 1) (ts:=deepT 1) hr (deep_len (a:=45) (b:=4) (by kernel_rfl) (by kernel_rfl) (by decide)) (scan_deep1 r) parse_deep1
theorem deep_fail2 (n:Nat)(hn:52≤n):(pparse (bSrc 2 n)).1≠0:=by
 obtain⟨r,hr⟩:=src_deep 2 n (by decide) hn
 exact deep_bad (st:=126) (i:=deepI 2) (ts:=deepT 2) hr (deep_len (a:=47) (b:=2) (by kernel_rfl) (by kernel_rfl) (by decide)) (scan_deep2 r) parse_deep2
theorem deep_fail3 (n:Nat)(hn:52≤n):(pparse (bSrc 3 n)).1≠0:=by
 obtain⟨r,hr⟩:=src_deep 3 n (by decide) hn
 exact deep_bad (st:=126) (i:=deepI 3) (ts:=deepT 3) hr (deep_len (a:=47) (b:=2) (by kernel_rfl) (by kernel_rfl) (by decide)) (scan_deep3 r) parse_deep3
theorem deep_fail4 (n:Nat)(hn:52≤n):(pparse (bSrc 4 n)).1≠0:=by
 obtain⟨r,hr⟩:=src_deep 4 n (by decide) hn
 exact deep_bad (st:=332) (i:=deepI 4) (ts:=deepT 4) hr (deep_len (a:=40) (b:=10) (by kernel_rfl) (by kernel_rfl) (by decide)) (scan_deep4 r) parse_deep4
theorem deep_fail (k n:Nat)(hk:k<5)(hn:52≤n):(pparse (bSrc k n)).1≠0:=by
 match k,hk with
 | 0,_=>exact deep_fail0 n hn
 | 1,_=>exact deep_fail1 n hn
 | 2,_=>exact deep_fail2 n hn
 | 3,_=>exact deep_fail3 n hn
 | 4,_=>exact deep_fail4 n hn
end
section
open Go.RowKit
theorem bSrc_eq (k n:Nat)(hk:k<5):bSrc k n=⟨⟨lSrc k n⟩⟩:=by
 have h:=bSrc_list k n hk
 generalize bSrc k n=s at h
 obtain⟨⟨l⟩⟩:=s
 have h:l=lSrc k n:=h
 rw[h]
def deepOk (k n:Nat):Bool:=decide ((pparse ⟨⟨lSrc k n⟩⟩).1=0)
theorem deep_all {k a b:Nat}(hk:k<5)(h:((List.range b).all fun i=>deepOk k (a+i))=true)(n:Nat)(h1:a≤n)(h2:n<a+b):(pparse (bSrc k n)).1=0:=by
 rw[bSrc_eq k n hk]
 have:=List.all_eq_true.1 h (n - a) (List.mem_range.2 (by omega))
 rw[Nat.add_sub_cancel' h1]at this
 exact of_decide_eq_true this
end
end Go.Proofs.YtcinokljkieijaaGreatDoor
