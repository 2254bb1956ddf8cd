/- Parts of a proof. -/
import Derived.Test.YtcinokljkieijaaGreatDoorQ03
import Derived.Test.YtcinokljkieijaaGreatDoorQ04
set_option linter.unusedVariables false
set_option linter.unusedSimpArgs false
set_option linter.unusedSectionVars false
set_option maxHeartbeats 60000000
set_option maxRecDepth 100000
namespace Go.Proofs.YtcinokljkieijaaGreatDoor
section
open Go.RowKit
def Shape (k:Int)(l:List UInt8):Prop:=
 (k=1∧(∃c r,l=c :: r∧isLet c=true)∧keyB l=false)∨(k=2∧keyB l=true)∨(k=3∧allD l∧l≠[]∧valD l 0≤1073741824)∨(k=4∧l∈opsL)
theorem stp_tokc {l:List UInt8}{k:Int}{n:Nat}(h:stp l= .tok k n):1≤n∧n≤l.length∧Shape k (l.take n):=by
 cases l with
 | nil=>cases h
 | cons c r=>
   rw[stp]at h
   split at h
   ·cases h
   ·split at h
    ·cases h
    ·split at h
     ·cases h
     ·split at h
      ·rename_i h0
       have hle:=wordN_le (c :: r)
       injection h with h1 h2
       subst h2
       refine⟨h0,hle, ?_⟩
       have hc:isLet c=true:=by
        rw[wordN_cons]at h0
        by_cases hc:isLet c=true
        ·exact hc
        ·rw[if_neg hc]at h0;omega
       by_cases hk:keyB ((c :: r).take (wordN (c :: r)))=true
       ·rw[if_pos hk]at h1
        exact .inr (.inl ⟨h1.symm,hk⟩)
       ·rw[if_neg hk]at h1
        refine .inl ⟨h1.symm,⟨c,r.take (wordN (c :: r) - 1), ?_,hc⟩,Bool.eq_false_iff.2 hk⟩
        obtain⟨m,hm⟩:∃m,wordN (c :: r)=m+1:=⟨wordN (c :: r) - 1,by omega⟩
        rw[hm,List.take_succ_cons,Nat.add_sub_cancel]
      ·split at h
       ·rename_i h0
        unfold numS at h
        split at h
        ·cases h
        ·rename_i hb
         injection h with h1 h2
         subst h2
         have hle:=runN_le isDig (c :: r)
         have ha:=allD_take (c :: r)
         simp only[numBad,Bool.or_eq_true,not_or,Bool.not_eq_true,Bool.and_eq_true,decide_eq_true_eq]at hb
         have hz:¬(1<((c :: r).take (runN isDig (c :: r))).length∧((c :: r).take (runN isDig (c :: r))).head? =some 48):=fun⟨a,b⟩=>hb.1.1 ⟨a,b⟩
         have hv:=bigD_val ha hz
         rw[hb.1.2]at hv
         have hv:=of_decide_eq_false hv.symm
         refine⟨h0,hle,.inr (.inr (.inl ⟨h1.symm,ha,fun e=> ?_,by omega⟩))⟩
         have:=congrArg List.length e
         rw[List.length_take]at this
         simp at this
         omega
       ·split at h
        ·cases h
        ·rename_i h0
         injection h with h1 h2
         subst h2
         unfold opN at h0⊢
         by_cases ht:twosL.contains ((c :: r).take 2)=true
         ·rw[if_pos ht]
          have hm:(c :: r).take 2∈twosL:=by simpa using ht
          have hl:((c :: r).take 2).length=2:=by
           have hall:twosL.all (fun l=>l.length == 2)=true:=by decide
           simpa using List.all_eq_true.1 hall _ hm
          rw[List.length_take]at hl
          exact⟨by omega,by omega,.inr (.inr (.inr ⟨h1.symm,List.mem_append_left _ hm⟩))⟩
         ·rw[if_neg ht]at h0⊢
          by_cases ho:onesL.contains c=true
          ·simp only[ho,if_true]at h0⊢
           refine⟨Nat.le_refl _,by simp,.inr (.inr (.inr ⟨h1.symm,List.mem_append_right _ ?_⟩))⟩
           rw[List.take_succ_cons,List.take_zero]
           exact List.mem_map_of_mem (by simpa using ho)
          ·exact absurd (if_neg ho) h0
structure TokOk (m:Nat)(t:Tok):Prop where
 size:t.text.size≤m
 sh:Shape t.kind t.text.data.toList
theorem TokOk.small {m:Nat}{t:Tok}(h:TokOk m t):t.text.size≤m∧(t.kind=3→valD t.text.data.toList 0≤1073741824∧allD t.text.data.toList∧t.text.data.toList≠[]):=⟨h.size,fun h3=>by
 rcases h.sh with ⟨a,_⟩ | ⟨a,_⟩ | ⟨_,b,c,d⟩ | ⟨a,_⟩
 ·omega
 ·omega
 ·exact⟨d,b,c⟩
 ·omega⟩
theorem scan_toks (m:Nat):∀(f:Nat) (l:List UInt8) (i:Nat) (ts R:List Tok),scanF f l i ts= .ok R→(∀t∈ts,TokOk m t)→l.length≤m→(∀t∈R,TokOk m t)∧R.length≤ts.length+l.length
 | 0,l,i,ts,R,h,ht,hl=>by
   injection h with h
   subst h
   exact⟨ht,Nat.le_add_right _ _⟩
 | f+1,l,i,ts,R,h,ht,hl=>by
   rw[scanF]at h
   cases hs:stp l with
   | done=>
     rw[hs]at h
     injection h with h
     subst h
     exact⟨ht,Nat.le_add_right _ _⟩
   | bad c=>rw[hs]at h;cases h
   | skip n=>
     rw[hs]at h
     obtain⟨h1,h2⟩:=scan_toks m f _ _ ts R h ht (by rw[List.length_drop];omega)
     exact⟨h1,by rw[List.length_drop]at h2;omega⟩
   | tok k n=>
     rw[hs]at h
     obtain⟨a1,a2,a3⟩:=stp_tokc hs
     obtain⟨h1,h2⟩:=scan_toks m f _ _ _ R h (fun t hm=>by
      rcases List.mem_append.1 hm with hm | hm
      ·exact ht t hm
      ·obtain rfl:=List.mem_singleton.1 hm
       refine⟨?_,by simpa using a3⟩
       show(l.take n).toArray.size≤m
       simp
       omega) (by rw[List.length_drop];omega)
     refine⟨h1, ?_⟩
     rw[List.length_drop,List.length_append,List.length_singleton]at h2
     omega
theorem stp_badc {l:List UInt8}{c:Int}(h:stp l= .bad c):c≠0:=by
 cases l with
 | nil=>cases h
 | cons x r=>
   rw[stp]at h
   unfold numS at h
   repeat' split at h
   all_goals first | (cases h;done) | (injection h with h;subst h;decide)
theorem scan_badc:∀(f:Nat) (l:List UInt8) (i:Nat) (ts:List Tok) (c:Int) (j:Nat),scanF f l i ts= .bad c j→c≠0
 | 0,_,_,_,_,_,h=>by cases h
 | f+1,l,i,ts,c,j,h=>by
   rw[scanF]at h
   cases hs:stp l with
   | done=>rw[hs]at h;cases h
   | bad c'=>
     rw[hs]at h
     injection h with h _
     subst h
     exact stp_badc hs
   | skip n=>rw[hs]at h;exact scan_badc f _ _ _ _ _ h
   | tok k n=>rw[hs]at h;exact scan_badc f _ _ _ _ _ h
theorem res_code {s:ByteArray}:(resOf s).1=0→(resOf s).2.1= -1:=fun h0=>by
 unfold resOf at h0⊢
 split at h0
 ·cases h0
 ·rename_i hs
  rw[if_neg hs]
  cases hR:scanF s.data.toList.length s.data.toList 0 []with
  | ok ts=>rfl
  | bad c i=>
    rw[hR]at h0
    exact absurd h0 (scan_badc _ _ _ _ _ _ hR)
theorem res_toks {s:ByteArray}{c a:Int}{ts:List Tok}(h:resOf s=(c,a,ts))(h0:c=0):s.size≤65536∧ts.length≤s.size∧∀t∈ts,TokOk 65536 t:=by
 unfold resOf at h
 split at h
 ·injection h with h1;omega
 ·rename_i hs
  unfold resR at h
  split at h
  ·rename_i R hR
   injection h with h1 h2
   injection h2 with h2 h3
   subst h3
   have hsz:s.data.toList.length=s.size:=by rw[Array.length_toList];rfl
   obtain⟨h1,h2⟩:=scan_toks 65536 _ _ _ [] _ hR (fun t h=>by cases h) (by omega)
   have h3:R.length≤0+s.data.toList.length:=h2
   exact⟨by omega,by omega,h1⟩
  ·rename_i c2 i hR
   injection h with h1 h2
   subst h1
   exact absurd h0 (scan_badc _ _ _ _ _ _ hR)
end
section
open Go.RowKit
def ErOk (s:PS):Prop:=∀c a,s.er=some (c,a)→c≠0∧0≤a
structure Mw (tk:List Tok)(s s':PS):Prop where
 f:ErOk s→ErOk s'
theorem Mw.refl (tk:List Tok)(s:PS):Mw tk s s:=⟨id⟩
theorem Mw.trans {tk:List Tok}{a b c:PS}(h:Mw tk a b)(k:Mw tk b c):Mw tk a c:=⟨fun i=>k.f (h.f i)⟩
section
variable {tk:List Tok} {en:Nat}
theorem mw_fail {c:Int}(hc:c≠0)(s:PS):Mw tk s (pfail tk en c s):=⟨fun i=>by
 unfold pfail
 by_cases h:s.er=none
 ·rw[if_pos h]
  intro c' a e
  injection e with e
  injection e with e1 e2
  subst e1 e2
  refine⟨hc, ?_⟩
  unfold pat
  split<;>exact Int.natCast_nonneg _
 ·rw[if_neg h];exact i⟩
theorem mw_enter (s:PS):Mw tk s (penter tk en s):=⟨fun i=>by
 unfold penter
 split
 ·exact(mw_fail (tk:=tk) (en:=en) (by decide) s).f i
 ·exact i⟩
theorem mw_go {s:PS}(h:s.er=none∧s.nx<tk.length):Mw tk s (pgo s):=⟨fun i=>i⟩
theorem mw_must (ws:List ByteArray)(s:PS):Mw tk s (pmust tk en ws s).2:=by
 unfold pmust
 split
 ·next h=>exact mw_go (pis_inv h)
 ·exact mw_fail (by decide) _
theorem mw_m1 (w:ByteArray)(s:PS):Mw tk s (pm1 tk en w s):=mw_must _ _
theorem mw_of {k:Int}(hk:k≠0)(s:PS):Mw tk s (pof tk en k s).2:=by
 unfold pof
 split
 ·next h=>exact mw_go (pkd_inv (by rw[h];exact hk))
 ·exact mw_fail (by decide) _
theorem mw_num (s:PS):Mw tk s (pnum tk en s).2:=mw_of (by decide) s
theorem mw_deep {s s2:PS}(h:s.er=none)(k:Mw tk (penter tk en s) s2):Mw tk s (pup s2):=⟨fun i=>k.f ((mw_enter s).f i)⟩
theorem mw_enter_bad {s:PS}(h:s.er=none)(hn:50≤s.ne){s2:PS}(k:Mw tk (penter tk en s) s2):Mw tk s s2:=⟨fun i=>k.f ((mw_enter s).f i)⟩
theorem mw_within {α:Type}(o c:ByteArray)(d:α){f:PS→α×PS}(hf:∀s,Mw tk s (f s).2)(s:PS):Mw tk s (pwithin tk en o c d f s).2:=by
 unfold pwithin
 by_cases hp:pis tk [o] s=true
 ·obtain⟨h0,_⟩:=pis_inv hp
  simp only[hp,if_true]
  split
  ·exact mw_deep h0 ((mw_m1 _ _).trans ((hf _).trans (mw_m1 _ _)))
  ·next he=>
   by_cases h50:50≤s.ne
   ·exact mw_enter_bad h0 h50 (mw_m1 _ _)
   ·exfalso
    apply he
    have e1:penter tk en s=pdn s:=by unfold penter;rw[if_neg h50]
    rw[e1]
    have e2:pis tk [o] (pdn s)=true:=hp
    unfold pm1 pmust
    rw[if_pos e2]
    exact h0
 ·simp only[hp,Bool.false_eq_true,if_false]
  have:pm1 tk en o s=pfail tk en 11 s:=by unfold pm1 pmust;rw[if_neg hp]
  rw[this,if_neg (pfail_er 11 s)]
  exact mw_fail (by decide) _
theorem mw_com {α:Type}{f:PS→α×PS}(hf:∀s,Mw tk s (f s).2):∀(k:Nat) (l:List α) (s:PS),Mw tk s (pcom tk f k l s).2
 | 0,_,_=>Mw.refl _ _
 | k+1,l,s=>by
   unfold pcom
   split
   ·next h=>exact(mw_go (pis_inv h)).trans ((hf _).trans (mw_com hf k _ _))
   ·exact Mw.refl _ _
theorem mw_row {α:Type}(ends:List ByteArray){f:PS→α×PS}(hf:∀s,Mw tk s (f s).2)(s:PS):Mw tk s (prow tk ends f s).2:=by
 unfold prow
 split
 ·exact Mw.refl _ _
 ·exact(hf _).trans (mw_com hf _ _ _)
theorem mw_names (ends:List ByteArray)(s:PS):Mw tk s (pnames tk en ends s).2:=by
 unfold pnames
 try dsimp only
 exact mw_row _ (mw_of (by decide)) s
theorem mw_bin {α:Type}(w:ByteArray)(mk:α→α→α){f:PS→α×PS}(hf:∀s,Mw tk s (f s).2):∀(k:Nat) (a:α) (s:PS),Mw tk s (pbin tk w mk f k a s).2
 | 0,_,_=>Mw.refl _ _
 | k+1,a,s=>by
   unfold pbin
   split
   ·next h=>exact(mw_go (pis_inv h)).trans ((hf _).trans (mw_bin w mk hf k _ _))
   ·exact Mw.refl _ _
theorem mw_sum {f:PS→ET×PS}(hf:∀s,Mw tk s (f s).2):∀(k:Nat) (a:ET) (s:PS),Mw tk s (psum tk f k a s).2
 | 0,_,_=>Mw.refl _ _
 | k+1,a,s=>by
   unfold psum
   split
   ·next h=>exact(mw_go (pis_inv h)).trans ((hf _).trans (mw_sum hf k _ _))
   ·exact Mw.refl _ _
theorem mw_expr {f:PS→ET×PS}(hf:∀s,Mw tk s (f s).2)(s:PS):Mw tk s (pexpr tk f s).2:=by
 unfold pexpr
 try dsimp only
 exact(hf s).trans (mw_sum hf _ _ _)
theorem mw_times {f:PS→ET×PS}(hf:∀s,Mw tk s (f s).2)(sg:Int)(s:PS):Mw tk s (ptimes tk en f sg s).2:=by
 unfold ptimes
 split
 ·next h=>exact mw_deep (pkd_inv (by rw[h.1];decide)).1 ((mw_num _).trans ((mw_m1 _ _).trans (hf _)))
 ·exact mw_num _
theorem mw_prod:∀(n:Nat) (s:PS),Mw tk s (pprod tk en n s).2
 | 0,_=>Mw.refl _ _
 | n+1,s=>by
   unfold pprod
   split
   ·next h=>exact(mw_go (pis_inv h)).trans (mw_times (mw_prod n) _ _)
   ·split
    ·exact mw_times (mw_prod n) _ _
    ·split
     ·exact mw_of (by decide) _
     ·exact mw_within _ _ _ (mw_expr (mw_prod n)) _
theorem mw_ex (s:PS):Mw tk s (pex tk en s).2:=by
 unfold pex
 try dsimp only
 exact mw_expr (mw_prod _) s
theorem mw_exprs (ends:List ByteArray)(s:PS):Mw tk s (pexprs tk en ends s).2:=by
 unfold pexprs
 try dsimp only
 exact mw_row _ mw_ex s
theorem mw_cmp (s:PS):Mw tk s (pcmp tk en s).2:=by
 unfold pcmp
 try dsimp only
 exact(mw_ex _).trans ((mw_must _ _).trans (mw_ex _))
theorem mw_all {f:PS→CT×PS}(hf:∀s,Mw tk s (f s).2)(s:PS):Mw tk s (pall tk f s).2:=by
 unfold pall
 try dsimp only
 exact(hf s).trans (mw_bin _ _ hf _ _ _)
theorem mw_cnd {f:PS→CT×PS}(hf:∀s,Mw tk s (f s).2)(s:PS):Mw tk s (pcnd tk f s).2:=by
 unfold pcnd
 try dsimp only
 exact(mw_all hf s).trans (mw_bin _ _ (mw_all hf) _ _ _)
theorem mw_one:∀(n:Nat) (s:PS),Mw tk s (pone tk en n s).2
 | 0,_=>Mw.refl _ _
 | n+1,s=>by
   unfold pone
   split
   ·next h=>exact mw_deep (ptx_inv (ne_empty h (by decide))).1 ((mw_m1 _ _).trans (mw_one n _))
   ·repeat' split
    ·exact mw_within _ _ _ (mw_cnd (mw_one n)) _
    ·exact mw_m1 _ _
    ·exact mw_m1 _ _
    ·exact mw_cmp _
theorem mw_co (s:PS):Mw tk s (pco tk en s).2:=by
 unfold pco
 try dsimp only
 exact mw_cnd (mw_one _) s
theorem mw_share (s:PS):Mw tk s (pshare tk en s).2:=by
 unfold pshare
 try dsimp only
 exact(mw_m1 _ _).trans ((mw_ex _).trans ((mw_m1 _ _).trans ((mw_of (by decide) _).trans ((mw_m1 _ _).trans (mw_num _)))))
theorem mw_acc (s:PS):Mw tk s (pacc tk en s).2:=by
 unfold pacc
 try dsimp only
 exact(mw_m1 _ _).trans ((mw_share _).trans (mw_m1 _ _))
theorem mw_pts (s:PS):Mw tk s (ppts tk en s).2:=by
 unfold ppts
 try dsimp only
 exact(mw_m1 _ _).trans ((mw_share _).trans ((mw_m1 _ _).trans ((mw_ex _).trans (mw_m1 _ _))))
theorem mw_pure (s:PS):Mw tk s (ppure tk en s).2:=by
 unfold ppure
 try dsimp only
 exact mw_within _ _ _ mw_co _
theorem mw_assn {f:PS→AT×PS}(hf:∀s,Mw tk s (f s).2)(s:PS):Mw tk s (passn tk f s).2:=by
 unfold passn
 try dsimp only
 exact(hf s).trans (mw_bin _ _ hf _ _ _)
theorem mw_braced {f:PS→AT×PS}(hf:∀s,Mw tk s (f s).2)(s:PS):Mw tk s (pbraced tk en f s).2:=by
 unfold pbraced
 try dsimp only
 exact mw_within _ _ _ (mw_assn hf) _
theorem mw_ifA {f:PS→AT×PS}(hf:∀s,Mw tk s (f s).2)(s:PS):Mw tk s (pifA tk en f s).2:=by
 unfold pifA
 try dsimp only
 exact(mw_m1 _ _).trans ((mw_co _).trans ((mw_braced hf _).trans ((mw_m1 _ _).trans (mw_braced hf _))))
theorem mw_item:∀(n:Nat) (s:PS),Mw tk s (pitem tk en n s).2
 | 0,_=>Mw.refl _ _
 | n+1,s=>by
   unfold pitem
   repeat' split
   ·exact mw_pure _
   ·exact mw_acc _
   ·exact mw_pts _
   ·exact mw_ifA (mw_item n) _
   ·exact mw_within _ _ _ (mw_assn (mw_item n)) _
   ·exact mw_m1 _ _
theorem mw_as (s:PS):Mw tk s (pas tk en s).2:=by
 unfold pas
 try dsimp only
 exact mw_assn (mw_item _) s
theorem mw_cell (p:SP)(s:PS):Mw tk s (pcell tk en p s).2:=by
 unfold pcell
 try dsimp only
 exact(mw_ex _).trans ((mw_m1 _ _).trans (mw_of (by decide) _))
theorem mw_call (p:SP)(s:PS):Mw tk s (pcall tk en p s).2:=by
 unfold pcall
 try dsimp only
 exact(mw_m1 _ _).trans ((mw_of (by decide) _).trans ((mw_m1 _ _).trans ((mw_exprs _ _).trans ((mw_m1 _ _).trans ((mw_exprs _ _).trans (mw_m1 _ _))))))
theorem mw_what (p:SP)(s:PS):Mw tk s (pwhat tk en p s).2:=by
 unfold pwhat
 repeat' split
 ·exact(mw_m1 _ _).trans (mw_cell _ _)
 ·exact(mw_m1 _ _).trans ((mw_m1 _ _).trans ((mw_names _ _).trans (mw_m1 _ _)))
 ·exact mw_call _ _
 ·exact mw_ex _
theorem mw_simple (s:PS):Mw tk s (psimple tk en s).2:=by
 unfold psimple
 by_cases h1:ptx tk s 0=(⟨#[112,117,116]⟩:ByteArray)
 ·simp only[if_pos h1]
  exact(mw_m1 _ _).trans ((mw_cell _ _).trans ((mw_m1 _ _).trans (mw_ex _)))
 ·simp only[if_neg h1]
  by_cases h2:ptx tk s 0=(⟨#[102,114,101,101]⟩:ByteArray)
  ·simp only[if_pos h2]
   exact(mw_m1 _ _).trans (mw_cell _ _)
  ·simp only[if_neg h2]
   by_cases h3:ptx tk s 0=(⟨#[97,115,115,101,114,116]⟩:ByteArray)
   ·simp only[if_pos h3]
    exact(mw_m1 _ _).trans (mw_co _)
   ·simp only[if_neg h3]
    by_cases h4:ptx tk s 0=(⟨#[99,97,108,108]⟩:ByteArray)
    ·simp only[if_pos h4]
     exact mw_call _ _
    ·simp only[if_neg h4]
     by_cases h5:ptx tk s 0=(⟨#[115,107,105,112]⟩:ByteArray)
     ·simp only[if_pos h5]
      exact mw_m1 _ _
     ·simp only[if_neg h5]
      exact(mw_of (by decide) _).trans ((mw_m1 _ _).trans (mw_what _ _))
theorem mw_stmts {f:PS→ST×PS}(hf:∀s,Mw tk s (f s).2):∀(k:Nat) (l:List ST) (s:PS),Mw tk s (pstmts tk f k l s).2
 | 0,_,_=>Mw.refl _ _
 | k+1,l,s=>by
   unfold pstmts
   split
   ·exact(hf _).trans (mw_stmts hf k _ _)
   ·exact Mw.refl _ _
theorem mw_block {f:PS→ST×PS}(hf:∀s,Mw tk s (f s).2)(s:PS):Mw tk s (pblock tk en f s).2:=by
 unfold pblock
 try dsimp only
 exact mw_within _ _ _ (mw_stmts hf _ _) _
theorem mw_branch {f:PS→ST×PS}(hf:∀s,Mw tk s (f s).2)(s:PS):Mw tk s (pbranch tk en f s).2:=by
 unfold pbranch
 try dsimp only
 exact(mw_m1 _ _).trans ((mw_co _).trans ((mw_block hf _).trans ((mw_m1 _ _).trans (mw_block hf _))))
theorem mw_loop {f:PS→ST×PS}(hf:∀s,Mw tk s (f s).2)(s:PS):Mw tk s (ploop tk en f s).2:=by
 unfold ploop
 try dsimp only
 exact(mw_m1 _ _).trans ((mw_co _).trans ((mw_m1 _ _).trans ((mw_as _).trans (mw_block hf _))))
theorem mw_stmt:∀(n:Nat) (s:PS),Mw tk s (pstmt tk en n s).2
 | 0,_=>Mw.refl _ _
 | n+1,s=>by
   unfold pstmt
   repeat' split
   ·exact mw_branch (mw_stmt n) _
   ·exact mw_loop (mw_stmt n) _
   ·exact(mw_simple _).trans (mw_m1 _ _)
theorem mw_bl (s:PS):Mw tk s (pbl tk en s).2:=by
 unfold pbl
 try dsimp only
 exact mw_block (mw_stmt _) s
theorem mw_proc (s:PS):Mw tk s (pproc tk en s).2:=by
 unfold pproc
 try dsimp only
 exact(mw_m1 _ _).trans ((mw_of (by decide) _).trans ((mw_m1 _ _).trans ((mw_names _ _).trans ((mw_m1 _ _).trans ((mw_names _ _).trans ((mw_m1 _ _).trans ((mw_m1 _ _).trans ((mw_as _).trans ((mw_m1 _ _).trans ((mw_as _).trans (mw_bl _)))))))))))
theorem mw_procs:∀(k:Nat) (l:List QT) (s:PS),Mw tk s (pprocs tk en k l s).2
 | 0,_,_=>Mw.refl _ _
 | k+1,l,s=>by
   unfold pprocs
   split
   ·exact(mw_proc _).trans (mw_procs k _ _)
   ·exact Mw.refl _ _
end
end
section
open Go.RowKit
structure TkEq (tk tk':List Tok):Prop where
 len:tk.length=tk'.length
 kind:∀i,(tk.getD i tok0).kind=(tk'.getD i tok0).kind
 text:∀i,(tk.getD i tok0).text=(tk'.getD i tok0).text
structure Sm (s s':PS):Prop where
 nx:s.nx=s'.nx
 ne:s.ne=s'.ne
 er:s.er=none↔s'.er=none
def Rs {α:Type}(r r':α×PS):Prop:=r.1=r'.1∧Sm r.2 r'.2
section
variable {tk tk':List Tok} {en en':Nat} (T:TkEq tk tk') {s s':PS} (h:Sm s s')
include T h
theorem sm_ptx (k:Nat):ptx tk s k=ptx tk' s' k:=by
 unfold ptx
 simp only[h.er,h.nx,T.len,T.text]
theorem sm_pkd:pkd tk s=pkd tk' s':=by
 unfold pkd
 simp only[h.er,h.nx,T.len,T.kind]
theorem sm_pis (ws:List ByteArray):pis tk ws s=pis tk' ws s':=by
 unfold pis
 rw[sm_ptx T h]
theorem sm_fail (c:Int):Sm (pfail tk en c s) (pfail tk' en' c s'):=by
 unfold pfail
 by_cases h0:s.er=none
 ·rw[if_pos h0,if_pos (h.er.1 h0)]
  exact⟨h.nx,h.ne,⟨fun e=>by(cases e),fun e=>by(cases e)⟩⟩
 ·rw[if_neg h0,if_neg (fun e=>h0 (h.er.2 e))]
  exact h
omit T in
theorem sm_go:Sm (pgo s) (pgo s'):=⟨congrArg (·+1) h.nx,h.ne,h.er⟩
omit T in
theorem sm_up:Sm (pup s) (pup s'):=⟨h.nx,congrArg (· - 1) h.ne,h.er⟩
omit T in
theorem sm_dn:Sm (pdn s) (pdn s'):=⟨h.nx,congrArg (·+1) h.ne,h.er⟩
theorem sm_enter:Sm (penter tk en s) (penter tk' en' s'):=by
 unfold penter
 rw[←h.ne]
 split
 ·exact sm_dn (sm_fail T h 4)
 ·exact sm_dn h
theorem sm_must (ws:List ByteArray):Rs (pmust tk en ws s) (pmust tk' en' ws s'):=by
 unfold pmust
 rw[←sm_pis T h,←sm_ptx T h]
 split
 ·exact⟨rfl,sm_go h⟩
 ·exact⟨rfl,sm_fail T h 11⟩
theorem sm_m1 (w:ByteArray):Sm (pm1 tk en w s) (pm1 tk' en' w s'):=(sm_must T h [w]).2
theorem sm_of (k:Int):Rs (pof tk en k s) (pof tk' en' k s'):=by
 unfold pof
 rw[←sm_pkd T h,←sm_ptx T h]
 split
 ·exact⟨rfl,sm_go h⟩
 ·exact⟨rfl,sm_fail T h 11⟩
theorem sm_num:Rs (pnum tk en s) (pnum tk' en' s'):=⟨congrArg pval (sm_of T h 3).1,(sm_of T h 3).2⟩
end
section
variable {tk tk':List Tok} {en en':Nat} (T:TkEq tk tk')
include T
theorem sm_within {α:Type}(o c:ByteArray)(d:α){f f':PS→α×PS}(hf:∀s s',Sm s s'→Rs (f s) (f' s')){s s':PS}(h:Sm s s'):Rs (pwithin tk en o c d f s) (pwithin tk' en' o c d f' s'):=by
 have h2:Sm (pm1 tk en o (if pis tk [o] s=true then penter tk en s else s)) (pm1 tk' en' o (if pis tk' [o] s'=true then penter tk' en' s' else s')):=by
  rw[←sm_pis T h]
  split
  ·exact sm_m1 T (sm_enter T h) o
  ·exact sm_m1 T h o
 unfold pwithin
 dsimp only
 generalize pm1 tk en o (if pis tk [o] s=true then penter tk en s else s)=a at*
 generalize pm1 tk' en' o (if pis tk' [o] s'=true then penter tk' en' s' else s')=b at*
 by_cases h0:a.er=none
 ·rw[if_pos h0,if_pos (h2.er.1 h0)]
  exact⟨(hf a b h2).1,sm_up (sm_m1 T (hf a b h2).2 c)⟩
 ·rw[if_neg h0,if_neg (fun e=>h0 (h2.er.2 e))]
  exact⟨rfl,h2⟩
theorem sm_com {α:Type}{f f':PS→α×PS}(hf:∀s s',Sm s s'→Rs (f s) (f' s')):∀(k:Nat) (l:List α) (s s':PS),Sm s s'→Rs (pcom tk f k l s) (pcom tk' f' k l s')
 | 0,_,_,_,h=>⟨rfl,h⟩
 | k+1,l,s,s',h=>by
   unfold pcom
   rw[←sm_pis T h]
   split
   ·have h1:=hf _ _ (sm_go h)
    rw[h1.1]
    exact sm_com hf k _ _ _ h1.2
   ·exact⟨rfl,h⟩
theorem sm_row {α:Type}(ends:List ByteArray){f f':PS→α×PS}(hf:∀s s',Sm s s'→Rs (f s) (f' s')){s s':PS}(h:Sm s s'):Rs (prow tk ends f s) (prow tk' ends f' s'):=by
 unfold prow
 rw[←sm_pis T h,←T.len]
 split
 ·exact⟨rfl,h⟩
 ·have h1:=hf _ _ h
  rw[h1.1]
  exact sm_com T hf _ _ _ _ h1.2
theorem sm_names (ends:List ByteArray){s s':PS}(h:Sm s s'):Rs (pnames tk en ends s) (pnames tk' en' ends s'):=sm_row T ends (fun _ _ h=>sm_of T h 1) h
theorem sm_bin {α:Type}(w:ByteArray)(mk:α→α→α){f f':PS→α×PS}(hf:∀s s',Sm s s'→Rs (f s) (f' s')):∀(k:Nat) (a:α) (s s':PS),Sm s s'→Rs (pbin tk w mk f k a s) (pbin tk' w mk f' k a s')
 | 0,_,_,_,h=>⟨rfl,h⟩
 | k+1,a,s,s',h=>by
   unfold pbin
   rw[←sm_pis T h]
   split
   ·have h1:=hf _ _ (sm_go h)
    rw[h1.1]
    exact sm_bin w mk hf k _ _ _ h1.2
   ·exact⟨rfl,h⟩
theorem sm_sum {f f':PS→ET×PS}(hf:∀s s',Sm s s'→Rs (f s) (f' s')):∀(k:Nat) (a:ET) (s s':PS),Sm s s'→Rs (psum tk f k a s) (psum tk' f' k a s')
 | 0,_,_,_,h=>⟨rfl,h⟩
 | k+1,a,s,s',h=>by
   unfold psum
   rw[←sm_pis T h,←sm_ptx T h]
   split
   ·have h1:=hf _ _ (sm_go h)
    rw[h1.1]
    exact sm_sum hf k _ _ _ h1.2
   ·exact⟨rfl,h⟩
theorem sm_expr {f f':PS→ET×PS}(hf:∀s s',Sm s s'→Rs (f s) (f' s')){s s':PS}(h:Sm s s'):Rs (pexpr tk f s) (pexpr tk' f' s'):=by
 unfold pexpr
 have h1:=hf _ _ h
 rw[h1.1,←T.len]
 exact sm_sum T hf _ _ _ _ h1.2
end
end
section
open Go.RowKit
section
variable {tk tk':List Tok} {en en':Nat} (T:TkEq tk tk')
include T
theorem sm_times {f f':PS→ET×PS}(hf:∀s s',Sm s s'→Rs (f s) (f' s'))(sg:Int){s s':PS}(h:Sm s s'):Rs (ptimes tk en f sg s) (ptimes tk' en' f' sg s'):=by
 unfold ptimes
 rw[←sm_pkd T h,←sm_ptx T h]
 split
 ·have h1:=sm_num (en:=en) (en':=en') T (sm_enter (en:=en) (en':=en') T h)
  have h2:=hf _ _ (sm_m1 (en:=en) (en':=en') T h1.2 (⟨#[42]⟩:ByteArray))
  unfold pmulE
  dsimp only
  exact⟨by rw[h1.1,h2.1],sm_up h2.2⟩
 ·have h1:=sm_num (en:=en) (en':=en') T h
  unfold pnumE
  exact⟨by rw[h1.1],h1.2⟩
theorem sm_prod:∀(n:Nat) (s s':PS),Sm s s'→Rs (pprod tk en n s) (pprod tk' en' n s')
 | 0,_,_,h=>⟨rfl,h⟩
 | n+1,s,s',h=>by
   unfold pprod
   rw[←sm_pis T h,←sm_pkd T h]
   split
   ·exact sm_times T (sm_prod n) _ (sm_go h)
   ·split
    ·exact sm_times T (sm_prod n) _ h
    ·split
     ·have h1:=sm_of (en:=en) (en':=en') T h 1
      unfold pvarE
      exact⟨by rw[h1.1],h1.2⟩
     ·exact sm_within T _ _ _ (fun _ _ h=>sm_expr T (sm_prod n) h) h
theorem sm_ex {s s':PS}(h:Sm s s'):Rs (pex tk en s) (pex tk' en' s'):=sm_expr T (sm_prod T 53) h
theorem sm_exprs (ends:List ByteArray){s s':PS}(h:Sm s s'):Rs (pexprs tk en ends s) (pexprs tk' en' ends s'):=sm_row T ends (fun _ _ h=>sm_ex T h) h
theorem sm_cmp {s s':PS}(h:Sm s s'):Rs (pcmp tk en s) (pcmp tk' en' s'):=by
 have h1:=sm_ex (en:=en) (en':=en') T h
 have h2:=sm_must (en:=en) (en':=en') T h1.2 [(⟨#[61,61]⟩:ByteArray),(⟨#[33,61]⟩:ByteArray),(⟨#[60]⟩:ByteArray),(⟨#[60,61]⟩:ByteArray)]
 have h3:=sm_ex (en:=en) (en':=en') T h2.2
 unfold pcmp
 dsimp only
 exact⟨by rw[h1.1,h2.1,h3.1],h3.2⟩
theorem sm_all {f f':PS→CT×PS}(hf:∀s s',Sm s s'→Rs (f s) (f' s')){s s':PS}(h:Sm s s'):Rs (pall tk f s) (pall tk' f' s'):=by
 unfold pall
 have h1:=hf _ _ h
 rw[h1.1,←T.len]
 exact sm_bin T _ _ hf _ _ _ _ h1.2
theorem sm_cnd {f f':PS→CT×PS}(hf:∀s s',Sm s s'→Rs (f s) (f' s')){s s':PS}(h:Sm s s'):Rs (pcnd tk f s) (pcnd tk' f' s'):=by
 unfold pcnd
 have h1:=sm_all T hf h
 rw[h1.1,←T.len]
 exact sm_bin T _ _ (fun _ _ h=>sm_all T hf h) _ _ _ _ h1.2
theorem sm_one:∀(n:Nat) (s s':PS),Sm s s'→Rs (pone tk en n s) (pone tk' en' n s')
 | 0,_,_,h=>⟨rfl,h⟩
 | n+1,s,s',h=>by
   unfold pone
   rw[←sm_ptx T h]
   split
   ·have h1:=sm_one n _ _ (sm_m1 (en:=en) (en':=en') T (sm_enter (en:=en) (en':=en') T h) (⟨#[33]⟩:ByteArray))
    unfold pnot
    dsimp only
    exact⟨by rw[h1.1],sm_up h1.2⟩
   ·split
    ·exact sm_within T _ _ _ (fun _ _ h=>sm_cnd T (sm_one n) h) h
    ·split
     ·exact⟨rfl,sm_m1 T h _⟩
     ·split
      ·exact⟨rfl,sm_m1 T h _⟩
      ·exact sm_cmp T h
theorem sm_co {s s':PS}(h:Sm s s'):Rs (pco tk en s) (pco tk' en' s'):=sm_cnd T (sm_one T 53) h
end
end
section
open Go.RowKit
section
variable {tk tk':List Tok} {en en':Nat} (T:TkEq tk tk')
include T
theorem sm_share {s s':PS}(h:Sm s s'):Rs (pshare tk en s) (pshare tk' en' s'):=by
 have h1:=sm_ex (en:=en) (en':=en') T (sm_m1 (en:=en) (en':=en') T h (⟨#[40]⟩:ByteArray))
 have h2:=sm_of (en:=en) (en':=en') T (sm_m1 (en:=en) (en':=en') T h1.2 (⟨#[46]⟩:ByteArray)) 1
 have h3:=sm_num (en:=en) (en':=en') T (sm_m1 (en:=en) (en':=en') T h2.2 (⟨#[44]⟩:ByteArray))
 unfold pshare
 dsimp only
 exact⟨by rw[h1.1,h2.1,h3.1],h3.2⟩
theorem sm_acc {s s':PS}(h:Sm s s'):Rs (pacc tk en s) (pacc tk' en' s'):=by
 have h1:=sm_share (en:=en) (en':=en') T (sm_m1 (en:=en) (en':=en') T h (⟨#[97,99,99]⟩:ByteArray))
 unfold pacc
 dsimp only
 exact⟨by rw[h1.1],sm_m1 T h1.2 _⟩
theorem sm_pts {s s':PS}(h:Sm s s'):Rs (ppts tk en s) (ppts tk' en' s'):=by
 have h1:=sm_share (en:=en) (en':=en') T (sm_m1 (en:=en) (en':=en') T h (⟨#[112,116,115]⟩:ByteArray))
 have h2:=sm_ex (en:=en) (en':=en') T (sm_m1 (en:=en) (en':=en') T h1.2 (⟨#[44]⟩:ByteArray))
 unfold ppts
 dsimp only
 exact⟨by rw[h1.1,h2.1],sm_m1 T h2.2 _⟩
theorem sm_pure {s s':PS}(h:Sm s s'):Rs (ppure tk en s) (ppure tk' en' s'):=by
 have h1:=sm_within (en:=en) (en':=en') T (⟨#[91]⟩:ByteArray) (⟨#[93]⟩:ByteArray) default (fun _ _ h=>sm_co (en:=en) (en':=en') T h) h
 unfold ppure
 dsimp only
 exact⟨by rw[h1.1],h1.2⟩
theorem sm_assn {f f':PS→AT×PS}(hf:∀s s',Sm s s'→Rs (f s) (f' s')){s s':PS}(h:Sm s s'):Rs (passn tk f s) (passn tk' f' s'):=by
 unfold passn
 have h1:=hf _ _ h
 rw[h1.1,←T.len]
 exact sm_bin T _ _ hf _ _ _ _ h1.2
theorem sm_braced {f f':PS→AT×PS}(hf:∀s s',Sm s s'→Rs (f s) (f' s')){s s':PS}(h:Sm s s'):Rs (pbraced tk en f s) (pbraced tk' en' f' s'):=sm_within T _ _ _ (fun _ _ h=>sm_assn T hf h) h
theorem sm_ifA {f f':PS→AT×PS}(hf:∀s s',Sm s s'→Rs (f s) (f' s')){s s':PS}(h:Sm s s'):Rs (pifA tk en f s) (pifA tk' en' f' s'):=by
 have h1:=sm_co (en:=en) (en':=en') T (sm_m1 (en:=en) (en':=en') T h (⟨#[105,102]⟩:ByteArray))
 have h2:=sm_braced (en:=en) (en':=en') T hf h1.2
 have h3:=sm_braced (en:=en) (en':=en') T hf (sm_m1 (en:=en) (en':=en') T h2.2 (⟨#[101,108,115,101]⟩:ByteArray))
 unfold pifA
 dsimp only
 exact⟨by rw[h1.1,h2.1,h3.1],h3.2⟩
theorem sm_item:∀(n:Nat) (s s':PS),Sm s s'→Rs (pitem tk en n s) (pitem tk' en' n s')
 | 0,_,_,h=>⟨rfl,h⟩
 | n+1,s,s',h=>by
   unfold pitem
   rw[←sm_ptx T h]
   repeat' split
   ·exact sm_pure T h
   ·exact sm_acc T h
   ·exact sm_pts T h
   ·exact sm_ifA T (sm_item n) h
   ·exact sm_within T _ _ _ (fun _ _ h=>sm_assn T (sm_item n) h) h
   ·exact⟨rfl,sm_m1 T h _⟩
theorem sm_as {s s':PS}(h:Sm s s'):Rs (pas tk en s) (pas tk' en' s'):=sm_assn T (sm_item T 53) h
theorem sm_cell (p:SP){s s':PS}(h:Sm s s'):Rs (pcell tk en p s) (pcell tk' en' p s'):=by
 have h1:=sm_ex (en:=en) (en':=en') T h
 have h2:=sm_of (en:=en) (en':=en') T (sm_m1 (en:=en) (en':=en') T h1.2 (⟨#[46]⟩:ByteArray)) 1
 unfold pcell
 dsimp only
 exact⟨by rw[h1.1,h2.1],h2.2⟩
end
end
section
open Go.RowKit
section
variable {tk tk':List Tok} {en en':Nat} (T:TkEq tk tk')
include T
theorem sm_call (p:SP){s s':PS}(h:Sm s s'):Rs (pcall tk en p s) (pcall tk' en' p s'):=by
 have h1:=sm_of (en:=en) (en':=en') T (sm_m1 (en:=en) (en':=en') T h (⟨#[99,97,108,108]⟩:ByteArray)) 1
 have h2:=sm_exprs (en:=en) (en':=en') T [(⟨#[59]⟩:ByteArray)] (sm_m1 (en:=en) (en':=en') T h1.2 (⟨#[40]⟩:ByteArray))
 have h3:=sm_exprs (en:=en) (en':=en') T [(⟨#[41]⟩:ByteArray)] (sm_m1 (en:=en) (en':=en') T h2.2 (⟨#[59]⟩:ByteArray))
 unfold pcall
 dsimp only
 exact⟨by rw[h1.1,h2.1,h3.1],sm_m1 T h3.2 _⟩
theorem sm_what (p:SP){s s':PS}(h:Sm s s'):Rs (pwhat tk en p s) (pwhat tk' en' p s'):=by
 unfold pwhat
 rw[←sm_ptx T h]
 repeat' split
 ·exact sm_cell T _ (sm_m1 T h _)
 ·have h1:=sm_names (en:=en) (en':=en') T [] (sm_m1 (en:=en) (en':=en') T (sm_m1 (en:=en) (en':=en') T h (⟨#[110,101,119]⟩:ByteArray)) (⟨#[40]⟩:ByteArray))
  dsimp only
  exact⟨by rw[h1.1],sm_m1 T h1.2 _⟩
 ·exact sm_call T _ h
 ·have h1:=sm_ex (en:=en) (en':=en') T h
  exact⟨by rw[h1.1],h1.2⟩
theorem sm_stmts {f f':PS→ST×PS}(hf:∀s s',Sm s s'→Rs (f s) (f' s')):∀(k:Nat) (l:List ST) (s s':PS),Sm s s'→Rs (pstmts tk f k l s) (pstmts tk' f' k l s')
 | 0,_,_,_,h=>⟨rfl,h⟩
 | k+1,l,s,s',h=>by
   unfold pstmts
   rw[←sm_pis T h]
   by_cases h0:s.er=none∧pis tk [(⟨#[125]⟩:ByteArray)] s=false
   ·rw[if_pos h0,if_pos ⟨h.er.1 h0.1,h0.2⟩]
    have h1:=hf _ _ h
    rw[h1.1]
    exact sm_stmts hf k _ _ _ h1.2
   ·rw[if_neg h0,if_neg (fun e=>h0 ⟨h.er.2 e.1,e.2⟩)]
    exact⟨rfl,h⟩
theorem sm_block {f f':PS→ST×PS}(hf:∀s s',Sm s s'→Rs (f s) (f' s')){s s':PS}(h:Sm s s'):Rs (pblock tk en f s) (pblock tk' en' f' s'):=by
 unfold pblock
 rw[←T.len]
 exact sm_within T _ _ _ (fun s s' h=>sm_stmts T hf _ _ s s' h) h
theorem sm_branch {f f':PS→ST×PS}(hf:∀s s',Sm s s'→Rs (f s) (f' s')){s s':PS}(h:Sm s s'):Rs (pbranch tk en f s) (pbranch tk' en' f' s'):=by
 have h1:=sm_co (en:=en) (en':=en') T (sm_m1 (en:=en) (en':=en') T h (⟨#[105,102]⟩:ByteArray))
 have h2:=sm_block (en:=en) (en':=en') T hf h1.2
 have h3:=sm_block (en:=en) (en':=en') T hf (sm_m1 (en:=en) (en':=en') T h2.2 (⟨#[101,108,115,101]⟩:ByteArray))
 unfold pbranch
 dsimp only
 exact⟨by rw[h1.1,h2.1,h3.1],h3.2⟩
theorem sm_loop {f f':PS→ST×PS}(hf:∀s s',Sm s s'→Rs (f s) (f' s')){s s':PS}(h:Sm s s'):Rs (ploop tk en f s) (ploop tk' en' f' s'):=by
 have h1:=sm_co (en:=en) (en':=en') T (sm_m1 (en:=en) (en':=en') T h (⟨#[119,104,105,108,101]⟩:ByteArray))
 have h2:=sm_as (en:=en) (en':=en') T (sm_m1 (en:=en) (en':=en') T h1.2 (⟨#[105,110,118,97,114,105,97,110,116]⟩:ByteArray))
 have h3:=sm_block (en:=en) (en':=en') T hf h2.2
 unfold ploop
 dsimp only
 exact⟨by rw[h1.1,h2.1,h3.1],h3.2⟩
end
end
section
open Go.RowKit
structure Again (k:Int)(l:List UInt8):Prop where
 one:1≤l.length
 eq:∀r,stp (l ++ 32 :: r)= .tok k l.length
theorem runN_again {p:UInt8→Bool}(hp:p 32=false)(r:List UInt8):∀l:List UInt8,runN p (l.take (runN p l) ++ 32 :: r)=runN p l
 | []=>by rw[List.take_nil,List.nil_append,runN_cons,hp];rfl
 | c :: l=>by
   rw[runN_cons]
   by_cases h:p c=true
   ·rw[if_pos h,List.take_succ_cons,List.cons_append,runN_cons,if_pos h,runN_again hp r l]
   ·rw[if_neg h,List.take_zero,List.nil_append,runN_cons,hp];rfl
theorem in_none:isIn 32=false:=by decide
theorem dig_none:isDig 32=false:=by decide
theorem let_none:isLet 32=false:=by decide
theorem take_fit {l r:List UInt8}{n:Nat}(h:n≤l.length):(l.take n ++ r).take n=l.take n:=by
 rw[List.take_append_of_le_length (by rw[List.length_take];omega),List.take_take,Nat.min_self]
theorem drop_fit {l r:List UInt8}{n:Nat}(h:n≤l.length):(l.take n ++ r).drop n=r:=by
 have e:(l.take n).length=n:=by rw[List.length_take];omega
 rw[List.drop_append_of_le_length (by omega),List.drop_eq_nil_of_le (by omega),List.nil_append]
theorem let_notBl {c:UInt8}(h:isLet c=true):isBl c=false∧c.toNat≠47:=by
 simp only[isLet,Bool.or_eq_true,Bool.and_eq_true,decide_eq_true_eq]at h
 simp only[isBl,Bool.or_eq_false_iff,decide_eq_false_iff_not]
 omega
theorem dig_notBl {c:UInt8}(h:isDig c=true):isBl c=false∧c.toNat≠47∧isLet c=false:=by
 have:=dig_in h
 simp only[isBl,isLet,Bool.or_eq_false_iff,Bool.and_eq_false_iff,decide_eq_false_iff_not]
 omega
theorem numBad_glue {l:List UInt8}{g:Bool}(h:numBad l g=false):numBad l false=false:=by
 unfold numBad at h⊢
 simp only[Bool.or_eq_false_iff]at h⊢
 exact⟨h.1,trivial⟩
theorem stp_again {l:List UInt8}{k:Int}{n:Nat}(h:stp l= .tok k n):Again k (l.take n):=by
 obtain⟨hn1,hn2,_⟩:=stp_tokc h
 have hlen:(l.take n).length=n:=by rw[List.length_take];omega
 refine⟨by omega,fun r=> ?_⟩
 rw[hlen]
 cases l with
 | nil=>cases h
 | cons c x=>
   obtain⟨m,hm⟩:∃m,n=m+1:=⟨n - 1,by omega⟩
   rw[stp]at h
   split at h
   ·cases h
   ·rename_i hbl
    split at h
    ·cases h
    ·rename_i hcm
     split at h
     ·cases h
     ·rename_i h32
      split at h
      ·rename_i h0
       injection h with h1 h2
       have hc:isLet c=true:=by
        rw[wordN_cons]at h0
        by_cases hc:isLet c=true
        ·exact hc
        ·rw[if_neg hc]at h0;omega
       have hw:wordN (c :: x)=runN isIn x+1:=by rw[wordN_cons,if_pos hc]
       have hw2:wordN ((c :: x).take n ++ 32 :: r)=n:=by
        rw[←h2,hw,List.take_succ_cons,List.cons_append,wordN_cons,if_pos hc,runN_again in_none]
       have hk:((c :: x).take n ++ 32 :: r).take n=(c :: x).take n:=take_fit hn2
       obtain⟨y1,y2⟩:=let_notBl hc
       have hs:(c :: x).take n ++ 32 :: r=c :: (x.take m ++ 32 :: r):=by rw[hm,List.take_succ_cons,List.cons_append]
       rw[h2]at h32 h0 h1
       rw[hs]at hw2 hk⊢
       rw[stp,y1,if_neg (by simp),if_neg (fun e=>y2 e.1),hw2,if_neg h32,if_pos h0,hk,h1]
      ·rename_i hw0
       split at h
       ·rename_i h0
        have hc:isDig c=true:=dig_pos.1 h0
        obtain⟨y1,y2,y3⟩:=dig_notBl hc
        unfold numS at h
        split at h
        ·cases h
        ·rename_i hb
         injection h with h1 h2
         have hd:runN isDig ((c :: x).take n ++ 32 :: r)=n:=by
          rw[←h2]
          exact runN_again dig_none r (c :: x)
         have hk:((c :: x).take n ++ 32 :: r).take n=(c :: x).take n:=take_fit hn2
         have hg:((c :: x).take n ++ 32 :: r).drop n=32 :: r:=drop_fit hn2
         have hs:(c :: x).take n ++ 32 :: r=c :: (x.take m ++ 32 :: r):=by rw[hm,List.take_succ_cons,List.cons_append]
         have hb2:numBad ((c :: x).take n) false=false:=by
          rw[←h2]
          exact numBad_glue (by simpa using hb)
         have hw3:wordN (c :: (x.take m ++ 32 :: r))=0:=by rw[wordN_cons,y3];rfl
         rw[hs]at hd hk hg⊢
         rw[stp,y1,if_neg (by simp),if_neg (fun e=>y2 e.1),hw3,if_neg (by omega),if_neg (by omega),hd,if_pos (by omega)]
         unfold numS
         rw[hd,hk,hg,show glueB (32 :: r)=false from let_none,hb2,if_neg (by simp),h1]
       ·rename_i hd0
        split at h
        ·cases h
        ·rename_i ho
         injection h with h1 h2
         have hlet:isLet c=false:=by
          by_cases hc:isLet c=true
          ·exact absurd (by rw[wordN_cons,if_pos hc];omega) hw0
          ·simpa using hc
         have hdig:isDig c=false:=by
          by_cases hc:isDig c=true
          ·exact absurd (dig_pos.2 hc) hd0
          ·simpa using hc
         have hs:(c :: x).take n ++ 32 :: r=c :: (x.take m ++ 32 :: r):=by rw[hm,List.take_succ_cons,List.cons_append]
         have hcm2:¬(c.toNat=47∧(x.take m ++ 32 :: r).head? =some 47):=by
          rintro⟨e,_⟩
          have ec:c=47:=UInt8.toNat_inj.1 e
          subst ec
          unfold opN at ho
          have hno:¬twosL.contains ((47 :: x).take 2)=true:=by
           cases x with
           | nil=>decide
           | cons d x=>
             intro hh
             rw[List.take_succ_cons,List.take_succ_cons,List.take_zero]at hh
             have hh:[47,d]∈twosL:=by simpa using hh
             have hall:twosL.all (fun l=>l.head? != some 47)=true:=by decide
             have:=List.all_eq_true.1 hall _ hh
             simp at this
          rw[if_neg hno]at ho
          exact ho (if_neg (by decide))
         have hw3:wordN (c :: (x.take m ++ 32 :: r))=0:=by rw[wordN_cons,hlet];rfl
         have hd3:runN isDig (c :: (x.take m ++ 32 :: r))=0:=by rw[runN_cons,hdig];rfl
         have ho2:opN (c :: (x.take m ++ 32 :: r))=n:=by
          unfold opN at h2 ho⊢
          by_cases ht:twosL.contains ((c :: x).take 2)=true
          ·rw[if_pos ht]at h2
           have hk:(c :: (x.take m ++ 32 :: r)).take 2=(c :: x).take 2:=by
            rw[←hs,←h2]
            exact take_fit (by omega)
           rw[hk,if_pos ht,h2]
          ·rw[if_neg ht]at h2 ho
           by_cases hoo:onesL.contains c=true
           ·simp only[hoo,if_true]at h2
            have hm0:m=0:=by omega
            subst hm0
            have hno:¬twosL.contains ((c :: (x.take 0 ++ 32 :: r)).take 2)=true:=by
             intro hh
             rw[List.take_zero,List.nil_append,List.take_succ_cons,List.take_succ_cons,List.take_zero]at hh
             have hh:[c,32]∈twosL:=by simpa using hh
             have hall:twosL.all (fun l=>l.getD 1 0 != 32)=true:=by decide
             have:=List.all_eq_true.1 hall _ hh
             simp at this
            rw[if_neg hno]
            simp only[hoo,if_true]
            omega
           ·exact absurd (if_neg hoo) ho
         rw[hs,stp,if_neg hbl,if_neg hcm2,hw3,if_neg (by omega),if_neg (by omega),hd3,if_neg (by omega),ho2,if_neg (by omega),h1]
def tokLen (ts:List Tok):Nat:=(ts.map fun t=>t.text.size).sum
theorem scan_again:∀(f:Nat) (l:List UInt8) (i:Nat) (ts R:List Tok),scanF f l i ts= .ok R→(∀t∈ts,Again t.kind t.text.data.toList)→(∀t∈R,Again t.kind t.text.data.toList)∧tokLen R≤tokLen ts+l.length
 | 0,l,i,ts,R,h,ht=>by
   injection h with h
   subst h
   exact⟨ht,Nat.le_add_right _ _⟩
 | f+1,l,i,ts,R,h,ht=>by
   rw[scanF]at h
   cases hs:stp l with
   | done=>
     rw[hs]at h
     injection h with h
     subst h
     exact⟨ht,Nat.le_add_right _ _⟩
   | bad c=>rw[hs]at h;cases h
   | skip n=>
     rw[hs]at h
     obtain⟨h1,h2⟩:=scan_again f _ _ ts R h ht
     exact⟨h1,by rw[List.length_drop]at h2;omega⟩
   | tok k n=>
     rw[hs]at h
     have ha:=stp_again hs
     obtain⟨a1,a2,_⟩:=stp_tokc hs
     obtain⟨h1,h2⟩:=scan_again f _ _ _ R h (fun t hm=>by
      rcases List.mem_append.1 hm with hm | hm
      ·exact ht t hm
      ·obtain rfl:=List.mem_singleton.1 hm
       simpa using ha)
     refine⟨h1, ?_⟩
     have e:tokLen (ts ++ [⟨k,i,⟨(l.take n).toArray⟩⟩])=tokLen ts+n:=by
      unfold tokLen
      rw[List.map_append,List.sum_append]
      have:(⟨(l.take n).toArray⟩:ByteArray).size=n:=by
       show(l.take n).toArray.size=n
       simp
       omega
      simp[this]
     rw[e,List.length_drop]at h2
     omega
def outB (ts:List Tok):List UInt8:=ts.flatMap fun t=>t.text.data.toList ++ [32]
def SameK:List Tok→List Tok→Prop
 | [],[]=>True
 | x :: xs,y :: ys=>x.kind=y.kind∧x.text=y.text∧SameK xs ys
 | _,_=>False
theorem SameK.len:∀ {xs ys:List Tok},SameK xs ys→xs.length=ys.length
 | [],[],_=>rfl
 | x :: xs,y :: ys,h=>by rw[List.length_cons,List.length_cons,SameK.len h.2.2]
theorem SameK.at:∀ {xs ys:List Tok},SameK xs ys→∀i,(xs.getD i tok0).kind=(ys.getD i tok0).kind∧(xs.getD i tok0).text=(ys.getD i tok0).text
 | [],[],_,i=>⟨rfl,rfl⟩
 | x :: xs,y :: ys,h,0=>⟨h.1,h.2.1⟩
 | x :: xs,y :: ys,h,i+1=>by
   have:=SameK.at h.2.2 i
   simpa using this
theorem scan_out:∀(ts:List Tok),(∀t∈ts,Again t.kind t.text.data.toList)→∀(f i:Nat) (acc:List Tok),(outB ts).length≤f→∃ts',scanF f (outB ts) i acc= .ok (acc ++ ts')∧SameK ts ts'
 | [],_,f,i,acc,hf=>by
   refine⟨[], ?_,trivial⟩
   rw[List.append_nil]
   cases f with
   | zero=>rfl
   | succ f=>rfl
 | t :: ts,h,f,i,acc,hf=>by
   have ha:=h t (List.mem_cons_self ..)
   have e:outB (t :: ts)=t.text.data.toList ++ 32 :: outB ts:=by
    unfold outB
    rw[List.flatMap_cons,List.append_assoc]
    rfl
   rw[e,List.length_append,List.length_cons]at hf
   have h1:=ha.one
   obtain⟨f,rfl⟩:∃g,f=g+2:=⟨f - 2,by omega⟩
   rw[e,scanF,ha.eq (outB ts)]
   dsimp only
   have hdr:(t.text.data.toList ++ 32 :: outB ts).drop t.text.data.toList.length=32 :: outB ts:=by simp
   have htk:(t.text.data.toList ++ 32 :: outB ts).take t.text.data.toList.length=t.text.data.toList:=by simp
   rw[hdr,htk,scanF]
   have hsk:stp (32 :: outB ts)= .skip 1:=by
    rw[stp,if_pos (by decide)]
   rw[hsk]
   dsimp only
   rw[List.drop_succ_cons,List.drop_zero]
   obtain⟨ts',e1,e2⟩:=scan_out ts (fun t ht=>h t (List.mem_cons_of_mem _ ht)) f (i+t.text.data.toList.length+1) (acc ++ [⟨t.kind,i,⟨t.text.data.toList.toArray⟩⟩]) (by omega)
   refine⟨⟨t.kind,i,⟨t.text.data.toList.toArray⟩⟩ :: ts', ?_,rfl,by simp,e2⟩
   rw[e1,List.append_assoc]
   rfl
theorem outB_len:∀ts:List Tok,(outB ts).length=tokLen ts+ts.length
 | []=>rfl
 | t :: ts=>by
   have e:outB (t :: ts)=t.text.data.toList ++ 32 :: outB ts:=by
    unfold outB
    rw[List.flatMap_cons,List.append_assoc]
    rfl
   have e2:t.text.data.toList.length=t.text.size:=by rw[Array.length_toList];rfl
   rw[e,List.length_append,List.length_cons,outB_len ts,e2]
   unfold tokLen
   rw[List.map_cons,List.sum_cons,List.length_cons]
   omega
theorem again_len:∀ts:List Tok,(∀t∈ts,Again t.kind t.text.data.toList)→ts.length≤tokLen ts
 | [],_=>Nat.zero_le _
 | t :: ts,h=>by
   have h1:=(h t (List.mem_cons_self ..)).one
   have h2:=again_len ts (fun t ht=>h t (List.mem_cons_of_mem _ ht))
   have e2:t.text.data.toList.length=t.text.size:=by rw[Array.length_toList];rfl
   unfold tokLen at h2⊢
   rw[List.map_cons,List.sum_cons,List.length_cons]
   omega
def outS (ts:List Tok):ByteArray:=⟨(outB ts).toArray⟩
theorem outS_snoc (ts:List Tok)(t:Tok):outS (ts ++ [t])=outS ts ++ t.text ++ (⟨#[32]⟩:ByteArray):=by
 apply ByteArray.ext
 apply Array.toList_inj.1
 unfold outS outB
 rw[ByteArray.data_append,ByteArray.data_append,Array.toList_append,Array.toList_append,List.flatMap_append,List.flatMap_singleton]
 simp
theorem outS_size (ts:List Tok):(outS ts).size=tokLen ts+ts.length:=by
 rw[←outB_len]
 show(outB ts).toArray.size=_
 simp
theorem res_again {s:ByteArray}(h0:(resOf s).1=0)(hs:s.size≤3000):tokLen (resOf s).2.2≤3000∧(resOf s).2.2.length≤3000∧(outS (resOf s).2.2).size≤6000∧(resOf (outS (resOf s).2.2)).1=0∧SameK (resOf s).2.2 (resOf (outS (resOf s).2.2)).2.2:=by
 have e0:resOf s=resR (scanF s.data.toList.length s.data.toList 0 []):=if_neg (by omega)
 have hsz:s.data.toList.length=s.size:=by rw[Array.length_toList];rfl
 cases hR:scanF s.data.toList.length s.data.toList 0 []with
 | bad c i=>
   rw[e0,hR]at h0
   exact absurd h0 (scan_badc _ _ _ _ _ _ hR)
 | ok ts=>
   rw[hR]at e0
   obtain⟨h1,h2⟩:=scan_again _ _ _ [] _ hR (fun t h=>by cases h)
   have h2:tokLen ts≤0+s.data.toList.length:=h2
   have h3:=again_len ts h1
   rw[e0]
   show tokLen ts≤3000∧ts.length≤3000∧(outS ts).size≤6000∧(resOf (outS ts)).1=0∧SameK ts (resOf (outS ts)).2.2
   have h4:=outS_size ts
   have e1:resOf (outS ts)=resR (scanF (outB ts).length (outB ts) 0 []):=by
    unfold resOf
    rw[if_neg (by omega)]
    rfl
   obtain⟨ts',e2,e3⟩:=scan_out ts h1 (outB ts).length 0 [] (Nat.le_refl _)
   rw[e2]at e1
   rw[e1]
   exact⟨by omega,by omega,by omega,rfl,e3⟩
end
section
open Go.RowKit
section
variable {tk tk':List Tok} {en en':Nat} (T:TkEq tk tk')
include T
theorem sm_simple {s s':PS}(h:Sm s s'):Rs (psimple tk en s) (psimple tk' en' s'):=by
 unfold psimple
 rw[←sm_ptx T h]
 repeat' split
 ·have h1:=sm_cell (en:=en) (en':=en') T { sp0 with kind:=3 } (sm_m1 (en:=en) (en':=en') T h (⟨#[112,117,116]⟩:ByteArray))
  have h2:=sm_ex (en:=en) (en':=en') T (sm_m1 (en:=en) (en':=en') T h1.2 (⟨#[58,61]⟩:ByteArray))
  dsimp only
  exact⟨by rw[h1.1,h2.1],h2.2⟩
 ·exact sm_cell T _ (sm_m1 T h _)
 ·have h1:=sm_co (en:=en) (en':=en') T (sm_m1 (en:=en) (en':=en') T h (⟨#[97,115,115,101,114,116]⟩:ByteArray))
  exact⟨by dsimp only;rw[h1.1],h1.2⟩
 ·exact sm_call T _ h
 ·exact⟨rfl,sm_m1 T h _⟩
 ·have h1:=sm_of (en:=en) (en':=en') T h 1
  dsimp only
  rw[←h1.1]
  exact sm_what T _ (sm_m1 T h1.2 _)
theorem sm_stmt:∀(n:Nat) {s s':PS},Sm s s'→Rs (pstmt tk en n s) (pstmt tk' en' n s')
 | 0,s,s',h=>⟨rfl,h⟩
 | n+1,s,s',h=>by
   unfold pstmt
   rw[←sm_ptx T h]
   repeat' split
   ·exact sm_branch T (fun _ _=>sm_stmt n) h
   ·exact sm_loop T (fun _ _=>sm_stmt n) h
   ·have h1:=sm_simple (en:=en) (en':=en') T h
    exact⟨by dsimp only;rw[h1.1],sm_m1 T h1.2 _⟩
theorem sm_bl {s s':PS}(h:Sm s s'):Rs (pbl tk en s) (pbl tk' en' s'):=by
 unfold pbl
 exact sm_block T (fun _ _=>sm_stmt T 53) h
theorem sm_proc {s s':PS}(h:Sm s s'):Rs (pproc tk en s) (pproc tk' en' s'):=by
 have h1:=sm_of (en:=en) (en':=en') T (sm_m1 (en:=en) (en':=en') T h (⟨#[112,114,111,99]⟩:ByteArray)) 1
 unfold pproc
 dsimp only
 generalize pof tk en 1 (pm1 tk en (⟨#[112,114,111,99]⟩:ByteArray) s)=n at h1⊢
 generalize pof tk' en' 1 (pm1 tk' en' (⟨#[112,114,111,99]⟩:ByteArray) s')=n' at h1⊢
 have h2:=sm_names (en:=en) (en':=en') T [(⟨#[59]⟩:ByteArray)] (sm_m1 (en:=en) (en':=en') T h1.2 (⟨#[40]⟩:ByteArray))
 generalize pnames tk en [(⟨#[59]⟩:ByteArray)] (pm1 tk en (⟨#[40]⟩:ByteArray) n.2)=a at h2⊢
 generalize pnames tk' en' [(⟨#[59]⟩:ByteArray)] (pm1 tk' en' (⟨#[40]⟩:ByteArray) n'.2)=a' at h2⊢
 have h3:=sm_names (en:=en) (en':=en') T [(⟨#[41]⟩:ByteArray)] (sm_m1 (en:=en) (en':=en') T h2.2 (⟨#[59]⟩:ByteArray))
 generalize pnames tk en [(⟨#[41]⟩:ByteArray)] (pm1 tk en (⟨#[59]⟩:ByteArray) a.2)=g at h3⊢
 generalize pnames tk' en' [(⟨#[41]⟩:ByteArray)] (pm1 tk' en' (⟨#[59]⟩:ByteArray) a'.2)=g' at h3⊢
 have h4:=sm_as (en:=en) (en':=en') T (sm_m1 (en:=en) (en':=en') T (sm_m1 (en:=en) (en':=en') T h3.2 (⟨#[41]⟩:ByteArray)) (⟨#[114,101,113,117,105,114,101,115]⟩:ByteArray))
 generalize pas tk en (pm1 tk en (⟨#[114,101,113,117,105,114,101,115]⟩:ByteArray) (pm1 tk en (⟨#[41]⟩:ByteArray) g.2))=p at h4⊢
 generalize pas tk' en' (pm1 tk' en' (⟨#[114,101,113,117,105,114,101,115]⟩:ByteArray) (pm1 tk' en' (⟨#[41]⟩:ByteArray) g'.2))=p' at h4⊢
 have h5:=sm_as (en:=en) (en':=en') T (sm_m1 (en:=en) (en':=en') T h4.2 (⟨#[101,110,115,117,114,101,115]⟩:ByteArray))
 generalize pas tk en (pm1 tk en (⟨#[101,110,115,117,114,101,115]⟩:ByteArray) p.2)=q at h5⊢
 generalize pas tk' en' (pm1 tk' en' (⟨#[101,110,115,117,114,101,115]⟩:ByteArray) p'.2)=q' at h5⊢
 have h6:=sm_bl (en:=en) (en':=en') T h5.2
 exact⟨by rw[h1.1,h2.1,h3.1,h4.1,h5.1,h6.1],h6.2⟩
theorem sm_procs:∀(k:Nat) (l:List QT) (s s':PS),Sm s s'→Rs (pprocs tk en k l s) (pprocs tk' en' k l s')
 | 0,_,_,_,h=>⟨rfl,h⟩
 | k+1,l,s,s',h=>by
   unfold pprocs
   rw[←T.len,←h.nx]
   by_cases h0:s.nx<tk.length∧s.er=none
   ·rw[if_pos h0,if_pos ⟨h0.1,h.er.1 h0.2⟩]
    have h1:=sm_proc (en:=en) (en':=en') T h
    rw[h1.1]
    exact sm_procs k _ _ _ h1.2
   ·rw[if_neg h0,if_neg (fun e=>h0 ⟨e.1,h.er.2 e.2⟩)]
    exact⟨rfl,h⟩
theorem sm_prog:(pprog tk en).2.2=(pprog tk' en').2.2∧((pprog tk en).1=0↔(pprog tk' en').1=0):=by
 have h1:=sm_procs (en:=en) (en':=en') T (tk.length+1) [] ps0 ps0 ⟨rfl,rfl,Iff.rfl⟩
 have k1:ErOk (pprocs tk en (tk.length+1) [] ps0).2:=(mw_procs (tk:=tk) (en:=en) _ _ _).f (fun c a e=>by cases e)
 have k2:ErOk (pprocs tk' en' (tk'.length+1) [] ps0).2:=(mw_procs (tk:=tk') (en:=en') _ _ _).f (fun c a e=>by cases e)
 unfold pprog
 rw[←T.len]at k2⊢
 generalize pprocs tk en (tk.length+1) [] ps0=r at*
 generalize pprocs tk' en' (tk.length+1) [] ps0=r' at*
 obtain⟨l,nx,ne,er⟩:=r
 obtain⟨l',nx',ne',er'⟩:=r'
 obtain⟨e1,e2⟩:=h1
 have e1:l=l':=e1
 have e3:er=none↔er'=none:=e2.er
 subst e1
 cases er with
 | none=>
   obtain rfl:=e3.1 rfl
   exact⟨rfl,Iff.rfl⟩
 | some p=>
   obtain⟨c,a⟩:=p
   cases er' with
   | none=>cases e3.2 rfl
   | some p'=>
     obtain⟨c',a'⟩:=p'
     exact⟨rfl,fun h=>absurd h (k1 c a rfl).1,fun h=>absurd h (k2 c' a' rfl).1⟩
end
end
section
open Go.RowKit
theorem SameK.eq {xs ys:List Tok}(h:SameK xs ys):TkEq xs ys:=⟨h.len,fun i=>(h.at i).1,fun i=>(h.at i).2⟩
theorem parse_again {s:ByteArray}(h0:(resOf s).1=0)(hs:s.size≤3000):(pparse s).2.2=(pparse (outS (resOf s).2.2)).2.2∧((pparse s).1=0↔(pparse (outS (resOf s).2.2)).1=0):=by
 obtain⟨_,_,_,h1,h2⟩:=res_again h0 hs
 have e1:pparse s=pprog (resOf s).2.2 s.size:=if_pos h0
 have e2:pparse (outS (resOf s).2.2)=pprog (resOf (outS (resOf s).2.2)).2.2 (outS (resOf s).2.2).size:=if_pos h1
 rw[e1,e2]
 exact sm_prog h2.eq
end
end Go.Proofs.YtcinokljkieijaaGreatDoor
