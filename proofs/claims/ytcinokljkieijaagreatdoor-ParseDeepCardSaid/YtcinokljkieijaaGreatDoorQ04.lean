/- Parts of a proof. -/
import Derived.Test.YtcinokljkieijaaGreatDoorQ02
import Derived.Test.YtcinokljkieijaaGreatDoorQ03
import Derived.Deep.MidRow
import Derived.Deep.WholeRow
import Derived.BigQuiet
import Derived.Deep.QuietTactic
import Derived.Test.YtcinokljkieijaaGreatDoorQShelf
set_option linter.unusedVariables false
set_option linter.unusedSimpArgs false
set_option maxHeartbeats 60000000
set_option maxRecDepth 100000
namespace Go.Proofs.YtcinokljkieijaaGreatDoor
section
open Go.RowKit
structure PIn (tk:List Tok)(s:PS):Prop where
 lo:0≤s.ne
 hi:s.ne≤51
 nx:s.nx≤tk.length
 ok:s.er=none→s.ne≤50
structure Mv (tk:List Tok)(s s':PS):Prop where
 nx:s.nx≤s'.nx
 er:s.er≠none→s'.er=s.er∧s'.nx=s.nx
 ne:s.ne≤s'.ne
 same:s'.er=none→s'.ne=s.ne
 inv:PIn tk s→PIn tk s'
theorem Mv.none {tk:List Tok}{s s':PS}(h:Mv tk s s')(e:s'.er=none):s.er=none:=by
 by_cases h0:s.er= .none
 ·exact h0
 ·rw[(h.er h0).1]at e;exact e
theorem Mv.refl (tk:List Tok)(s:PS):Mv tk s s:=⟨Nat.le_refl _,fun _=>⟨rfl,rfl⟩,Int.le_refl _,fun _=>rfl,id⟩
theorem Mv.trans {tk:List Tok}{a b c:PS}(h:Mv tk a b)(k:Mv tk b c):Mv tk a c:=
 ⟨Nat.le_trans h.nx k.nx,fun e=>by
   obtain⟨e1,e2⟩:=h.er e
   obtain⟨e3,e4⟩:=k.er (by rw[e1];exact e)
   exact⟨e3.trans e1,e4.trans e2⟩,Int.le_trans h.ne k.ne,fun e=>(k.same e).trans (h.same (k.none e)),fun i=>k.inv (h.inv i)⟩
section
variable {tk:List Tok} {en:Nat}
theorem ptx_inv {s:PS}{k:Nat}(h:ptx tk s k≠(⟨#[]⟩:ByteArray)):s.er=none∧s.nx+k<tk.length:=by
 by_cases hc:s.er=none∧s.nx+k<tk.length
 ·exact hc
 ·exact absurd (by unfold ptx;rw[if_neg hc]) h
theorem pis_inv {ws:List ByteArray}{s:PS}(h:pis tk ws s=true):s.er=none∧s.nx<tk.length:=by
 unfold pis at h
 exact ptx_inv (of_decide_eq_true (Bool.and_eq_true_iff.1 h).1)
theorem pkd_inv {s:PS}(h:pkd tk s≠0):s.er=none∧s.nx<tk.length:=by
 by_cases hc:s.er=none∧s.nx<tk.length
 ·exact hc
 ·exact absurd (by unfold pkd;rw[if_neg hc]) h
theorem mv_fail (c:Int)(s:PS):Mv tk s (pfail tk en c s):=by
 unfold pfail
 by_cases h:s.er=none
 ·rw[if_pos h]
  exact⟨Nat.le_refl _,fun e=>absurd h e,Int.le_refl _,fun e=>(by cases e),fun i=>⟨i.lo,i.hi,i.nx,fun e=>(by cases e)⟩⟩
 ·rw[if_neg h];exact Mv.refl _ _
theorem pfail_er (c:Int)(s:PS):(pfail tk en c s).er≠none:=by
 unfold pfail
 by_cases h:s.er=none
 ·rw[if_pos h];exact fun e=>by cases e
 ·rw[if_neg h];exact h
theorem mv_go {s:PS}(h:s.er=none∧s.nx<tk.length):Mv tk s (pgo s):=
 ⟨Nat.le_succ _,fun e=>absurd h.1 e,Int.le_refl _,fun _=>rfl,fun i=>⟨i.lo,i.hi,h.2,i.ok⟩⟩
theorem mv_must (ws:List ByteArray)(s:PS):Mv tk s (pmust tk en ws s).2:=by
 unfold pmust
 split
 ·next h=>exact mv_go (pis_inv h)
 ·exact mv_fail _ _
theorem mv_m1 (w:ByteArray)(s:PS):Mv tk s (pm1 tk en w s):=mv_must _ _
theorem mv_of {k:Int}(hk:k≠0)(s:PS):Mv tk s (pof tk en k s).2:=by
 unfold pof
 split
 ·next h=>exact mv_go (pkd_inv (by rw[h];exact hk))
 ·exact mv_fail _ _
theorem mv_num (s:PS):Mv tk s (pnum tk en s).2:=mv_of (by decide) s
theorem mv_deep {s s2:PS}(h:s.er=none)(k:Mv tk (penter tk en s) s2):Mv tk s (pup s2):=by
 unfold penter at k
 by_cases h50:50≤s.ne
 ·rw[if_pos h50]at k
  have he:(pdn (pfail tk en 4 s)).er≠none:=pfail_er 4 s
  have hn:(pfail tk en 4 s).ne=s.ne∧(pfail tk en 4 s).nx=s.nx:=by unfold pfail;rw[if_pos h];exact⟨rfl,rfl⟩
  have k1:=k.er he
  have k3:=k.ne
  have k4:=k.nx
  refine⟨?_,fun e=>absurd h e, ?_,fun e=> ?_,fun i=> ?_⟩
  ·show s.nx≤s2.nx
   rw[k1.2];exact Nat.le_of_eq hn.2.symm
  ·show s.ne≤s2.ne - 1
   have:s.ne+1≤s2.ne:=by
    have:(pdn (pfail tk en 4 s)).ne=s.ne+1:=by unfold pdn;rw[←hn.1]
    omega
   omega
  ·have:s2.er=none:=e
   rw[k1.1]at this
   exact absurd this he
  ·have i2:=k.inv ⟨by show 0≤(pfail tk en 4 s).ne+1;rw[hn.1];have:=i.lo;omega,by show(pfail tk en 4 s).ne+1≤51;rw[hn.1];have:=i.ok h;omega,by show(pfail tk en 4 s).nx≤_;rw[hn.2];exact i.nx,fun e=>absurd e he⟩
   have e1:(pdn (pfail tk en 4 s)).ne=s.ne+1:=by unfold pdn;rw[←hn.1]
   have:=i.lo
   exact⟨by show 0≤s2.ne - 1;omega,by show s2.ne - 1≤51;have:=i2.hi;omega,i2.nx,fun e=>by
    have:s2.er=none:=e
    rw[k1.1]at this
    exact absurd this he⟩
 ·rw[if_neg h50]at k
  have k3:s.ne+1≤s2.ne:=k.ne
  refine⟨k.nx,fun e=>absurd h e, ?_,fun e=> ?_,fun i=> ?_⟩
  ·show s.ne≤s2.ne - 1
   omega
  ·have:s2.ne=s.ne+1:=k.same e
   show s2.ne - 1=s.ne
   omega
  ·have:=i.lo
   have i2:=k.inv ⟨by show 0≤s.ne+1;omega,by show s.ne+1≤51;omega,i.nx,fun e=>by show s.ne+1≤50;omega⟩
   exact⟨by show 0≤s2.ne - 1;omega,by show s2.ne - 1≤51;have:=i2.hi;omega,i2.nx,fun e=>by
    have:=i2.ok e
    show s2.ne - 1≤50
    omega⟩
theorem mv_enter_bad {s:PS}(h:s.er=none)(hn:50≤s.ne){s2:PS}(k:Mv tk (penter tk en s) s2):Mv tk s s2:=by
 unfold penter at k
 rw[if_pos hn]at k
 have he:(pdn (pfail tk en 4 s)).er≠none:=pfail_er 4 s
 have hn:(pfail tk en 4 s).ne=s.ne∧(pfail tk en 4 s).nx=s.nx:=by unfold pfail;rw[if_pos h];exact⟨rfl,rfl⟩
 have k1:=k.er he
 have e1:(pdn (pfail tk en 4 s)).ne=s.ne+1:=by unfold pdn;rw[←hn.1]
 have k3:=k.ne
 refine⟨?_,fun e=>absurd h e,by omega,fun e=> ?_,fun i=> ?_⟩
 ·rw[k1.2];exact Nat.le_of_eq hn.2.symm
 ·rw[k1.1]at e;exact absurd e he
 ·exact k.inv ⟨by show 0≤(pfail tk en 4 s).ne+1;rw[hn.1];have:=i.lo;omega,by show(pfail tk en 4 s).ne+1≤51;rw[hn.1];have:=i.ok h;omega,by show(pfail tk en 4 s).nx≤_;rw[hn.2];exact i.nx,fun e=>absurd e he⟩
theorem mv_within {α:Type}(o c:ByteArray)(d:α){f:PS→α×PS}(hf:∀s,Mv tk s (f s).2)(s:PS):Mv tk s (pwithin tk en o c d f s).2:=by
 unfold pwithin
 by_cases hp:pis tk [o] s=true
 ·obtain⟨h0,_⟩:=pis_inv hp
  simp only[hp,if_true]
  split
  ·exact mv_deep h0 ((mv_m1 _ _).trans ((hf _).trans (mv_m1 _ _)))
  ·next he=>
   by_cases h50:50≤s.ne
   ·exact mv_enter_bad h0 h50 (mv_m1 _ _)
   ·exfalso
    apply he
    have e1:penter tk en s=pdn s:=by unfold penter;rw[if_neg h50]
    rw[e1]
    have e2:pis tk [o] (pdn s)=true:=hp
    unfold pm1 pmust
    rw[if_pos e2]
    exact h0
 ·simp only[hp,Bool.false_eq_true,if_false]
  have:pm1 tk en o s=pfail tk en 11 s:=by unfold pm1 pmust;rw[if_neg hp]
  rw[this,if_neg (pfail_er 11 s)]
  exact mv_fail _ _
theorem mv_com {α:Type}{f:PS→α×PS}(hf:∀s,Mv tk s (f s).2):∀(k:Nat) (l:List α) (s:PS),Mv tk s (pcom tk f k l s).2
 | 0,_,_=>Mv.refl _ _
 | k+1,l,s=>by
   unfold pcom
   split
   ·next h=>exact(mv_go (pis_inv h)).trans ((hf _).trans (mv_com hf k _ _))
   ·exact Mv.refl _ _
theorem mv_row {α:Type}(ends:List ByteArray){f:PS→α×PS}(hf:∀s,Mv tk s (f s).2)(s:PS):Mv tk s (prow tk ends f s).2:=by
 unfold prow
 split
 ·exact Mv.refl _ _
 ·exact(hf _).trans (mv_com hf _ _ _)
theorem mv_names (ends:List ByteArray)(s:PS):Mv tk s (pnames tk en ends s).2:=by
 unfold pnames
 try dsimp only
 exact mv_row _ (mv_of (by decide)) s
theorem mv_bin {α:Type}(w:ByteArray)(mk:α→α→α){f:PS→α×PS}(hf:∀s,Mv tk s (f s).2):∀(k:Nat) (a:α) (s:PS),Mv tk s (pbin tk w mk f k a s).2
 | 0,_,_=>Mv.refl _ _
 | k+1,a,s=>by
   unfold pbin
   split
   ·next h=>exact(mv_go (pis_inv h)).trans ((hf _).trans (mv_bin w mk hf k _ _))
   ·exact Mv.refl _ _
theorem mv_sum {f:PS→ET×PS}(hf:∀s,Mv tk s (f s).2):∀(k:Nat) (a:ET) (s:PS),Mv tk s (psum tk f k a s).2
 | 0,_,_=>Mv.refl _ _
 | k+1,a,s=>by
   unfold psum
   split
   ·next h=>exact(mv_go (pis_inv h)).trans ((hf _).trans (mv_sum hf k _ _))
   ·exact Mv.refl _ _
theorem mv_expr {f:PS→ET×PS}(hf:∀s,Mv tk s (f s).2)(s:PS):Mv tk s (pexpr tk f s).2:=by
 unfold pexpr
 try dsimp only
 exact(hf s).trans (mv_sum hf _ _ _)
theorem mv_times {f:PS→ET×PS}(hf:∀s,Mv tk s (f s).2)(sg:Int)(s:PS):Mv tk s (ptimes tk en f sg s).2:=by
 unfold ptimes
 split
 ·next h=>exact mv_deep (pkd_inv (by rw[h.1];decide)).1 ((mv_num _).trans ((mv_m1 _ _).trans (hf _)))
 ·exact mv_num _
theorem mv_prod:∀(n:Nat) (s:PS),Mv tk s (pprod tk en n s).2
 | 0,_=>Mv.refl _ _
 | n+1,s=>by
   unfold pprod
   split
   ·next h=>exact(mv_go (pis_inv h)).trans (mv_times (mv_prod n) _ _)
   ·split
    ·exact mv_times (mv_prod n) _ _
    ·split
     ·exact mv_of (by decide) _
     ·exact mv_within _ _ _ (mv_expr (mv_prod n)) _
theorem mv_ex (s:PS):Mv tk s (pex tk en s).2:=by
 unfold pex
 try dsimp only
 exact mv_expr (mv_prod _) s
theorem mv_exprs (ends:List ByteArray)(s:PS):Mv tk s (pexprs tk en ends s).2:=by
 unfold pexprs
 try dsimp only
 exact mv_row _ mv_ex s
theorem mv_cmp (s:PS):Mv tk s (pcmp tk en s).2:=by
 unfold pcmp
 try dsimp only
 exact(mv_ex _).trans ((mv_must _ _).trans (mv_ex _))
theorem mv_all {f:PS→CT×PS}(hf:∀s,Mv tk s (f s).2)(s:PS):Mv tk s (pall tk f s).2:=by
 unfold pall
 try dsimp only
 exact(hf s).trans (mv_bin _ _ hf _ _ _)
theorem mv_cnd {f:PS→CT×PS}(hf:∀s,Mv tk s (f s).2)(s:PS):Mv tk s (pcnd tk f s).2:=by
 unfold pcnd
 try dsimp only
 exact(mv_all hf s).trans (mv_bin _ _ (mv_all hf) _ _ _)
theorem ne_empty {x y:ByteArray}(h:x=y)(hy:y≠(⟨#[]⟩:ByteArray)):x≠(⟨#[]⟩:ByteArray):=by rw[h];exact hy
theorem mv_one:∀(n:Nat) (s:PS),Mv tk s (pone tk en n s).2
 | 0,_=>Mv.refl _ _
 | n+1,s=>by
   unfold pone
   split
   ·next h=>exact mv_deep (ptx_inv (ne_empty h (by decide))).1 ((mv_m1 _ _).trans (mv_one n _))
   ·repeat' split
    ·exact mv_within _ _ _ (mv_cnd (mv_one n)) _
    ·exact mv_m1 _ _
    ·exact mv_m1 _ _
    ·exact mv_cmp _
theorem mv_co (s:PS):Mv tk s (pco tk en s).2:=by
 unfold pco
 try dsimp only
 exact mv_cnd (mv_one _) s
theorem mv_share (s:PS):Mv tk s (pshare tk en s).2:=by
 unfold pshare
 try dsimp only
 exact(mv_m1 _ _).trans ((mv_ex _).trans ((mv_m1 _ _).trans ((mv_of (by decide) _).trans ((mv_m1 _ _).trans (mv_num _)))))
theorem mv_acc (s:PS):Mv tk s (pacc tk en s).2:=by
 unfold pacc
 try dsimp only
 exact(mv_m1 _ _).trans ((mv_share _).trans (mv_m1 _ _))
theorem mv_pts (s:PS):Mv tk s (ppts tk en s).2:=by
 unfold ppts
 try dsimp only
 exact(mv_m1 _ _).trans ((mv_share _).trans ((mv_m1 _ _).trans ((mv_ex _).trans (mv_m1 _ _))))
theorem mv_pure (s:PS):Mv tk s (ppure tk en s).2:=by
 unfold ppure
 try dsimp only
 exact mv_within _ _ _ mv_co _
theorem mv_assn {f:PS→AT×PS}(hf:∀s,Mv tk s (f s).2)(s:PS):Mv tk s (passn tk f s).2:=by
 unfold passn
 try dsimp only
 exact(hf s).trans (mv_bin _ _ hf _ _ _)
theorem mv_braced {f:PS→AT×PS}(hf:∀s,Mv tk s (f s).2)(s:PS):Mv tk s (pbraced tk en f s).2:=by
 unfold pbraced
 try dsimp only
 exact mv_within _ _ _ (mv_assn hf) _
theorem mv_ifA {f:PS→AT×PS}(hf:∀s,Mv tk s (f s).2)(s:PS):Mv tk s (pifA tk en f s).2:=by
 unfold pifA
 try dsimp only
 exact(mv_m1 _ _).trans ((mv_co _).trans ((mv_braced hf _).trans ((mv_m1 _ _).trans (mv_braced hf _))))
theorem mv_item:∀(n:Nat) (s:PS),Mv tk s (pitem tk en n s).2
 | 0,_=>Mv.refl _ _
 | n+1,s=>by
   unfold pitem
   repeat' split
   ·exact mv_pure _
   ·exact mv_acc _
   ·exact mv_pts _
   ·exact mv_ifA (mv_item n) _
   ·exact mv_within _ _ _ (mv_assn (mv_item n)) _
   ·exact mv_m1 _ _
theorem mv_as (s:PS):Mv tk s (pas tk en s).2:=by
 unfold pas
 try dsimp only
 exact mv_assn (mv_item _) s
theorem mv_cell (p:SP)(s:PS):Mv tk s (pcell tk en p s).2:=by
 unfold pcell
 try dsimp only
 exact(mv_ex _).trans ((mv_m1 _ _).trans (mv_of (by decide) _))
theorem mv_call (p:SP)(s:PS):Mv tk s (pcall tk en p s).2:=by
 unfold pcall
 try dsimp only
 exact(mv_m1 _ _).trans ((mv_of (by decide) _).trans ((mv_m1 _ _).trans ((mv_exprs _ _).trans ((mv_m1 _ _).trans ((mv_exprs _ _).trans (mv_m1 _ _))))))
theorem mv_what (p:SP)(s:PS):Mv tk s (pwhat tk en p s).2:=by
 unfold pwhat
 repeat' split
 ·exact(mv_m1 _ _).trans (mv_cell _ _)
 ·exact(mv_m1 _ _).trans ((mv_m1 _ _).trans ((mv_names _ _).trans (mv_m1 _ _)))
 ·exact mv_call _ _
 ·exact mv_ex _
theorem mv_simple (s:PS):Mv tk s (psimple tk en s).2:=by
 unfold psimple
 by_cases h1:ptx tk s 0=(⟨#[112,117,116]⟩:ByteArray)
 ·simp only[if_pos h1]
  exact(mv_m1 _ _).trans ((mv_cell _ _).trans ((mv_m1 _ _).trans (mv_ex _)))
 ·simp only[if_neg h1]
  by_cases h2:ptx tk s 0=(⟨#[102,114,101,101]⟩:ByteArray)
  ·simp only[if_pos h2]
   exact(mv_m1 _ _).trans (mv_cell _ _)
  ·simp only[if_neg h2]
   by_cases h3:ptx tk s 0=(⟨#[97,115,115,101,114,116]⟩:ByteArray)
   ·simp only[if_pos h3]
    exact(mv_m1 _ _).trans (mv_co _)
   ·simp only[if_neg h3]
    by_cases h4:ptx tk s 0=(⟨#[99,97,108,108]⟩:ByteArray)
    ·simp only[if_pos h4]
     exact mv_call _ _
    ·simp only[if_neg h4]
     by_cases h5:ptx tk s 0=(⟨#[115,107,105,112]⟩:ByteArray)
     ·simp only[if_pos h5]
      exact mv_m1 _ _
     ·simp only[if_neg h5]
      exact(mv_of (by decide) _).trans ((mv_m1 _ _).trans (mv_what _ _))
theorem mv_stmts {f:PS→ST×PS}(hf:∀s,Mv tk s (f s).2):∀(k:Nat) (l:List ST) (s:PS),Mv tk s (pstmts tk f k l s).2
 | 0,_,_=>Mv.refl _ _
 | k+1,l,s=>by
   unfold pstmts
   split
   ·exact(hf _).trans (mv_stmts hf k _ _)
   ·exact Mv.refl _ _
theorem mv_block {f:PS→ST×PS}(hf:∀s,Mv tk s (f s).2)(s:PS):Mv tk s (pblock tk en f s).2:=by
 unfold pblock
 try dsimp only
 exact mv_within _ _ _ (mv_stmts hf _ _) _
theorem mv_branch {f:PS→ST×PS}(hf:∀s,Mv tk s (f s).2)(s:PS):Mv tk s (pbranch tk en f s).2:=by
 unfold pbranch
 try dsimp only
 exact(mv_m1 _ _).trans ((mv_co _).trans ((mv_block hf _).trans ((mv_m1 _ _).trans (mv_block hf _))))
theorem mv_loop {f:PS→ST×PS}(hf:∀s,Mv tk s (f s).2)(s:PS):Mv tk s (ploop tk en f s).2:=by
 unfold ploop
 try dsimp only
 exact(mv_m1 _ _).trans ((mv_co _).trans ((mv_m1 _ _).trans ((mv_as _).trans (mv_block hf _))))
theorem mv_stmt:∀(n:Nat) (s:PS),Mv tk s (pstmt tk en n s).2
 | 0,_=>Mv.refl _ _
 | n+1,s=>by
   unfold pstmt
   repeat' split
   ·exact mv_branch (mv_stmt n) _
   ·exact mv_loop (mv_stmt n) _
   ·exact(mv_simple _).trans (mv_m1 _ _)
theorem mv_bl (s:PS):Mv tk s (pbl tk en s).2:=by
 unfold pbl
 try dsimp only
 exact mv_block (mv_stmt _) s
theorem mv_proc (s:PS):Mv tk s (pproc tk en s).2:=by
 unfold pproc
 try dsimp only
 exact(mv_m1 _ _).trans ((mv_of (by decide) _).trans ((mv_m1 _ _).trans ((mv_names _ _).trans ((mv_m1 _ _).trans ((mv_names _ _).trans ((mv_m1 _ _).trans ((mv_m1 _ _).trans ((mv_as _).trans ((mv_m1 _ _).trans ((mv_as _).trans (mv_bl _)))))))))))
theorem m1_lt {w:ByteArray}{s:PS}(h:(pm1 tk en w s).er=none):s.nx<(pm1 tk en w s).nx:=by
 unfold pm1 pmust at h⊢
 split
 ·exact Nat.lt_succ_self _
 ·next h2=>rw[if_neg h2]at h;exact absurd h (pfail_er _ _)
theorem of_lt {k:Int}{s:PS}(h:(pof tk en k s).2.er=none):s.nx<(pof tk en k s).2.nx:=by
 unfold pof at h⊢
 split
 ·exact Nat.lt_succ_self _
 ·next h2=>rw[if_neg h2]at h;exact absurd h (pfail_er _ _)
theorem lt_then {a b c:PS}(h1:b.er=none→a.nx<b.nx)(h2:Mv tk b c)(h:c.er=none):a.nx<c.nx:=Nat.lt_of_lt_of_le (h1 (h2.none h)) h2.nx
theorem call_lt {p:SP}{s:PS}(h:(pcall tk en p s).2.er=none):s.nx<(pcall tk en p s).2.nx:=by
 unfold pcall at h⊢
 try dsimp only at h⊢
 exact lt_then m1_lt ((mv_of (by decide) _).trans ((mv_m1 _ _).trans ((mv_exprs _ _).trans ((mv_m1 _ _).trans ((mv_exprs _ _).trans (mv_m1 _ _)))))) h
theorem simple_lt {s:PS}(h:(psimple tk en s).2.er=none):s.nx<(psimple tk en s).2.nx:=by
 unfold psimple at h⊢
 by_cases h1:ptx tk s 0=(⟨#[112,117,116]⟩:ByteArray)
 ·simp only[if_pos h1]at h⊢
  exact lt_then m1_lt ((mv_cell _ _).trans ((mv_m1 _ _).trans (mv_ex _))) h
 ·simp only[if_neg h1]at h⊢
  by_cases h2:ptx tk s 0=(⟨#[102,114,101,101]⟩:ByteArray)
  ·simp only[if_pos h2]at h⊢
   exact lt_then m1_lt (mv_cell _ _) h
  ·simp only[if_neg h2]at h⊢
   by_cases h3:ptx tk s 0=(⟨#[97,115,115,101,114,116]⟩:ByteArray)
   ·simp only[if_pos h3]at h⊢
    exact lt_then m1_lt (mv_co _) h
   ·simp only[if_neg h3]at h⊢
    by_cases h4:ptx tk s 0=(⟨#[99,97,108,108]⟩:ByteArray)
    ·simp only[if_pos h4]at h⊢
     exact call_lt h
    ·simp only[if_neg h4]at h⊢
     by_cases h5:ptx tk s 0=(⟨#[115,107,105,112]⟩:ByteArray)
     ·simp only[if_pos h5]at h⊢
      exact m1_lt h
     ·simp only[if_neg h5]at h⊢
      exact lt_then of_lt ((mv_m1 _ _).trans (mv_what _ _)) h
theorem stmt_lt {n:Nat}{s:PS}(h:(pstmt tk en (n+1) s).2.er=none):s.nx<(pstmt tk en (n+1) s).2.nx:=by
 unfold pstmt at h⊢
 by_cases h1:ptx tk s 0=(⟨#[105,102]⟩:ByteArray)
 ·simp only[if_pos h1]at h⊢
  unfold pbranch at h⊢
  try dsimp only at h⊢
  exact lt_then m1_lt ((mv_co _).trans ((mv_block (mv_stmt n) _).trans ((mv_m1 _ _).trans (mv_block (mv_stmt n) _)))) h
 ·simp only[if_neg h1]at h⊢
  by_cases h2:ptx tk s 0=(⟨#[119,104,105,108,101]⟩:ByteArray)
  ·simp only[if_pos h2]at h⊢
   unfold ploop at h⊢
   try dsimp only at h⊢
   exact lt_then m1_lt ((mv_co _).trans ((mv_m1 _ _).trans ((mv_as _).trans (mv_block (mv_stmt n) _)))) h
  ·simp only[if_neg h2]at h⊢
   exact lt_then simple_lt (mv_m1 _ _) h
theorem proc_lt {s:PS}(h:(pproc tk en s).2.er=none):s.nx<(pproc tk en s).2.nx:=by
 unfold pproc at h⊢
 try dsimp only at h⊢
 exact lt_then m1_lt ((mv_of (by decide) _).trans ((mv_m1 _ _).trans ((mv_names _ _).trans ((mv_m1 _ _).trans ((mv_names _ _).trans ((mv_m1 _ _).trans ((mv_m1 _ _).trans ((mv_as _).trans ((mv_m1 _ _).trans ((mv_as _).trans (mv_bl _))))))))))) h
def Fu (n:Nat)(s:PS):Prop:=(s.er≠none∧1≤n)∨52≤(n:Int)+s.ne
theorem Fu.mv {n:Nat}{s s':PS}(h:Fu n s)(hi:PIn tk s)(k:Mv tk s s'):Fu n s':=by
 have k3:=k.ne
 rcases h with ⟨h1,h2⟩ | h
 ·exact .inl ⟨by rw[(k.er h1).1];exact h1,h2⟩
 ·exact .inr (by omega)
theorem Fu.top {s:PS}(hi:PIn tk s):Fu 53 s:= .inr (by have:=hi.lo;omega)
theorem Fu.pos {n:Nat}{s:PS}(h:Fu n s)(hi:PIn tk s):∃k,n=k+1:=by
 have:=hi.hi
 exact⟨n - 1,by rcases h with ⟨_,h⟩ | h<;>omega⟩
theorem Fu.deep {n:Nat}{s:PS}(h:Fu (n+1) s)(hi:PIn tk s)(h0:s.er=none):Fu n (penter tk en s)∧PIn tk (penter tk en s):=by
 have h2:52≤(n+1:Nat)+s.ne:=by
  rcases h with ⟨h1,_⟩ | h
  ·exact absurd h0 h1
  ·exact h
 have h3:=hi.ok h0
 have h4:=hi.lo
 unfold penter
 by_cases h50:50≤s.ne
 ·rw[if_pos h50]
  have hn:(pfail tk en 4 s).ne=s.ne∧(pfail tk en 4 s).nx=s.nx:=by unfold pfail;rw[if_pos h0];exact⟨rfl,rfl⟩
  exact⟨.inl ⟨pfail_er 4 s,by omega⟩,⟨by show 0≤(pfail tk en 4 s).ne+1;omega,by show(pfail tk en 4 s).ne+1≤51;omega,by show(pfail tk en 4 s).nx≤_;rw[hn.2];exact hi.nx,fun e=>absurd e (pfail_er 4 s)⟩⟩
 ·rw[if_neg h50]
  exact⟨.inr (by show(52:Int)≤(n:Int)+(s.ne+1);omega),⟨by show 0≤s.ne+1;omega,by show s.ne+1≤51;omega,hi.nx,fun _=>by show s.ne+1≤50;omega⟩⟩
end
end
section
open Go.RowKit
structure Hi (B:Nat)(w w':World):Prop where
 size:w.heap.size≤w'.heap.size
 block:∀q,B≤q→q<w.heap.size→w'.heap[q]? =w.heap[q]?
structure KeptG (g:Nat)(w w':World):Prop where
 os:w'.os=w.os
 tape:w'.tape=w.tape
 output:w'.output=w.output
 size:w.heap.size≤w'.heap.size
 block:∀q,q<w.heap.size→q≠g→w'.heap[q]? =w.heap[q]?
theorem KeptG.refl (g:Nat)(w:World):KeptG g w w:=⟨rfl,rfl,rfl,Nat.le_refl _,fun _ _ _=>rfl⟩
theorem KeptG.trans {g:Nat}{a b c:World}(h:KeptG g a b)(k:KeptG g b c):KeptG g a c:=
 ⟨k.os.trans h.os,k.tape.trans h.tape,k.output.trans h.output,Nat.le_trans h.size k.size,fun q h1 h2=>(k.block q (Nat.lt_of_lt_of_le h1 h.size) h2).trans (h.block q h1 h2)⟩
theorem KeptG.of_below {g:Nat}{w w':World}(hb:Below w.heap.size w w'):KeptG g w w':=⟨hb.os,hb.tape,hb.output,hb.size,fun q hq _=>hb.block q hq⟩
theorem KeptG.alloc (g:Nat)(w:World)(o:Obj):KeptG g w (w.alloc o):=KeptG.of_below ((Below.refl _ _).alloc (Nat.le_refl _) _)
theorem KeptG.drew (g:Nat)(w:World):KeptG g w w.drew:=KeptG.of_below ⟨rfl,rfl,rfl,Nat.le_refl _,fun _ _=>rfl⟩
theorem KeptG.set {g j:Nat}{w:World}{v:Value}:KeptG g w (w.setCell ⟨g,j,none⟩ v):=⟨rfl,rfl,rfl,by simp[World.setCell],fun q _ h2=>Below.heap_setCell _ _ _ _ h2⟩
theorem KeptG.below {g B:Nat}{w w':World}(h:KeptG g w w')(hB:B≤g)(hs:B≤w.heap.size):Below B w w':=⟨h.os,h.tape,h.output,h.size,fun q hq=>h.block q (by omega) (by omega)⟩
theorem KeptG.hi {g B:Nat}{w w':World}(h:KeptG g w w')(hg:g<B):Hi B w w':=⟨h.size,fun q h1 h2=>h.block q h2 (by omega)⟩
theorem KeptG.cell {g h:Nat}{a b:World}(k:KeptG g a b)(hl:h<a.heap.size)(hn:h≠g)(j:Nat):b.cell? ⟨h,j,none⟩=a.cell? ⟨h,j,none⟩:=World.cell?_of_block (k.block h hl hn)
theorem KeptG.frozen {g h:Nat}{a b:World}(k:KeptG g a b)(hl:h<a.heap.size)(hn:h≠g)(j:Nat):b.frozen? ⟨h,j,none⟩=a.frozen? ⟨h,j,none⟩:=World.frozen?_of_block (k.block h hl hn)
structure KeptH (g h:Nat)(w w':World):Prop where
 os:w'.os=w.os
 tape:w'.tape=w.tape
 output:w'.output=w.output
 size:w.heap.size≤w'.heap.size
 block:∀q,q<w.heap.size→q≠g→q≠h→w'.heap[q]? =w.heap[q]?
theorem KeptG.kh {g:Nat}{w w':World}(k:KeptG g w w')(h:Nat):KeptH g h w w':=⟨k.os,k.tape,k.output,k.size,fun q h1 h2 _=>k.block q h1 h2⟩
theorem KeptH.trans {g h:Nat}{a b c:World}(k:KeptH g h a b)(l:KeptH g h b c):KeptH g h a c:=
 ⟨l.os.trans k.os,l.tape.trans k.tape,l.output.trans k.output,Nat.le_trans k.size l.size,fun q h1 h2 h3=>(l.block q (Nat.lt_of_lt_of_le h1 k.size) h2 h3).trans (k.block q h1 h2 h3)⟩
theorem KeptH.kg {g h:Nat}{a b c:World}(k:KeptG g a b)(l:KeptH g h b c)(hh:a.heap.size≤h):KeptG g a c:=
 ⟨l.os.trans k.os,l.tape.trans k.tape,l.output.trans k.output,Nat.le_trans k.size l.size,fun q h1 h2=>(l.block q (Nat.lt_of_lt_of_le h1 k.size) h2 (by omega)).trans (k.block q h1 h2)⟩
structure Far (h:Nat)(w w':World):Prop where
 os:w'.os=w.os
 tape:w'.tape=w.tape
 output:w'.output=w.output
 size:w'.heap.size=w.heap.size
 block:∀q,q≠h→w'.heap[q]? =w.heap[q]?
theorem Far.refl (h:Nat)(w:World):Far h w w:=⟨rfl,rfl,rfl,rfl,fun _ _=>rfl⟩
theorem Far.set {h j:Nat}{w w':World}(k:Far h w w')(v:Value):Far h w (w'.setCell ⟨h,j,none⟩ v):=
 ⟨k.os,k.tape,k.output,by simpa [World.setCell]using k.size,fun q hq=>(Below.heap_setCell _ _ _ _ hq).trans (k.block q hq)⟩
theorem Far.sets {h:Nat}:∀(vs:List Value) (o:Nat) {w w':World},Far h w w'→Far h w (w'.setCells h o vs)
 | [],_,_,_,k=>k
 | v :: r,o,w,w',k=>by
   rw[World.setCells]
   exact Far.sets r (o+1) (k.set v)
theorem Far.kh {g h:Nat}{w w':World}(k:Far h w w'):KeptH g h w w':=⟨k.os,k.tape,k.output,Nat.le_of_eq k.size.symm,fun q _ _ h3=>k.block q h3⟩
theorem Far.hi {h B:Nat}{w w':World}(k:Far h w w')(hB:h<B):Hi B w w':=⟨Nat.le_of_eq k.size.symm,fun q h1 _=>k.block q (by omega)⟩
theorem KeptG.far {g h:Nat}{a b c:World}(k:KeptG g a b)(f:Far h b c)(hh:a.heap.size≤h):KeptG g a c:=
 ⟨f.os.trans k.os,f.tape.trans k.tape,f.output.trans k.output,by rw[f.size];exact k.size,fun q h1 h2=>(f.block q (by omega)).trans (k.block q h1 h2)⟩
structure Stored (h o:Nat)(cs:List Value)(w w':World):Prop where
 far:Far h w w'
 at':w'.rangeAt h o cs
 other:∀o',o'<o∨o+cs.length≤o'→w'.cell? ⟨h,o',none⟩=w.cell? ⟨h,o',none⟩
 fr:∀j,w'.frozen? ⟨h,j,none⟩=w.frozen? ⟨h,j,none⟩
theorem stored_sets {h o:Nat}{cs:List Value}{w:World}(ht:w.there h o cs.length):Stored h o cs w (w.setCells h o cs):=
 ⟨Far.sets cs o (Far.refl _ _),World.rangeAt_setCells_same w h o cs ht,fun o' ho=>World.cell?_setCells_out h cs o w ⟨h,o',none⟩ (fun _ _=>by
   rcases ho with ho | ho
   ·left;exact ho
   ·right;exact ho),fun j=>World.frozen?_setCells _ _ _ _ _⟩
section
variable {P:Program}
theorem gateS {ops:Array Oper}{rest:List Oper}{o:Oper}{a:Act}{w:World}{Q:Exit→Act→World→Prop}(ty:TypeId)(x:Tmp){y:Operand}(ho:o.op= .store ty (.tmp x) y)(h:wpList P ops Q (o :: rest) a w):wpList P ops Q (o :: rest) a w:=h
theorem gateL {ops:Array Oper}{rest:List Oper}{o:Oper}{a:Act}{w:World}{Q:Exit→Act→World→Prop}(ty:TypeId)(x:Tmp)(ho:o.op= .load ty (.tmp x))(h:wpList P ops Q (o :: rest) a w):wpList P ops Q (o :: rest) a w:=h
theorem wpList_store_there {ops:Array Oper}{rest:List Oper}{o:Oper}{a:Act}{w:World}{Q:Exit→Act→World→Prop}(hgd:o.guard=none)(ty:TypeId)(x y:Operand)(ho:o.op= .store ty x y)
 (b j:Nat) (hx:a.eval x= .pointer (some ⟨b,j,none⟩)) (cs:List Value) (hy:a.eval y= .agg cs.toArray) (hi:(P.info? ty).map (·.size)=some cs.length) (h1:∀u∈cs,u.oneCell'=true) (ht:w.there b j cs.length)
 (h:∀w',Stored b j cs w w'→wpList P ops Q rest (a.put o.dst undef) w'):wpList P ops Q (o :: rest) a w:=
 wpList_store_mid hgd ty x y ho b j cs.toArray hx hy (by simpa using ht) (by simpa using hi) (all_oneCell_toArray h1) (h _ (by
  rw[List.toList_toArray];exact stored_sets ht))
end
structure PC where
 g:Nat
 a:Option Addr
 cap:Nat
 tk:List Tok
 en:Nat
def ErV (g:Nat)(er:Option (Int×Int))(v:Value)(w:World):Prop:=match er with
 | none=>v= .nilIface
 | some (c,a)=>∃b,v= .iface 87 (.pointer (some ⟨b,0,none⟩))∧g<b∧b<w.heap.size∧w.cell? ⟨b,0,none⟩=some (.int .i64 a)∧w.cell? ⟨b,1,none⟩=some (.iface 50 (.int .i64 c))
structure PSt (C:PC)(s:PS)(w:World):Prop where
 c0:w.cell? ⟨C.g,0,none⟩=some (.slice C.a C.tk.length C.cap)
 c1:w.cell? ⟨C.g,1,none⟩=some (.int .i64 C.en)
 c2:w.cell? ⟨C.g,2,none⟩=some (.int .i64 s.nx)
 c3:w.cell? ⟨C.g,3,none⟩=some (.int .i64 s.ne)
 c4:∃v,w.cell? ⟨C.g,4,none⟩=some v∧ErV C.g s.er v w
 fr:∀j,w.frozen? ⟨C.g,j,none⟩=false
 tl:TLies C.g w C.a C.tk
 len:C.tk.length≤65536∧C.en≤65536
 inv:PIn C.tk s
 small:∀t∈C.tk,t.text.size≤65536∧(t.kind=3→valD t.text.data.toList 0≤1073741824∧allD t.text.data.toList∧t.text.data.toList≠[])
 laid:Laid w
 g5:5<C.g
theorem PSt.lt {C:PC}{s:PS}{w:World}(h:PSt C s w):C.g<w.heap.size:=block_lt_of_cell (a:=⟨C.g,0,none⟩) h.c0
end
section
open Go.RowKit
theorem ErV.below {g:Nat}{er:Option (Int×Int)}{v:Value}{w w':World}(h:ErV g er v w)(hb:Below w.heap.size w w'):ErV g er v w':=by
 cases er with
 | none=>exact h
 | some p=>
   obtain⟨c,a⟩:=p
   obtain⟨b,e,h1,h2,h3,h4⟩:=h
   exact⟨b,e,h1,Nat.lt_of_lt_of_le h2 hb.size,(hb.cell (p:=⟨b,0,none⟩) h2).trans h3,(hb.cell (p:=⟨b,1,none⟩) h2).trans h4⟩
theorem ErV.far {g h:Nat}{er:Option (Int×Int)}{v:Value}{w w':World}(k:ErV g er v w)(f:Far h w w')(hz:∀t u,w.cell? ⟨h,1,none⟩≠some (.iface t u)):ErV g er v w':=by
 cases er with
 | none=>exact k
 | some p=>
   obtain⟨c,a⟩:=p
   obtain⟨b,e,h1,h2,h3,h4⟩:=k
   have hn:b≠h:=fun e=>by subst e;exact hz _ _ h4
   exact⟨b,e,h1,by rw[f.size];exact h2,(World.cell?_of_block (f.block b hn)).trans h3,(World.cell?_of_block (f.block b hn)).trans h4⟩
theorem ErV.self {g j:Nat}{er:Option (Int×Int)}{v u:Value}{w:World}(k:ErV g er v w):ErV g er v (w.setCell ⟨g,j,none⟩ u):=by
 cases er with
 | none=>exact k
 | some p=>
   obtain⟨c,a⟩:=p
   obtain⟨b,e,h1,h2,h3,h4⟩:=k
   exact⟨b,e,h1,by simpa [World.setCell]using h2,(World.cell?_of_block (Below.heap_setCell _ _ _ _ (by show b≠g;omega))).trans h3,(World.cell?_of_block (Below.heap_setCell _ _ _ _ (by show b≠g;omega))).trans h4⟩
theorem ErV.is {g:Nat}{er:Option (Int×Int)}{v:Value}{w:World}(k:ErV g er v w):(er=none∧v= .nilIface)∨(er≠none∧∃b:Nat,v= .iface 87 (.pointer (some ⟨b,0,none⟩))):=by
 cases er with
 | none=>exact .inl ⟨rfl,k⟩
 | some p=>
   obtain⟨c,a⟩:=p
   obtain⟨b,e,_⟩:=k
   exact .inr ⟨(fun e=>by cases e),b,e⟩
theorem PSt.up {C:PC}{s:PS}{w w':World}(h:PSt C s w)(hb:Below w.heap.size w w'):PSt C s w':=by
 have hg:=h.lt
 obtain⟨v,c4,hv⟩:=h.c4
 exact⟨(hb.cell (p:=⟨C.g,0,none⟩) hg).trans h.c0,(hb.cell (p:=⟨C.g,1,none⟩) hg).trans h.c1,(hb.cell (p:=⟨C.g,2,none⟩) hg).trans h.c2,(hb.cell (p:=⟨C.g,3,none⟩) hg).trans h.c3,⟨v,(hb.cell (p:=⟨C.g,4,none⟩) hg).trans c4,hv.below hb⟩,fun j=>(hb.frozen (p:=⟨C.g,j,none⟩) hg).trans (h.fr j),h.tl.below (hb.mono (Nat.le_of_lt hg)),h.len,h.inv,h.small,h.laid.up hb,h.g5⟩
theorem PSt.alloc {C:PC}{s:PS}{w:World}(h:PSt C s w)(o:Obj):PSt C s (w.alloc o):=h.up ((Below.refl _ _).alloc (Nat.le_refl _) _)
theorem PSt.far {C:PC}{s:PS}{h:Nat}{w w':World}(k:PSt C s w)(f:Far h w w')(hg:C.g<h)(hz:∀t u,w.cell? ⟨h,1,none⟩≠some (.iface t u))(hl:5<C.g):PSt C s w':=by
 have hb:Below h w w':=⟨f.os,f.tape,f.output,Nat.le_of_eq f.size.symm,fun q hq=>f.block q (by omega)⟩
 obtain⟨v,c4,hv⟩:=k.c4
 exact⟨(hb.cell (p:=⟨C.g,0,none⟩) hg).trans k.c0,(hb.cell (p:=⟨C.g,1,none⟩) hg).trans k.c1,(hb.cell (p:=⟨C.g,2,none⟩) hg).trans k.c2,(hb.cell (p:=⟨C.g,3,none⟩) hg).trans k.c3,⟨v,(hb.cell (p:=⟨C.g,4,none⟩) hg).trans c4,hv.far f hz⟩,fun j=>(hb.frozen (p:=⟨C.g,j,none⟩) hg).trans (k.fr j),k.tl.below (hb.mono (Nat.le_of_lt hg)),k.len,k.inv,k.small,k.laid.below hb (by omega),k.g5⟩
theorem PSt.next {C:PC}{s s':PS}{w:World}(h:PSt C s w)(hs:s'.ne=s.ne∧s'.er=s.er)(hi:PIn C.tk s')(hl:5<C.g):PSt C s' (w.setCell ⟨C.g,2,none⟩ (.int .i64 s'.nx)):=by
 obtain⟨v,c4,hv⟩:=h.c4
 have hb:Below C.g w (w.setCell ⟨C.g,2,none⟩ (.int .i64 s'.nx)):=KeptG.below KeptG.set (Nat.le_refl _) (Nat.le_of_lt h.lt)
 have ho:∀j,j≠2→(w.setCell ⟨C.g,2,none⟩ (.int .i64 s'.nx)).cell? ⟨C.g,j,none⟩=w.cell? ⟨C.g,j,none⟩:=fun j hj=>World.cell?_setCell_other _ _ _ _ (fun e=>hj (by cases e;rfl))
 refine⟨(ho 0 (by decide)).trans h.c0,(ho 1 (by decide)).trans h.c1,World.cell?_setCell_same' _ _ _ (by rw[h.c2];rfl),(ho 3 (by decide)).trans (by rw[hs.1];exact h.c3),⟨v,(ho 4 (by decide)).trans c4,by rw[hs.2];exact hv.self⟩,fun j=>by rw[World.frozen?_setCell];exact h.fr j,h.tl.below hb,h.len,hi,h.small,h.laid.below hb hl,hl⟩
theorem PSt.nest {C:PC}{s s':PS}{w:World}(h:PSt C s w)(hs:s'.nx=s.nx∧s'.er=s.er)(hi:PIn C.tk s')(hl:5<C.g):PSt C s' (w.setCell ⟨C.g,3,none⟩ (.int .i64 s'.ne)):=by
 obtain⟨v,c4,hv⟩:=h.c4
 have hb:Below C.g w (w.setCell ⟨C.g,3,none⟩ (.int .i64 s'.ne)):=KeptG.below KeptG.set (Nat.le_refl _) (Nat.le_of_lt h.lt)
 have ho:∀j,j≠3→(w.setCell ⟨C.g,3,none⟩ (.int .i64 s'.ne)).cell? ⟨C.g,j,none⟩=w.cell? ⟨C.g,j,none⟩:=fun j hj=>World.cell?_setCell_other _ _ _ _ (fun e=>hj (by cases e;rfl))
 refine⟨(ho 0 (by decide)).trans h.c0,(ho 1 (by decide)).trans h.c1,(ho 2 (by decide)).trans (by rw[hs.1];exact h.c2),World.cell?_setCell_same' _ _ _ (by rw[h.c3];rfl),⟨v,(ho 4 (by decide)).trans c4,by rw[hs.2];exact hv.self⟩,fun j=>by rw[World.frozen?_setCell];exact h.fr j,h.tl.below hb,h.len,hi,h.small,h.laid.below hb hl,hl⟩
theorem PSt.amiss {C:PC}{s:PS}{w:World}(h:PSt C s w)(c a:Int)(h0:s.er=none)(hl:5<C.g):PSt C ⟨s.nx,s.ne,some (c,a)⟩ ((w.alloc (.cells #[.int .i64 a,.iface 50 (.int .i64 c)] 89)).setCell ⟨C.g,4,none⟩ (.iface 87 (.pointer (some ⟨w.heap.size,0,none⟩)))):=by
 have hA:Below w.heap.size w (w.alloc (.cells #[.int .i64 a,.iface 50 (.int .i64 c)] 89)):=(Below.refl _ _).alloc (Nat.le_refl _) _
 have hn:=heap_alloc_new w (.cells #[.int .i64 a,.iface 50 (.int .i64 c)] 89)
 have hg:=h.lt
 have h2:=h.up hA
 have hE:ErV C.g (some (c,a)) (.iface 87 (.pointer (some ⟨w.heap.size,0,none⟩))) (w.alloc (.cells #[.int .i64 a,.iface 50 (.int .i64 c)] 89)):=
  ⟨w.heap.size,rfl,hg,by simp,(cell_of_row _ _ _ _ _ _ hn).trans rfl,(cell_of_row _ _ _ _ _ _ hn).trans rfl⟩
 generalize w.alloc (.cells #[.int .i64 a,.iface 50 (.int .i64 c)] 89)=W at h2 hE
 obtain⟨v,c4,hv⟩:=h2.c4
 have hb:Below C.g W (W.setCell ⟨C.g,4,none⟩ (.iface 87 (.pointer (some ⟨w.heap.size,0,none⟩)))):=KeptG.below KeptG.set (Nat.le_refl _) (Nat.le_of_lt h2.lt)
 have ho:∀j,j≠4→(W.setCell ⟨C.g,4,none⟩ (.iface 87 (.pointer (some ⟨w.heap.size,0,none⟩)))).cell? ⟨C.g,j,none⟩=W.cell? ⟨C.g,j,none⟩:=fun j hj=>World.cell?_setCell_other _ _ _ _ (fun e=>hj (by cases e;rfl))
 exact⟨(ho 0 (by decide)).trans h2.c0,(ho 1 (by decide)).trans h2.c1,(ho 2 (by decide)).trans h2.c2,(ho 3 (by decide)).trans h2.c3,⟨_,World.cell?_setCell_same' _ _ _ (by rw[c4];rfl),hE.self⟩,fun j=>by rw[World.frozen?_setCell];exact h2.fr j,h2.tl.below hb,h2.len,⟨h2.inv.lo,h2.inv.hi,h2.inv.nx,fun e=>by cases e⟩,h2.small,h2.laid.below hb hl,hl⟩
def PE {α:Type}(V:World→World→Value→α→Prop)(f:PS→α×PS)(C:PC)(s:PS)(w:World)(e:Ending)(w':World):Prop:=
 ∃v,e= .returned v∧V w w' v (f s).1∧PSt C (f s).2 w'∧KeptG C.g w w'
def PU (f:PS→PS)(C:PC)(s:PS)(w:World)(e:Ending)(w':World):Prop:=e= .returned (.tuple #[])∧PSt C (f s) w'∧KeptG C.g w w'
def Vt (_ _:World)(v:Value)(x:ByteArray):Prop:=v= .string x
def Vi (_ _:World)(v:Value)(x:Int):Prop:=v= .int .i64 x
abbrev PC.p (C:PC):Value:= .pointer (some ⟨C.g,0,none⟩)
theorem tok_at {C:PC}{s:PS}{w:World}(h:PSt C s w){i:Nat}(hi:i<C.tk.length):∃b off,C.a=some ⟨b,off,none⟩∧w.cell? ⟨b,off+i*3,none⟩=some (.int .i64 (C.tk.getD i tok0).kind)∧w.cell? ⟨b,off+i*3+1,none⟩=some (.int .i64 ((C.tk.getD i tok0).at':Int))∧w.cell? ⟨b,off+i*3+2,none⟩=some (.string (C.tk.getD i tok0).text):=by
 obtain⟨b,off,e,_,h1,h2,h3⟩:=h.tl i hi
 exact⟨b,off,e,h1,h2,h3⟩
theorem text_any (C:PC)(s:PS)(k:Nat)(w:World)(h:PSt C s w)(hk:k≤1):
 Calls Tryz.prog 118 #[C.p,.int .i64 k] w fun e w'=>e= .returned (.string (ptx C.tk s k))∧Below w.heap.size w w':=by
 obtain⟨v,c4,hv⟩:=h.c4
 have c0:=h.c0
 have c2:=h.c2
 have hlen:=h.len.1
 have hnx:=h.inv.nx
 unfold PC.p
 rcases hv.is with ⟨he,rfl⟩ | ⟨he,b,rfl⟩
 ·by_cases hlt:s.nx+k<C.tk.length
  ·obtain⟨b,off,ha,_,_,t2⟩:=tok_at h hlt
   have e:ptx C.tk s k=(C.tk.getD (s.nx+k) tok0).text:=if_pos ⟨he,hlt⟩
   rw[e]
   generalize (C.tk.getD (s.nx+k) tok0).text=x at t2
   have hb1:decide ((s.nx:Int)+(k:Int) ≥ (C.tk.length:Int))=false:=decide_eq_false (by omega)
   have hb2:(0:Int)≤(s.nx:Int)+(k:Int)∧(s.nx:Int)+(k:Int)<(C.tk.length:Int):=by omega
   have hw:IntKind.i64.wrap ((s.nx:Int)+(k:Int))=((s.nx+k:Nat):Int):=by rw[IntWalk.i64_in _ (by omega)];omega
   rw[ha]at c0
   clear hv h ha
   generalize C.tk.length=L at*
   go_enter Tryz.func118,Tryz.ntmps118
   go_wp2_with fail
   go_quiet (fail)
   go_wp2_with fail
   go_quiet (fail)
   go_wp2_with fail
   go_ret
   exact⟨rfl,⟨rfl,rfl,rfl,Nat.le_refl _,fun _ _=>rfl⟩⟩
  ·have e:ptx C.tk s k=⟨#[]⟩:=if_neg fun h=>hlt h.2
   rw[e]
   have hb1:decide ((s.nx:Int)+(k:Int) ≥ (C.tk.length:Int))=true:=decide_eq_true (by omega)
   have hw:IntKind.i64.wrap ((s.nx:Int)+(k:Int))=((s.nx+k:Nat):Int):=by rw[IntWalk.i64_in _ (by omega)];omega
   clear hv h
   generalize C.tk.length=L at*
   go_enter Tryz.func118,Tryz.ntmps118
   go_wp2_with fail
   go_quiet (fail)
   go_wp2_with fail
   go_ret
   exact⟨rfl,⟨rfl,rfl,rfl,Nat.le_refl _,fun _ _=>rfl⟩⟩
 ·have e:ptx C.tk s k=⟨#[]⟩:=if_neg fun h=>he h.1
  rw[e]
  clear hv h
  go_enter Tryz.func118,Tryz.ntmps118
  go_wp2_with fail
  go_quiet (fail)
  go_wp2_with fail
  go_ret
  exact⟨rfl,⟨rfl,rfl,rfl,Nat.le_refl _,fun _ _=>rfl⟩⟩
end
section
open Go.RowKit
theorem kind_any (C:PC)(s:PS)(w:World)(h:PSt C s w):
 Calls Tryz.prog 169 #[C.p] w fun e w'=>e= .returned (.int .i64 (pkd C.tk s))∧Below w.heap.size w w':=by
 obtain⟨v,c4,hv⟩:=h.c4
 have c0:=h.c0
 have c2:=h.c2
 have hlen:=h.len.1
 have hnx:=h.inv.nx
 unfold PC.p
 rcases hv.is with ⟨he,rfl⟩ | ⟨he,b,rfl⟩
 ·by_cases hlt:s.nx<C.tk.length
  ·obtain⟨b,off,ha,t2,_,_⟩:=tok_at h hlt
   have e:pkd C.tk s=(C.tk.getD s.nx tok0).kind:=if_pos ⟨he,hlt⟩
   rw[e]
   generalize (C.tk.getD s.nx tok0).kind=x at t2
   have hb1:decide ((s.nx:Int) ≥ (C.tk.length:Int))=false:=decide_eq_false (by omega)
   have hb2:(0:Int)≤(s.nx:Int)∧(s.nx:Int)<(C.tk.length:Int):=by omega
   rw[ha]at c0
   clear hv h ha
   generalize C.tk.length=L at*
   go_enter Tryz.func169,Tryz.ntmps169
   go_wp2_with fail
   go_quiet (fail)
   go_wp2_with fail
   go_quiet (fail)
   go_wp2_with fail
   go_ret
   exact⟨rfl,⟨rfl,rfl,rfl,Nat.le_refl _,fun _ _=>rfl⟩⟩
  ·have e:pkd C.tk s=0:=if_neg fun h=>hlt h.2
   rw[e]
   have hb1:decide ((s.nx:Int) ≥ (C.tk.length:Int))=true:=decide_eq_true (by omega)
   clear hv h
   generalize C.tk.length=L at*
   go_enter Tryz.func169,Tryz.ntmps169
   go_wp2_with fail
   go_quiet (fail)
   go_wp2_with fail
   go_ret
   exact⟨rfl,⟨rfl,rfl,rfl,Nat.le_refl _,fun _ _=>rfl⟩⟩
 ·have e:pkd C.tk s=0:=if_neg fun h=>he h.1
  rw[e]
  clear hv h
  go_enter Tryz.func169,Tryz.ntmps169
  go_wp2_with fail
  go_quiet (fail)
  go_wp2_with fail
  go_ret
  exact⟨rfl,⟨rfl,rfl,rfl,Nat.le_refl _,fun _ _=>rfl⟩⟩
theorem fail_kept (C:PC){w W:World}(v x:Value)(cs:Array Value)(hb:Below w.heap.size w W):KeptG C.g w ((W.alloc (.cells cs 89)).setCell ⟨C.g,4,none⟩ x):=
 ((KeptG.of_below hb).trans (KeptG.alloc _ _ _)).trans KeptG.set
theorem fail_any (C:PC)(s:PS)(c:Int)(w:World)(h:PSt C s w)(hg:5<C.g):
 Calls Tryz.prog 117 #[C.p,.int .i64 c] w (PU (pfail C.tk C.en c) C s w):=by
 obtain⟨v,c4,hv⟩:=h.c4
 have f4:=h.fr 4
 have c0:=h.c0
 have c1:=h.c1
 have c2:=h.c2
 have hlen:=h.len.1
 have hnx:=h.inv.nx
 have hgl:=h.lt
 have HP:=Lib.hid h
 unfold PC.p
 by_cases hlt:s.nx<C.tk.length
 ·obtain⟨b,off,ha,_,t2,_⟩:=tok_at h hlt
  have hb1:((s.nx:Int)<(C.tk.length:Int)):=by omega
  have hb2:(0:Int)≤(s.nx:Int)∧(s.nx:Int)<(C.tk.length:Int):=by omega
  rw[ha]at c0
  rcases hv.is with ⟨he,rfl⟩ | ⟨he,b,rfl⟩
  ·have HE:Hid (∀W,Below w.heap.size w W→PU (pfail C.tk C.en c) C s w (.returned (.tuple #[])) ((W.alloc (.cells #[.int .i64 ((C.tk.getD s.nx tok0).at':Int),.iface 50 (.int .i64 c)] 89)).setCell ⟨C.g,4,none⟩ (.iface 87 (.pointer (some ⟨W.heap.size,0,none⟩))))):=fun W hb=>⟨rfl,by
    have e:pfail C.tk C.en c s=⟨s.nx,s.ne,some (c,((C.tk.getD s.nx tok0).at':Int))⟩:=by unfold pfail pat;rw[if_pos he,if_pos hlt]
    rw[e]
    exact(HP.out.up hb).amiss _ _ he hg,fail_kept C .nilIface _ _ hb⟩
   have c4a:∀(n:Nat) (o:Obj),((w.drewN n).alloc o).cell? ⟨C.g,4,none⟩=some .nilIface:=fun n o=>by rw[World.cell?_alloc_lt _ _ _ (show C.g<(w.drewN n).heap.size by simpa using hgl)];simpa using c4
   have f4a:∀(n:Nat) (o:Obj),((w.drewN n).alloc o).frozen? ⟨C.g,4,none⟩=false:=fun n o=>by rw[World.frozen?_alloc_past _ _ _ (show C.g<(w.drewN n).heap.size by simpa using hgl)];simpa using f4
   clear hv h ha HP
   generalize PU (pfail C.tk C.en c) C s w=Q at*
   generalize C.tk.length=L at*
   generalize (C.tk.getD s.nx tok0).at'=z at*
   go_enter Tryz.func117,Tryz.ntmps117
   go_wp2_with fail
   go_quiet (fail)
   go_wp2_with fail
   go_quiet (fail)
   go_wp2_with fail
   go_end0
   exact HE.out _ ⟨rfl,rfl,rfl,Nat.le_refl _,fun _ _=>rfl⟩
  ·have HE:Hid (∀W,Below w.heap.size w W→PU (pfail C.tk C.en c) C s w (.returned (.tuple #[])) W):=fun W hb=>⟨rfl,by
    have e:pfail C.tk C.en c s=s:=by unfold pfail;rw[if_neg he]
    rw[e]
    exact HP.out.up hb,KeptG.of_below hb⟩
   clear hv h ha HP
   generalize PU (pfail C.tk C.en c) C s w=Q at*
   generalize C.tk.length=L at*
   go_enter Tryz.func117,Tryz.ntmps117
   go_wp2_with fail
   go_quiet (fail)
   go_wp2_with fail
   go_quiet (fail)
   go_wp2_with fail
   go_end0
   exact HE.out _ ⟨rfl,rfl,rfl,Nat.le_refl _,fun _ _=>rfl⟩
 ·have hb1:¬((s.nx:Int)<(C.tk.length:Int)):=by omega
  have hb2:¬(s.nx<C.tk.length):=by omega
  rcases hv.is with ⟨he,rfl⟩ | ⟨he,b,rfl⟩
  ·have HE:Hid (∀W,Below w.heap.size w W→PU (pfail C.tk C.en c) C s w (.returned (.tuple #[])) ((W.alloc (.cells #[.int .i64 (C.en:Int),.iface 50 (.int .i64 c)] 89)).setCell ⟨C.g,4,none⟩ (.iface 87 (.pointer (some ⟨W.heap.size,0,none⟩))))):=fun W hb=>⟨rfl,by
    have e:pfail C.tk C.en c s=⟨s.nx,s.ne,some (c,(C.en:Int))⟩:=by unfold pfail pat;rw[if_pos he,if_neg hlt]
    rw[e]
    exact(HP.out.up hb).amiss _ _ he hg,fail_kept C .nilIface _ _ hb⟩
   have c4a:∀(n:Nat) (o:Obj),((w.drewN n).alloc o).cell? ⟨C.g,4,none⟩=some .nilIface:=fun n o=>by rw[World.cell?_alloc_lt _ _ _ (show C.g<(w.drewN n).heap.size by simpa using hgl)];simpa using c4
   have f4a:∀(n:Nat) (o:Obj),((w.drewN n).alloc o).frozen? ⟨C.g,4,none⟩=false:=fun n o=>by rw[World.frozen?_alloc_past _ _ _ (show C.g<(w.drewN n).heap.size by simpa using hgl)];simpa using f4
   clear hv h HP
   generalize PU (pfail C.tk C.en c) C s w=Q at*
   generalize C.tk.length=L at*
   go_enter Tryz.func117,Tryz.ntmps117
   go_wp2_with fail
   go_quiet (fail)
   go_wp2_with fail
   go_end0
   exact HE.out _ ⟨rfl,rfl,rfl,Nat.le_refl _,fun _ _=>rfl⟩
  ·have HE:Hid (∀W,Below w.heap.size w W→PU (pfail C.tk C.en c) C s w (.returned (.tuple #[])) W):=fun W hb=>⟨rfl,by
    have e:pfail C.tk C.en c s=s:=by unfold pfail;rw[if_neg he]
    rw[e]
    exact HP.out.up hb,KeptG.of_below hb⟩
   clear hv h HP
   generalize PU (pfail C.tk C.en c) C s w=Q at*
   generalize C.tk.length=L at*
   go_enter Tryz.func117,Tryz.ntmps117
   go_wp2_with fail
   go_quiet (fail)
   go_wp2_with fail
   go_end0
   exact HE.out _ ⟨rfl,rfl,rfl,Nat.le_refl _,fun _ _=>rfl⟩
end
section
open Go.RowKit
theorem text0_any (C:PC)(s:PS)(w:World)(h:PSt C s w):
 Calls Tryz.prog 118 #[C.p,.int .i64 0] w fun e w'=>e= .returned (.string (ptx C.tk s 0))∧Below w.heap.size w w':=text_any C s 0 w h (by omega)
theorem str_empty {x:ByteArray}(h:¬x=⟨#[]⟩):(x.toList == [])=false∧x.toList.isEmpty=false:=by
 have e:(⟨#[]⟩:ByteArray).toList=[]:=by rw[Lib.toList_data]
 have h1:=nbs_ne h
 rw[e]at h1
 refine⟨h1, ?_⟩
 cases hx:x.toList with
 | nil=>rw[hx]at h1;exact absurd h1 (by decide)
 | cons a l=>rfl
theorem str_empty0:((⟨#[]⟩:ByteArray).toList == [])=true∧(⟨#[]⟩:ByteArray).toList.isEmpty=true:=by
 have e:(⟨#[]⟩:ByteArray).toList=[]:=by rw[Lib.toList_data]
 rw[e];exact⟨rfl,rfl⟩
def Ws (ws:List ByteArray)(a:Option Addr)(m:Nat)(w:World):Prop:=ws.length=m∧Pak.Sits strSh (Pak.Lo w.heap.size) w a ws
theorem Ws.up {ws:List ByteArray}{a:Option Addr}{m:Nat}{w w':World}(h:Ws ws a m w)(hb:Below w.heap.size w w'):Ws ws a m w':=⟨h.1,h.2.below hb hb.size⟩
theorem is_any (C:PC)(s:PS)(ws:List ByteArray)(a:Option Addr)(m cap:Nat)(w:World)(h:PSt C s w)(hw:Ws ws a m w):
 Calls Tryz.prog 116 #[C.p,.slice a m cap] w fun e w'=>e= .returned (.bool (pis C.tk ws s))∧Below w.heap.size w w':=by
 have HT:=Lib.hid (text0_any C s w h)
 have HC:=Lib.hid (fun W (hb:Below w.heap.size w W)=>contains_any (ptx C.tk s 0) a m cap ws W hw.1 (hw.2.below hb hb.size))
 unfold pis
 generalize ptx C.tk s 0=x at*
 unfold PC.p at*
 clear h hw
 by_cases hx:x=⟨#[]⟩
 ·have e:(decide (x≠(⟨#[]⟩:ByteArray)) && hasW x ws)=false:=by simp[hx]
  rw[e]
  subst hx
  go_enter Tryz.func116,Tryz.ntmps116
  go_wp2_with fail
  refine HT.out.mono ?_
  rintro e w' ⟨rfl,hb⟩
  have HB:=Lib.hid hb
  clear hb HT HC
  go_wp2_with fail
  go_ret
  exact⟨rfl,HB.out⟩
 ·have e:(decide (x≠(⟨#[]⟩:ByteArray)) && hasW x ws)=hasW x ws:=by simp[hx]
  rw[e]
  obtain⟨e1,e2⟩:=str_empty hx
  generalize hasW x ws=y at HC
  go_enter Tryz.func116,Tryz.ntmps116
  go_wp2_with fail
  refine HT.out.mono ?_
  rintro e w' ⟨rfl,hb⟩
  have HB:=Lib.hid hb
  have HC2:=Lib.hid (HC.out w' hb)
  clear hb HT HC
  go_wp2_with fail
  refine HC2.out.mono ?_
  rintro e w2 ⟨rfl,hb2⟩
  have HB2:=Lib.hid (HB.out.trans (hb2.mono HB.out.size))
  clear hb2 HC2 HB
  go_wp2_with fail
  go_ret
  exact⟨rfl,HB2.out⟩
theorem pgo_in {tk:List Tok}{s:PS}(h:PIn tk s)(h2:s.nx<tk.length):PIn tk (pgo s):=⟨h.lo,h.hi,h2,h.ok⟩
theorem must_any (C:PC)(s:PS)(ws:List ByteArray)(a:Option Addr)(m cap:Nat)(w:World)(h:PSt C s w)(hw:Ws ws a m w):
 Calls Tryz.prog 54 #[C.p,.slice a m cap] w (PE Vt (pmust C.tk C.en ws) C s w):=by
 have HI:=Lib.hid (is_any C s ws a m cap w h hw)
 have HP:=Lib.hid h
 by_cases hp:pis C.tk ws s=true
 ·rw[hp]at HI
  obtain⟨h0,hn⟩:=pis_inv hp
  have e:pmust C.tk C.en ws s=(ptx C.tk s 0,pgo s):=by unfold pmust;rw[if_pos hp]
  have HE:Hid (∀W,Below w.heap.size w W→PE Vt (pmust C.tk C.en ws) C s w (.returned (.string (ptx C.tk s 0))) (W.setCell ⟨C.g,2,none⟩ (.int .i64 ((s.nx:Int)+1)))):=fun W hb=>⟨_,rfl,by rw[e];exact rfl,by
   rw[e]
   exact(HP.out.up hb).next (s':=pgo s) ⟨rfl,rfl⟩ (pgo_in HP.out.inv hn) HP.out.g5,(KeptG.of_below hb).trans KeptG.set⟩
  have HT:=Lib.hid (fun W (hb:Below w.heap.size w W)=>text0_any C s W (h.up hb))
  have F2:=Lib.hid (fun W (hb:Below w.heap.size w W)=>And.intro (h.up hb).c2 ((h.up hb).fr 2))
  have hnx:s.nx≤65536:=Nat.le_trans h.inv.nx h.len.1
  have hw:IntKind.i64.wrap ((s.nx:Int)+1)=(s.nx:Int)+1:=IntWalk.i64_in _ (by omega)
  generalize PE Vt (pmust C.tk C.en ws) C s w=Q at*
  generalize ptx C.tk s 0=x at*
  unfold PC.p at*
  clear h e HP hp
  go_enter Tryz.func54,Tryz.ntmps54
  go_wp2_with fail
  refine HI.out.mono ?_
  rintro e w1 ⟨rfl,hb⟩
  have HB:=Lib.hid hb
  have HT1:=Lib.hid (HT.out w1 hb)
  clear hb HT HI
  go_wp2_with fail
  refine HT1.out.mono ?_
  rintro e w2 ⟨rfl,hb⟩
  have HB2:=Lib.hid (HB.out.trans (hb.mono HB.out.size))
  obtain⟨c2,f2⟩:=F2.out w2 HB2.out
  clear hb HT1 HB F2
  go_wp2_with fail
  try go_ret
  exact HE.out w2 HB2.out
 ·have hp:=Bool.eq_false_iff.2 hp
  rw[hp]at HI
  have e:pmust C.tk C.en ws s=(⟨#[]⟩,pfail C.tk C.en 11 s):=by unfold pmust;rw[hp];rfl
  have HF:=Lib.hid (fun W (hb:Below w.heap.size w W)=>fail_any C s 11 W (h.up hb) h.g5)
  have HE:Hid (∀W e0 W',Below w.heap.size w W→PU (pfail C.tk C.en 11) C s W e0 W'→PE Vt (pmust C.tk C.en ws) C s w (.returned (.string ⟨#[]⟩)) W'):=fun W e0 W' hb hu=>⟨_,rfl,by rw[e];exact rfl,by
   rw[e]
   exact hu.2.1,(KeptG.of_below hb).trans hu.2.2⟩
  generalize PE Vt (pmust C.tk C.en ws) C s w=Q at*
  unfold PC.p at*
  clear h e HP hp
  go_enter Tryz.func54,Tryz.ntmps54
  go_wp2_with fail
  refine HI.out.mono ?_
  rintro e w1 ⟨rfl,hb⟩
  have HB:=Lib.hid hb
  have HT1:=Lib.hid (HF.out w1 hb)
  clear hb HF HI
  go_wp2_with fail
  refine HT1.out.mono ?_
  rintro e w2 hu
  obtain rfl:=hu.1
  have HE2:=Lib.hid (HE.out w1 _ w2 HB.out hu)
  clear hu HT1 HB HE
  go_wp2_with fail
  try go_ret
  exact HE2.out
theorem may_any (C:PC)(s:PS)(ws:List ByteArray)(a:Option Addr)(m cap:Nat)(w:World)(h:PSt C s w)(hw:Ws ws a m w):
 Calls Tryz.prog 120 #[C.p,.slice a m cap] w (PE Vt (pmay C.tk ws) C s w):=by
 have HI:=Lib.hid (is_any C s ws a m cap w h hw)
 by_cases hp:pis C.tk ws s=true
 ·have e:pmay C.tk ws s=pmust C.tk C.en ws s:=by unfold pmay pmust;rw[if_pos hp,if_pos hp]
  rw[hp]at HI
  have HT:=Lib.hid (fun W (hb:Below w.heap.size w W)=>must_any C s ws a m cap W (h.up hb) (hw.up hb))
  have HE:Hid (∀W e0 W',Below w.heap.size w W→PE Vt (pmust C.tk C.en ws) C s W e0 W'→∃x,e0= .returned (.string x)∧PE Vt (pmay C.tk ws) C s w (.returned (.string x)) W'):=fun W e0 W' hb ⟨v,e1,h1,h2,h3⟩=>⟨(pmust C.tk C.en ws s).1,by rw[e1,show v= .string (pmust C.tk C.en ws s).1 from h1],_,rfl,by rw[e];exact rfl,by rw[e];exact h2,(KeptG.of_below hb).trans h3⟩
  generalize PE Vt (pmay C.tk ws) C s w=Q at*
  generalize PE Vt (pmust C.tk C.en ws) C s=Q2 at*
  unfold PC.p at*
  clear h e hp hw
  go_enter Tryz.func120,Tryz.ntmps120
  go_wp2_with fail
  refine HI.out.mono ?_
  rintro e w1 ⟨rfl,hb⟩
  have HB:=Lib.hid hb
  have HT1:=Lib.hid (HT.out w1 hb)
  clear hb HT HI
  go_wp2_with fail
  refine HT1.out.mono ?_
  rintro e w2 hu
  obtain⟨x,rfl,hq⟩:=HE.out w1 _ w2 HB.out hu
  have HQ:=Lib.hid hq
  clear hu HT1 HB HE hq
  go_wp2_with fail
  try go_ret
  exact HQ.out
 ·have hp:=Bool.eq_false_iff.2 hp
  rw[hp]at HI
  have e:pmay C.tk ws s=(⟨#[]⟩,s):=by unfold pmay;rw[hp];rfl
  have HE:Hid (∀W,Below w.heap.size w W→PE Vt (pmay C.tk ws) C s w (.returned (.string ⟨#[]⟩)) W):=fun W hb=>⟨_,rfl,by rw[e];exact rfl,by rw[e];exact h.up hb,KeptG.of_below hb⟩
  generalize PE Vt (pmay C.tk ws) C s w=Q at*
  unfold PC.p at*
  clear h e hp hw
  go_enter Tryz.func120,Tryz.ntmps120
  go_wp2_with fail
  refine HI.out.mono ?_
  rintro e w1 ⟨rfl,hb⟩
  have HB:=Lib.hid hb
  clear hb HI
  go_wp2_with fail
  try go_ret
  exact HE.out _ HB.out
theorem of_any (C:PC)(s:PS)(k:Int)(w:World)(h:PSt C s w)(hk:k≠0):
 Calls Tryz.prog 119 #[C.p,.int .i64 k] w (PE Vt (pof C.tk C.en k) C s w):=by
 have HI:=Lib.hid (kind_any C s w h)
 have HP:=Lib.hid h
 by_cases hp:pkd C.tk s=k
 ·obtain⟨h0,hn⟩:=pkd_inv (by rw[hp];exact hk)
  have e:pof C.tk C.en k s=(ptx C.tk s 0,pgo s):=by unfold pof;rw[if_pos hp]
  have HE:Hid (∀W,Below w.heap.size w W→PE Vt (pof C.tk C.en k) C s w (.returned (.string (ptx C.tk s 0))) (W.setCell ⟨C.g,2,none⟩ (.int .i64 ((s.nx:Int)+1)))):=fun W hb=>⟨_,rfl,by rw[e];exact rfl,by
   rw[e]
   exact(HP.out.up hb).next (s':=pgo s) ⟨rfl,rfl⟩ (pgo_in HP.out.inv hn) HP.out.g5,(KeptG.of_below hb).trans KeptG.set⟩
  have HT:=Lib.hid (fun W (hb:Below w.heap.size w W)=>text0_any C s W (h.up hb))
  have F2:=Lib.hid (fun W (hb:Below w.heap.size w W)=>And.intro (h.up hb).c2 ((h.up hb).fr 2))
  have hnx:s.nx≤65536:=Nat.le_trans h.inv.nx h.len.1
  have hw:IntKind.i64.wrap ((s.nx:Int)+1)=(s.nx:Int)+1:=IntWalk.i64_in _ (by omega)
  rw[hp]at HI
  have hkk:(k != k)=false:=by simp
  generalize PE Vt (pof C.tk C.en k) C s w=Q at*
  generalize ptx C.tk s 0=x at*
  unfold PC.p at*
  clear h e HP hp
  go_enter Tryz.func119,Tryz.ntmps119
  go_wp2_with fail
  refine HI.out.mono ?_
  rintro e w1 ⟨rfl,hb⟩
  have HB:=Lib.hid hb
  have HT1:=Lib.hid (HT.out w1 hb)
  clear hb HT HI
  go_wp2_with fail
  refine HT1.out.mono ?_
  rintro e w2 ⟨rfl,hb⟩
  have HB2:=Lib.hid (HB.out.trans (hb.mono HB.out.size))
  obtain⟨c2,f2⟩:=F2.out w2 HB2.out
  clear hb HT1 HB F2
  go_wp2_with fail
  try go_ret
  exact HE.out w2 HB2.out
 ·have e:pof C.tk C.en k s=(⟨#[]⟩,pfail C.tk C.en 11 s):=by unfold pof;rw[if_neg hp]
  have HF:=Lib.hid (fun W (hb:Below w.heap.size w W)=>fail_any C s 11 W (h.up hb) h.g5)
  have HE:Hid (∀W e0 W',Below w.heap.size w W→PU (pfail C.tk C.en 11) C s W e0 W'→PE Vt (pof C.tk C.en k) C s w (.returned (.string ⟨#[]⟩)) W'):=fun W e0 W' hb hu=>⟨_,rfl,by rw[e];exact rfl,by
   rw[e]
   exact hu.2.1,(KeptG.of_below hb).trans hu.2.2⟩
  have hkk:(pkd C.tk s != k)=true:=by simpa using hp
  have hkk2:¬pkd C.tk s=k:=hp
  generalize PE Vt (pof C.tk C.en k) C s w=Q at*
  generalize pkd C.tk s=z at*
  unfold PC.p at*
  clear h e HP
  go_enter Tryz.func119,Tryz.ntmps119
  go_wp2_with fail
  refine HI.out.mono ?_
  rintro e w1 ⟨rfl,hb⟩
  have HB:=Lib.hid hb
  have HT1:=Lib.hid (HF.out w1 hb)
  clear hb HF HI
  go_wp2_with fail
  refine HT1.out.mono ?_
  rintro e w2 hu
  obtain rfl:=hu.1
  have HE2:=Lib.hid (HE.out w1 _ w2 HB.out hu)
  clear hu HT1 HB HE
  go_wp2_with fail
  try go_ret
  exact HE2.out
end
end Go.Proofs.YtcinokljkieijaaGreatDoor
