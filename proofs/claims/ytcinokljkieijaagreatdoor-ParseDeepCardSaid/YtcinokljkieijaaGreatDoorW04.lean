/- Parts of a proof. -/
import Derived.Test.YtcinokljkieijaaGreatDoorW01
import Derived.Test.YtcinokljkieijaaGreatDoorW03
import Derived.Test.YtcinokljkieijaaGreatDoorQ07
import Derived.RegionTactic
set_option linter.unusedVariables false
set_option linter.unusedSimpArgs false
set_option linter.unusedSectionVars false
set_option maxHeartbeats 60000000
set_option maxRecDepth 100000
namespace Go.Proofs.YtcinokljkieijaaGreatDoor
section
open Go.RowKit
section
variable {tk:List Tok} {en:Nat} (T:∀t∈tk,Shape t.kind t.text.data.toList)
include T
theorem ag_cell {p p':SP}{s s':PS}(h:Sq s s')(hp:s.er=none→p=p'):Ra (pcell tk en p s) (dcell tk en p' s'):=by
 have h1:=ag_ex (en:=en) T h
 have h2:=ag_of (tk:=tk) (en:=en) (k:=1) (by decide) (ag_eat (en:=en) T (w:=(⟨#[46]⟩:ByteArray)) (by decide) h1.1)
 unfold pcell dcell
 dsimp only
 refine⟨h2.1,fun e=> ?_⟩
 have e1:=((mv_m1 (en:=en) (⟨#[46]⟩:ByteArray) _).trans (mv_of (tk:=tk) (en:=en) (k:=1) (by decide) _)).none e
 dsimp only
 rw[h1.2 e1,h2.2 e,hp ((mv_ex (tk:=tk) (en:=en) s).none e1)]
theorem ag_call {p p':SP}{s s':PS}(h:Sq s s')(hp:s.er=none→∀c a g,({ p with kind:=9,callee:=c,args:=a,ghosts:=g }:SP)={ p' with kind:=9,callee:=c,args:=a,ghosts:=g }):Ra (pcall tk en p s) (dcall tk en p' s'):=by
 have h0:=ag_eat (en:=en) T (w:=(⟨#[99,97,108,108]⟩:ByteArray)) (by decide) h
 have h1:=ag_of (tk:=tk) (en:=en) (k:=1) (by decide) h0
 have h2:=ag_row T (f:=pex tk en) (g:=dex tk en) (fun h=>ag_ex T h) (fun s=>mv_ex s) (w:=(⟨#[59]⟩:ByteArray)) (by decide) (ag_eat (en:=en) T (w:=(⟨#[40]⟩:ByteArray)) (by decide) h1.1)
 have h3:=ag_row T (f:=pex tk en) (g:=dex tk en) (fun h=>ag_ex T h) (fun s=>mv_ex s) (w:=(⟨#[41]⟩:ByteArray)) (by decide) (ag_eat (en:=en) T (w:=(⟨#[59]⟩:ByteArray)) (by decide) h2.1)
 have h4:=ag_eat (en:=en) T (w:=(⟨#[41]⟩:ByteArray)) (by decide) h3.1
 unfold pcall dcall pexprs
 dsimp only
 refine⟨h4,fun e=> ?_⟩
 have e3:=(mv_m1 (en:=en) (⟨#[41]⟩:ByteArray) _).none e
 have e2:=((mv_m1 (en:=en) (⟨#[59]⟩:ByteArray) _).trans (mv_row (tk:=tk) [(⟨#[41]⟩:ByteArray)] (fun s=>mv_ex (en:=en) s) _)).none e3
 have e1:=((mv_m1 (en:=en) (⟨#[40]⟩:ByteArray) _).trans (mv_row (tk:=tk) [(⟨#[59]⟩:ByteArray)] (fun s=>mv_ex (en:=en) s) _)).none e2
 have e0:=((mv_m1 (en:=en) (⟨#[99,97,108,108]⟩:ByteArray) _).trans (mv_of (tk:=tk) (en:=en) (k:=1) (by decide) _)).none e1
 dsimp only
 rw[h1.2 e1,h2.2 e2,h3.2 e3]
 exact hp e0 _ _ _
theorem ag_what {p p':SP}{s s':PS}(h:Sq s s')(hp:s.er=none→p=p'):Ra (pwhat tk en p s) (dwhat tk en p' s'):=by
 have w1:=ag_tx T (w:=(⟨#[103,101,116]⟩:ByteArray)) (by decide) h
 have w2:=ag_tx T (w:=(⟨#[110,101,119]⟩:ByteArray)) (by decide) h
 have w3:=ag_tx T (w:=(⟨#[99,97,108,108]⟩:ByteArray)) (by decide) h
 unfold pwhat dwhat
 by_cases c1:ptx tk s 0=(⟨#[103,101,116]⟩:ByteArray)
 ·rw[if_pos c1,if_pos (w1.1 c1),m1_go T (by decide) c1]
  exact ag_cell T (ag_go h) (fun e=>by rw[hp e])
 ·rw[if_neg c1,if_neg (fun e=>c1 (w1.2 e))]
  by_cases c2:ptx tk s 0=(⟨#[110,101,119]⟩:ByteArray)
  ·rw[if_pos c2,if_pos (w2.1 c2),m1_go T (by decide) c2]
   have h1:=ag_names1 (en:=en) T (ag_eat (en:=en) T (w:=(⟨#[40]⟩:ByteArray)) (by decide) (ag_go h))
   dsimp only
   refine⟨ag_eat T (by decide) h1.1,fun e=> ?_⟩
   have e1:=(mv_m1 (en:=en) (⟨#[41]⟩:ByteArray) _).none e
   have e2:=((mv_m1 (en:=en) (⟨#[40]⟩:ByteArray) _).trans (mv_names (tk:=tk) (en:=en) [] _)).none e1
   dsimp only
   rw[h1.2 e1,hp e2]
  ·rw[if_neg c2,if_neg (fun e=>c2 (w2.2 e))]
   by_cases c3:ptx tk s 0=(⟨#[99,97,108,108]⟩:ByteArray)
   ·rw[if_pos c3,if_pos (w3.1 c3)]
    exact ag_call T h (fun e c a g=>by rw[hp e])
   ·rw[if_neg c3,if_neg (fun e=>c3 (w3.2 e))]
    have h1:=ag_ex (en:=en) T h
    exact⟨h1.1,fun e=>by dsimp only;rw[h1.2 e,hp ((mv_ex (tk:=tk) (en:=en) s).none e)]⟩
omit T in
theorem kd_tx {s:PS}(hk:pkd tk s≠0):s.er=none∧s.nx<tk.length∧ptx tk s 0=(tk.getD s.nx tok0).text∧pkd tk s=(tk.getD s.nx tok0).kind:=by
 obtain⟨h1,h2⟩:=pkd_inv hk
 exact⟨h1,h2,if_pos ⟨h1,h2⟩,if_pos ⟨h1,h2⟩⟩
theorem kd_wd {w:ByteArray}(hw:Wd w){s:PS}(hk:pkd tk s=1):¬ptx tk s 0=w:=fun e=>by
 obtain⟨h1,h2,h3,h4⟩:=kd_tx (tk:=tk) (s:=s) (by rw[hk];decide)
 exact(shape_wd hw (by rw[←e,h3];exact tok_sh T h2)).1 (by rw[←h4];exact hk)
theorem ag_simple {s s':PS}(h:Sq s s'):Ra (psimple tk en s) (if pkd tk s'=1 then dwhat tk en { sp0 with name:=(dtext tk en 1 s').1 } (deat tk en (⟨#[58,61]⟩:ByteArray) (dtext tk en 1 s').2) else dsimple tk en s'):=by
 by_cases hk:pkd tk s=1
 ·have ep:psimple tk en s=pwhat tk en { sp0 with name:=(pof tk en 1 s).1 } (pm1 tk en (⟨#[58,61]⟩:ByteArray) (pof tk en 1 s).2):=by
   unfold psimple
   rw[if_neg (kd_wd T (by decide) hk),if_neg (kd_wd T (by decide) hk),if_neg (kd_wd T (by decide) hk),if_neg (kd_wd T (by decide) hk),if_neg (kd_wd T (by decide) hk)]
  rw[if_pos (by rw[←ag_kd h];exact hk),ep]
  have h1:=ag_of (tk:=tk) (en:=en) (k:=1) (by decide) h
  exact ag_what T (ag_eat T (by decide) h1.1) (fun e=>by rw[h1.2 ((mv_m1 (en:=en) (⟨#[58,61]⟩:ByteArray) _).none e)])
 ·rw[if_neg (by rw[←ag_kd h];exact hk)]
  have w1:=ag_tx T (w:=(⟨#[115,107,105,112]⟩:ByteArray)) (by decide) h
  have w2:=ag_tx T (w:=(⟨#[112,117,116]⟩:ByteArray)) (by decide) h
  have w3:=ag_tx T (w:=(⟨#[102,114,101,101]⟩:ByteArray)) (by decide) h
  have w4:=ag_tx T (w:=(⟨#[97,115,115,101,114,116]⟩:ByteArray)) (by decide) h
  have w5:=ag_tx T (w:=(⟨#[99,97,108,108]⟩:ByteArray)) (by decide) h
  unfold psimple dsimple
  by_cases c1:ptx tk s 0=(⟨#[115,107,105,112]⟩:ByteArray)
  ·rw[if_neg (by rw[c1];decide),if_neg (by rw[c1];decide),if_neg (by rw[c1];decide),if_neg (by rw[c1];decide),if_pos c1,if_pos (w1.1 c1),m1_go T (by decide) c1]
   exact⟨ag_go h,fun _=>rfl⟩
  ·rw[if_neg (fun e=>c1 (w1.2 e))]
   by_cases c2:ptx tk s 0=(⟨#[112,117,116]⟩:ByteArray)
   ·rw[if_pos c2,if_pos (w2.1 c2),m1_go T (by decide) c2]
    have h1:=ag_cell (en:=en) T (p:={ sp0 with kind:=3 }) (p':={ sp0 with kind:=3 }) (ag_go h) (fun _=>rfl)
    have h2:=ag_ex (en:=en) T (ag_eat (en:=en) T (w:=(⟨#[58,61]⟩:ByteArray)) (by decide) h1.1)
    dsimp only
    refine⟨h2.1,fun e=> ?_⟩
    have e1:=((mv_m1 (en:=en) (⟨#[58,61]⟩:ByteArray) _).trans (mv_ex (tk:=tk) (en:=en) _)).none e
    dsimp only
    rw[h1.2 e1,h2.2 e]
   ·rw[if_neg c2,if_neg (fun e=>c2 (w2.2 e))]
    by_cases c3:ptx tk s 0=(⟨#[102,114,101,101]⟩:ByteArray)
    ·rw[if_pos c3,if_pos (w3.1 c3),m1_go T (by decide) c3]
     exact ag_cell T (ag_go h) (fun _=>rfl)
    ·rw[if_neg c3,if_neg (fun e=>c3 (w3.2 e))]
     by_cases c4:ptx tk s 0=(⟨#[97,115,115,101,114,116]⟩:ByteArray)
     ·rw[if_pos c4,if_pos (w4.1 c4),m1_go T (by decide) c4]
      have h1:=ag_co (en:=en) T (ag_go h)
      exact⟨h1.1,fun e=>by dsimp only;rw[h1.2 e]⟩
     ·rw[if_neg c4,if_neg (fun e=>c4 (w4.2 e))]
      by_cases c5:ptx tk s 0=(⟨#[99,97,108,108]⟩:ByteArray)
      ·rw[if_pos c5,if_pos (w5.1 c5)]
       exact ag_call T h (fun _ _ _ _=>rfl)
      ·rw[if_neg c5,if_neg (fun e=>c5 (w5.2 e)),if_neg c1]
       have e1:pof tk en 1 s=((⟨#[]⟩:ByteArray),pfail tk en 11 s):=if_neg hk
       have hb:=fail_er (tk:=tk) (en:=en) 11 s
       rw[e1]
       dsimp only
       have m:=(mv_m1 (en:=en) (⟨#[58,61]⟩:ByteArray) (pfail tk en 11 s)).trans (mv_what (tk:=tk) (en:=en) { sp0 with name:=(⟨#[]⟩:ByteArray) } (pm1 tk en (⟨#[58,61]⟩:ByteArray) (pfail tk en 11 s)))
       have e2:=(m.er hb).1
       exact Ra.bad (by rw[e2];exact(ag_fail (tk:=tk) (en:=en) 11 h).er) (by rw[e2];exact hb)
theorem ag_stmts {f g:PS→ST×PS}(hf:∀ {s s'},Sq s s'→Ra (f s) (g s'))(hm:∀s,Mv tk s (f s).2):∀(k:Nat) (l l':List ST) (s s':PS),Sq s s'→(s.er=none→l=l')→Ra (pstmts tk f k l s) (dstmts tk g k l' s')
 | 0,_,_,_,_,h,hl=>⟨h,hl⟩
 | k+1,l,l',s,s',h,hl=>by
   have hi:=ag_wd T (w:=(⟨#[125]⟩:ByteArray)) (by decide) h
   unfold pstmts dstmts
   by_cases hp:s.er=none∧pis tk [(⟨#[125]⟩:ByteArray)] s=false
   ·rw[if_pos hp,if_pos ⟨by rw[←h.er];exact hp.1,fun e=>by rw[hi.2 e]at hp;cases hp.2⟩]
    have h1:=hf h
    exact ag_stmts hf hm k _ _ _ _ h1.1 (fun e=>by rw[hl ((hm _).none e),h1.2 e])
   ·rw[if_neg hp,if_neg (fun e=>hp ⟨by rw[h.er];exact e.1,Bool.eq_false_iff.2 (fun e2=>e.2 (hi.1 e2))⟩)]
    exact⟨h,hl⟩
theorem ag_block {f g:PS→ST×PS}(hf:∀ {s s'},Sq s s'→Ra (f s) (g s'))(hm:∀s,Mv tk s (f s).2){s s':PS}(h:Sq s s'):Ra (pblock tk en f s) (dblock tk en g s'):=
 ag_within T (by decide) (by decide) _ (fun s=>mv_stmts hm _ _ s) (fun h=>ag_stmts T hf hm _ _ _ _ _ h (fun _=>rfl)) h
theorem ag_stmt:∀(n:Nat) {s s':PS},Sq s s'→Ra (pstmt tk en n s) (dstmt tk en n s')
 | 0,s,s',h=>⟨h,fun _=>rfl⟩
 | n+1,s,s',h=>by
   have hf:=fun {s s'} h=>ag_stmt n (s:=s) (s':=s') h
   have hm:=fun s=>mv_stmt (tk:=tk) (en:=en) n s
   have w1:=ag_tx T (w:=(⟨#[105,102]⟩:ByteArray)) (by decide) h
   have w2:=ag_tx T (w:=(⟨#[119,104,105,108,101]⟩:ByteArray)) (by decide) h
   have hs:=ag_simple (en:=en) T h
   rw[pstmt,dstmt]
   by_cases hk:pkd tk s=1
   ·have hk2:pkd tk s'=1:=by rw[←ag_kd h];exact hk
    have n1:¬ptx tk s 0=(⟨#[105,102]⟩:ByteArray):=kd_wd T (by decide) hk
    have n2:¬ptx tk s 0=(⟨#[119,104,105,108,101]⟩:ByteArray):=kd_wd T (by decide) hk
    rw[if_neg n1,if_neg n2,if_pos hk2]
    rw[if_pos hk2]at hs
    exact⟨ag_eat T (by decide) hs.1,fun e=>by dsimp only;rw[hs.2 ((mv_m1 (en:=en) (⟨#[59]⟩:ByteArray) _).none e)]⟩
   ·have hk2:¬pkd tk s'=1:=by rw[←ag_kd h];exact hk
    rw[if_neg hk2]
    rw[if_neg hk2]at hs
    by_cases c1:ptx tk s 0=(⟨#[105,102]⟩:ByteArray)
    ·rw[if_pos c1,if_pos (w1.1 c1)]
     have h1:=ag_co (en:=en) T (ag_go h)
     have h2:=ag_block (en:=en) T hf hm h1.1
     have h3:=ag_block (en:=en) T hf hm (ag_eat (en:=en) T (w:=(⟨#[101,108,115,101]⟩:ByteArray)) (by decide) h2.1)
     unfold pbranch
     rw[m1_go T (by decide) c1]
     dsimp only
     refine⟨h3.1,fun e=> ?_⟩
     have e1:=((mv_m1 (en:=en) (⟨#[101,108,115,101]⟩:ByteArray) _).trans (mv_block (en:=en) hm _)).none e
     have e2:=(mv_block (tk:=tk) (en:=en) hm _).none e1
     dsimp only
     rw[h1.2 e2,h2.2 e1,h3.2 e]
    ·rw[if_neg c1,if_neg (fun e=>c1 (w1.2 e))]
     by_cases c2:ptx tk s 0=(⟨#[119,104,105,108,101]⟩:ByteArray)
     ·rw[if_pos c2,if_pos (w2.1 c2)]
      have h1:=ag_co (en:=en) T (ag_go h)
      have h2:=ag_as (en:=en) T (ag_eat (en:=en) T (w:=(⟨#[105,110,118,97,114,105,97,110,116]⟩:ByteArray)) (by decide) h1.1)
      have h3:=ag_block (en:=en) T hf hm h2.1
      unfold ploop
      rw[m1_go T (by decide) c2]
      dsimp only
      refine⟨h3.1,fun e=> ?_⟩
      have e1:=(mv_block (tk:=tk) (en:=en) hm _).none e
      have e2:=((mv_m1 (en:=en) (⟨#[105,110,118,97,114,105,97,110,116]⟩:ByteArray) _).trans (mv_as (tk:=tk) (en:=en) _)).none e1
      dsimp only
      rw[h1.2 e2,h2.2 e1,h3.2 e]
     ·rw[if_neg c2,if_neg (fun e=>c2 (w2.2 e))]
      exact⟨ag_eat T (by decide) hs.1,fun e=>by dsimp only;rw[hs.2 ((mv_m1 (en:=en) (⟨#[59]⟩:ByteArray) _).none e)]⟩
theorem ag_bl {s s':PS}(h:Sq s s'):Ra (pbl tk en s) (dbl tk en s'):=ag_block T (fun h=>ag_stmt T 53 h) (fun s=>mv_stmt 53 s) h
theorem ag_proc {s s':PS}(h:Sq s s'):Ra (pproc tk en s) (dproc tk en s'):=by
 have h1:=ag_of (tk:=tk) (en:=en) (k:=1) (by decide) (ag_eat (en:=en) T (w:=(⟨#[112,114,111,99]⟩:ByteArray)) (by decide) h)
 unfold pproc dproc
 dsimp only
 generalize pof tk en 1 (pm1 tk en (⟨#[112,114,111,99]⟩:ByteArray) s)=n at h1⊢
 generalize dtext tk en 1 (deat tk en (⟨#[112,114,111,99]⟩:ByteArray) s')=n' at h1⊢
 have h2:=ag_names0 (en:=en) T (w:=(⟨#[59]⟩:ByteArray)) (by decide) (ag_eat (en:=en) T (w:=(⟨#[40]⟩:ByteArray)) (by decide) h1.1)
 have m2:=(mv_m1 (tk:=tk) (en:=en) (⟨#[40]⟩:ByteArray) n.2).trans (mv_names (tk:=tk) (en:=en) [(⟨#[59]⟩:ByteArray)] (pm1 tk en (⟨#[40]⟩:ByteArray) n.2))
 generalize pnames tk en [(⟨#[59]⟩:ByteArray)] (pm1 tk en (⟨#[40]⟩:ByteArray) n.2)=a at h2 m2⊢
 generalize dnames tk en false (deat tk en (⟨#[40]⟩:ByteArray) n'.2)=a' at h2⊢
 have m3:=mv_m1 (tk:=tk) (en:=en) (⟨#[59]⟩:ByteArray) a.2
 have m4:=mv_names (tk:=tk) (en:=en) [(⟨#[41]⟩:ByteArray)] (pm1 tk en (⟨#[59]⟩:ByteArray) a.2)
 have h3:=ag_names0 (en:=en) T (w:=(⟨#[41]⟩:ByteArray)) (by decide) h2.1
 generalize pnames tk en [(⟨#[41]⟩:ByteArray)] (pm1 tk en (⟨#[59]⟩:ByteArray) a.2)=g at h3 m4⊢
 generalize dnames tk en false (deat tk en (⟨#[59]⟩:ByteArray) a'.2)=g' at h3⊢
 have m5:=mv_m1 (tk:=tk) (en:=en) (⟨#[41]⟩:ByteArray) g.2
 have h4:=ag_as (en:=en) T (ag_eat (en:=en) T (w:=(⟨#[114,101,113,117,105,114,101,115]⟩:ByteArray)) (by decide) h3.1)
 have m6:=(mv_m1 (tk:=tk) (en:=en) (⟨#[114,101,113,117,105,114,101,115]⟩:ByteArray) (pm1 tk en (⟨#[41]⟩:ByteArray) g.2)).trans (mv_as (tk:=tk) (en:=en) _)
 generalize pas tk en (pm1 tk en (⟨#[114,101,113,117,105,114,101,115]⟩:ByteArray) (pm1 tk en (⟨#[41]⟩:ByteArray) g.2))=p at h4 m6⊢
 generalize das tk en (deat tk en (⟨#[114,101,113,117,105,114,101,115]⟩:ByteArray) (deat tk en (⟨#[41]⟩:ByteArray) g'.2))=p' at h4⊢
 have h5:=ag_as (en:=en) T (ag_eat (en:=en) T (w:=(⟨#[101,110,115,117,114,101,115]⟩:ByteArray)) (by decide) h4.1)
 have m7:=(mv_m1 (tk:=tk) (en:=en) (⟨#[101,110,115,117,114,101,115]⟩:ByteArray) p.2).trans (mv_as (tk:=tk) (en:=en) _)
 generalize pas tk en (pm1 tk en (⟨#[101,110,115,117,114,101,115]⟩:ByteArray) p.2)=q at h5 m7⊢
 generalize das tk en (deat tk en (⟨#[101,110,115,117,114,101,115]⟩:ByteArray) p'.2)=q' at h5⊢
 have h6:=ag_bl (en:=en) T h5.1
 have m8:=mv_bl (tk:=tk) (en:=en) q.2
 generalize pbl tk en q.2=b at h6 m8⊢
 generalize dbl tk en q'.2=b' at h6⊢
 refine⟨h6.1,fun e=> ?_⟩
 have e5:=m8.none e
 have e4:=m7.none e5
 have e3:=m6.none e4
 have e2:=m4.none (m5.none e3)
 have e1:=m2.none (m3.none e2)
 dsimp only
 rw[h1.2 e1,h2.2 e2,h3.2 e3,h4.2 e4,h5.2 e5,h6.2 e]
theorem ag_procs:∀(k:Nat) (l l':List QT) (s s':PS),Sq s s'→(s.er=none→l=l')→Ra (pprocs tk en k l s) (dprocs tk en k l' s')
 | 0,_,_,_,_,h,hl=>⟨h,hl⟩
 | k+1,l,l',s,s',h,hl=>by
   unfold pprocs dprocs
   rcases h.two with ⟨h0,rfl,ok⟩ | ⟨b1,b2⟩
   ·by_cases hp:s.nx<tk.length
    ·rw[if_pos ⟨hp,h0⟩,if_pos ⟨h0,hp⟩]
     have h1:=ag_proc (en:=en) T h
     exact ag_procs k _ _ _ _ h1.1 (fun e=>by rw[hl h0,h1.2 e])
    ·rw[if_neg (fun e=>hp e.1),if_neg (fun e=>hp e.2)]
     exact⟨h,hl⟩
   ·rw[if_neg (fun e=>b1 e.2),if_neg (fun e=>b2 e.1)]
    exact⟨h,hl⟩
theorem ag_prog:pprog tk en=dprog tk en:=by
 have h1:=ag_procs (en:=en) T (tk.length+1) [] [] ps0 ps0 (Sq.same (fun _=>by decide)) (fun _=>rfl)
 unfold pprog dprog
 generalize pprocs tk en (tk.length+1) [] ps0=r at*
 generalize dprocs tk en (tk.length+1) [] ps0=r' at*
 obtain⟨l,nx,ne,er⟩:=r
 obtain⟨l',nx',ne',er'⟩:=r'
 obtain⟨e1,e2⟩:=h1
 have e3:er=er':=e1.er
 subst e3
 cases er with
 | none=>
   have e2:l=l':=e2 rfl
   rw[e2]
 | some p=>rfl
end
theorem ag_parse (s:ByteArray):pparse s=dparse s:=by
 unfold pparse dparse
 by_cases h:(resOf s).1=0
 ·rw[if_pos h,if_pos h]
  obtain⟨_,_,h3⟩:=res_toks (s:=s) (c:=(resOf s).1) (a:=(resOf s).2.1) (ts:=(resOf s).2.2) rfl h
  exact ag_prog (fun t ht=>(h3 t ht).sh)
 ·rw[if_neg h,if_neg h]
end
namespace Dc
open Go.RowKit
theorem amiss_any (C:PC)(s:PS)(c:Int)(w:World)(h:PSt C s w)(hc:c≠0):
 Calls Tryz.prog 65 #[C.p,.int .i64 c] w (PU (pfail C.tk C.en c) C s w):=by
 have c4:=h.c4
 have hgl:=h.lt
 have HP:=Lib.hid h
 unfold PC.p
 rcases h.bad with ⟨he,hz⟩ | ⟨he,hz⟩
 ·have c0:=h.c0
  have c1:=h.c1
  have c2:=h.two he
  obtain⟨v5,c5,_⟩:=h.c5
  have f4:=h.fr 4
  have f5:=h.fr 5
  have hnx:=(h.inv he).2.2
  have hlen:=h.len.1
  rw[hz]at c4
  have hoth:∀(W:World) (j k:Nat) (v:Value),k≠j→(W.setCell ⟨C.g,k,none⟩ v).cell? ⟨C.g,j,none⟩=W.cell? ⟨C.g,j,none⟩:=fun W j k v hj=>World.cell?_setCell_other _ _ _ _ (fun e=>hj (by cases e;rfl))
  obtain⟨W1,hW1⟩:∃W1,W1=w.setCell ⟨C.g,4,none⟩ (.int .i64 c):=⟨_,rfl⟩
  obtain⟨W2,hW2⟩:∃W2,W2=W1.setCell ⟨C.g,5,none⟩ (.int .i64 C.en):=⟨_,rfl⟩
  have a1:W1.cell? ⟨C.g,1,none⟩=some (.int .i64 C.en):=by rw[hW1,hoth _ _ _ _ (by decide)];exact c1
  have a5:W1.cell? ⟨C.g,5,none⟩=some (.int .i64 v5):=by rw[hW1,hoth _ _ _ _ (by decide)];exact c5
  have af5:W1.frozen? ⟨C.g,5,none⟩=false:=by rw[hW1,World.frozen?_setCell];exact f5
  have b0:W2.cell? ⟨C.g,0,none⟩=some (.slice C.a C.tk.length C.cap):=by rw[hW2,hoth _ _ _ _ (by decide),hW1,hoth _ _ _ _ (by decide)];exact c0
  have b2:W2.cell? ⟨C.g,2,none⟩=some (.int .i64 s.nx):=by rw[hW2,hoth _ _ _ _ (by decide),hW1,hoth _ _ _ _ (by decide)];exact c2
  have b4:W2.cell? ⟨C.g,4,none⟩=some (.int .i64 c):=by rw[hW2,hoth _ _ _ _ (by decide),hW1];exact World.cell?_setCell_same' _ _ _ (by rw[c4];rfl)
  have b5:W2.cell? ⟨C.g,5,none⟩=some (.int .i64 C.en):=by rw[hW2];exact World.cell?_setCell_same' _ _ _ (by rw[a5];rfl)
  have bf5:W2.frozen? ⟨C.g,5,none⟩=false:=by rw[hW2,World.frozen?_setCell];exact af5
  have k2:KeptG C.g w W2:=by rw[hW2,hW1];exact KeptG.set.trans KeptG.set
  have hk2:∀j,j≠4→j≠5→W2.cell? ⟨C.g,j,none⟩=w.cell? ⟨C.g,j,none⟩:=fun j h4 h5=>by rw[hW2,hoth _ _ _ _ (Ne.symm h5),hW1,hoth _ _ _ _ (Ne.symm h4)]
  have hf2:∀j,W2.frozen? ⟨C.g,j,none⟩=w.frozen? ⟨C.g,j,none⟩:=fun j=>by rw[hW2,World.frozen?_setCell,hW1,World.frozen?_setCell]
  by_cases hlt:s.nx<C.tk.length
  ·obtain⟨b,off,ha,_,t1,_,hbg⟩:=tok_at h hlt
   have e:pfail C.tk C.en c s=⟨s.nx,s.ne,some (c,((C.tk.getD s.nx tok0).at':Int))⟩:=by unfold pfail pat;rw[if_pos he,if_pos hlt]
   have t1b:W2.cell? ⟨b,off+s.nx*3+1,none⟩=some (.int .i64 ((C.tk.getD s.nx tok0).at':Int)):=(World.cell?_of_block (k2.block b (block_lt_of_cell (a:=⟨b,off+s.nx*3+1,none⟩) t1) hbg)).trans t1
   have HE:Hid (∀n W9,W9=(W2.drewN n).setCell ⟨C.g,5,none⟩ (.int .i64 ((C.tk.getD s.nx tok0).at':Int))→PU (pfail C.tk C.en c) C s w (.returned (.tuple #[])) W9):=fun n W9 e9=>by
    have hn:KeptG C.g W2 (W2.drewN n):=KeptG.of_below ⟨rfl,rfl,rfl,Nat.le_refl _,fun _ _=>rfl⟩
    have k9:KeptG C.g w W9:=by rw[e9];exact(k2.trans hn).trans KeptG.set
    refine⟨rfl, ?_,k9⟩
    rw[e]
    refine HP.out.amiss (w':=W9) c _ hc he (fun j h4 h5=> ?_) ?_ ?_ (fun j=> ?_) (k9.below (Nat.le_refl _) (Nat.le_of_lt hgl))
    ·rw[e9,hoth _ _ _ _ (Ne.symm h5)];exact hk2 j h4 h5
    ·rw[e9,hoth _ _ _ _ (by decide)];exact b4
    ·rw[e9];exact World.cell?_setCell_same' _ _ _ (by show(W2.cell? _).isSome=true;rw[b5];rfl)
    ·rw[e9,World.frozen?_setCell];exact hf2 j
   generalize ((C.tk.getD s.nx tok0).at':Int)=z at*
   have hb1:((s.nx:Int)<(C.tk.length:Int)):=by omega
   have hb2:(0:Int)≤(s.nx:Int)∧(s.nx:Int)<(C.tk.length:Int):=by omega
   rw[ha]at b0
   clear h ha e hoth hk2 hf2 k2 hbg HP t1 hz c0 c1 c2 hgl
   generalize PU (pfail C.tk C.en c) C s w=Q at*
   generalize C.tk.length=L at*
   subst hW1
   go_enter Tryz.func65,Tryz.ntmps65
   go_wp2_with fail
   simp only[←hW2]
   clear hW2 a1 a5 af5 b4 c4 c5 f4 f5
   go_wp2_with fail
   go_quiet (fail)
   go_wp2_with fail
   go_region_with fail
   all_goals
    go_wp2_with fail
    try go_end0
    exact HE.out _ _ rfl
  ·have hb1:¬((s.nx:Int)<(C.tk.length:Int)):=by omega
   have hb3:¬(s.nx<C.tk.length):=hlt
   have e:pfail C.tk C.en c s=⟨s.nx,s.ne,some (c,(C.en:Int))⟩:=by unfold pfail pat;rw[if_pos he,if_neg hlt]
   have HE:Hid (∀n,PU (pfail C.tk C.en c) C s w (.returned (.tuple #[])) (W2.drewN n)):=fun n=>by
    have hn:KeptG C.g W2 (W2.drewN n):=KeptG.of_below ⟨rfl,rfl,rfl,Nat.le_refl _,fun _ _=>rfl⟩
    have k9:KeptG C.g w (W2.drewN n):=k2.trans hn
    refine⟨rfl, ?_,k9⟩
    rw[e]
    exact HP.out.amiss (w':=W2.drewN n) c _ hc he (fun j h4 h5=>hk2 j h4 h5) b4 b5 (fun j=>hf2 j) (k9.below (Nat.le_refl _) (Nat.le_of_lt hgl))
   clear h e hoth hk2 hf2 k2 HP hz c0 c1 c2 hgl
   generalize PU (pfail C.tk C.en c) C s w=Q at*
   generalize C.tk.length=L at*
   subst hW1
   go_enter Tryz.func65,Tryz.ntmps65
   go_wp2_with fail
   simp only[←hW2]
   clear hW2 a1 a5 af5 b4 c4 c5 f4 f5
   go_wp2_with fail
   go_quiet (fail)
   go_wp2_with fail
   try go_end0
   exact HE.out _
 ·have hb0:(ebad s != 0)=true:=by simpa using hz
  have e:pfail C.tk C.en c s=s:=fail_bad he
  have HE:Hid (PU (pfail C.tk C.en c) C s w (.returned (.tuple #[])) w):=⟨rfl,by rw[e];exact HP.out,KeptG.refl _ _⟩
  clear h e HP
  generalize PU (pfail C.tk C.en c) C s w=Q at*
  generalize ebad s=z at*
  go_enter Tryz.func65,Tryz.ntmps65
  go_wp2_with fail
  try go_end0
  exact HE.out
end Dc
namespace Dc
open Go.RowKit
theorem dnx_inv {tk:List Tok}{s:PS}(h:dnx tk s≠(⟨#[]⟩:ByteArray)):s.er=none∧s.nx<tk.length:=by
 unfold dnx at h
 split at h
 ·next hc=>exact⟨hc.1,hc.2.1⟩
 ·exact absurd rfl h
theorem first_block {a b:Nat}{i j:Nat}(e:(⟨a,i,none⟩:Addr)=⟨b,j,none⟩):b=a:=(congrArg Addr.block e).symm
theorem str_ne {x t:ByteArray}(h:¬x=t):(x.toList == t.toList)=false∧(x.toList != t.toList)=true:=by
 have:=nbs_ne h
 exact⟨this,by simp only[bne,this,Bool.not_false]⟩
theorem str_eq (t:ByteArray):(t.toList == t.toList)=true∧(t.toList != t.toList)=false:=by simp
theorem eat_any (C:PC)(s:PS)(t:ByteArray)(w:World)(h:PSt C s w)(ht:t≠(⟨#[]⟩:ByteArray)):
 Calls Tryz.prog 25 #[C.p,.string t] w (PU (deat C.tk C.en t) C s w):=by
 have HN:=Lib.hid (next_any C s w h)
 have HP:=Lib.hid h
 by_cases hp:dnx C.tk s=t
 ·obtain⟨h0,hn⟩:=dnx_inv (tk:=C.tk) (s:=s) (by rw[hp];exact ht)
  rw[hp]at HN
  have e:deat C.tk C.en t s=pgo s:=if_pos hp
  have hlen:=h.len.1
  have HE:Hid (∀W,Below w.heap.size w W→PU (deat C.tk C.en t) C s w (.returned (.tuple #[])) (W.setCell ⟨C.g,2,none⟩ (.int .i64 ((s.nx:Int)+1)))):=fun W hb=>⟨rfl,by
   rw[e]
   exact(HP.out.up hb).set2 (pgo s) ⟨rfl,rfl⟩ _ (fun _=>⟨rfl,hn⟩),(KeptG.of_below hb).trans KeptG.set⟩
  have F2:=Lib.hid (fun W (hb:Below w.heap.size w W)=>And.intro ((h.up hb).two h0) ((h.up hb).fr 2))
  have hw:IntKind.i64.wrap ((s.nx:Int)+1)=(s.nx:Int)+1:=IntWalk.i64_in _ (by omega)
  obtain⟨q1,q2⟩:=str_eq t
  generalize PU (deat C.tk C.en t) C s w=Q at*
  unfold PC.p at*
  clear h e HP hp
  go_enter Tryz.func25,Tryz.ntmps25
  go_wp2_with fail
  refine HN.out.mono ?_
  rintro e w1 ⟨rfl,hb⟩
  obtain⟨c2,f2⟩:=F2.out w1 hb
  have HQ:=Lib.hid (HE.out w1 hb)
  clear hb HN F2 HE
  go_wp2_with fail
  try go_end0
  exact HQ.out
 ·have e:deat C.tk C.en t s=pfail C.tk C.en 11 s:=if_neg hp
  have HF:=Lib.hid (fun W (hb:Below w.heap.size w W)=>amiss_any C s 11 W (h.up hb) (by decide))
  have HE:Hid (∀W e0 W',Below w.heap.size w W→PU (pfail C.tk C.en 11) C s W e0 W'→e0= .returned (.tuple #[])∧PU (deat C.tk C.en t) C s w (.returned (.tuple #[])) W'):=fun W e0 W' hb hu=>⟨hu.1,rfl,by
   rw[e]
   exact hu.2.1,(KeptG.of_below hb).trans hu.2.2⟩
  obtain⟨q1,q2⟩:=str_ne hp
  generalize PU (deat C.tk C.en t) C s w=Q at*
  generalize PU (pfail C.tk C.en 11) C s=Q2 at*
  generalize dnx C.tk s=x at*
  unfold PC.p at*
  clear h e HP
  go_enter Tryz.func25,Tryz.ntmps25
  go_wp2_with fail
  refine HN.out.mono ?_
  rintro e w1 ⟨rfl,hb⟩
  have HB:=Lib.hid hb
  have HF1:=Lib.hid (HF.out w1 hb)
  clear hb HN HF
  go_wp2_with fail
  refine HF1.out.mono ?_
  rintro e w2 hu
  obtain⟨rfl,hq⟩:=HE.out w1 _ w2 HB.out hu
  have HQ:=Lib.hid hq
  clear hu HF1 HE HB hq
  go_wp2_with fail
  try go_end0
  exact HQ.out
theorem text_any (C:PC)(s:PS)(k:Int)(w:World)(h:PSt C s w)(hk:k≠0):
 Calls Tryz.prog 26 #[C.p,.int .i64 k] w (PE Vt (dtext C.tk C.en k) C s w):=by
 have HK:=Lib.hid (kind_any C s w h)
 have HP:=Lib.hid h
 by_cases hp:pkd C.tk s=k
 ·obtain⟨h0,hn⟩:=pkd_inv (tk:=C.tk) (s:=s) (by rw[hp];exact hk)
  rw[hp]at HK
  have e:dtext C.tk C.en k s=((C.tk.getD s.nx tok0).text,pgo s):=if_pos hp
  have hlen:=h.len.1
  have HE:Hid (∀W n,Below w.heap.size w W→PE Vt (dtext C.tk C.en k) C s w (.returned (.string (C.tk.getD s.nx tok0).text)) ((W.setCell ⟨C.g,2,none⟩ (.int .i64 ((s.nx:Int)+1))).drewN n)):=fun W n hb=>⟨_,rfl,by rw[e];exact rfl,by
   rw[e]
   exact((HP.out.up hb).set2 (pgo s) ⟨rfl,rfl⟩ _ (fun _=>⟨rfl,hn⟩)).up ⟨rfl,rfl,rfl,Nat.le_refl _,fun _ _=>rfl⟩,((KeptG.of_below hb).trans KeptG.set).trans (KeptG.of_below ⟨rfl,rfl,rfl,Nat.le_refl _,fun _ _=>rfl⟩)⟩
  have F2:Hid (∀W,Below w.heap.size w W→W.cell? ⟨C.g,2,none⟩=some (.int .i64 s.nx)∧W.frozen? ⟨C.g,2,none⟩=false∧∃b off,(∀v,(W.setCell ⟨C.g,2,none⟩ v).cell? ⟨C.g,0,none⟩=some (.slice (some ⟨b,off,none⟩) C.tk.length C.cap))∧(∀v,(W.setCell ⟨C.g,2,none⟩ v).cell? ⟨C.g,2,none⟩=some v)∧∀v,(W.setCell ⟨C.g,2,none⟩ v).cell? ⟨b,off+s.nx*3+2,none⟩=some (.string (C.tk.getD s.nx tok0).text)):=fun W hb=>by
   have hW:=h.up hb
   obtain⟨b,off,ha,_,_,t2,hbg⟩:=tok_at hW hn
   refine⟨hW.two h0,hW.fr 2,b,off,fun v=> ?_,fun v=> ?_,fun v=> ?_⟩
   ·rw[World.cell?_setCell_other _ _ _ _ (fun e=>by cases e),←ha];exact hW.c0
   ·exact World.cell?_setCell_same' _ _ _ (by rw[hW.two h0];rfl)
   ·rw[World.cell?_setCell_other _ _ _ _ (fun e=>hbg (first_block e))];exact t2
  have hw:IntKind.i64.wrap ((s.nx:Int)+1)=(s.nx:Int)+1:=IntWalk.i64_in _ (by omega)
  have hw2:IntKind.i64.wrap ((s.nx:Int)+1 - 1)=(s.nx:Int):=by rw[IntWalk.i64_in _ (by omega)];omega
  have hb2:(0:Int)≤(s.nx:Int)∧(s.nx:Int)<(C.tk.length:Int):=by omega
  have hkk:(k != k)=false:=by simp
  generalize PE Vt (dtext C.tk C.en k) C s w=Q at*
  unfold PC.p at*
  clear h e HP hp
  generalize (C.tk.getD s.nx tok0).text=x at*
  generalize C.tk.length=L at*
  go_enter Tryz.func26,Tryz.ntmps26
  go_wp2_with fail
  refine HK.out.mono ?_
  rintro e w1 ⟨rfl,hb⟩
  obtain⟨c2,f2,b,off,d0,d2,dt⟩:=F2.out w1 hb
  have HQ:=Lib.hid (fun n=>HE.out w1 n hb)
  clear hb HK F2 HE
  go_wp2_with fail
  go_quiet (fail)
  go_wp2_with fail
  try go_ret
  exact HQ.out _
 ·have e:dtext C.tk C.en k s=((⟨#[]⟩:ByteArray),pfail C.tk C.en 11 s):=if_neg hp
  have HF:=Lib.hid (fun W (hb:Below w.heap.size w W)=>amiss_any C s 11 W (h.up hb) (by decide))
  have HE:Hid (∀W e0 W',Below w.heap.size w W→PU (pfail C.tk C.en 11) C s W e0 W'→e0= .returned (.tuple #[])∧PE Vt (dtext C.tk C.en k) C s w (.returned (.string ⟨#[]⟩)) W'):=fun W e0 W' hb hu=>⟨hu.1,_,rfl,by rw[e];exact rfl,by
   rw[e]
   exact hu.2.1,(KeptG.of_below hb).trans hu.2.2⟩
  have hkk:(pkd C.tk s != k)=true:=by simpa using hp
  have hkk2:¬pkd C.tk s=k:=hp
  generalize PE Vt (dtext C.tk C.en k) C s w=Q at*
  generalize PU (pfail C.tk C.en 11) C s=Q2 at*
  generalize pkd C.tk s=x at*
  unfold PC.p at*
  clear h e HP
  go_enter Tryz.func26,Tryz.ntmps26
  go_wp2_with fail
  refine HK.out.mono ?_
  rintro e w1 ⟨rfl,hb⟩
  have HB:=Lib.hid hb
  have HF1:=Lib.hid (HF.out w1 hb)
  clear hb HK HF
  go_wp2_with fail
  refine HF1.out.mono ?_
  rintro e w2 hu
  obtain⟨rfl,hq⟩:=HE.out w1 _ w2 HB.out hu
  have HQ:=Lib.hid hq
  clear hu HF1 HE HB hq
  go_wp2_with fail
  try go_ret
  exact HQ.out
theorem deeper_any (C:PC)(s:PS)(w:World)(h:PSt C s w)(h0:s.er=none):
 Calls Tryz.prog 128 #[C.p] w (PU (ddeeper C.tk C.en) C s w):=by
 have HP:=Lib.hid h
 have c3:=h.three h0
 have f3:=h.fr 3
 have hin:=h.inv h0
 by_cases h5:s.ne=50
 ·have e:ddeeper C.tk C.en s=pdn (pfail C.tk C.en 4 s):=by unfold ddeeper;rw[if_pos h5]
  have HF:=Lib.hid (amiss_any C s 4 w h (by decide))
  have HE:Hid (∀e0 W,PU (pfail C.tk C.en 4) C s w e0 W→e0= .returned (.tuple #[])∧∃v:Int,W.cell? ⟨C.g,3,none⟩=some (.int .i64 v)∧W.frozen? ⟨C.g,3,none⟩=false∧∀u:Int,PU (ddeeper C.tk C.en) C s w (.returned (.tuple #[])) (W.setCell ⟨C.g,3,none⟩ (.int .i64 u))):=fun e0 W hu=>by
   obtain⟨v,d3,_⟩:=hu.2.1.c3
   refine⟨hu.1,v,d3,hu.2.1.fr 3,fun u=>⟨rfl, ?_,hu.2.2.trans KeptG.set⟩⟩
   rw[e]
   exact hu.2.1.set3 (pdn (pfail C.tk C.en 4 s)) ⟨rfl,rfl⟩ _ (fun e1=>absurd e1 (fail_er 4 s))
  have h5i:s.ne=50:=h5
  rw[h5]at c3
  generalize PU (ddeeper C.tk C.en) C s w=Q at*
  generalize PU (pfail C.tk C.en 4) C s w=Q2 at*
  unfold PC.p at*
  clear h e HP h5i h5
  go_enter Tryz.func128,Tryz.ntmps128
  go_wp2_with fail
  refine HF.out.mono ?_
  rintro e w1 hu
  obtain⟨rfl,v,d3,g3,hq⟩:=HE.out _ _ hu
  have HQ:=Lib.hid hq
  clear hu HF HE hq
  go_wp2_with fail
  try go_end0
  exact HQ.out _
 ·have e:ddeeper C.tk C.en s=pdn s:=by unfold ddeeper;rw[if_neg h5]
  have hb0:(s.ne == 50)=false:=by simpa using h5
  have hw:IntKind.i64.wrap (s.ne+1)=s.ne+1:=IntWalk.i64_in _ (by omega)
  have HE:Hid (PU (ddeeper C.tk C.en) C s w (.returned (.tuple #[])) (w.setCell ⟨C.g,3,none⟩ (.int .i64 (s.ne+1)))):=⟨rfl,by
   rw[e]
   exact HP.out.set3 (pdn s) ⟨rfl,rfl⟩ _ (fun _=>⟨rfl,by show 0≤s.ne+1;omega,by show s.ne+1≤50;omega⟩),KeptG.set⟩
  generalize PU (ddeeper C.tk C.en) C s w=Q at*
  unfold PC.p at*
  clear h e HP hin
  generalize s.ne=z at*
  go_enter Tryz.func128,Tryz.ntmps128
  go_wp2_with fail
  try go_end0
  exact HE.out
theorem begin_any (C:PC)(s:PS)(t:ByteArray)(w:World)(h:PSt C s w)(ht:t≠(⟨#[]⟩:ByteArray)):
 Calls Tryz.prog 68 #[C.p,.string t] w (PU (dbegin C.tk C.en t) C s w):=by
 have HN:=Lib.hid (next_any C s w h)
 by_cases hp:dnx C.tk s=t
 ·obtain⟨h0,hn⟩:=dnx_inv (tk:=C.tk) (s:=s) (by rw[hp];exact ht)
  rw[hp]at HN
  have e:dbegin C.tk C.en t s=deat C.tk C.en t (ddeeper C.tk C.en s):=by unfold dbegin;rw[if_pos hp]
  have HD:=Lib.hid (fun W (hb:Below w.heap.size w W)=>deeper_any C s W (h.up hb) h0)
  have HM:=Lib.hid (fun W (hW:PSt C (ddeeper C.tk C.en s) W)=>eat_any C (ddeeper C.tk C.en s) t W hW ht)
  have X1:Hid (∀W e0 W',PU (ddeeper C.tk C.en) C s W e0 W'→e0= .returned (.tuple #[])∧PSt C (ddeeper C.tk C.en s) W'∧KeptG C.g W W'):=fun W e0 W' hu=>hu
  have HE:Hid (∀W e0 W',KeptG C.g w W→PU (deat C.tk C.en t) C (ddeeper C.tk C.en s) W e0 W'→e0= .returned (.tuple #[])∧PU (dbegin C.tk C.en t) C s w (.returned (.tuple #[])) W'):=fun W e0 W' hk hu=>⟨hu.1,rfl,by rw[e];exact hu.2.1,hk.trans hu.2.2⟩
  obtain⟨q1,q2⟩:=str_eq t
  generalize PU (dbegin C.tk C.en t) C s w=Q at*
  generalize PU (ddeeper C.tk C.en) C s=Q2 at*
  generalize PU (deat C.tk C.en t) C (ddeeper C.tk C.en s)=Q3 at*
  unfold PC.p at*
  clear h e hp
  go_enter Tryz.func68,Tryz.ntmps68
  go_wp2_with fail
  refine HN.out.mono ?_
  rintro e w1 ⟨rfl,hb⟩
  have HB:=Lib.hid hb
  have HD1:=Lib.hid (HD.out w1 hb)
  clear hb HN HD
  go_wp2_with fail
  refine HD1.out.mono ?_
  rintro e w2 hu
  obtain⟨rfl,hp2,hk2⟩:=X1.out _ _ _ hu
  have HM2:=Lib.hid (HM.out w2 hp2)
  have HK2:=Lib.hid ((KeptG.of_below HB.out).trans hk2)
  clear hu hp2 hk2 HD1 X1 HM HB
  go_wp2_with fail
  refine HM2.out.mono ?_
  rintro e w3 hu
  obtain⟨rfl,hq⟩:=HE.out w2 _ w3 HK2.out hu
  have HQ:=Lib.hid hq
  clear hu HM2 HE HK2 hq
  go_wp2_with fail
  try go_end0
  exact HQ.out
 ·have e:dbegin C.tk C.en t s=deat C.tk C.en t s:=by unfold dbegin;rw[if_neg hp]
  have HM:=Lib.hid (fun W (hb:Below w.heap.size w W)=>eat_any C s t W (h.up hb) ht)
  have HE:Hid (∀W e0 W',Below w.heap.size w W→PU (deat C.tk C.en t) C s W e0 W'→e0= .returned (.tuple #[])∧PU (dbegin C.tk C.en t) C s w (.returned (.tuple #[])) W'):=fun W e0 W' hb hu=>⟨hu.1,rfl,by rw[e];exact hu.2.1,(KeptG.of_below hb).trans hu.2.2⟩
  obtain⟨q1,q2⟩:=str_ne hp
  generalize PU (dbegin C.tk C.en t) C s w=Q at*
  generalize PU (deat C.tk C.en t) C s=Q3 at*
  generalize dnx C.tk s=x at*
  unfold PC.p at*
  clear h e
  go_enter Tryz.func68,Tryz.ntmps68
  go_wp2_with fail
  refine HN.out.mono ?_
  rintro e w1 ⟨rfl,hb⟩
  have HB:=Lib.hid hb
  have HM2:=Lib.hid (HM.out w1 hb)
  clear hb HN HM
  go_wp2_with fail
  refine HM2.out.mono ?_
  rintro e w3 hu
  obtain⟨rfl,hq⟩:=HE.out w1 _ w3 HB.out hu
  have HQ:=Lib.hid hq
  clear hu HM2 HE HB hq
  go_wp2_with fail
  try go_end0
  exact HQ.out
theorem finish_any (C:PC)(s:PS)(t:ByteArray)(w:World)(h:PSt C s w)(ht:t≠(⟨#[]⟩:ByteArray))(hne:(deat C.tk C.en t s).er=none→1≤s.ne):
 Calls Tryz.prog 70 #[C.p,.string t] w (PU (dfin C.tk C.en t) C s w):=by
 have HM:=Lib.hid (eat_any C s t w h ht)
 have hkeep:(deat C.tk C.en t s).ne=s.ne:=by
  unfold deat
  split
  ·rfl
  ·unfold pfail;split<;>rfl
 have HE:Hid (∀e0 W,PU (deat C.tk C.en t) C s w e0 W→e0= .returned (.tuple #[])∧∃v:Int,W.cell? ⟨C.g,3,none⟩=some (.int .i64 v)∧W.frozen? ⟨C.g,3,none⟩=false∧∀u,u=IntKind.i64.wrap (v - 1)→PU (dfin C.tk C.en t) C s w (.returned (.tuple #[])) (W.setCell ⟨C.g,3,none⟩ (.int .i64 u))):=fun e0 W hu=>by
  obtain⟨v,d3,hv⟩:=hu.2.1.c3
  refine⟨hu.1,v,d3,hu.2.1.fr 3,fun u hu9=>⟨rfl, ?_,hu.2.2.trans KeptG.set⟩⟩
  rw[hu9]
  refine hu.2.1.set3 (pup (deat C.tk C.en t s)) ⟨rfl,rfl⟩ _ (fun e1=> ?_)
  have h1:=hv e1
  have h2:=hu.2.1.inv e1
  have h3:=hne e1
  rw[hkeep]at h1 h2
  show IntKind.i64.wrap (v - 1)=(deat C.tk C.en t s).ne - 1∧0≤(deat C.tk C.en t s).ne - 1∧(deat C.tk C.en t s).ne - 1≤50
  rw[hkeep,h1]
  exact⟨IntWalk.i64_in _ (by omega),by omega,by omega⟩
 generalize PU (dfin C.tk C.en t) C s w=Q at*
 generalize PU (deat C.tk C.en t) C s w=Q2 at*
 unfold PC.p at*
 clear h hne hkeep
 go_enter Tryz.func70,Tryz.ntmps70
 go_wp2_with fail
 refine HM.out.mono ?_
 rintro e w1 hu
 obtain⟨rfl,v,d3,g3,hq⟩:=HE.out _ _ hu
 have HQ:=Lib.hid hq
 clear hu HM HE hq
 go_wp2_with fail
 try go_end0
 exact HQ.out _ (IntWalk.i64_left _).symm
end Dc
namespace Dc
open Go.RowKit
structure Md (tk:List Tok)(s s':PS):Prop where
 er:s.er≠none→s'.er=s.er
 nx:s'.er=none→s.er=none∧s.nx≤s'.nx∧s'.ne=s.ne
theorem Md.refl (tk:List Tok)(s:PS):Md tk s s:=⟨fun _=>rfl,fun e=>⟨e,Nat.le_refl _,rfl⟩⟩
theorem Md.trans {tk:List Tok}{a b c:PS}(h:Md tk a b)(k:Md tk b c):Md tk a c:=
 ⟨fun e=>(k.er (by rw[h.er e];exact e)).trans (h.er e),fun e=>by
   obtain⟨e1,e2,e3⟩:=k.nx e
   obtain⟨e4,e5,e6⟩:=h.nx e1
   exact⟨e4,Nat.le_trans e5 e2,e3.trans e6⟩⟩
theorem md_of {α:Type}{tk:List Tok}{s:PS}{r r':α×PS}(h:Ra r r')(m:Mv tk s r.2):Md tk s r'.2:=
 ⟨fun e=>by rw[←h.1.er];exact(m.er e).1,fun e=>by
   have e1:r.2.er=none:=by rw[h.1.er];exact e
   have e2:=h.1.eq e1
   exact⟨m.none e1,by rw[←e2];exact m.nx,by rw[←e2];exact m.same e1⟩⟩
structure Fd (n:Nat)(s:PS):Prop where
 pos:1≤n
 deep:s.er=none→52≤(n:Int)+s.ne
theorem Fd.mv {tk:List Tok}{n:Nat}{s s':PS}(h:Fd n s)(k:Md tk s s'):Fd n s':=⟨h.pos,fun e=>by
 obtain⟨e1,_,e3⟩:=k.nx e
 rw[e3];exact h.deep e1⟩
section
variable {C:PC} {s:PS} {w:World}
theorem PSt.ok (h:PSt C s w):s.er=none→s.ne≤50:=fun e=>(h.inv e).2.1
theorem PSt.top (h:PSt C s w):Fd 53 s:=⟨by decide,fun e=>by have:=(h.inv e).1;omega⟩
theorem Fd.deeper {n:Nat}(f:Fd (n+1) s)(h:PSt C s w)(h0:s.er=none):Fd n (ddeeper C.tk C.en s):=by
 have h1:=f.deep h0
 have h2:=h.ok h0
 refine⟨by omega,fun e=> ?_⟩
 unfold ddeeper at e⊢
 by_cases h5:s.ne=50
 ·rw[if_pos h5]at e
  exact absurd e (fail_er 4 s)
 ·rw[if_neg h5]
  show(52:Int)≤n+(s.ne+1)
  omega
theorem deeper_ne (h:(ddeeper C.tk C.en s).er=none):s.er=none∧(ddeeper C.tk C.en s).ne=s.ne+1∧(ddeeper C.tk C.en s).nx=s.nx:=by
 unfold ddeeper at h⊢
 by_cases h5:s.ne=50
 ·rw[if_pos h5]at h
  exact absurd h (fail_er 4 s)
 ·rw[if_neg h5]at h⊢
  exact⟨h,rfl,rfl⟩
def mz (C:PC)(w:World):Nat:=match w.cell? ⟨C.g,4,none⟩,w.cell? ⟨C.g,2,none⟩with
 | some (.int _ b),some (.int _ v)=>if b=0 then C.tk.length+1 - v.toNat else 0
 | _,_=>0
theorem mz_ok (h:PSt C s w)(h0:s.er=none):mz C w=C.tk.length+1 - s.nx:=by
 have h4:=h.c4
 have e:ebad s=0:=by unfold ebad;rw[h0]
 rw[e]at h4
 unfold mz
 rw[h4,h.two h0]
 simp
theorem mz_bad (h:PSt C s w)(h0:s.er≠none):mz C w=0:=by
 have h4:=h.c4
 obtain⟨v,h2,_⟩:=h.c2
 rcases h.bad with ⟨e,_⟩ | ⟨_,e⟩
 ·exact absurd e h0
 ·unfold mz
  rw[h4,h2]
  simp[e]
theorem mz_less {s2:PS}{w2:World}(h:PSt C s w)(h0:s.er=none)(h2:PSt C s2 w2)(hn:s2.er=none→s.nx<s2.nx):mz C w2<mz C w:=by
 rw[mz_ok h h0]
 have h3:=(h.inv h0).2.2
 by_cases e:s2.er=none
 ·rw[mz_ok h2 e]
  have h4:=(h2.inv e).2.2
  have:=hn e
  omega
 ·rw[mz_bad h2 e]
  omega
end
theorem box_fin {T:Type}{sh:Pak.Sh T}{f:PS→T×PS}{C:PC}{s:PS}{w wk w9:World}{z:List Value}{t:TypeId}{cs:List Value}(hp0:C.g<w.heap.size)(hk:KeptG C.g (w.alloc (.cells z.toArray t)) wk)(hp:PSt C (f s).2 wk)(hx:sh.rel (InS (w.heap.size+1) wk) wk cs (f s).1)(hst:Stored w.heap.size 0 cs wk w9)(hz:∀t u,z[1]? ≠some (.iface t u)):
 PE (Vx sh) f C s w (.returned (.agg cs.toArray)) w9:=by
 have hl:w.heap.size<(w.alloc (.cells z.toArray t)).heap.size:=by simp
 have hn:w.heap.size≠C.g:=by omega
 refine⟨_,rfl,⟨cs,rfl, ?_⟩,hp.far hst.far hp0 (fun t' u e=> ?_) hp.g5,((KeptG.alloc C.g w _).trans hk).far hst.far (Nat.le_refl _)⟩
 ·exact sh_hi hx (hst.far.hi (Nat.lt_succ_self _)) (Nat.le_succ _)
 ·rw[hk.cell hl hn]at e
  have:=(cell_of_row (w.alloc (.cells z.toArray t)) w.heap.size 1 _ _ _ (heap_alloc_new w (.cells z.toArray t)))
  rw[this,List.getElem?_toArray]at e
  exact hz _ _ e
section
variable {T:Type} {sh:Pak.Sh T}
structure LP (sh:Pak.Sh T)(C:PC)(w:World)(M:Nat)(s:PS)(x:T)(cs:List Value)(wr:World):Prop where
 ps:PSt C s wr
 gl:C.g<w.heap.size
 ml:w.heap.size+1≤M∧M<wr.heap.size
 kept:KeptG C.g w wr
 box:wr.rangeAt M 0 cs
 th:wr.there M 0 sh.k
 res:wr.there w.heap.size 0 sh.k
 nz:∀t u,wr.cell? ⟨w.heap.size,1,none⟩≠some (.iface t u)
 tree:sh.rel (InN (w.heap.size+1) M wr) wr cs x
theorem LP.len {C:PC}{w wr:World}{M:Nat}{s:PS}{x:T}{cs:List Value}(h:LP sh C w M s x cs wr):cs.length=sh.k:=sh.len h.tree
theorem LP.one {C:PC}{w wr:World}{M:Nat}{s:PS}{x:T}{cs:List Value}(h:LP sh C w M s x cs wr):∀u∈cs,u.oneCell'=true:=sh.one h.tree
theorem LP.start {f:PS→T×PS}{C:PC}{s:PS}{w w1:World}{z cs:List Value}{t t2:TypeId}(hg:C.g<w.heap.size)(hz1:z.length=sh.k)(hz:∀t u,z[1]? ≠some (.iface t u))(h2:PSt C (f s).2 w1)(hk:KeptG C.g (w.alloc (.cells z.toArray t)) w1)(hx:sh.rel (InS (w.heap.size+1) w1) w1 cs (f s).1):
 LP sh C w w1.heap.size (f s).2 (f s).1 cs (w1.alloc (.cells cs.toArray t2)):=by
 have hs:w.heap.size+1≤w1.heap.size:=by have:=hk.size;simp at this;omega
 have hk2:KeptG C.g (w.alloc (.cells z.toArray t)) (w1.alloc (.cells cs.toArray t2)):=hk.trans (KeptG.alloc _ _ _)
 refine⟨h2.alloc _,hg,⟨hs,by simp⟩,(KeptG.alloc _ _ _).trans hk2,range_new _ _ _,by have:=there_new w1 cs t2;rwa [sh.len hx]at this,by have:=hk2.there (by simp) (by omega) (there_new w z t);rwa [hz1]at this,fun t' u e=> ?_, ?_⟩
 ·rw[hk2.cell (by simp) (by omega)]at e
  have:=(cell_of_row (w.alloc (.cells z.toArray t)) w.heap.size 1 _ _ _ (heap_alloc_new w (.cells z.toArray t)))
  rw[this,List.getElem?_toArray]at e
  exact hz _ _ e
 ·exact inN_kept (inN_of (M:=w1.heap.size) hx (Nat.le_refl _) (.inr (Nat.le_refl _))) (KeptG.alloc C.g w1 _) (by omega)
theorem LP.step {C:PC}{w wr w':World}{M:Nat}{s s':PS}{x:T}{cs:List Value}(h:LP sh C w M s x cs wr)(k:KeptG C.g wr w')(hp:PSt C s' w'):LP sh C w M s' x cs w':=by
 have h1:=h.gl
 have h2:=h.ml
 have h3:=h.kept.size
 exact⟨hp,h1,⟨h2.1,Nat.lt_of_lt_of_le h2.2 k.size⟩,h.kept.trans k,k.range h2.2 (by omega) h.box,k.there h2.2 (by omega) h.th,k.there (by omega) (by omega) h.res,fun t u e=>h.nz t u (by rw[k.cell (by omega) (by omega)]at e;exact e),inN_kept h.tree k (by omega)⟩
theorem LP.next {C:PC}{w wr Wc W4 W9:World}{M:Nat}{s s1 s4:PS}{x y z:T}{cs cs2 cs':List Value}{t:TypeId}(h:LP sh C w M s x cs wr)(kc:KeptG C.g wr Wc)(k4:KeptG C.g Wc W4)(hp:PSt C s4 W4)(hy:sh.rel (InS Wc.heap.size W4) W4 cs2 y)
 (hst:Stored M 0 cs' (W4.alloc (.cells (cs ++ cs2).toArray t)) W9) (hni:∃v,cs[1]? =some v∧∀t u,v≠ .iface t u) (hl:cs'.length=sh.k) (hmk:∀S W,Pak.Slot sh S W (.slice (some ⟨W4.heap.size,0,none⟩) 2 2) [x,y]→sh.rel S W cs' z):LP sh C w M s4 z cs' W9:=by
 have h1:=h.gl
 have h2:=h.ml
 have h3:=h.kept.size
 have ka:KeptG C.g W4 (W4.alloc (.cells (cs ++ cs2).toArray t)):=KeptG.alloc _ _ _
 have kk:=(kc.trans k4).trans ka
 have hw:w.heap.size<wr.heap.size:=by omega
 have hwM:w.heap.size≠M:=by omega
 have hbox:=kk.range h2.2 (by omega) h.box
 have hsz:(W4.alloc (.cells (cs ++ cs2).toArray t)).heap.size=W4.heap.size+1:=by simp
 have hcs:=kc.size
 have h4s:=k4.size
 have hfar:=hst.far
 have hM9:M<W9.heap.size:=by rw[hfar.size];omega
 refine⟨(hp.alloc _).far hfar (by omega) (fun t' u e=> ?_) hp.g5,h1,⟨h2.1,hM9⟩,(h.kept.trans kk).far hfar (by omega),hst.at', ?_, ?_,fun t' u e=> ?_, ?_⟩
 ·obtain⟨v,hc,hv⟩:=hni
  have:=hbox 1 v hc
  rw[Nat.zero_add]at this
  rw[this]at e
  injection e with e
  exact hv _ _ e
 ·intro j hj
  rw[hst.fr]
  refine⟨?_,((kk.there h2.2 (by omega) h.th) j hj).2⟩
  exact hst.at'.isSome j (by rw[hl];exact hj)
 ·intro j hj
  have:=kk.there (by omega) (by omega) h.res j hj
  rw[World.cell?_of_block (hfar.block _ hwM),World.frozen?_of_block (hfar.block _ hwM)]
  exact this
 ·rw[World.cell?_of_block (hfar.block _ hwM),kk.cell (by omega) (by omega)]at e
  exact h.nz _ _ e
 ·have hx9:sh.rel (InN (w.heap.size+1) M W9) W9 cs x:=inN_far (inN_kept h.tree kk (by omega)) hfar
  have hy9:sh.rel (InN (w.heap.size+1) M W9) W9 cs2 y:=inN_far (inN_kept (inN_of hy (by omega) (.inl (by omega))) ka (by omega)) hfar
  refine hmk _ _ (slot_two (cs:=cs) (ds:=cs2) ?_ hx9 hy9 ⟨by omega,by rw[hfar.size];omega,by omega⟩)
  intro j v hv
  rw[World.cell?_of_block (hfar.block _ (by show W4.heap.size≠M;omega))]
  exact range_new W4 _ t j v hv
theorem LP.fin {F:PS→T×PS}{C:PC}{w wr w9:World}{M:Nat}{s0 s:PS}{x:T}{cs:List Value}(h:LP sh C w M s x cs wr)(hst:Stored w.heap.size 0 cs wr w9)(e:F s0=(x,s)):PE (Vx sh) F C s0 w (.returned (.agg cs.toArray)) w9:=by
 have h1:=h.gl
 refine⟨_,rfl,⟨cs,rfl, ?_⟩, ?_,h.kept.far hst.far (Nat.le_refl _)⟩
 ·rw[e]
  exact sh_hi (inN_s h.tree) (hst.far.hi (Nat.lt_succ_self _)) (Nat.le_succ _)
 ·rw[e]
  exact h.ps.far hst.far h1 h.nz h.ps.g5
end
end Dc
namespace Dc
open Go.RowKit
theorem valD_snoc (l:List UInt8)(c:UInt8)(a:Nat):valD (l ++ [c]) a=valD l a*10+(c.toNat - 48):=by
 unfold valD
 rw[List.foldl_append]
 rfl
theorem valD_take (l:List UInt8)(j:Nat):valD (l.take j) 0≤valD l 0:=by
 have h:valD l 0=valD (l.drop j) (valD (l.take j) 0):=by
  unfold valD
  rw[←List.foldl_append,List.take_append_drop]
 rw[h]
 exact valD_acc _ _
theorem dtext_num {C:PC}{s:PS}{w:World}(h:PSt C s w):(dtext C.tk C.en 3 s).1.size≤65536∧allD (dtext C.tk C.en 3 s).1.data.toList∧valD (dtext C.tk C.en 3 s).1.data.toList 0≤1073741824:=by
 by_cases hp:pkd C.tk s=3
 ·obtain⟨h0,hn⟩:=pkd_inv (tk:=C.tk) (s:=s) (by rw[hp];decide)
  have e1:(dtext C.tk C.en 3 s).1=(C.tk.getD s.nx tok0).text:=by unfold dtext;rw[if_pos hp]
  have hk:(C.tk.getD s.nx tok0).kind=3:=by
   unfold pkd at hp;rw[if_pos ⟨h0,hn⟩]at hp;exact hp
  have hmem:C.tk.getD s.nx tok0∈C.tk:=by rw[List.getD_eq_getElem?_getD,List.getElem?_eq_getElem hn];exact List.getElem_mem hn
  obtain⟨hs,h3⟩:=h.small _ hmem
  obtain⟨hv,hD,hne⟩:=h3 hk
  rw[e1]
  exact⟨hs,hD,hv⟩
 ·have e1:(dtext C.tk C.en 3 s).1=⟨#[]⟩:=by unfold dtext;rw[if_neg hp]
  rw[e1]
  exact⟨by decide,fun c hc=>(by cases hc),by decide⟩
theorem dnum_le {C:PC}{s:PS}{w:World}(h:PSt C s w):0≤(dnum C.tk C.en s).1∧(dnum C.tk C.en s).1≤1073741824:=by
 have:=(dtext_num h).2.2
 unfold dnum pval
 exact⟨Int.natCast_nonneg _,by show((_:Nat):Int)≤_;omega⟩
theorem number_any (C:PC)(s:PS)(w:World)(h:PSt C s w):
 Calls Tryz.prog 127 #[C.p] w (PE Vi (dnum C.tk C.en) C s w):=by
 have HT:=Lib.hid (text_any C s 3 w h (by decide))
 obtain⟨hs,hD,hv⟩:=dtext_num h
 have HE:Hid (∀e w1,PE Vt (dtext C.tk C.en 3) C s w e w1→e= .returned (.string (dtext C.tk C.en 3 s).1)∧PE Vi (dnum C.tk C.en) C s w (.returned (.int .i64 ((valD (dtext C.tk C.en 3 s).1.data.toList 0:Nat):Int))) w1):=fun e w1 ⟨v,a1,a2,a3,a4⟩=>⟨by rw[a1,show v= .string _ from a2],_,rfl,rfl,a3,a4⟩
 generalize PE Vi (dnum C.tk C.en) C s w=Q at*
 generalize PE Vt (dtext C.tk C.en 3) C s w=Q2 at*
 generalize (dtext C.tk C.en 3 s).1=x at*
 have hix:∀(j:Nat) (hj:j<x.size) W,(Instr.index 9 (.string x) (.int .i64 (j:Int))).run Tryz.prog W= .ok (.int .u8 ((x.data.toList.getD j 0).toNat:Int)) W:=fun j hj W=>by
  rw[run_index_string W _ x .i64 _ Tryz.underlying9,dif_pos ⟨by omega,by omega⟩]
  have e:x[(j:Int).toNat]'(by simpa using hj)=x.data.toList.getD j 0:=by
   rw[get_l]
   have hj2:j<x.data.toList.length:=by rw[size_l];exact hj
   rw[List.getD_eq_getElem?_getD,List.getElem?_eq_getElem hj2]
   simp
  rw[e]
 have hstep:∀j,j<x.size→valD (x.data.toList.take (j+1)) 0=valD (x.data.toList.take j) 0*10+((x.data.toList.getD j 0).toNat - 48)∧48≤(x.data.toList.getD j 0).toNat∧(x.data.toList.getD j 0).toNat≤57∧valD (x.data.toList.take j) 0≤1073741824:=fun j hj=>by
  have hj2:j<x.data.toList.length:=by rw[size_l];exact hj
  have e:x.data.toList.getD j 0=x.data.toList[j]:=by rw[List.getD_eq_getElem?_getD,List.getElem?_eq_getElem hj2];rfl
  have:=dig_in (hD _ (List.getElem_mem hj2))
  rw[e,List.take_succ_eq_append_getElem hj2,valD_snoc]
  exact⟨rfl,this.1,this.2,Nat.le_trans (valD_take _ _) hv⟩
 have HIX:=Lib.hid hix
 have HST:=Lib.hid hstep
 have hend:x.data.toList.take x.size=x.data.toList:=by rw[←size_l,List.take_length]
 unfold PC.p at*
 clear h hix hstep hD hv
 go_enter Tryz.func127,Tryz.ntmps127
 go_wp2_with fail
 refine HT.out.mono ?_
 rintro e w1 hq
 obtain⟨rfl,hq1⟩:=HE.out _ _ hq
 have HQ:=Lib.hid hq1
 clear hq hq1 HT HE
 go_wp2_with fail
 go_loop [4,5] (fun n i=>∃j:Nat,j≤x.size∧n= .int .i64 ((valD (x.data.toList.take j) 0:Nat):Int)∧i= .int .i64 j) (fun _ i=>x.size - (intOf i).toNat)
 case atStart=>exact⟨0,Nat.zero_le _,rfl,rfl⟩
 case round=>
  obtain⟨j,hj,rfl,rfl⟩:=hrel
  by_cases hlt:j<x.size
  ·have hlti:(j:Int)<(x.size:Int):=by omega
   have hi:=HIX.out j hlt
   obtain⟨g1,g2,g3,g4⟩:=HST.out j hlt
   have HG:=Lib.hid g1
   generalize (x.data.toList.getD j 0).toNat=c at*
   generalize valD (x.data.toList.take j) 0=v at*
   have hw1:IntKind.i64.wrap (10*(v:Int))=10*(v:Int):=IntWalk.i64_in _ (by omega)
   have hw2:IntKind.i64.wrap ((c:Int))=(c:Int):=IntWalk.i64_in _ (by omega)
   have hw3:IntKind.i64.wrap (10*(v:Int)+(c:Int))=10*(v:Int)+(c:Int):=IntWalk.i64_in _ (by omega)
   have hw4:IntKind.i64.wrap (10*(v:Int)+(c:Int) - 48)=10*(v:Int)+(c:Int) - 48:=IntWalk.i64_in _ (by omega)
   clear g1
   go_wp2_with fail
   go_round
   case rel=>exact⟨j+1,by omega,by rw[HG.out];congr 1;omega,by go_num⟩
   case measure=>simp[intOf];omega
  ·obtain rfl:j=x.size:=by omega
   rw[hend]
   go_wp2_with fail
   try go_ret
   exact HQ.out
end Dc
end Go.Proofs.YtcinokljkieijaaGreatDoor
