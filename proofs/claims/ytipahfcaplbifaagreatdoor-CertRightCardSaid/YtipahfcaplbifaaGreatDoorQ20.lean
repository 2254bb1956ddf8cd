/- Parts of a proof. -/
import Derived.Test.YtipahfcaplbifaaGreatDoorQ06
import Derived.Test.YtipahfcaplbifaaGreatDoorQ19
set_option linter.unusedVariables false
set_option linter.unusedSimpArgs false
set_option maxHeartbeats 60000000
set_option maxRecDepth 100000
namespace Go.Proofs.YtipahfcaplbifaaGreatDoor
section
open Go.RowKit
theorem bare_ways (f:FT):(f.c=0∧f.t.length=0∧bareF f=true)∨(f.c=0∧f.t.length≠0∧bareF f=false)∨(f.c≠0∧bareF f=false):=by
 unfold bareF
 by_cases h1:f.c=0
 ·by_cases h2:f.t.length=0
  ·exact .inl ⟨h1,h2,by rw[decide_eq_true h1,decide_eq_true h2];rfl⟩
  ·exact .inr (.inl ⟨h1,h2,by rw[decide_eq_true h1,decide_eq_false h2];rfl⟩)
 ·exact .inr (.inr ⟨h1,by rw[decide_eq_false h1];rfl⟩)
theorem only_0 (n:Nat)(f:FT)(cs:List Value)(w:World)(IH:∀(f:FT) (cs:List Value) (w:World),FLies w.heap.size w n f cs→Calls Tryz.prog 97 #[.agg cs.toArray] w fun e w'=>e= .returned (.bool (madeF n f))∧Below w.heap.size w w')
  (h:FLies w.heap.size w (n+1) f cs) (hk:f.kind=0):
  Calls Tryz.prog 97 #[.agg cs.toArray] w fun e w'=>e= .returned (.bool (madeF (n+1) f))∧Below w.heap.size w w':=by
 have FL:=fun W (hb:Below w.heap.size w W)=>(h.below hb).mono hb.size
 obtain⟨ta,tcap,ka,kcap,rfl,hlt,ht4,hk4,hks⟩:=h
 have B0:=Lib.hid (box_start w f.kind f.c ta ka f.t.length tcap f.ks.length kcap)
 rw[madeF_0 (by omega)]
 rw[hk]at B0⊢
 rcases bare_ways f with ⟨hc,ht,hb⟩ | ⟨hc,ht,hb⟩ | ⟨hc,hb⟩
 ·rw[hb]
  have e1:(f.c == 0)=true:=by simpa using hc
  have e2:((f.t.length:Int) == 0)=true:=by rw[len0];exact decide_eq_true ht
  generalize f.c=fc at B0 e1
  generalize f.t.length=ft at B0 e2
  generalize f.ks.length=len at B0 hk4
  clear IH FL hks hlt ht4 hk hb hc ht
  go_enter Tryz.func97,Tryz.ntmps97
  go_wp2_with fail
  go_ret
  exact⟨ret_bool (by first | rfl | exact len0 _ | exact len1 _ | (simp;done) | (rw[len0];simp;done) | (rw[len1];simp;done)),B0.out.bel⟩
 ·rw[hb]
  have e1:(f.c == 0)=true:=by simpa using hc
  have e2:((f.t.length:Int) == 0)=false:=by rw[len0];exact decide_eq_false ht
  generalize f.c=fc at B0 e1
  generalize f.t.length=ft at B0 e2
  generalize f.ks.length=len at B0 hk4
  clear IH FL hks hlt ht4 hk hb hc ht
  go_enter Tryz.func97,Tryz.ntmps97
  go_wp2_with fail
  go_ret
  exact⟨ret_bool (by first | rfl | exact len0 _ | exact len1 _ | (simp;done) | (rw[len0];simp;done) | (rw[len1];simp;done)),B0.out.bel⟩
 ·rw[hb]
  have e1:(f.c == 0)=false:=by simpa using hc
  generalize f.c=fc at B0 e1
  generalize f.t.length=ft at B0
  generalize f.ks.length=len at B0 hk4
  clear IH FL hks hlt ht4 hk hb hc
  go_enter Tryz.func97,Tryz.ntmps97
  go_wp2_with fail
  go_ret
  exact⟨ret_bool (by first | rfl | exact len0 _ | exact len1 _ | (simp;done) | (rw[len0];simp;done) | (rw[len1];simp;done)),B0.out.bel⟩
theorem only_1 (n:Nat)(f:FT)(cs:List Value)(w:World)(IH:∀(f:FT) (cs:List Value) (w:World),FLies w.heap.size w n f cs→Calls Tryz.prog 97 #[.agg cs.toArray] w fun e w'=>e= .returned (.bool (madeF n f))∧Below w.heap.size w w')
  (h:FLies w.heap.size w (n+1) f cs) (hk:f.kind=1):
  Calls Tryz.prog 97 #[.agg cs.toArray] w fun e w'=>e= .returned (.bool (madeF (n+1) f))∧Below w.heap.size w w':=by
 have FL:=fun W (hb:Below w.heap.size w W)=>(h.below hb).mono hb.size
 obtain⟨ta,tcap,ka,kcap,rfl,hlt,ht4,hk4,hks⟩:=h
 have B0:=Lib.hid (box_start w f.kind f.c ta ka f.t.length tcap f.ks.length kcap)
 rw[madeF_0 (by omega)]
 rw[hk]at B0⊢
 rcases bare_ways f with ⟨hc,ht,hb⟩ | ⟨hc,ht,hb⟩ | ⟨hc,hb⟩
 ·rw[hb]
  have e1:(f.c == 0)=true:=by simpa using hc
  have e2:((f.t.length:Int) == 0)=true:=by rw[len0];exact decide_eq_true ht
  generalize f.c=fc at B0 e1
  generalize f.t.length=ft at B0 e2
  generalize f.ks.length=len at B0 hk4
  clear IH FL hks hlt ht4 hk hb hc ht
  go_enter Tryz.func97,Tryz.ntmps97
  go_wp2_with fail
  go_ret
  exact⟨ret_bool (by first | rfl | exact len0 _ | exact len1 _ | (simp;done) | (rw[len0];simp;done) | (rw[len1];simp;done)),B0.out.bel⟩
 ·rw[hb]
  have e1:(f.c == 0)=true:=by simpa using hc
  have e2:((f.t.length:Int) == 0)=false:=by rw[len0];exact decide_eq_false ht
  generalize f.c=fc at B0 e1
  generalize f.t.length=ft at B0 e2
  generalize f.ks.length=len at B0 hk4
  clear IH FL hks hlt ht4 hk hb hc ht
  go_enter Tryz.func97,Tryz.ntmps97
  go_wp2_with fail
  go_ret
  exact⟨ret_bool (by first | rfl | exact len0 _ | exact len1 _ | (simp;done) | (rw[len0];simp;done) | (rw[len1];simp;done)),B0.out.bel⟩
 ·rw[hb]
  have e1:(f.c == 0)=false:=by simpa using hc
  generalize f.c=fc at B0 e1
  generalize f.t.length=ft at B0
  generalize f.ks.length=len at B0 hk4
  clear IH FL hks hlt ht4 hk hb hc
  go_enter Tryz.func97,Tryz.ntmps97
  go_wp2_with fail
  go_ret
  exact⟨ret_bool (by first | rfl | exact len0 _ | exact len1 _ | (simp;done) | (rw[len0];simp;done) | (rw[len1];simp;done)),B0.out.bel⟩
theorem only_2 (n:Nat)(f:FT)(cs:List Value)(w:World)(IH:∀(f:FT) (cs:List Value) (w:World),FLies w.heap.size w n f cs→Calls Tryz.prog 97 #[.agg cs.toArray] w fun e w'=>e= .returned (.bool (madeF n f))∧Below w.heap.size w w')
  (h:FLies w.heap.size w (n+1) f cs) (hk:f.kind=2):
  Calls Tryz.prog 97 #[.agg cs.toArray] w fun e w'=>e= .returned (.bool (madeF (n+1) f))∧Below w.heap.size w w':=by
 have FL:=fun W (hb:Below w.heap.size w W)=>(h.below hb).mono hb.size
 obtain⟨ta,tcap,ka,kcap,rfl,hlt,ht4,hk4,hks⟩:=h
 have B0:=Lib.hid (box_start w f.kind f.c ta ka f.t.length tcap f.ks.length kcap)
 have hck:=Lib.hid (fun W (hb:Below w.heap.size w W)=>rcheck_any f.c ta f.t.length tcap f.t W rfl ht4 ((hlt.below hb).mono hb.size))
 have hgc:=Lib.hid (fun(h64:f.t.length≤64) (hall:∀j,j<f.t.length→ -1073741824≤(f.t.getD j (0,0)).2∧(f.t.getD j (0,0)).2≤1073741824) W (hb:Below w.heap.size w W)=>rgcd_any f.c ta f.t.length tcap f.t W rfl h64 ((hlt.below hb).mono hb.size) hall)
 rw[madeF_2 hk]
 rw[hk]at B0⊢
 have hcan:canF f.c f.t=(snd f.c f.t && (decide (gAt f.t f.t.length=1) && decide (0<(f.t.getD 0 (0,0)).2))):=rfl
 rw[hcan]
 have ec:(f.c == 0)=true∨(f.c == 0)=false:=by cases (f.c == 0)<;>simp
 cases hs:snd f.c f.t with
 | false=>
   rw[hs]at hck
   rw[Bool.false_and,Bool.false_and]
   generalize f.c=fc at B0 hck ec
   generalize f.t.length=ft at B0 hck
   generalize f.ks.length=len at B0 hk4
   clear IH FL hks hlt ht4 hk hgc hcan hs
   rcases ec with e1 | e1
   all_goals
    go_enter Tryz.func97,Tryz.ntmps97
    go_wp2_with fail
    refine(hck.out _ B0.out.bel).mono ?_
    rintro e w1 ⟨rfl,hb1⟩
    have T1:=Lib.hid (B0.out.below hb1 B0.out.lt)
    clear hb1
    go_wp2_with fail
    go_ret
    exact⟨rfl,T1.out.bel⟩
 | true=>
   rw[hs]at hck
   rw[Bool.true_and]
   obtain⟨_,h64,hall⟩:=snd_iff.1 hs
   have hgc2:=Lib.hid (hgc.out h64 (fun j hj=>by have:=okAt_in (hall j hj);omega))
   clear hgc
   by_cases hl:f.ks.length=0
   ·rw[decide_eq_true hl,Bool.and_true]
    have el:((f.ks.length:Int) == 0)=true:=by rw[len0];exact decide_eq_true hl
    by_cases h0:f.t.length=0
    ·have hg0:gAt f.t f.t.length=0:=by rw[h0];rfl
     rw[hg0]
     have ep:¬(0:Int)<(f.t.length:Int):=by omega
     generalize f.c=fc at B0 hck ec
     generalize f.t.length=ft at B0 hck ep
     generalize f.ks.length=len at B0 hk4 el
     clear IH FL hks hlt ht4 hk hgc2 hcan hs hall h64 hl h0 hg0
     rcases ec with e1 | e1
     all_goals
      go_enter Tryz.func97,Tryz.ntmps97
      go_wp2_with fail
      refine(hck.out _ B0.out.bel).mono ?_
      rintro e w1 ⟨rfl,hb1⟩
      have T1:=Lib.hid (B0.out.below hb1 B0.out.lt)
      clear hb1
      obtain⟨l1,p0,p1,p2,p3,_⟩:=T1.out
      go_wp2_with fail
      go_ret
      exact⟨rfl,T1.out.bel⟩
    ·obtain⟨b,off,rfl,hblt,c1,c2⟩:=hlt 0 (by omega)
     simp only[Nat.zero_mul,Nat.add_zero]at c1 c2
     have HC2:=Lib.hid (fun W (hb:Below w.heap.size w W)=>(hb.cell (p:=⟨b,off+1,none⟩) hblt).trans c2)
     have ep:(0:Int)<(f.t.length:Int):=by omega
     generalize (f.t.getD 0 (0,0)).2=K at HC2
     generalize gAt f.t f.t.length=g at hgc2
     by_cases hK:0<K
     ·rw[decide_eq_true hK,Bool.and_true]
      generalize f.c=fc at B0 hck ec hgc2
      generalize f.t.length=ft at B0 hck ep hgc2 h64 ht4
      generalize f.ks.length=len at B0 hk4 el
      clear IH FL hks hk hcan hs hall hl h0 c1 c2
      rcases ec with e1 | e1
      all_goals
       go_enter Tryz.func97,Tryz.ntmps97
       go_wp2_with fail
       refine(hck.out _ B0.out.bel).mono ?_
       rintro e w1 ⟨rfl,hb1⟩
       have T1:=Lib.hid (B0.out.below hb1 B0.out.lt)
       clear hb1
       obtain⟨l1,p0,p1,p2,p3,_⟩:=T1.out
       have d2:=HC2.out _ T1.out.bel
       go_wp2_with fail
       refine(hgc2.out _ T1.out.bel).mono ?_
       rintro e w2 ⟨rfl,hb2⟩
       have T2:=Lib.hid (T1.out.below hb2 T1.out.lt)
       clear hb2 l1 p0 p1 p2 p3 d2
       go_wp2_with fail
       go_ret
       exact⟨ret_bool (by first | rfl | exact len0 _ | exact len1 _ | (simp;done) | (rw[len0];simp;done) | (rw[len1];simp;done)),T2.out.bel⟩
     ·rw[decide_eq_false hK,Bool.and_false]
      generalize f.c=fc at B0 hck ec
      generalize f.t.length=ft at B0 hck ep h64 ht4
      generalize f.ks.length=len at B0 hk4 el
      clear IH FL hks hk hgc2 hcan hs hall hl h0 c1 c2
      rcases ec with e1 | e1
      all_goals
       go_enter Tryz.func97,Tryz.ntmps97
       go_wp2_with fail
       refine(hck.out _ B0.out.bel).mono ?_
       rintro e w1 ⟨rfl,hb1⟩
       have T1:=Lib.hid (B0.out.below hb1 B0.out.lt)
       clear hb1
       obtain⟨l1,p0,p1,p2,p3,_⟩:=T1.out
       have d2:=HC2.out _ T1.out.bel
       go_wp2_with fail
       go_ret
       exact⟨ret_bool (by first | rfl | exact len0 _ | exact len1 _ | (simp;done) | (rw[len0];simp;done) | (rw[len1];simp;done)),T1.out.bel⟩
   ·rw[decide_eq_false hl,Bool.and_false]
    have el:((f.ks.length:Int) == 0)=false:=by rw[len0];exact decide_eq_false hl
    generalize f.c=fc at B0 hck ec
    generalize f.t.length=ft at B0 hck
    generalize f.ks.length=len at B0 hk4 el
    clear IH FL hks hlt ht4 hk hgc2 hcan hs hall h64 hl
    rcases ec with e1 | e1
    all_goals
     go_enter Tryz.func97,Tryz.ntmps97
     go_wp2_with fail
     refine(hck.out _ B0.out.bel).mono ?_
     rintro e w1 ⟨rfl,hb1⟩
     have T1:=Lib.hid (B0.out.below hb1 B0.out.lt)
     clear hb1
     obtain⟨l1,p0,p1,p2,p3,_⟩:=T1.out
     go_wp2_with fail
     go_ret
     exact⟨ret_bool (by first | rfl | exact len0 _ | exact len1 _ | (simp;done) | (rw[len0];simp;done) | (rw[len1];simp;done)),T1.out.bel⟩
theorem only_4 (n:Nat)(f:FT)(cs:List Value)(w:World)(IH:∀(f:FT) (cs:List Value) (w:World),FLies w.heap.size w n f cs→Calls Tryz.prog 97 #[.agg cs.toArray] w fun e w'=>e= .returned (.bool (madeF n f))∧Below w.heap.size w w')
  (h:FLies w.heap.size w (n+1) f cs) (hk:f.kind=4):
  Calls Tryz.prog 97 #[.agg cs.toArray] w fun e w'=>e= .returned (.bool (madeF (n+1) f))∧Below w.heap.size w w':=by
 have FL:=fun W (hb:Below w.heap.size w W)=>(h.below hb).mono hb.size
 obtain⟨ta,tcap,ka,kcap,rfl,hlt,ht4,hk4,hks⟩:=h
 have B0:=Lib.hid (box_start w f.kind f.c ta ka f.t.length tcap f.ks.length kcap)
 rw[madeF_4 hk]
 rw[hk]at B0⊢
 rcases bare_ways f with ⟨hc,ht,hb⟩ | ⟨hc,ht,hb⟩ | ⟨hc,hb⟩
 ·rw[hb]
  have e1:(f.c == 0)=true:=by simpa using hc
  have e2:((f.t.length:Int) == 0)=true:=by rw[len0];exact decide_eq_true ht
  rw[Bool.true_and]
  by_cases hl:f.ks.length=1
  ·obtain⟨b,off,c0,c1,c2,c3,rfl,hblt,g0,g1,g2,g3,hf⟩:=hks 0 (by omega)
   have hf':=hf
   obtain⟨m,hm⟩:∃m,n=m+1:=by
    cases n with
    | zero=>exact hf.elim
    | succ m=>exact⟨m,rfl⟩
   subst hm
   obtain⟨tc,tccap,kc,kccap,e,_⟩:=hf
   simp only[List.cons.injEq,and_true]at e
   obtain⟨rfl,rfl,rfl,rfl⟩:=e
   have hih:=Lib.hid (fun W (hb:Below w.heap.size w W)=>IH (f.ks.getD 0 default) _ W ((hf'.below hb).mono hb.size))
   rw[decide_eq_true hl,Bool.true_and]
   rw[hl]at B0
   rw[hl]
   simp only[Nat.zero_mul,Nat.add_zero]at g0 g1 g2 g3
   generalize madeF (m+1) (f.ks.getD 0 default)=u at hih
   generalize (f.ks.getD 0 default).kind=kk at g0 hih
   generalize (f.ks.getD 0 default).c=kc' at g1 hih
   generalize (f.ks.getD 0 default).t.length=kt at g2 hih
   generalize (f.ks.getD 0 default).ks.length=kl at g3 hih
   rw[←B0.out.bel.cell (p:=⟨b,_,none⟩) hblt]at g0 g1 g2 g3
   generalize f.c=fc at B0 e1 g0 g1 g2 g3
   generalize f.t.length=ft at B0 e2 g0 g1 g2 g3
   clear IH FL hks hlt ht4 hk hk4 hl hf' hb hc ht
   by_cases hkk:kk=2
   ·rw[decide_eq_true hkk,Bool.true_and]
    subst hkk
    go_enter Tryz.func97,Tryz.ntmps97
    go_wp2_with fail
    refine(hih.out _ B0.out.bel).mono ?_
    rintro e w2 ⟨rfl,hb2⟩
    have T2:=Lib.hid (B0.out.below hb2 B0.out.lt)
    clear hb2 g0 g1 g2 g3
    go_wp2_with fail
    go_ret
    exact⟨ret_bool (by first | rfl | exact len0 _ | exact len1 _ | (simp;done) | (rw[len0];simp;done) | (rw[len1];simp;done)),T2.out.bel⟩
   ·rw[decide_eq_false hkk,Bool.false_and]
    have hk2:(kk == 2)=false:=by simpa using hkk
    go_enter Tryz.func97,Tryz.ntmps97
    go_wp2_with fail
    go_ret
    exact⟨ret_bool (by first | rfl | exact len0 _ | exact len1 _ | (simp;done) | (rw[len0];simp;done) | (rw[len1];simp;done)),B0.out.bel⟩
  ·rw[decide_eq_false hl,Bool.false_and]
   have hl2:((f.ks.length:Int) == 1)=false:=by rw[len1];exact decide_eq_false hl
   generalize f.c=fc at B0 e1
   generalize f.t.length=ft at B0 e2
   generalize f.ks.length=len at B0 hk4 hl2
   clear IH FL hks hlt ht4 hk hl hb hc ht
   go_enter Tryz.func97,Tryz.ntmps97
   go_wp2_with fail
   go_ret
   exact⟨ret_bool (by first | rfl | exact len0 _ | exact len1 _ | (simp;done) | (rw[len0];simp;done) | (rw[len1];simp;done)),B0.out.bel⟩
 ·rw[hb]
  have e1:(f.c == 0)=true:=by simpa using hc
  have e2:((f.t.length:Int) == 0)=false:=by rw[len0];exact decide_eq_false ht
  rw[Bool.false_and]
  generalize f.c=fc at B0 e1
  generalize f.t.length=ft at B0 e2
  generalize f.ks.length=len at B0 hk4
  clear IH FL hks hlt ht4 hk hb hc ht
  go_enter Tryz.func97,Tryz.ntmps97
  go_wp2_with fail
  go_ret
  exact⟨rfl,B0.out.bel⟩
 ·rw[hb]
  have e1:(f.c == 0)=false:=by simpa using hc
  rw[Bool.false_and]
  generalize f.c=fc at B0 e1
  generalize f.t.length=ft at B0
  generalize f.ks.length=len at B0 hk4
  clear IH FL hks hlt ht4 hk hb hc
  go_enter Tryz.func97,Tryz.ntmps97
  go_wp2_with fail
  go_ret
  exact⟨rfl,B0.out.bel⟩
theorem only_5 (n:Nat)(f:FT)(cs:List Value)(w:World)(IH:∀(f:FT) (cs:List Value) (w:World),FLies w.heap.size w n f cs→Calls Tryz.prog 97 #[.agg cs.toArray] w fun e w'=>e= .returned (.bool (madeF n f))∧Below w.heap.size w w')
  (h:FLies w.heap.size w (n+1) f cs) (hk:f.kind=5):
  Calls Tryz.prog 97 #[.agg cs.toArray] w fun e w'=>e= .returned (.bool (madeF (n+1) f))∧Below w.heap.size w w':=by
 have FL:=fun W (hb:Below w.heap.size w W)=>(h.below hb).mono hb.size
 obtain⟨ta,tcap,ka,kcap,rfl,hlt,ht4,hk4,hks⟩:=h
 have B0:=Lib.hid (box_start w f.kind f.c ta ka f.t.length tcap f.ks.length kcap)
 rw[madeF_5 (by omega)]
 rw[hk]at B0⊢
 rcases bare_ways f with ⟨hc,ht,hb⟩ | ⟨hc,ht,hb⟩ | ⟨hc,hb⟩
 ·rw[hb]
  have e1:(f.c == 0)=true:=by simpa using hc
  have e2:((f.t.length:Int) == 0)=true:=by rw[len0];exact decide_eq_true ht
  have HI:=Lib.hid IH
  have HK:=Lib.hid hks
  have HY:Hid ((∀i,i<f.ks.length→madeF n (f.ks.getD i default)=true)→(decide (∀i,i<f.ks.length→madeF n (f.ks.getD i default)=true) && true)=true):=fun h=>by rw[decide_eq_true h,Bool.true_and]
  have HNO:Hid (∀i,i<f.ks.length→madeF n (f.ks.getD i default)=false→(decide (∀i,i<f.ks.length→madeF n (f.ks.getD i default)=true) && true)=false):=fun i hi h=>by
   rw[decide_eq_false (fun hh=>by rw[hh i hi]at h;cases h),Bool.false_and]
  generalize hr:(decide (∀i,i<f.ks.length→madeF n (f.ks.getD i default)=true) && true)=r at HY HNO
  clear hr
  generalize f.c=fc at B0 e1
  generalize f.t.length=ft at B0 e2
  generalize hl:f.ks.length=len at B0 hk4 HK HY HNO
  clear IH FL hks hlt ht4 hk hl hb hc ht
  go_enter Tryz.func97,Tryz.ntmps97
  go_wp2_with fail
  go_loopw [5] (fun i wr=>∃k:Nat,k≤len∧i= .int .i64 k∧Hid (∀j,j<k→madeF n (f.ks.getD j default)=true)∧Hid (Box w wr w.heap.size 5 fc ta ft tcap ka len kcap)) (fun i _=>len - (intOf i).toNat)
  case atStart=>exact⟨0,Nat.zero_le _,rfl,fun j hj=>absurd hj (Nat.not_lt_zero j),B0⟩
  case round=>
   obtain⟨k,hk,rfl,hok,hbx⟩:=hrel
   obtain⟨bz,p0,p1,p2,p3,hbw⟩:=hbx.out
   by_cases hlt:k<len
   ·obtain⟨b',off,c0,c1,c2,c3,rfl,hblt,g0,g1,g2,g3,hf⟩:=HK.out k hlt
    rw[←hbw.cell (p:=⟨b',_,none⟩) hblt]at g0 g1 g2 g3
    obtain⟨ck,cc,cta,ctn,ctcap,cka,ckn,ckcap,rfl,rfl,rfl,rfl⟩:=hf.form
    have hih:=HI.out (f.ks.getD k default) _ wr ((hf.below hbw).mono hbw.size)
    have hno:=Lib.hid (HNO.out k hlt)
    have hy:Hid (madeF n (f.ks.getD k default)=true→∀j,j<k+1→madeF n (f.ks.getD j default)=true):=fun h j hj=>by
     by_cases ej:j=k
     ·rw[ej];exact h
     ·exact hok.out j (by omega)
    generalize madeF n (f.ks.getD k default)=u at hih hno hy
    clear hf hok
    cases u with
    | true=>
      have hy2:=Lib.hid (hy.out rfl)
      clear hy hno
      go_wp2_with fail
      refine hih.mono ?_
      rintro e w1 ⟨rfl,hb1⟩
      have BX:=Lib.hid (hbx.out.below hb1 bz)
      clear g0 g1 g2 g3 hih hb1 p0 p1 p2 p3 hbw
      go_wp2_with fail
      go_roundw
      case rel=>exact⟨k+1,by omega,by go_num,hy2,BX⟩
      case measure=>simp[intOf];omega
    | false=>
      have hr:r=false:=hno.out rfl
      subst hr
      clear hy hno
      go_wp2_with fail
      refine hih.mono ?_
      rintro e w1 ⟨rfl,hb1⟩
      have BX:=Lib.hid (hbx.out.below hb1 bz)
      clear g0 g1 g2 g3 hih hb1 p0 p1 p2 p3 hbw
      go_wp2_with fail
      go_ret
      exact⟨rfl,BX.out.bel⟩
   ·have hr:r=true:=HY.out (fun i hi=>hok.out i (by omega))
    subst hr
    clear hok
    go_wp2_with fail
    go_ret
    exact⟨rfl,hbw⟩
 ·rw[hb]
  have e1:(f.c == 0)=true:=by simpa using hc
  have e2:((f.t.length:Int) == 0)=false:=by rw[len0];exact decide_eq_false ht
  have HI:=Lib.hid IH
  have HK:=Lib.hid hks
  have HY:Hid ((∀i,i<f.ks.length→madeF n (f.ks.getD i default)=true)→(decide (∀i,i<f.ks.length→madeF n (f.ks.getD i default)=true) && false)=false):=fun h=>by rw[decide_eq_true h,Bool.true_and]
  have HNO:Hid (∀i,i<f.ks.length→madeF n (f.ks.getD i default)=false→(decide (∀i,i<f.ks.length→madeF n (f.ks.getD i default)=true) && false)=false):=fun i hi h=>by
   rw[decide_eq_false (fun hh=>by rw[hh i hi]at h;cases h),Bool.false_and]
  generalize hr:(decide (∀i,i<f.ks.length→madeF n (f.ks.getD i default)=true) && false)=r at HY HNO
  clear hr
  generalize f.c=fc at B0 e1
  generalize f.t.length=ft at B0 e2
  generalize hl:f.ks.length=len at B0 hk4 HK HY HNO
  clear IH FL hks hlt ht4 hk hl hb hc ht
  go_enter Tryz.func97,Tryz.ntmps97
  go_wp2_with fail
  go_loopw [5] (fun i wr=>∃k:Nat,k≤len∧i= .int .i64 k∧Hid (∀j,j<k→madeF n (f.ks.getD j default)=true)∧Hid (Box w wr w.heap.size 5 fc ta ft tcap ka len kcap)) (fun i _=>len - (intOf i).toNat)
  case atStart=>exact⟨0,Nat.zero_le _,rfl,fun j hj=>absurd hj (Nat.not_lt_zero j),B0⟩
  case round=>
   obtain⟨k,hk,rfl,hok,hbx⟩:=hrel
   obtain⟨bz,p0,p1,p2,p3,hbw⟩:=hbx.out
   by_cases hlt:k<len
   ·obtain⟨b',off,c0,c1,c2,c3,rfl,hblt,g0,g1,g2,g3,hf⟩:=HK.out k hlt
    rw[←hbw.cell (p:=⟨b',_,none⟩) hblt]at g0 g1 g2 g3
    obtain⟨ck,cc,cta,ctn,ctcap,cka,ckn,ckcap,rfl,rfl,rfl,rfl⟩:=hf.form
    have hih:=HI.out (f.ks.getD k default) _ wr ((hf.below hbw).mono hbw.size)
    have hno:=Lib.hid (HNO.out k hlt)
    have hy:Hid (madeF n (f.ks.getD k default)=true→∀j,j<k+1→madeF n (f.ks.getD j default)=true):=fun h j hj=>by
     by_cases ej:j=k
     ·rw[ej];exact h
     ·exact hok.out j (by omega)
    generalize madeF n (f.ks.getD k default)=u at hih hno hy
    clear hf hok
    cases u with
    | true=>
      have hy2:=Lib.hid (hy.out rfl)
      clear hy hno
      go_wp2_with fail
      refine hih.mono ?_
      rintro e w1 ⟨rfl,hb1⟩
      have BX:=Lib.hid (hbx.out.below hb1 bz)
      clear g0 g1 g2 g3 hih hb1 p0 p1 p2 p3 hbw
      go_wp2_with fail
      go_roundw
      case rel=>exact⟨k+1,by omega,by go_num,hy2,BX⟩
      case measure=>simp[intOf];omega
    | false=>
      have hr:r=false:=hno.out rfl
      subst hr
      clear hy hno
      go_wp2_with fail
      refine hih.mono ?_
      rintro e w1 ⟨rfl,hb1⟩
      have BX:=Lib.hid (hbx.out.below hb1 bz)
      clear g0 g1 g2 g3 hih hb1 p0 p1 p2 p3 hbw
      go_wp2_with fail
      go_ret
      exact⟨rfl,BX.out.bel⟩
   ·have hr:r=false:=HY.out (fun i hi=>hok.out i (by omega))
    subst hr
    clear hok
    go_wp2_with fail
    go_ret
    exact⟨rfl,hbw⟩
 ·rw[hb]
  have e1:(f.c == 0)=false:=by simpa using hc
  have HI:=Lib.hid IH
  have HK:=Lib.hid hks
  have HY:Hid ((∀i,i<f.ks.length→madeF n (f.ks.getD i default)=true)→(decide (∀i,i<f.ks.length→madeF n (f.ks.getD i default)=true) && false)=false):=fun h=>by rw[decide_eq_true h,Bool.true_and]
  have HNO:Hid (∀i,i<f.ks.length→madeF n (f.ks.getD i default)=false→(decide (∀i,i<f.ks.length→madeF n (f.ks.getD i default)=true) && false)=false):=fun i hi h=>by
   rw[decide_eq_false (fun hh=>by rw[hh i hi]at h;cases h),Bool.false_and]
  generalize hr:(decide (∀i,i<f.ks.length→madeF n (f.ks.getD i default)=true) && false)=r at HY HNO
  clear hr
  generalize f.c=fc at B0 e1
  generalize f.t.length=ft at B0
  generalize hl:f.ks.length=len at B0 hk4 HK HY HNO
  clear IH FL hks hlt ht4 hk hl hb hc
  go_enter Tryz.func97,Tryz.ntmps97
  go_wp2_with fail
  go_loopw [5] (fun i wr=>∃k:Nat,k≤len∧i= .int .i64 k∧Hid (∀j,j<k→madeF n (f.ks.getD j default)=true)∧Hid (Box w wr w.heap.size 5 fc ta ft tcap ka len kcap)) (fun i _=>len - (intOf i).toNat)
  case atStart=>exact⟨0,Nat.zero_le _,rfl,fun j hj=>absurd hj (Nat.not_lt_zero j),B0⟩
  case round=>
   obtain⟨k,hk,rfl,hok,hbx⟩:=hrel
   obtain⟨bz,p0,p1,p2,p3,hbw⟩:=hbx.out
   by_cases hlt:k<len
   ·obtain⟨b',off,c0,c1,c2,c3,rfl,hblt,g0,g1,g2,g3,hf⟩:=HK.out k hlt
    rw[←hbw.cell (p:=⟨b',_,none⟩) hblt]at g0 g1 g2 g3
    obtain⟨ck,cc,cta,ctn,ctcap,cka,ckn,ckcap,rfl,rfl,rfl,rfl⟩:=hf.form
    have hih:=HI.out (f.ks.getD k default) _ wr ((hf.below hbw).mono hbw.size)
    have hno:=Lib.hid (HNO.out k hlt)
    have hy:Hid (madeF n (f.ks.getD k default)=true→∀j,j<k+1→madeF n (f.ks.getD j default)=true):=fun h j hj=>by
     by_cases ej:j=k
     ·rw[ej];exact h
     ·exact hok.out j (by omega)
    generalize madeF n (f.ks.getD k default)=u at hih hno hy
    clear hf hok
    cases u with
    | true=>
      have hy2:=Lib.hid (hy.out rfl)
      clear hy hno
      go_wp2_with fail
      refine hih.mono ?_
      rintro e w1 ⟨rfl,hb1⟩
      have BX:=Lib.hid (hbx.out.below hb1 bz)
      clear g0 g1 g2 g3 hih hb1 p0 p1 p2 p3 hbw
      go_wp2_with fail
      go_roundw
      case rel=>exact⟨k+1,by omega,by go_num,hy2,BX⟩
      case measure=>simp[intOf];omega
    | false=>
      have hr:r=false:=hno.out rfl
      subst hr
      clear hy hno
      go_wp2_with fail
      refine hih.mono ?_
      rintro e w1 ⟨rfl,hb1⟩
      have BX:=Lib.hid (hbx.out.below hb1 bz)
      clear g0 g1 g2 g3 hih hb1 p0 p1 p2 p3 hbw
      go_wp2_with fail
      go_ret
      exact⟨rfl,BX.out.bel⟩
   ·have hr:r=false:=HY.out (fun i hi=>hok.out i (by omega))
    subst hr
    clear hok
    go_wp2_with fail
    go_ret
    exact⟨rfl,hbw⟩
theorem only_6 (n:Nat)(f:FT)(cs:List Value)(w:World)(IH:∀(f:FT) (cs:List Value) (w:World),FLies w.heap.size w n f cs→Calls Tryz.prog 97 #[.agg cs.toArray] w fun e w'=>e= .returned (.bool (madeF n f))∧Below w.heap.size w w')
  (h:FLies w.heap.size w (n+1) f cs) (hk:f.kind=6):
  Calls Tryz.prog 97 #[.agg cs.toArray] w fun e w'=>e= .returned (.bool (madeF (n+1) f))∧Below w.heap.size w w':=by
 have FL:=fun W (hb:Below w.heap.size w W)=>(h.below hb).mono hb.size
 obtain⟨ta,tcap,ka,kcap,rfl,hlt,ht4,hk4,hks⟩:=h
 have B0:=Lib.hid (box_start w f.kind f.c ta ka f.t.length tcap f.ks.length kcap)
 rw[madeF_5 (by omega)]
 rw[hk]at B0⊢
 rcases bare_ways f with ⟨hc,ht,hb⟩ | ⟨hc,ht,hb⟩ | ⟨hc,hb⟩
 ·rw[hb]
  have e1:(f.c == 0)=true:=by simpa using hc
  have e2:((f.t.length:Int) == 0)=true:=by rw[len0];exact decide_eq_true ht
  have HI:=Lib.hid IH
  have HK:=Lib.hid hks
  have HY:Hid ((∀i,i<f.ks.length→madeF n (f.ks.getD i default)=true)→(decide (∀i,i<f.ks.length→madeF n (f.ks.getD i default)=true) && true)=true):=fun h=>by rw[decide_eq_true h,Bool.true_and]
  have HNO:Hid (∀i,i<f.ks.length→madeF n (f.ks.getD i default)=false→(decide (∀i,i<f.ks.length→madeF n (f.ks.getD i default)=true) && true)=false):=fun i hi h=>by
   rw[decide_eq_false (fun hh=>by rw[hh i hi]at h;cases h),Bool.false_and]
  generalize hr:(decide (∀i,i<f.ks.length→madeF n (f.ks.getD i default)=true) && true)=r at HY HNO
  clear hr
  generalize f.c=fc at B0 e1
  generalize f.t.length=ft at B0 e2
  generalize hl:f.ks.length=len at B0 hk4 HK HY HNO
  clear IH FL hks hlt ht4 hk hl hb hc ht
  go_enter Tryz.func97,Tryz.ntmps97
  go_wp2_with fail
  go_loopw [5] (fun i wr=>∃k:Nat,k≤len∧i= .int .i64 k∧Hid (∀j,j<k→madeF n (f.ks.getD j default)=true)∧Hid (Box w wr w.heap.size 6 fc ta ft tcap ka len kcap)) (fun i _=>len - (intOf i).toNat)
  case atStart=>exact⟨0,Nat.zero_le _,rfl,fun j hj=>absurd hj (Nat.not_lt_zero j),B0⟩
  case round=>
   obtain⟨k,hk,rfl,hok,hbx⟩:=hrel
   obtain⟨bz,p0,p1,p2,p3,hbw⟩:=hbx.out
   by_cases hlt:k<len
   ·obtain⟨b',off,c0,c1,c2,c3,rfl,hblt,g0,g1,g2,g3,hf⟩:=HK.out k hlt
    rw[←hbw.cell (p:=⟨b',_,none⟩) hblt]at g0 g1 g2 g3
    obtain⟨ck,cc,cta,ctn,ctcap,cka,ckn,ckcap,rfl,rfl,rfl,rfl⟩:=hf.form
    have hih:=HI.out (f.ks.getD k default) _ wr ((hf.below hbw).mono hbw.size)
    have hno:=Lib.hid (HNO.out k hlt)
    have hy:Hid (madeF n (f.ks.getD k default)=true→∀j,j<k+1→madeF n (f.ks.getD j default)=true):=fun h j hj=>by
     by_cases ej:j=k
     ·rw[ej];exact h
     ·exact hok.out j (by omega)
    generalize madeF n (f.ks.getD k default)=u at hih hno hy
    clear hf hok
    cases u with
    | true=>
      have hy2:=Lib.hid (hy.out rfl)
      clear hy hno
      go_wp2_with fail
      refine hih.mono ?_
      rintro e w1 ⟨rfl,hb1⟩
      have BX:=Lib.hid (hbx.out.below hb1 bz)
      clear g0 g1 g2 g3 hih hb1 p0 p1 p2 p3 hbw
      go_wp2_with fail
      go_roundw
      case rel=>exact⟨k+1,by omega,by go_num,hy2,BX⟩
      case measure=>simp[intOf];omega
    | false=>
      have hr:r=false:=hno.out rfl
      subst hr
      clear hy hno
      go_wp2_with fail
      refine hih.mono ?_
      rintro e w1 ⟨rfl,hb1⟩
      have BX:=Lib.hid (hbx.out.below hb1 bz)
      clear g0 g1 g2 g3 hih hb1 p0 p1 p2 p3 hbw
      go_wp2_with fail
      go_ret
      exact⟨rfl,BX.out.bel⟩
   ·have hr:r=true:=HY.out (fun i hi=>hok.out i (by omega))
    subst hr
    clear hok
    go_wp2_with fail
    go_ret
    exact⟨rfl,hbw⟩
 ·rw[hb]
  have e1:(f.c == 0)=true:=by simpa using hc
  have e2:((f.t.length:Int) == 0)=false:=by rw[len0];exact decide_eq_false ht
  have HI:=Lib.hid IH
  have HK:=Lib.hid hks
  have HY:Hid ((∀i,i<f.ks.length→madeF n (f.ks.getD i default)=true)→(decide (∀i,i<f.ks.length→madeF n (f.ks.getD i default)=true) && false)=false):=fun h=>by rw[decide_eq_true h,Bool.true_and]
  have HNO:Hid (∀i,i<f.ks.length→madeF n (f.ks.getD i default)=false→(decide (∀i,i<f.ks.length→madeF n (f.ks.getD i default)=true) && false)=false):=fun i hi h=>by
   rw[decide_eq_false (fun hh=>by rw[hh i hi]at h;cases h),Bool.false_and]
  generalize hr:(decide (∀i,i<f.ks.length→madeF n (f.ks.getD i default)=true) && false)=r at HY HNO
  clear hr
  generalize f.c=fc at B0 e1
  generalize f.t.length=ft at B0 e2
  generalize hl:f.ks.length=len at B0 hk4 HK HY HNO
  clear IH FL hks hlt ht4 hk hl hb hc ht
  go_enter Tryz.func97,Tryz.ntmps97
  go_wp2_with fail
  go_loopw [5] (fun i wr=>∃k:Nat,k≤len∧i= .int .i64 k∧Hid (∀j,j<k→madeF n (f.ks.getD j default)=true)∧Hid (Box w wr w.heap.size 6 fc ta ft tcap ka len kcap)) (fun i _=>len - (intOf i).toNat)
  case atStart=>exact⟨0,Nat.zero_le _,rfl,fun j hj=>absurd hj (Nat.not_lt_zero j),B0⟩
  case round=>
   obtain⟨k,hk,rfl,hok,hbx⟩:=hrel
   obtain⟨bz,p0,p1,p2,p3,hbw⟩:=hbx.out
   by_cases hlt:k<len
   ·obtain⟨b',off,c0,c1,c2,c3,rfl,hblt,g0,g1,g2,g3,hf⟩:=HK.out k hlt
    rw[←hbw.cell (p:=⟨b',_,none⟩) hblt]at g0 g1 g2 g3
    obtain⟨ck,cc,cta,ctn,ctcap,cka,ckn,ckcap,rfl,rfl,rfl,rfl⟩:=hf.form
    have hih:=HI.out (f.ks.getD k default) _ wr ((hf.below hbw).mono hbw.size)
    have hno:=Lib.hid (HNO.out k hlt)
    have hy:Hid (madeF n (f.ks.getD k default)=true→∀j,j<k+1→madeF n (f.ks.getD j default)=true):=fun h j hj=>by
     by_cases ej:j=k
     ·rw[ej];exact h
     ·exact hok.out j (by omega)
    generalize madeF n (f.ks.getD k default)=u at hih hno hy
    clear hf hok
    cases u with
    | true=>
      have hy2:=Lib.hid (hy.out rfl)
      clear hy hno
      go_wp2_with fail
      refine hih.mono ?_
      rintro e w1 ⟨rfl,hb1⟩
      have BX:=Lib.hid (hbx.out.below hb1 bz)
      clear g0 g1 g2 g3 hih hb1 p0 p1 p2 p3 hbw
      go_wp2_with fail
      go_roundw
      case rel=>exact⟨k+1,by omega,by go_num,hy2,BX⟩
      case measure=>simp[intOf];omega
    | false=>
      have hr:r=false:=hno.out rfl
      subst hr
      clear hy hno
      go_wp2_with fail
      refine hih.mono ?_
      rintro e w1 ⟨rfl,hb1⟩
      have BX:=Lib.hid (hbx.out.below hb1 bz)
      clear g0 g1 g2 g3 hih hb1 p0 p1 p2 p3 hbw
      go_wp2_with fail
      go_ret
      exact⟨rfl,BX.out.bel⟩
   ·have hr:r=false:=HY.out (fun i hi=>hok.out i (by omega))
    subst hr
    clear hok
    go_wp2_with fail
    go_ret
    exact⟨rfl,hbw⟩
 ·rw[hb]
  have e1:(f.c == 0)=false:=by simpa using hc
  have HI:=Lib.hid IH
  have HK:=Lib.hid hks
  have HY:Hid ((∀i,i<f.ks.length→madeF n (f.ks.getD i default)=true)→(decide (∀i,i<f.ks.length→madeF n (f.ks.getD i default)=true) && false)=false):=fun h=>by rw[decide_eq_true h,Bool.true_and]
  have HNO:Hid (∀i,i<f.ks.length→madeF n (f.ks.getD i default)=false→(decide (∀i,i<f.ks.length→madeF n (f.ks.getD i default)=true) && false)=false):=fun i hi h=>by
   rw[decide_eq_false (fun hh=>by rw[hh i hi]at h;cases h),Bool.false_and]
  generalize hr:(decide (∀i,i<f.ks.length→madeF n (f.ks.getD i default)=true) && false)=r at HY HNO
  clear hr
  generalize f.c=fc at B0 e1
  generalize f.t.length=ft at B0
  generalize hl:f.ks.length=len at B0 hk4 HK HY HNO
  clear IH FL hks hlt ht4 hk hl hb hc
  go_enter Tryz.func97,Tryz.ntmps97
  go_wp2_with fail
  go_loopw [5] (fun i wr=>∃k:Nat,k≤len∧i= .int .i64 k∧Hid (∀j,j<k→madeF n (f.ks.getD j default)=true)∧Hid (Box w wr w.heap.size 6 fc ta ft tcap ka len kcap)) (fun i _=>len - (intOf i).toNat)
  case atStart=>exact⟨0,Nat.zero_le _,rfl,fun j hj=>absurd hj (Nat.not_lt_zero j),B0⟩
  case round=>
   obtain⟨k,hk,rfl,hok,hbx⟩:=hrel
   obtain⟨bz,p0,p1,p2,p3,hbw⟩:=hbx.out
   by_cases hlt:k<len
   ·obtain⟨b',off,c0,c1,c2,c3,rfl,hblt,g0,g1,g2,g3,hf⟩:=HK.out k hlt
    rw[←hbw.cell (p:=⟨b',_,none⟩) hblt]at g0 g1 g2 g3
    obtain⟨ck,cc,cta,ctn,ctcap,cka,ckn,ckcap,rfl,rfl,rfl,rfl⟩:=hf.form
    have hih:=HI.out (f.ks.getD k default) _ wr ((hf.below hbw).mono hbw.size)
    have hno:=Lib.hid (HNO.out k hlt)
    have hy:Hid (madeF n (f.ks.getD k default)=true→∀j,j<k+1→madeF n (f.ks.getD j default)=true):=fun h j hj=>by
     by_cases ej:j=k
     ·rw[ej];exact h
     ·exact hok.out j (by omega)
    generalize madeF n (f.ks.getD k default)=u at hih hno hy
    clear hf hok
    cases u with
    | true=>
      have hy2:=Lib.hid (hy.out rfl)
      clear hy hno
      go_wp2_with fail
      refine hih.mono ?_
      rintro e w1 ⟨rfl,hb1⟩
      have BX:=Lib.hid (hbx.out.below hb1 bz)
      clear g0 g1 g2 g3 hih hb1 p0 p1 p2 p3 hbw
      go_wp2_with fail
      go_roundw
      case rel=>exact⟨k+1,by omega,by go_num,hy2,BX⟩
      case measure=>simp[intOf];omega
    | false=>
      have hr:r=false:=hno.out rfl
      subst hr
      clear hy hno
      go_wp2_with fail
      refine hih.mono ?_
      rintro e w1 ⟨rfl,hb1⟩
      have BX:=Lib.hid (hbx.out.below hb1 bz)
      clear g0 g1 g2 g3 hih hb1 p0 p1 p2 p3 hbw
      go_wp2_with fail
      go_ret
      exact⟨rfl,BX.out.bel⟩
   ·have hr:r=false:=HY.out (fun i hi=>hok.out i (by omega))
    subst hr
    clear hok
    go_wp2_with fail
    go_ret
    exact⟨rfl,hbw⟩
theorem only_x (n:Nat)(f:FT)(cs:List Value)(w:World)(IH:∀(f:FT) (cs:List Value) (w:World),FLies w.heap.size w n f cs→Calls Tryz.prog 97 #[.agg cs.toArray] w fun e w'=>e= .returned (.bool (madeF n f))∧Below w.heap.size w w')
  (h:FLies w.heap.size w (n+1) f cs) (hk:¬(f.kind=0∨f.kind=1)∧f.kind≠2∧f.kind≠4∧¬(f.kind=5∨f.kind=6)):
  Calls Tryz.prog 97 #[.agg cs.toArray] w fun e w'=>e= .returned (.bool (madeF (n+1) f))∧Below w.heap.size w w':=by
 have FL:=fun W (hb:Below w.heap.size w W)=>(h.below hb).mono hb.size
 obtain⟨ta,tcap,ka,kcap,rfl,hlt,ht4,hk4,hks⟩:=h
 have B0:=Lib.hid (box_start w f.kind f.c ta ka f.t.length tcap f.ks.length kcap)
 rw[madeF_x hk]
 have e0:(f.kind == 0)=false:=by simp;omega
 have e1:(f.kind == 1)=false:=by simp;omega
 have e2:(f.kind == 2)=false:=by simp;omega
 have e4:(f.kind == 4)=false:=by simp;omega
 have e5:(f.kind == 5)=false:=by simp;omega
 have e6:(f.kind == 6)=false:=by simp;omega
 have ec:(f.c == 0)=true∨(f.c == 0)=false:=by cases (f.c == 0)<;>simp
 clear IH FL hks hlt ht4 hk
 generalize f.kind=fk at B0 e0 e1 e2 e4 e5 e6
 generalize f.c=fc at B0 ec
 generalize f.t.length=ft at B0
 generalize f.ks.length=len at B0 hk4
 rcases ec with ec | ec
 all_goals
  go_enter Tryz.func97,Tryz.ntmps97
  go_wp2_with fail
  go_ret
  exact⟨rfl,B0.out.bel⟩
theorem only_any:∀(n:Nat) (f:FT) (cs:List Value) (w:World),FLies w.heap.size w n f cs→
  Calls Tryz.prog 97 #[.agg cs.toArray] w fun e w'=>e= .returned (.bool (madeF n f))∧Below w.heap.size w w'
 | 0,_,_,_,h=>h.elim
 | n+1,f,cs,w,h=>by
   have IH:=only_any n
   by_cases h0:f.kind=0
   ·exact only_0 n f cs w IH h h0
   by_cases h1:f.kind=1
   ·exact only_1 n f cs w IH h h1
   by_cases h2:f.kind=2
   ·exact only_2 n f cs w IH h h2
   by_cases h4:f.kind=4
   ·exact only_4 n f cs w IH h h4
   by_cases h5:f.kind=5
   ·exact only_5 n f cs w IH h h5
   by_cases h6:f.kind=6
   ·exact only_6 n f cs w IH h h6
   exact only_x n f cs w IH h ⟨by omega,h2,h4,by omega⟩
end
end Go.Proofs.YtipahfcaplbifaaGreatDoor
