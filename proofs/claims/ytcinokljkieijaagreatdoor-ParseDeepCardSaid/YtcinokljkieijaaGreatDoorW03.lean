/- Parts of a proof. -/
import Derived.Test.YtcinokljkieijaaGreatDoorW01
import Derived.Test.YtcinokljkieijaaGreatDoorQ07
set_option linter.unusedVariables false
set_option linter.unusedSimpArgs false
set_option linter.unusedSectionVars false
set_option maxHeartbeats 60000000
set_option maxRecDepth 100000
namespace Go.Proofs.YtcinokljkieijaaGreatDoor
namespace Dc
open Go.RowKit
theorem next_0 (C:PC)(s:PS)(w:World)(h:PSt C s w)(he:s.er≠none):
 Calls Tryz.prog 64 #[C.p] w fun e w'=>e= .returned (.string (dnx C.tk s))∧Below w.heap.size w w':=by
 have c4:=h.c4
 have hz:ebad s≠0:=by
  rcases h.bad with ⟨h1,_⟩ | ⟨_,h1⟩
  ·exact absurd h1 he
  ·exact h1
 have e:dnx C.tk s=⟨#[]⟩:=if_neg fun h=>he h.1
 rw[e]
 have hb0:(ebad s != 0)=true:=by simpa using hz
 unfold PC.p
 clear h e
 generalize ebad s=z at*
 go_enter Tryz.func64,Tryz.ntmps64
 go_wp2_with fail
 go_quiet (fail)
 go_wp2_with fail
 go_ret
 exact⟨rfl,⟨rfl,rfl,rfl,Nat.le_refl _,fun _ _=>rfl⟩⟩
theorem next_1 (C:PC)(s:PS)(w:World)(h:PSt C s w)(he:s.er=none)(hlt:¬s.nx<C.tk.length):
 Calls Tryz.prog 64 #[C.p] w fun e w'=>e= .returned (.string (dnx C.tk s))∧Below w.heap.size w w':=by
 have c4:=h.c4
 have c0:=h.c0
 have hlen:=h.len.1
 have hz:ebad s=0:=by
  rcases h.bad with ⟨_,h1⟩ | ⟨h1,_⟩
  ·exact h1
  ·exact absurd he h1
 have c2:=h.two he
 have hnx:=(h.inv he).2.2
 rw[hz]at c4
 unfold PC.p
 have e:dnx C.tk s=⟨#[]⟩:=if_neg fun h=>hlt h.2.1
 rw[e]
 have hb1:decide ((s.nx:Int) ≥ (C.tk.length:Int))=true:=decide_eq_true (by omega)
 have hb2:C.tk.length≤s.nx:=by omega
 clear h hz e
 generalize C.tk.length=L at*
 go_enter Tryz.func64,Tryz.ntmps64
 go_wp2_with fail
 go_quiet (fail)
 go_wp2_with fail
 go_ret
 exact⟨rfl,⟨rfl,rfl,rfl,Nat.le_refl _,fun _ _=>rfl⟩⟩
theorem next_2 (C:PC)(s:PS)(w:World)(h:PSt C s w)(he:s.er=none)(hlt:s.nx<C.tk.length)(hk:(C.tk.getD s.nx tok0).kind=1):
 Calls Tryz.prog 64 #[C.p] w fun e w'=>e= .returned (.string (dnx C.tk s))∧Below w.heap.size w w':=by
 have c4:=h.c4
 have c0:=h.c0
 have hlen:=h.len.1
 have hz:ebad s=0:=by
  rcases h.bad with ⟨_,h1⟩ | ⟨h1,_⟩
  ·exact h1
  ·exact absurd he h1
 have c2:=h.two he
 have hnx:=(h.inv he).2.2
 rw[hz]at c4
 unfold PC.p
 obtain⟨b,off,ha,t0,_,t2,_⟩:=tok_at h hlt
 have e:dnx C.tk s=⟨#[]⟩:=if_neg fun h=>h.2.2.1 hk
 rw[e]
 generalize (C.tk.getD s.nx tok0).text=x at t2 
 generalize (C.tk.getD s.nx tok0).kind=kd at t0 hk
 have hb1:decide ((s.nx:Int) ≥ (C.tk.length:Int))=false:=decide_eq_false (by omega)
 have hb3:¬C.tk.length≤s.nx:=by omega
 have hb2:(0:Int)≤(s.nx:Int)∧(s.nx:Int)<(C.tk.length:Int):=by omega
 rw[ha]at c0
 clear h ha hz e hlen hnx he
 generalize C.tk.length=L at*
 have e1:(kd == 1)=true:=by rw[hk];rfl
 clear hk
 go_enter Tryz.func64,Tryz.ntmps64
 go_wp2_with fail
 go_quiet (fail)
 go_wp2_with fail
 go_ret
 exact⟨rfl,⟨rfl,rfl,rfl,Nat.le_refl _,fun _ _=>rfl⟩⟩
theorem next_3 (C:PC)(s:PS)(w:World)(h:PSt C s w)(he:s.er=none)(hlt:s.nx<C.tk.length)(hk:(C.tk.getD s.nx tok0).kind=3):
 Calls Tryz.prog 64 #[C.p] w fun e w'=>e= .returned (.string (dnx C.tk s))∧Below w.heap.size w w':=by
 have c4:=h.c4
 have c0:=h.c0
 have hlen:=h.len.1
 have hz:ebad s=0:=by
  rcases h.bad with ⟨_,h1⟩ | ⟨h1,_⟩
  ·exact h1
  ·exact absurd he h1
 have c2:=h.two he
 have hnx:=(h.inv he).2.2
 rw[hz]at c4
 unfold PC.p
 obtain⟨b,off,ha,t0,_,t2,_⟩:=tok_at h hlt
 have e:dnx C.tk s=⟨#[]⟩:=if_neg fun h=>h.2.2.2 hk
 rw[e]
 generalize (C.tk.getD s.nx tok0).text=x at t2 
 generalize (C.tk.getD s.nx tok0).kind=kd at t0 hk
 have hb1:decide ((s.nx:Int) ≥ (C.tk.length:Int))=false:=decide_eq_false (by omega)
 have hb3:¬C.tk.length≤s.nx:=by omega
 have hb2:(0:Int)≤(s.nx:Int)∧(s.nx:Int)<(C.tk.length:Int):=by omega
 rw[ha]at c0
 clear h ha hz e hlen hnx he
 generalize C.tk.length=L at*
 have e1:(kd == 1)=false:=by rw[hk];rfl
 have e3:(kd == 3)=true:=by rw[hk];rfl
 clear hk
 go_enter Tryz.func64,Tryz.ntmps64
 go_wp2_with fail
 go_quiet (fail)
 go_wp2_with fail
 go_ret
 exact⟨rfl,⟨rfl,rfl,rfl,Nat.le_refl _,fun _ _=>rfl⟩⟩
theorem next_4 (C:PC)(s:PS)(w:World)(h:PSt C s w)(he:s.er=none)(hlt:s.nx<C.tk.length)(hk:(C.tk.getD s.nx tok0).kind≠1∧(C.tk.getD s.nx tok0).kind≠3):
 Calls Tryz.prog 64 #[C.p] w fun e w'=>e= .returned (.string (dnx C.tk s))∧Below w.heap.size w w':=by
 have c4:=h.c4
 have c0:=h.c0
 have hlen:=h.len.1
 have hz:ebad s=0:=by
  rcases h.bad with ⟨_,h1⟩ | ⟨h1,_⟩
  ·exact h1
  ·exact absurd he h1
 have c2:=h.two he
 have hnx:=(h.inv he).2.2
 rw[hz]at c4
 unfold PC.p
 obtain⟨b,off,ha,t0,_,t2,_⟩:=tok_at h hlt
 have e:dnx C.tk s=(C.tk.getD s.nx tok0).text:=if_pos ⟨he,hlt,hk.1,hk.2⟩
 rw[e]
 generalize (C.tk.getD s.nx tok0).text=x at t2⊢
 generalize (C.tk.getD s.nx tok0).kind=kd at t0 hk
 have hb1:decide ((s.nx:Int) ≥ (C.tk.length:Int))=false:=decide_eq_false (by omega)
 have hb3:¬C.tk.length≤s.nx:=by omega
 have hb2:(0:Int)≤(s.nx:Int)∧(s.nx:Int)<(C.tk.length:Int):=by omega
 rw[ha]at c0
 clear h ha hz e hlen hnx he
 generalize C.tk.length=L at*
 have e1:(kd == 1)=false:=by simpa using hk.1
 have e3:(kd == 3)=false:=by simpa using hk.2
 go_enter Tryz.func64,Tryz.ntmps64
 go_wp2_with fail
 go_quiet (fail)
 go_wp2_with fail
 go_quiet (fail)
 go_wp2_with fail
 go_ret
 exact⟨rfl,⟨rfl,rfl,rfl,Nat.le_refl _,fun _ _=>rfl⟩⟩
theorem next_any (C:PC)(s:PS)(w:World)(h:PSt C s w):
 Calls Tryz.prog 64 #[C.p] w fun e w'=>e= .returned (.string (dnx C.tk s))∧Below w.heap.size w w':=by
 by_cases he:s.er=none
 ·by_cases hlt:s.nx<C.tk.length
  ·by_cases h1:(C.tk.getD s.nx tok0).kind=1
   ·exact next_2 C s w h he hlt h1
   ·by_cases h3:(C.tk.getD s.nx tok0).kind=3
    ·exact next_3 C s w h he hlt h3
    ·exact next_4 C s w h he hlt ⟨h1,h3⟩
  ·exact next_1 C s w h he hlt
 ·exact next_0 C s w h he
end Dc
section
open Go.RowKit
structure Sq (s s':PS):Prop where
 er:s.er=s'.er
 eq:s.er=none→s=s'
 ok:s.er=none→s.ne≤50
def Ra {α:Type}(r r':α×PS):Prop:=Sq r.2 r'.2∧(r.2.er=none→r.1=r'.1)
def Wd (w:ByteArray):Prop:=(keysL ++ opsL).contains w.data.toList=true
instance (w:ByteArray):Decidable (Wd w):=inferInstanceAs (Decidable ((keysL ++ opsL).contains w.data.toList=true))
theorem Sq.two {s s':PS}(h:Sq s s'):(s.er=none∧s=s'∧s.ne≤50)∨(s.er≠none∧s'.er≠none):=by
 by_cases h0:s.er=none
 ·exact .inl ⟨h0,h.eq h0,h.ok h0⟩
 ·exact .inr ⟨h0,by rw[←h.er];exact h0⟩
theorem Sq.same {s:PS}(ok:s.er=none→s.ne≤50):Sq s s:=⟨rfl,fun _=>rfl,ok⟩
theorem Sq.bad {s s':PS}(h:s.er=s'.er)(h0:s.er≠none):Sq s s':=⟨h,fun e=>absurd e h0,fun e=>absurd e h0⟩
theorem Ra.bad {α:Type}{r r':α×PS}(h:r.2.er=r'.2.er)(h0:r.2.er≠none):Ra r r':=⟨.bad h h0,fun e=>absurd e h0⟩
theorem fail_bad {tk:List Tok}{en:Nat}{c:Int}{s:PS}(h:s.er≠none):pfail tk en c s=s:=by unfold pfail;rw[if_neg h]
theorem fail_er {tk:List Tok}{en:Nat}(c:Int)(s:PS):(pfail tk en c s).er≠none:=pfail_er c s
section
variable {tk:List Tok} {en:Nat}
theorem dnx_bad {s:PS}(h:s.er≠none):dnx tk s=(⟨#[]⟩:ByteArray):=by unfold dnx;rw[if_neg (fun e=>h e.1)]
theorem pkd_bad {s:PS}(h:s.er≠none):pkd tk s=0:=by unfold pkd;rw[if_neg (fun e=>h e.1)]
theorem pis_bad {s:PS}{ws:List ByteArray}(h:s.er≠none):pis tk ws s=false:=by
 cases hp:pis tk ws s with
 | false=>rfl
 | true=>exact absurd (pis_inv hp).1 h
theorem wd_ne {w:ByteArray}(hw:Wd w):w≠(⟨#[]⟩:ByteArray):=fun e=>by
 subst e
 exact absurd hw (by decide)
theorem wd_head {w:ByteArray}(hw:Wd w):(∀c r,w.data.toList=c :: r→isLet c=true→keyB w.data.toList=true)∧∀c r,w.data.toList=c :: r→isDig c=false:=by
 have h1:(keysL ++ opsL).all (fun l=>match l with | []=>true | c :: _=>(!isLet c || keyB l) && !isDig c)=true:=by decide
 have hm:w.data.toList∈keysL ++ opsL:=List.contains_iff_mem.1 hw
 have h2:=List.all_eq_true.1 h1 _ hm
 constructor
 ·intro c r e hc
  rw[e]at h2⊢
  simp only[hc,Bool.not_true,Bool.false_or,Bool.and_eq_true]at h2
  exact h2.1
 ·intro c r e
  rw[e]at h2
  simp only[Bool.and_eq_true,Bool.not_eq_true']at h2
  exact h2.2
theorem shape_wd {k:Int}{w:ByteArray}(hw:Wd w)(h:Shape k w.data.toList):k≠1∧k≠3:=by
 obtain⟨h1,h2⟩:=wd_head hw
 rcases h with ⟨rfl,⟨c,r,e,hc⟩,hk⟩ | ⟨rfl,_⟩ | ⟨rfl,ha,hn,_⟩ | ⟨rfl,_⟩
 ·rw[h1 c r e hc]at hk;cases hk
 ·exact⟨by decide,by decide⟩
 ·exfalso
  cases e:w.data.toList with
  | nil=>exact hn e
  | cons c r=>
    have:=ha c (by rw[e];exact List.mem_cons_self ..)
    rw[h2 c r e]at this
    cases this
 ·exact⟨by decide,by decide⟩
end
section
variable {tk:List Tok} {en:Nat} (T:∀t∈tk,Shape t.kind t.text.data.toList)
include T
theorem tok_sh {i:Nat}(h:i<tk.length):Shape (tk.getD i tok0).kind (tk.getD i tok0).text.data.toList:=T _ (by
 rw[List.getD_eq_getElem?_getD,List.getElem?_eq_getElem h];exact List.getElem_mem h)
theorem ptx_wd {w:ByteArray}(hw:Wd w)(s:PS):ptx tk s 0=w↔dnx tk s=w:=by
 by_cases h:s.er=none∧s.nx<tk.length
 ·have e1:ptx tk s 0=(tk.getD s.nx tok0).text:=if_pos h
  rw[e1]
  unfold dnx
  constructor
  ·intro e
   have:=shape_wd hw (by rw[←e];exact tok_sh T h.2)
   rw[if_pos ⟨h.1,h.2,this.1,this.2⟩,e]
  ·intro e
   split at e
   ·exact e
   ·exact absurd e.symm (wd_ne hw)
 ·have e1:ptx tk s 0=(⟨#[]⟩:ByteArray):=if_neg h
  have e2:dnx tk s=(⟨#[]⟩:ByteArray):=if_neg (fun e=>h ⟨e.1,e.2.1⟩)
  rw[e1,e2]
theorem pis_wd {w:ByteArray}(hw:Wd w)(s:PS):pis tk [w] s=true↔dnx tk s=w:=by
 rw[←ptx_wd T hw]
 unfold pis hasW
 simp only[Bool.and_eq_true,List.any_cons,List.any_nil,Bool.or_false,decide_eq_true_eq]
 exact⟨fun h=>h.2.symm,fun h=>⟨by rw[h];exact wd_ne hw,h.symm⟩⟩
theorem ag_wd {w:ByteArray}(hw:Wd w){s s':PS}(h:Sq s s'):pis tk [w] s=true↔dnx tk s'=w:=by
 rw[pis_wd T hw]
 rcases h.two with ⟨_,rfl,_⟩ | ⟨h1,h2⟩
 ·exact Iff.rfl
 ·rw[dnx_bad h1,dnx_bad h2]
theorem ag_tx {w:ByteArray}(hw:Wd w){s s':PS}(h:Sq s s'):ptx tk s 0=w↔dnx tk s'=w:=by
 rw[ptx_wd T hw]
 rcases h.two with ⟨_,rfl,_⟩ | ⟨h1,h2⟩
 ·exact Iff.rfl
 ·rw[dnx_bad h1,dnx_bad h2]
omit T in
theorem ag_fail (c:Int){s s':PS}(h:Sq s s'):Sq (pfail tk en c s) (pfail tk en c s'):=by
 rcases h.two with ⟨h0,rfl,_⟩ | ⟨h1,h2⟩
 ·exact .bad rfl (fail_er _ _)
 ·rw[fail_bad h1,fail_bad h2];exact h
omit T in
theorem ag_go {s s':PS}(h:Sq s s'):Sq (pgo s) (pgo s'):=⟨h.er,fun e=>congrArg pgo (h.eq e),h.ok⟩
omit T in
theorem ag_up {s s':PS}(h:Sq s s'):Sq (pup s) (pup s'):=⟨h.er,fun e=>congrArg pup (h.eq e),fun e=>by have:=h.ok e;show s.ne - 1≤50;omega⟩
omit T in
theorem ag_enter {s s':PS}(h:Sq s s'):Sq (penter tk en s) (ddeeper tk en s'):=by
 unfold penter ddeeper
 rcases h.two with ⟨h0,rfl,hn⟩ | ⟨h1,h2⟩
 ·by_cases h5:50≤s.ne
  ·rw[if_pos h5,if_pos (by omega)]
   exact .bad rfl (fail_er 4 s)
  ·rw[if_neg h5,if_neg (by omega)]
   exact .same (fun _=>by show s.ne+1≤50;omega)
 ·rw[fail_bad h1,fail_bad h2,ite_self,ite_self]
  exact .bad h.er h1
theorem ag_eat {w:ByteArray}(hw:Wd w){s s':PS}(h:Sq s s'):Sq (pm1 tk en w s) (deat tk en w s'):=by
 have hi:=ag_wd T hw h
 unfold pm1 pmust deat
 by_cases hp:pis tk [w] s=true
 ·rw[if_pos hp,if_pos (hi.1 hp)];exact ag_go h
 ·rw[if_neg hp,if_neg (fun e=>hp (hi.2 e))];exact ag_fail 11 h
theorem ag_begin {w:ByteArray}(hw:Wd w){s s':PS}(h:Sq s s'):Sq (pm1 tk en w (if pis tk [w] s=true then penter tk en s else s)) (dbegin tk en w s'):=by
 have hi:=ag_wd T hw h
 unfold dbegin
 by_cases hp:pis tk [w] s=true
 ·rw[if_pos hp,if_pos (hi.1 hp)];exact ag_eat T hw (ag_enter h)
 ·rw[if_neg hp,if_neg (fun e=>hp (hi.2 e))];exact ag_eat T hw h
omit T in
theorem ag_kd {s s':PS}(h:Sq s s'):pkd tk s=pkd tk s':=by
 rcases h.two with ⟨_,rfl,_⟩ | ⟨h1,h2⟩
 ·rfl
 ·rw[pkd_bad h1,pkd_bad h2]
omit T in
theorem ag_of {k:Int}(hk:k≠0){s s':PS}(h:Sq s s'):Ra (pof tk en k s) (dtext tk en k s'):=by
 unfold pof dtext
 rw[←ag_kd h]
 by_cases hp:pkd tk s=k
 ·rw[if_pos hp,if_pos hp]
  obtain⟨h0,hn⟩:=pkd_inv (tk:=tk) (s:=s) (by rw[hp];exact hk)
  obtain rfl:=h.eq h0
  exact⟨ag_go h,fun _=>if_pos ⟨h0,hn⟩⟩
 ·rw[if_neg hp,if_neg hp];exact⟨ag_fail 11 h,fun _=>rfl⟩
omit T in
theorem ag_num {s s':PS}(h:Sq s s'):Ra (pnum tk en s) (dnum tk en s'):=
 have h1:=ag_of (en:=en) (k:=3) (by decide) h
 ⟨h1.1,fun e=>congrArg pval (h1.2 e)⟩
theorem ag_within {α:Type}{o c:ByteArray}(ho:Wd o)(hc:Wd c)(d:α){f g:PS→α×PS}(hm:∀s,Mv tk s (f s).2)(hf:∀ {s s'},Sq s s'→Ra (f s) (g s')){s s':PS}(h:Sq s s'):
 Ra (pwithin tk en o c d f s) ((g (dbegin tk en o s')).1,dfin tk en c (g (dbegin tk en o s')).2):=by
 have h2:=ag_begin (en:=en) T ho h
 unfold pwithin
 dsimp only
 generalize pm1 tk en o (if pis tk [o] s=true then penter tk en s else s)=a at*
 generalize dbegin tk en o s'=b at*
 have h3:=hf h2
 have h4:=ag_up (ag_eat (en:=en) T hc h3.1)
 by_cases h0:a.er=none
 ·rw[if_pos h0]
  exact⟨h4,fun e=>h3.2 ((mv_m1 (en:=en) c _).none e)⟩
 ·rw[if_neg h0]
  have e1:(f a).2.er=a.er:=((hm a).er h0).1
  have e2:(pm1 tk en c (f a).2).er=(f a).2.er:=((mv_m1 (en:=en) c _).er (by rw[e1];exact h0)).1
  exact Ra.bad (by show a.er=_;rw[←e1,←e2];exact h4.er) h0
theorem ag_com {α:Type}{f g:PS→α×PS}(hf:∀ {s s'},Sq s s'→Ra (f s) (g s'))(hm:∀s,Mv tk s (f s).2):∀(k:Nat) (l l':List α) (s s':PS),Sq s s'→(s.er=none→l=l')→Ra (pcom tk f k l s) (dcom tk g k l' s')
 | 0,_,_,_,_,h,hl=>⟨h,hl⟩
 | k+1,l,l',s,s',h,hl=>by
   have hi:=ag_wd T (w:=(⟨#[44]⟩:ByteArray)) (by decide) h
   unfold pcom dcom
   by_cases hp:pis tk [(⟨#[44]⟩:ByteArray)] s=true
   ·rw[if_pos hp,if_pos (hi.1 hp)]
    have h1:=hf (ag_go h)
    exact ag_com hf hm k _ _ _ _ h1.1 (fun e=>by rw[hl ((hm (pgo s)).none e),h1.2 e])
   ·rw[if_neg hp,if_neg (fun e=>hp (hi.2 e))]
    exact⟨h,hl⟩
theorem ag_many {α:Type}{f g:PS→α×PS}(hf:∀ {s s'},Sq s s'→Ra (f s) (g s'))(hm:∀s,Mv tk s (f s).2){s s':PS}(h:Sq s s'):Ra (pcom tk f (tk.length+1) [(f s).1] (f s).2) (dmany tk g s'):=
 ag_com T hf hm _ _ _ _ _ (hf h).1 (fun e=>by rw[(hf h).2 e])
theorem ag_row {f g:PS→ET×PS}(hf:∀ {s s'},Sq s s'→Ra (f s) (g s'))(hm:∀s,Mv tk s (f s).2){w:ByteArray}(hw:Wd w){s s':PS}(h:Sq s s'):Ra (prow tk [w] f s) (dexprs tk g w s'):=by
 have hi:=ag_wd T hw h
 unfold prow dexprs
 by_cases hp:pis tk [w] s=true
 ·rw[if_pos hp,if_pos (hi.1 hp)];exact⟨h,fun _=>rfl⟩
 ·rw[if_neg hp,if_neg (fun e=>hp (hi.2 e))];exact ag_many T hf hm h
theorem ag_names1 {s s':PS}(h:Sq s s'):Ra (pnames tk en [] s) (dnames tk en true s'):=by
 have e1:pis tk [] s=false:=by unfold pis hasW;simp
 unfold pnames prow dnames
 rw[if_neg (by rw[e1];decide),if_neg (fun e=>by cases e.1)]
 exact ag_many T (fun h=>ag_of (by decide) h) (fun s=>mv_of (by decide) s) h
theorem ag_names0 {w:ByteArray}(hw:Wd w){s s':PS}(h:Sq s s'):Sq (pm1 tk en w (pnames tk en [w] s).2) (deat tk en w (dnames tk en false s').2)∧((pm1 tk en w (pnames tk en [w] s).2).er=none→(pnames tk en [w] s).1=(dnames tk en false s').1):=by
 have hi:=ag_wd T hw h
 have hm:=ag_many T (f:=pof tk en 1) (g:=dtext tk en 1) (fun h=>ag_of (by decide) h) (fun s=>mv_of (by decide) s) h
 have hk:=ag_kd (tk:=tk) h
 by_cases hp:pis tk [w] s=true
 ·have h0:=(pis_inv hp).1
  obtain rfl:=h.eq h0
  have h1:pkd tk s≠1:=by
   have e1:=(ptx_wd T hw s).2 (hi.1 hp)
   have e2:ptx tk s 0=(tk.getD s.nx tok0).text:=if_pos (pis_inv hp)
   have e3:pkd tk s=(tk.getD s.nx tok0).kind:=if_pos (pis_inv hp)
   rw[e3]
   exact(shape_wd hw (by rw[←e1,e2];exact tok_sh T (pis_inv hp).2)).1
  have e4:pnames tk en [w] s=([],s):=by unfold pnames prow;rw[if_pos hp]
  have e5:dnames tk en false s=([],s):=if_pos ⟨rfl,h1⟩
  rw[e4,e5]
  exact⟨ag_eat T hw h,fun _=>rfl⟩
 ·have e4:pnames tk en [w] s=pcom tk (pof tk en 1) (tk.length+1) [(pof tk en 1 s).1] (pof tk en 1 s).2:=by unfold pnames prow;rw[if_neg hp]
  by_cases h1:pkd tk s=1
  ·have e5:dnames tk en false s'=dmany tk (dtext tk en 1) s':=if_neg (fun e=>e.2 (by rw[←hk];exact h1))
   rw[e4,e5]
   exact⟨ag_eat T hw hm.1,fun e=>hm.2 ((mv_m1 (en:=en) w _).none e)⟩
  ·have e5:dnames tk en false s'=([],s'):=if_pos ⟨rfl,by rw[←hk];exact h1⟩
   have e6:pof tk en 1 s=((⟨#[]⟩:ByteArray),pfail tk en 11 s):=if_neg h1
   rw[e4,e5,e6]
   have hb:=fail_er (tk:=tk) (en:=en) 11 s
   have e7:∀l:List ByteArray,pcom tk (pof tk en 1) (tk.length+1) l (pfail tk en 11 s)=(l,pfail tk en 11 s):=fun l=>by
    unfold pcom
    rw[if_neg (by rw[pis_bad hb];decide)]
   dsimp only
   rw[e7]
   dsimp only
   have e8:pm1 tk en w (pfail tk en 11 s)=pfail tk en 11 s:=by
    unfold pm1 pmust
    rw[if_neg (by rw[pis_bad hb];decide)]
    exact fail_bad hb
   have e9:deat tk en w s'=pfail tk en 11 s':=by
    unfold deat
    rw[if_neg (fun e=>hp (hi.2 e))]
   rw[e8,e9]
   exact⟨ag_fail 11 h,fun e=>absurd e hb⟩
theorem ag_bin {α:Type}{w:ByteArray}(hw:Wd w)(mk:α→α→α){f g:PS→α×PS}(hf:∀ {s s'},Sq s s'→Ra (f s) (g s'))(hm:∀s,Mv tk s (f s).2):∀(k:Nat) (a a':α) (s s':PS),Sq s s'→(s.er=none→a=a')→Ra (pbin tk w mk f k a s) (dbin tk w mk g k a' s')
 | 0,_,_,_,_,h,hl=>⟨h,hl⟩
 | k+1,a,a',s,s',h,hl=>by
   have hi:=ag_wd T hw h
   unfold pbin dbin
   by_cases hp:pis tk [w] s=true
   ·rw[if_pos hp,if_pos (hi.1 hp)]
    have h1:=hf (ag_go h)
    exact ag_bin hw mk hf hm k _ _ _ _ h1.1 (fun e=>by rw[hl ((hm (pgo s)).none e),h1.2 e])
   ·rw[if_neg hp,if_neg (fun e=>hp (hi.2 e))]
    exact⟨h,hl⟩
theorem pis_two {a b:ByteArray}(ha:Wd a)(hb:Wd b)(s:PS):pis tk [a,b] s=true↔dnx tk s=a∨dnx tk s=b:=by
 rw[←ptx_wd T ha,←ptx_wd T hb]
 unfold pis hasW
 simp only[Bool.and_eq_true,List.any_cons,List.any_nil,Bool.or_false,Bool.or_eq_true,decide_eq_true_eq]
 refine⟨fun h=>h.2.imp Eq.symm Eq.symm,fun h=>⟨?_,h.imp Eq.symm Eq.symm⟩⟩
 rcases h with h | h
 ·rw[h];exact wd_ne ha
 ·rw[h];exact wd_ne hb
theorem ag_sum {f g:PS→ET×PS}(hf:∀ {s s'},Sq s s'→Ra (f s) (g s'))(hm:∀s,Mv tk s (f s).2):∀(k:Nat) (a a':ET) (s s':PS),Sq s s'→(s.er=none→a=a')→Ra (psum tk f k a s) (dsum tk g k a' s')
 | 0,_,_,_,_,h,hl=>⟨h,hl⟩
 | k+1,a,a',s,s',h,hl=>by
   rcases h.two with ⟨h0,rfl,_⟩ | ⟨h1,h2⟩
   ·have hi:=pis_two T (a:=(⟨#[43]⟩:ByteArray)) (b:=(⟨#[45]⟩:ByteArray)) (by decide) (by decide) s
    unfold psum dsum
    by_cases hp:pis tk [(⟨#[43]⟩:ByteArray),(⟨#[45]⟩:ByteArray)] s=true
    ·rw[if_pos hp,if_pos (hi.1 hp)]
     have h1:=hf (ag_go h)
     have hk:(if ptx tk s 0=(⟨#[43]⟩:ByteArray) then(2:Int) else 3)=(if dnx tk s=(⟨#[45]⟩:ByteArray) then(3:Int) else 2):=by
      rcases hi.1 hp with e | e
      ·rw[if_pos ((ptx_wd T (by decide) s).2 e),if_neg (by rw[e];decide)]
      ·rw[if_neg (fun e2=>by rw[(ptx_wd T (by decide) s).1 e2]at e;exact absurd e (by decide)),if_pos e]
     rw[hk]
     exact ag_sum hf hm k _ _ _ _ h1.1 (fun e=>by rw[hl ((hm (pgo s)).none e),h1.2 e])
    ·rw[if_neg hp,if_neg (fun e=>hp (hi.2 e))]
     exact⟨h,hl⟩
   ·unfold psum dsum
    rw[if_neg (by rw[pis_bad h1];decide),if_neg (by rw[dnx_bad h2];decide)]
    exact⟨h,hl⟩
theorem ag_expr {f g:PS→ET×PS}(hf:∀ {s s'},Sq s s'→Ra (f s) (g s'))(hm:∀s,Mv tk s (f s).2){s s':PS}(h:Sq s s'):Ra (pexpr tk f s) (dexpr tk g s'):=
 ag_sum T hf hm _ _ _ _ _ (hf h).1 (hf h).2
end
end
section
open Go.RowKit
section
variable {tk:List Tok} {en:Nat} (T:∀t∈tk,Shape t.kind t.text.data.toList)
include T
theorem m1_go {w:ByteArray}{s:PS}(hw:Wd w)(h:ptx tk s 0=w):pm1 tk en w s=pgo s:=by
 unfold pm1 pmust
 rw[if_pos ((pis_wd T hw s).2 ((ptx_wd T hw s).1 h))]
theorem ag_numE {f g:PS→ET×PS}(hf:∀ {s s'},Sq s s'→Ra (f s) (g s'))(hm:∀s,Mv tk s (f s).2){m:Bool}{sg:Int}(hs:sg=if m then -1 else 1){s:PS}(ok:s.er=none→s.ne≤50)(h3:pkd tk s=3):Ra (ptimes tk en f sg s) (dnumE tk en g m s):=by
 have h0:=(pkd_inv (tk:=tk) (s:=s) (by rw[h3];decide)).1
 have hv:∀x:Int,sg*x=if m then -x else x:=fun x=>by
  rw[hs]
  cases m
  ·exact Int.one_mul x
  ·show -1*x= -x
   omega
 have hi:(pkd tk s=3∧ptx tk s 1=(⟨#[42]⟩:ByteArray))↔(s.nx+1<tk.length∧(tk.getD (s.nx+1) tok0).text=(⟨#[42]⟩:ByteArray)):=by
  unfold ptx
  constructor
  ·rintro⟨_,e⟩
   split at e
   ·next hc=>exact⟨hc.2,e⟩
   ·exact absurd e (by decide)
  ·rintro⟨a,b⟩
   exact⟨h3,by rw[if_pos ⟨h0,a⟩];exact b⟩
 unfold ptimes dnumE
 by_cases hp:pkd tk s=3∧ptx tk s 1=(⟨#[42]⟩:ByteArray)
 ·rw[if_pos hp,if_pos (hi.1 hp)]
  have h1:=ag_num (tk:=tk) (en:=en) (ag_enter (tk:=tk) (en:=en) (Sq.same ok))
  have h2:=ag_eat (en:=en) T (w:=(⟨#[42]⟩:ByteArray)) (by decide) h1.1
  have h3:=hf h2
  unfold pmulE
  dsimp only
  refine⟨ag_up h3.1,fun e=> ?_⟩
  have e1:=(hm _).none e
  have e2:=(mv_m1 (en:=en) (⟨#[42]⟩:ByteArray) _).none e1
  dsimp only
  rw[h3.2 e,h1.2 e2,hv]
 ·rw[if_neg hp,if_neg (fun e=>hp (hi.2 e))]
  have h1:=ag_num (tk:=tk) (en:=en) (Sq.same ok)
  unfold pnumE
  exact⟨h1.1,fun e=>by dsimp only;rw[h1.2 e,hv]⟩
theorem ag_prod:∀(n:Nat) {s s':PS},Sq s s'→Ra (pprod tk en n s) (dprod tk en n s')
 | 0,s,s',h=>⟨h,fun _=>rfl⟩
 | n+1,s,s',h=>by
   have hf:=fun {s s'} h=>ag_prod n (s:=s) (s':=s') h
   have hm:=fun s=>mv_prod (tk:=tk) (en:=en) n s
   rcases h.two with ⟨h0,rfl,ok⟩ | ⟨h1,h2⟩
   ·by_cases hp:pis tk [(⟨#[45]⟩:ByteArray)] s=true
    ·have e1:=(pis_wd T (w:=(⟨#[45]⟩:ByteArray)) (by decide) s).1 hp
     have ep:pprod tk en (n+1) s=ptimes tk en (pprod tk en n) (-1) (pgo s):=by rw[pprod,if_pos hp]
     by_cases h3:pkd tk (pgo s)=3
     ·have ed:dprod tk en (n+1) s=dnumE tk en (dprod tk en n) true (pgo s):=by
       rw[dprod]
       simp only[e1,if_true,h3,decide_true]
      rw[ep,ed]
      exact ag_numE (m:=true) (s:=pgo s) T hf hm rfl (fun _=>ok) h3
     ·have ed:dprod tk en (n+1) s=(.mk 1 0 (dtext tk en 1 (pfail tk en 11 (pgo s))).1 [],(dtext tk en 1 (pfail tk en 11 (pgo s))).2):=by
       rw[dprod]
       simp only[e1,if_true,decide_true,if_neg h3,Bool.true_eq_false,false_and,if_false]
      have hb:=fail_er (tk:=tk) (en:=en) 11 (pgo s)
      have e2:dtext tk en 1 (pfail tk en 11 (pgo s))=((⟨#[]⟩:ByteArray),pfail tk en 11 (pgo s)):=by
       unfold dtext
       rw[if_neg (by rw[pkd_bad hb];decide),fail_bad hb]
      have e3:ptimes tk en (pprod tk en n) (-1) (pgo s)=(.mk 0 (-1*(pnum tk en (pgo s)).1) (⟨#[]⟩:ByteArray) [],pfail tk en 11 (pgo s)):=by
       unfold ptimes
       rw[if_neg (fun e=>h3 e.1)]
       unfold pnumE
       have:(pnum tk en (pgo s)).2=pfail tk en 11 (pgo s):=by
        unfold pnum pof
        rw[if_neg h3]
       rw[this]
      rw[ep,ed,e2,e3]
      exact Ra.bad rfl hb
    ·have e1:¬dnx tk s=(⟨#[45]⟩:ByteArray):=fun e=>hp ((pis_wd T (w:=(⟨#[45]⟩:ByteArray)) (by decide) s).2 e)
     by_cases h3:pkd tk s=3
     ·have ep:pprod tk en (n+1) s=ptimes tk en (pprod tk en n) 1 s:=by rw[pprod,if_neg hp,if_pos h3]
      have ed:dprod tk en (n+1) s=dnumE tk en (dprod tk en n) false s:=by
       rw[dprod]
       simp only[if_neg e1,if_pos h3,decide_eq_false e1]
      rw[ep,ed]
      exact ag_numE (m:=false) T hf hm rfl (fun _=>ok) h3
     ·by_cases h4:pkd tk s=1
      ·have h5:=(pkd_inv (tk:=tk) (s:=s) (by rw[h4];decide))
       have e2:¬dnx tk s=(⟨#[40]⟩:ByteArray):=fun e=>by
        have e3:=(ptx_wd T (w:=(⟨#[40]⟩:ByteArray)) (by decide) s).2 e
        have e4:ptx tk s 0=(tk.getD s.nx tok0).text:=if_pos h5
        have e5:pkd tk s=(tk.getD s.nx tok0).kind:=if_pos h5
        exact(shape_wd (w:=(⟨#[40]⟩:ByteArray)) (by decide) (by rw[←e3,e4];exact tok_sh T h5.2)).1 (by rw[←e5];exact h4)
       have ep:pprod tk en (n+1) s=pvarE tk en s:=by rw[pprod,if_neg hp,if_neg h3,if_pos h4]
       have ed:dprod tk en (n+1) s=(.mk 1 0 (dtext tk en 1 s).1 [],(dtext tk en 1 s).2):=by
        rw[dprod]
        simp only[if_neg e1,if_neg h3,decide_eq_false e1,if_neg e2,true_and,Bool.false_eq_true,if_false]
       have h6:=ag_of (tk:=tk) (en:=en) (k:=1) (by decide) h
       rw[ep,ed]
       unfold pvarE
       exact⟨h6.1,fun e=>by dsimp only;rw[h6.2 e]⟩
      ·have ep:pprod tk en (n+1) s=pwithin tk en (⟨#[40]⟩:ByteArray) (⟨#[41]⟩:ByteArray) default (pexpr tk (pprod tk en n)) s:=by rw[pprod,if_neg hp,if_neg h3,if_neg h4]
       rw[ep]
       by_cases e2:dnx tk s=(⟨#[40]⟩:ByteArray)
       ·have ed:dprod tk en (n+1) s=((dexpr tk (dprod tk en n) (dbegin tk en (⟨#[40]⟩:ByteArray) s)).1,dfin tk en (⟨#[41]⟩:ByteArray) (dexpr tk (dprod tk en n) (dbegin tk en (⟨#[40]⟩:ByteArray) s)).2):=by
         rw[dprod]
         simp only[if_neg e1,if_neg h3,decide_eq_false e1,if_pos e2,true_and,if_true]
        rw[ed]
        exact ag_within T (by decide) (by decide) _ (fun s=>mv_expr hm s) (fun h=>ag_expr T hf hm h) h
       ·have ed:dprod tk en (n+1) s=(.mk 1 0 (⟨#[]⟩:ByteArray) [],pfail tk en 11 s):=by
         rw[dprod]
         simp only[if_neg e1,if_neg h3,decide_eq_false e1,if_neg e2,true_and,Bool.false_eq_true,if_false]
         have:dtext tk en 1 s=((⟨#[]⟩:ByteArray),pfail tk en 11 s):=if_neg h4
         rw[this]
        have hp2:¬pis tk [(⟨#[40]⟩:ByteArray)] s=true:=fun e=>e2 ((pis_wd T (w:=(⟨#[40]⟩:ByteArray)) (by decide) s).1 e)
        have hb:=fail_er (tk:=tk) (en:=en) 11 s
        have e3:pm1 tk en (⟨#[40]⟩:ByteArray) s=pfail tk en 11 s:=by unfold pm1 pmust;rw[if_neg hp2]
        rw[ed]
        unfold pwithin
        dsimp only
        rw[if_neg hp2,e3,if_neg hb]
        exact Ra.bad rfl hb
   ·have ek:(pprod tk en (n+1) s).2.er=s.er:=((mv_prod (n+1) s).er h1).1
    have ed:dprod tk en (n+1) s'=(.mk 1 0 (⟨#[]⟩:ByteArray) [],s'):=by
     have e1:¬dnx tk s'=(⟨#[45]⟩:ByteArray):=by rw[dnx_bad h2];decide
     have e2:¬dnx tk s'=(⟨#[40]⟩:ByteArray):=by rw[dnx_bad h2];decide
     have e3:¬pkd tk s'=3:=by rw[pkd_bad h2];decide
     have e4:dtext tk en 1 s'=((⟨#[]⟩:ByteArray),s'):=by
      unfold dtext
      rw[if_neg (by rw[pkd_bad h2];decide),fail_bad h2]
     rw[dprod]
     simp only[if_neg e1,if_neg e3,decide_eq_false e1,if_neg e2,true_and,Bool.false_eq_true,if_false,e4]
    rw[ed]
    exact Ra.bad (by rw[ek];exact h.er) (by rw[ek];exact h1)
theorem ag_ex {s s':PS}(h:Sq s s'):Ra (pex tk en s) (dex tk en s'):=ag_expr T (fun h=>ag_prod T 53 h) (fun s=>mv_prod 53 s) h
theorem ag_cmp {s s':PS}(h:Sq s s'):Ra (pcmp tk en s) (dcmp tk en s'):=by
 have h1:=ag_ex (en:=en) T h
 unfold pcmp dcmp
 dsimp only
 generalize pex tk en s=a at*
 generalize dex tk en s'=a' at*
 have h2:Sq (pmust tk en [(⟨#[61,61]⟩:ByteArray),(⟨#[33,61]⟩:ByteArray),(⟨#[60]⟩:ByteArray),(⟨#[60,61]⟩:ByteArray)] a.2).2 (if(if dnx tk a'.2=(⟨#[61,61]⟩:ByteArray) then(2:Int) else if dnx tk a'.2=(⟨#[33,61]⟩:ByteArray) then 3 else if dnx tk a'.2=(⟨#[60]⟩:ByteArray) then 4 else if dnx tk a'.2=(⟨#[60,61]⟩:ByteArray) then 5 else 0)=0 then pfail tk en 11 a'.2 else pgo a'.2)∧((pmust tk en [(⟨#[61,61]⟩:ByteArray),(⟨#[33,61]⟩:ByteArray),(⟨#[60]⟩:ByteArray),(⟨#[60,61]⟩:ByteArray)] a.2).2.er=none→pcmpK (pmust tk en [(⟨#[61,61]⟩:ByteArray),(⟨#[33,61]⟩:ByteArray),(⟨#[60]⟩:ByteArray),(⟨#[60,61]⟩:ByteArray)] a.2).1=(if dnx tk a'.2=(⟨#[61,61]⟩:ByteArray) then(2:Int) else if dnx tk a'.2=(⟨#[33,61]⟩:ByteArray) then 3 else if dnx tk a'.2=(⟨#[60]⟩:ByteArray) then 4 else if dnx tk a'.2=(⟨#[60,61]⟩:ByteArray) then 5 else 0)):=by
  rcases h1.1.two with ⟨h0,e0,_⟩ | ⟨b1,b2⟩
  ·rw[←e0]
   have w1:=ptx_wd T (w:=(⟨#[61,61]⟩:ByteArray)) (by decide) a.2
   have w2:=ptx_wd T (w:=(⟨#[33,61]⟩:ByteArray)) (by decide) a.2
   have w3:=ptx_wd T (w:=(⟨#[60]⟩:ByteArray)) (by decide) a.2
   have w4:=ptx_wd T (w:=(⟨#[60,61]⟩:ByteArray)) (by decide) a.2
   by_cases hp:pis tk [(⟨#[61,61]⟩:ByteArray),(⟨#[33,61]⟩:ByteArray),(⟨#[60]⟩:ByteArray),(⟨#[60,61]⟩:ByteArray)] a.2=true
   ·have em:pmust tk en [(⟨#[61,61]⟩:ByteArray),(⟨#[33,61]⟩:ByteArray),(⟨#[60]⟩:ByteArray),(⟨#[60,61]⟩:ByteArray)] a.2=(ptx tk a.2 0,pgo a.2):=if_pos hp
    have hor:ptx tk a.2 0=(⟨#[61,61]⟩:ByteArray)∨ptx tk a.2 0=(⟨#[33,61]⟩:ByteArray)∨ptx tk a.2 0=(⟨#[60]⟩:ByteArray)∨ptx tk a.2 0=(⟨#[60,61]⟩:ByteArray):=by
     unfold pis hasW at hp
     simp only[Bool.and_eq_true,List.any_cons,List.any_nil,Bool.or_false,Bool.or_eq_true,decide_eq_true_eq]at hp
     rcases hp.2 with e | e | e | e
     ·exact .inl e.symm
     ·exact .inr (.inl e.symm)
     ·exact .inr (.inr (.inl e.symm))
     ·exact .inr (.inr (.inr e.symm))
    rw[em]
    have hg:Sq (pgo a.2) (pgo a.2):=ag_go (Sq.same h1.1.ok)
    rcases hor with e | e | e | e
    ·rw[w1.1 e,e];exact⟨hg,fun _=>by dsimp only;decide⟩
    ·rw[w2.1 e,e];exact⟨hg,fun _=>by dsimp only;decide⟩
    ·rw[w3.1 e,e];exact⟨hg,fun _=>by dsimp only;decide⟩
    ·rw[w4.1 e,e];exact⟨hg,fun _=>by dsimp only;decide⟩
   ·have em:pmust tk en [(⟨#[61,61]⟩:ByteArray),(⟨#[33,61]⟩:ByteArray),(⟨#[60]⟩:ByteArray),(⟨#[60,61]⟩:ByteArray)] a.2=((⟨#[]⟩:ByteArray),pfail tk en 11 a.2):=if_neg hp
    have hno:¬(ptx tk a.2 0=(⟨#[61,61]⟩:ByteArray)∨ptx tk a.2 0=(⟨#[33,61]⟩:ByteArray)∨ptx tk a.2 0=(⟨#[60]⟩:ByteArray)∨ptx tk a.2 0=(⟨#[60,61]⟩:ByteArray)):=fun e=>hp (by
     unfold pis hasW
     simp only[Bool.and_eq_true,List.any_cons,List.any_nil,Bool.or_false,Bool.or_eq_true,decide_eq_true_eq]
     rcases e with e | e | e | e<;>rw[e]
     ·exact⟨by decide,.inl rfl⟩
     ·exact⟨by decide,.inr (.inl rfl)⟩
     ·exact⟨by decide,.inr (.inr (.inl rfl))⟩
     ·exact⟨by decide,.inr (.inr (.inr rfl))⟩)
    have v1:¬dnx tk a.2=(⟨#[61,61]⟩:ByteArray):=fun e=>hno (.inl (w1.2 e))
    have v2:¬dnx tk a.2=(⟨#[33,61]⟩:ByteArray):=fun e=>hno (.inr (.inl (w2.2 e)))
    have v3:¬dnx tk a.2=(⟨#[60]⟩:ByteArray):=fun e=>hno (.inr (.inr (.inl (w3.2 e))))
    have v4:¬dnx tk a.2=(⟨#[60,61]⟩:ByteArray):=fun e=>hno (.inr (.inr (.inr (w4.2 e))))
    rw[em,if_neg v1,if_neg v2,if_neg v3,if_neg v4,if_pos rfl]
    exact⟨ag_fail 11 (Sq.same h1.1.ok),fun e=>absurd e (fail_er 11 _)⟩
  ·have em:pmust tk en [(⟨#[61,61]⟩:ByteArray),(⟨#[33,61]⟩:ByteArray),(⟨#[60]⟩:ByteArray),(⟨#[60,61]⟩:ByteArray)] a.2=((⟨#[]⟩:ByteArray),pfail tk en 11 a.2):=if_neg (by rw[pis_bad b1];decide)
   have hz:(if((⟨#[]⟩:ByteArray):ByteArray)=(⟨#[61,61]⟩:ByteArray) then(2:Int) else if((⟨#[]⟩:ByteArray):ByteArray)=(⟨#[33,61]⟩:ByteArray) then 3 else if((⟨#[]⟩:ByteArray):ByteArray)=(⟨#[60]⟩:ByteArray) then 4 else if((⟨#[]⟩:ByteArray):ByteArray)=(⟨#[60,61]⟩:ByteArray) then 5 else 0)=0:=by decide
   rw[em,dnx_bad b2,hz,if_pos rfl]
   exact⟨ag_fail 11 h1.1,fun e=>absurd e (fail_er 11 _)⟩
 have h3:=ag_ex (en:=en) T h2.1
 have m3:=mv_ex (tk:=tk) (en:=en) (pmust tk en [(⟨#[61,61]⟩:ByteArray),(⟨#[33,61]⟩:ByteArray),(⟨#[60]⟩:ByteArray),(⟨#[60,61]⟩:ByteArray)] a.2).2
 have m2:=mv_must (tk:=tk) (en:=en) [(⟨#[61,61]⟩:ByteArray),(⟨#[33,61]⟩:ByteArray),(⟨#[60]⟩:ByteArray),(⟨#[60,61]⟩:ByteArray)] a.2
 exact⟨h3.1,fun e=>by
  have e1:=m3.none e
  dsimp only
  rw[h3.2 e,h1.2 (m2.none e1),h2.2 e1]⟩
theorem ag_all {f g:PS→CT×PS}(hf:∀ {s s'},Sq s s'→Ra (f s) (g s'))(hm:∀s,Mv tk s (f s).2){s s':PS}(h:Sq s s'):Ra (pall tk f s) (dall tk g s'):=
 ag_bin T (by decide) _ hf hm _ _ _ _ _ (hf h).1 (hf h).2
theorem ag_cnd {f g:PS→CT×PS}(hf:∀ {s s'},Sq s s'→Ra (f s) (g s'))(hm:∀s,Mv tk s (f s).2){s s':PS}(h:Sq s s'):Ra (pcnd tk f s) (dcnd tk g s'):=
 have h1:=ag_all T hf hm h
 ag_bin T (by decide) _ (fun h=>ag_all T hf hm h) (fun s=>mv_all hm s) _ _ _ _ _ h1.1 h1.2
theorem ag_one:∀(n:Nat) {s s':PS},Sq s s'→Ra (pone tk en n s) (done tk en n s')
 | 0,s,s',h=>⟨h,fun _=>rfl⟩
 | n+1,s,s',h=>by
   have hf:=fun {s s'} h=>ag_one n (s:=s) (s':=s') h
   have hm:=fun s=>mv_one (tk:=tk) (en:=en) n s
   have w1:=ag_tx T (w:=(⟨#[33]⟩:ByteArray)) (by decide) h
   have w2:=ag_tx T (w:=(⟨#[91]⟩:ByteArray)) (by decide) h
   have w3:=ag_tx T (w:=(⟨#[116,114,117,101]⟩:ByteArray)) (by decide) h
   have w4:=ag_tx T (w:=(⟨#[102,97,108,115,101]⟩:ByteArray)) (by decide) h
   rw[pone,done]
   by_cases c1:ptx tk s 0=(⟨#[33]⟩:ByteArray)
   ·rw[if_pos c1,if_pos (w1.1 c1)]
    have eb:dbegin tk en (⟨#[33]⟩:ByteArray) s'=deat tk en (⟨#[33]⟩:ByteArray) (ddeeper tk en s'):=by unfold dbegin;rw[if_pos (w1.1 c1)]
    have h1:=hf (ag_eat (en:=en) T (w:=(⟨#[33]⟩:ByteArray)) (by decide) (ag_enter (tk:=tk) (en:=en) h))
    rw[eb]
    unfold pnot
    exact⟨ag_up h1.1,fun e=>by dsimp only;rw[h1.2 e]⟩
   ·rw[if_neg c1,if_neg (fun e=>c1 (w1.2 e))]
    by_cases c2:ptx tk s 0=(⟨#[91]⟩:ByteArray)
    ·rw[if_pos c2,if_pos (w2.1 c2)]
     exact ag_within T (by decide) (by decide) _ (fun s=>mv_cnd hm s) (fun h=>ag_cnd T hf hm h) h
    ·rw[if_neg c2,if_neg (fun e=>c2 (w2.2 e))]
     by_cases c3:ptx tk s 0=(⟨#[116,114,117,101]⟩:ByteArray)
     ·rw[if_pos c3,if_pos (w3.1 c3),m1_go T (by decide) c3]
      exact⟨ag_go h,fun _=>rfl⟩
     ·rw[if_neg c3,if_neg (fun e=>c3 (w3.2 e))]
      by_cases c4:ptx tk s 0=(⟨#[102,97,108,115,101]⟩:ByteArray)
      ·rw[if_pos c4,if_pos (w4.1 c4),m1_go T (by decide) c4]
       exact⟨ag_go h,fun _=>rfl⟩
      ·rw[if_neg c4,if_neg (fun e=>c4 (w4.2 e))]
       exact ag_cmp T h
theorem ag_co {s s':PS}(h:Sq s s'):Ra (pco tk en s) (dco tk en s'):=ag_cnd T (fun h=>ag_one T 53 h) (fun s=>mv_one 53 s) h
theorem ag_share {s s':PS}(h:Sq s s'):Ra (pshare tk en s) (((dex tk en (deat tk en (⟨#[40]⟩:ByteArray) s')).1,(dtext tk en 1 (deat tk en (⟨#[46]⟩:ByteArray) (dex tk en (deat tk en (⟨#[40]⟩:ByteArray) s')).2)).1,(dnum tk en (deat tk en (⟨#[44]⟩:ByteArray) (dtext tk en 1 (deat tk en (⟨#[46]⟩:ByteArray) (dex tk en (deat tk en (⟨#[40]⟩:ByteArray) s')).2)).2)).1),(dnum tk en (deat tk en (⟨#[44]⟩:ByteArray) (dtext tk en 1 (deat tk en (⟨#[46]⟩:ByteArray) (dex tk en (deat tk en (⟨#[40]⟩:ByteArray) s')).2)).2)).2):=by
 have h1:=ag_ex (en:=en) T (ag_eat (en:=en) T (w:=(⟨#[40]⟩:ByteArray)) (by decide) h)
 have h2:=ag_of (tk:=tk) (en:=en) (k:=1) (by decide) (ag_eat (en:=en) T (w:=(⟨#[46]⟩:ByteArray)) (by decide) h1.1)
 have h3:=ag_num (tk:=tk) (en:=en) (ag_eat (en:=en) T (w:=(⟨#[44]⟩:ByteArray)) (by decide) h2.1)
 unfold pshare
 dsimp only
 refine⟨h3.1,fun e=> ?_⟩
 have e1:=((mv_m1 (en:=en) (⟨#[44]⟩:ByteArray) _).trans (mv_num (tk:=tk) (en:=en) _)).none e
 have e2:=((mv_m1 (en:=en) (⟨#[46]⟩:ByteArray) _).trans (mv_of (tk:=tk) (en:=en) (k:=1) (by decide) _)).none e1
 dsimp only
 rw[h1.2 e2,h2.2 e1,h3.2 e]
theorem ag_acc {s s':PS}(h:Sq s s')(ht:ptx tk s 0=(⟨#[97,99,99]⟩:ByteArray)):Ra (pacc tk en s) (daccA tk en false s'):=by
 have h1:=ag_share (en:=en) T (ag_go h)
 have h2:=ag_eat (en:=en) T (w:=(⟨#[41]⟩:ByteArray)) (by decide) h1.1
 unfold pacc daccA
 rw[m1_go T (by decide) ht]
 dsimp only
 simp only[Bool.false_eq_true,if_false]
 refine⟨h2,fun e=> ?_⟩
 have e1:=(mv_m1 (en:=en) (⟨#[41]⟩:ByteArray) _).none e
 have e2:=h1.2 e1
 dsimp only at e2⊢
 rw[e2]
theorem ag_pts {s s':PS}(h:Sq s s')(ht:ptx tk s 0=(⟨#[112,116,115]⟩:ByteArray)):Ra (ppts tk en s) (daccA tk en true s'):=by
 have h1:=ag_share (en:=en) T (ag_go h)
 have h3:=ag_ex (en:=en) T (ag_eat (en:=en) T (w:=(⟨#[44]⟩:ByteArray)) (by decide) h1.1)
 have h2:=ag_eat (en:=en) T (w:=(⟨#[41]⟩:ByteArray)) (by decide) h3.1
 unfold ppts daccA
 rw[m1_go T (by decide) ht]
 dsimp only
 simp only[if_true]
 refine⟨h2,fun e=> ?_⟩
 have e1:=(mv_m1 (en:=en) (⟨#[41]⟩:ByteArray) _).none e
 have e3:=((mv_m1 (en:=en) (⟨#[44]⟩:ByteArray) _).trans (mv_ex (tk:=tk) (en:=en) _)).none e1
 have e2:=h1.2 e3
 dsimp only at e2⊢
 rw[e2,h3.2 e1]
theorem ag_assn {f g:PS→AT×PS}(hf:∀ {s s'},Sq s s'→Ra (f s) (g s'))(hm:∀s,Mv tk s (f s).2){s s':PS}(h:Sq s s'):Ra (passn tk f s) (dassn tk g s'):=
 ag_bin T (by decide) _ hf hm _ _ _ _ _ (hf h).1 (hf h).2
theorem ag_braced {f g:PS→AT×PS}(hf:∀ {s s'},Sq s s'→Ra (f s) (g s'))(hm:∀s,Mv tk s (f s).2){s s':PS}(h:Sq s s'):Ra (pbraced tk en f s) ((dassn tk g (dbegin tk en (⟨#[123]⟩:ByteArray) s')).1,dfin tk en (⟨#[125]⟩:ByteArray) (dassn tk g (dbegin tk en (⟨#[123]⟩:ByteArray) s')).2):=
 ag_within T (by decide) (by decide) _ (fun s=>mv_assn hm s) (fun h=>ag_assn T hf hm h) h
theorem ag_ifA {f g:PS→AT×PS}(hf:∀ {s s'},Sq s s'→Ra (f s) (g s'))(hm:∀s,Mv tk s (f s).2){s s':PS}(h:Sq s s')(ht:ptx tk s 0=(⟨#[105,102]⟩:ByteArray)):Ra (pifA tk en f s) (difA tk en g s'):=by
 have h1:=ag_co (en:=en) T (ag_go h)
 have h2:=ag_braced (en:=en) T hf hm h1.1
 have h3:=ag_braced (en:=en) T hf hm (ag_eat (en:=en) T (w:=(⟨#[101,108,115,101]⟩:ByteArray)) (by decide) h2.1)
 unfold pifA difA
 rw[m1_go T (by decide) ht]
 dsimp only
 refine⟨h3.1,fun e=> ?_⟩
 have e1:=((mv_m1 (en:=en) (⟨#[101,108,115,101]⟩:ByteArray) _).trans (mv_braced (en:=en) hm _)).none e
 have e2:=(mv_braced (tk:=tk) (en:=en) hm _).none e1
 have a2:=h2.2 e1
 have a3:=h3.2 e
 dsimp only at a2 a3⊢
 rw[h1.2 e2,a2,a3]
theorem ag_item:∀(n:Nat) {s s':PS},Sq s s'→Ra (pitem tk en n s) (ditem tk en n s')
 | 0,s,s',h=>⟨h,fun _=>rfl⟩
 | n+1,s,s',h=>by
   have hf:=fun {s s'} h=>ag_item n (s:=s) (s':=s') h
   have hm:=fun s=>mv_item (tk:=tk) (en:=en) n s
   have w1:=ag_tx T (w:=(⟨#[91]⟩:ByteArray)) (by decide) h
   have w2:=ag_tx T (w:=(⟨#[97,99,99]⟩:ByteArray)) (by decide) h
   have w3:=ag_tx T (w:=(⟨#[112,116,115]⟩:ByteArray)) (by decide) h
   have w4:=ag_tx T (w:=(⟨#[105,102]⟩:ByteArray)) (by decide) h
   have w5:=ag_tx T (w:=(⟨#[40]⟩:ByteArray)) (by decide) h
   have w6:=ag_tx T (w:=(⟨#[101,109,112]⟩:ByteArray)) (by decide) h
   rw[pitem,ditem]
   by_cases c6:ptx tk s 0=(⟨#[101,109,112]⟩:ByteArray)
   ·rw[if_neg (by rw[c6];decide),if_neg (by rw[c6];decide),if_neg (by rw[c6];decide),if_neg (by rw[c6];decide),if_neg (by rw[c6];decide),if_pos (w6.1 c6),m1_go T (by decide) c6]
    exact⟨ag_go h,fun _=>rfl⟩
   ·rw[if_neg (fun e=>c6 (w6.2 e))]
    by_cases c1:ptx tk s 0=(⟨#[91]⟩:ByteArray)
    ·rw[if_pos c1,if_pos (w1.1 c1)]
     have h1:=ag_within (en:=en) T (o:=(⟨#[91]⟩:ByteArray)) (c:=(⟨#[93]⟩:ByteArray)) (by decide) (by decide) default (fun s=>mv_co (tk:=tk) (en:=en) s) (fun h=>ag_co (en:=en) T h) h
     unfold ppure
     exact⟨h1.1,fun e=>by
      have:=h1.2 e
      dsimp only at this⊢
      rw[this]⟩
    ·rw[if_neg c1,if_neg (fun e=>c1 (w1.2 e))]
     by_cases c2:ptx tk s 0=(⟨#[97,99,99]⟩:ByteArray)
     ·rw[if_pos c2,if_pos (w2.1 c2)];exact ag_acc T h c2
     ·rw[if_neg c2,if_neg (fun e=>c2 (w2.2 e))]
      by_cases c3:ptx tk s 0=(⟨#[112,116,115]⟩:ByteArray)
      ·rw[if_pos c3,if_pos (w3.1 c3)];exact ag_pts T h c3
      ·rw[if_neg c3,if_neg (fun e=>c3 (w3.2 e))]
       by_cases c4:ptx tk s 0=(⟨#[105,102]⟩:ByteArray)
       ·rw[if_pos c4,if_pos (w4.1 c4)];exact ag_ifA T hf hm h c4
       ·rw[if_neg c4,if_neg (fun e=>c4 (w4.2 e))]
        by_cases c5:ptx tk s 0=(⟨#[40]⟩:ByteArray)
        ·rw[if_pos c5,if_pos (w5.1 c5)]
         exact ag_within T (by decide) (by decide) _ (fun s=>mv_assn hm s) (fun h=>ag_assn T hf hm h) h
        ·rw[if_neg c5,if_neg (fun e=>c5 (w5.2 e))]
         have:pm1 tk en (⟨#[101,109,112]⟩:ByteArray) s=pfail tk en 11 s:=by
          unfold pm1 pmust
          rw[if_neg (fun e=>c6 ((ptx_wd T (by decide) s).2 ((pis_wd T (by decide) s).1 e)))]
         rw[this]
         exact⟨ag_fail 11 h,fun _=>rfl⟩
theorem ag_as {s s':PS}(h:Sq s s'):Ra (pas tk en s) (das tk en s'):=ag_assn T (fun h=>ag_item T 53 h) (fun s=>mv_item 53 s) h
end
end
section
open Go.RowKit
def ErB (s:PS):Prop:=∀c a,s.er=some (c,a)→0≤c∧c≤16
structure Mb (tk:List Tok)(s s':PS):Prop where
 f:ErB s→ErB s'
theorem Mb.refl (tk:List Tok)(s:PS):Mb tk s s:=⟨id⟩
theorem Mb.trans {tk:List Tok}{a b c:PS}(h:Mb tk a b)(k:Mb tk b c):Mb tk a c:=⟨fun i=>k.f (h.f i)⟩
section
variable {tk:List Tok} {en:Nat}
theorem mb_fail {c:Int}(hc:0≤c∧c≤16)(s:PS):Mb tk s (pfail tk en c s):=⟨fun i=>by
 unfold pfail
 by_cases h:s.er=none
 ·rw[if_pos h]
  intro c' a e
  injection e with e
  injection e with e1 e2
  subst e1 e2
  exact hc
 ·rw[if_neg h];exact i⟩
theorem mb_enter (s:PS):Mb tk s (penter tk en s):=⟨fun i=>by
 unfold penter
 split
 ·exact(mb_fail (tk:=tk) (en:=en) (by decide) s).f i
 ·exact i⟩
theorem mb_go {s:PS}(h:s.er=none∧s.nx<tk.length):Mb tk s (pgo s):=⟨fun i=>i⟩
theorem mb_must (ws:List ByteArray)(s:PS):Mb tk s (pmust tk en ws s).2:=by
 unfold pmust
 split
 ·next h=>exact mb_go (pis_inv h)
 ·exact mb_fail (by decide) _
theorem mb_m1 (w:ByteArray)(s:PS):Mb tk s (pm1 tk en w s):=mb_must _ _
theorem mb_of {k:Int}(hk:k≠0)(s:PS):Mb tk s (pof tk en k s).2:=by
 unfold pof
 split
 ·next h=>exact mb_go (pkd_inv (by rw[h];exact hk))
 ·exact mb_fail (by decide) _
theorem mb_num (s:PS):Mb tk s (pnum tk en s).2:=mb_of (by decide) s
theorem mb_deep {s s2:PS}(h:s.er=none)(k:Mb tk (penter tk en s) s2):Mb tk s (pup s2):=⟨fun i=>k.f ((mb_enter s).f i)⟩
theorem mb_enter_bad {s:PS}(h:s.er=none)(hn:50≤s.ne){s2:PS}(k:Mb tk (penter tk en s) s2):Mb tk s s2:=⟨fun i=>k.f ((mb_enter s).f i)⟩
theorem mb_within {α:Type}(o c:ByteArray)(d:α){f:PS→α×PS}(hf:∀s,Mb tk s (f s).2)(s:PS):Mb tk s (pwithin tk en o c d f s).2:=by
 unfold pwithin
 by_cases hp:pis tk [o] s=true
 ·obtain⟨h0,_⟩:=pis_inv hp
  simp only[hp,if_true]
  split
  ·exact mb_deep h0 ((mb_m1 _ _).trans ((hf _).trans (mb_m1 _ _)))
  ·next he=>
   by_cases h50:50≤s.ne
   ·exact mb_enter_bad h0 h50 (mb_m1 _ _)
   ·exfalso
    apply he
    have e1:penter tk en s=pdn s:=by unfold penter;rw[if_neg h50]
    rw[e1]
    have e2:pis tk [o] (pdn s)=true:=hp
    unfold pm1 pmust
    rw[if_pos e2]
    exact h0
 ·simp only[hp,Bool.false_eq_true,if_false]
  have:pm1 tk en o s=pfail tk en 11 s:=by unfold pm1 pmust;rw[if_neg hp]
  rw[this,if_neg (pfail_er 11 s)]
  exact mb_fail (by decide) _
theorem mb_com {α:Type}{f:PS→α×PS}(hf:∀s,Mb tk s (f s).2):∀(k:Nat) (l:List α) (s:PS),Mb tk s (pcom tk f k l s).2
 | 0,_,_=>Mb.refl _ _
 | k+1,l,s=>by
   unfold pcom
   split
   ·next h=>exact(mb_go (pis_inv h)).trans ((hf _).trans (mb_com hf k _ _))
   ·exact Mb.refl _ _
theorem mb_row {α:Type}(ends:List ByteArray){f:PS→α×PS}(hf:∀s,Mb tk s (f s).2)(s:PS):Mb tk s (prow tk ends f s).2:=by
 unfold prow
 split
 ·exact Mb.refl _ _
 ·exact(hf _).trans (mb_com hf _ _ _)
theorem mb_names (ends:List ByteArray)(s:PS):Mb tk s (pnames tk en ends s).2:=by
 unfold pnames
 try dsimp only
 exact mb_row _ (mb_of (by decide)) s
theorem mb_bin {α:Type}(w:ByteArray)(mk:α→α→α){f:PS→α×PS}(hf:∀s,Mb tk s (f s).2):∀(k:Nat) (a:α) (s:PS),Mb tk s (pbin tk w mk f k a s).2
 | 0,_,_=>Mb.refl _ _
 | k+1,a,s=>by
   unfold pbin
   split
   ·next h=>exact(mb_go (pis_inv h)).trans ((hf _).trans (mb_bin w mk hf k _ _))
   ·exact Mb.refl _ _
theorem mb_sum {f:PS→ET×PS}(hf:∀s,Mb tk s (f s).2):∀(k:Nat) (a:ET) (s:PS),Mb tk s (psum tk f k a s).2
 | 0,_,_=>Mb.refl _ _
 | k+1,a,s=>by
   unfold psum
   split
   ·next h=>exact(mb_go (pis_inv h)).trans ((hf _).trans (mb_sum hf k _ _))
   ·exact Mb.refl _ _
theorem mb_expr {f:PS→ET×PS}(hf:∀s,Mb tk s (f s).2)(s:PS):Mb tk s (pexpr tk f s).2:=by
 unfold pexpr
 try dsimp only
 exact(hf s).trans (mb_sum hf _ _ _)
theorem mb_times {f:PS→ET×PS}(hf:∀s,Mb tk s (f s).2)(sg:Int)(s:PS):Mb tk s (ptimes tk en f sg s).2:=by
 unfold ptimes
 split
 ·next h=>exact mb_deep (pkd_inv (by rw[h.1];decide)).1 ((mb_num _).trans ((mb_m1 _ _).trans (hf _)))
 ·exact mb_num _
theorem mb_prod:∀(n:Nat) (s:PS),Mb tk s (pprod tk en n s).2
 | 0,_=>Mb.refl _ _
 | n+1,s=>by
   unfold pprod
   split
   ·next h=>exact(mb_go (pis_inv h)).trans (mb_times (mb_prod n) _ _)
   ·split
    ·exact mb_times (mb_prod n) _ _
    ·split
     ·exact mb_of (by decide) _
     ·exact mb_within _ _ _ (mb_expr (mb_prod n)) _
theorem mb_ex (s:PS):Mb tk s (pex tk en s).2:=by
 unfold pex
 try dsimp only
 exact mb_expr (mb_prod _) s
theorem mb_exprs (ends:List ByteArray)(s:PS):Mb tk s (pexprs tk en ends s).2:=by
 unfold pexprs
 try dsimp only
 exact mb_row _ mb_ex s
theorem mb_cmp (s:PS):Mb tk s (pcmp tk en s).2:=by
 unfold pcmp
 try dsimp only
 exact(mb_ex _).trans ((mb_must _ _).trans (mb_ex _))
theorem mb_all {f:PS→CT×PS}(hf:∀s,Mb tk s (f s).2)(s:PS):Mb tk s (pall tk f s).2:=by
 unfold pall
 try dsimp only
 exact(hf s).trans (mb_bin _ _ hf _ _ _)
theorem mb_cnd {f:PS→CT×PS}(hf:∀s,Mb tk s (f s).2)(s:PS):Mb tk s (pcnd tk f s).2:=by
 unfold pcnd
 try dsimp only
 exact(mb_all hf s).trans (mb_bin _ _ (mb_all hf) _ _ _)
theorem mb_one:∀(n:Nat) (s:PS),Mb tk s (pone tk en n s).2
 | 0,_=>Mb.refl _ _
 | n+1,s=>by
   unfold pone
   split
   ·next h=>exact mb_deep (ptx_inv (ne_empty h (by decide))).1 ((mb_m1 _ _).trans (mb_one n _))
   ·repeat' split
    ·exact mb_within _ _ _ (mb_cnd (mb_one n)) _
    ·exact mb_m1 _ _
    ·exact mb_m1 _ _
    ·exact mb_cmp _
theorem mb_co (s:PS):Mb tk s (pco tk en s).2:=by
 unfold pco
 try dsimp only
 exact mb_cnd (mb_one _) s
theorem mb_share (s:PS):Mb tk s (pshare tk en s).2:=by
 unfold pshare
 try dsimp only
 exact(mb_m1 _ _).trans ((mb_ex _).trans ((mb_m1 _ _).trans ((mb_of (by decide) _).trans ((mb_m1 _ _).trans (mb_num _)))))
theorem mb_acc (s:PS):Mb tk s (pacc tk en s).2:=by
 unfold pacc
 try dsimp only
 exact(mb_m1 _ _).trans ((mb_share _).trans (mb_m1 _ _))
theorem mb_pts (s:PS):Mb tk s (ppts tk en s).2:=by
 unfold ppts
 try dsimp only
 exact(mb_m1 _ _).trans ((mb_share _).trans ((mb_m1 _ _).trans ((mb_ex _).trans (mb_m1 _ _))))
theorem mb_pure (s:PS):Mb tk s (ppure tk en s).2:=by
 unfold ppure
 try dsimp only
 exact mb_within _ _ _ mb_co _
theorem mb_assn {f:PS→AT×PS}(hf:∀s,Mb tk s (f s).2)(s:PS):Mb tk s (passn tk f s).2:=by
 unfold passn
 try dsimp only
 exact(hf s).trans (mb_bin _ _ hf _ _ _)
theorem mb_braced {f:PS→AT×PS}(hf:∀s,Mb tk s (f s).2)(s:PS):Mb tk s (pbraced tk en f s).2:=by
 unfold pbraced
 try dsimp only
 exact mb_within _ _ _ (mb_assn hf) _
theorem mb_ifA {f:PS→AT×PS}(hf:∀s,Mb tk s (f s).2)(s:PS):Mb tk s (pifA tk en f s).2:=by
 unfold pifA
 try dsimp only
 exact(mb_m1 _ _).trans ((mb_co _).trans ((mb_braced hf _).trans ((mb_m1 _ _).trans (mb_braced hf _))))
theorem mb_item:∀(n:Nat) (s:PS),Mb tk s (pitem tk en n s).2
 | 0,_=>Mb.refl _ _
 | n+1,s=>by
   unfold pitem
   repeat' split
   ·exact mb_pure _
   ·exact mb_acc _
   ·exact mb_pts _
   ·exact mb_ifA (mb_item n) _
   ·exact mb_within _ _ _ (mb_assn (mb_item n)) _
   ·exact mb_m1 _ _
theorem mb_as (s:PS):Mb tk s (pas tk en s).2:=by
 unfold pas
 try dsimp only
 exact mb_assn (mb_item _) s
theorem mb_cell (p:SP)(s:PS):Mb tk s (pcell tk en p s).2:=by
 unfold pcell
 try dsimp only
 exact(mb_ex _).trans ((mb_m1 _ _).trans (mb_of (by decide) _))
theorem mb_call (p:SP)(s:PS):Mb tk s (pcall tk en p s).2:=by
 unfold pcall
 try dsimp only
 exact(mb_m1 _ _).trans ((mb_of (by decide) _).trans ((mb_m1 _ _).trans ((mb_exprs _ _).trans ((mb_m1 _ _).trans ((mb_exprs _ _).trans (mb_m1 _ _))))))
theorem mb_what (p:SP)(s:PS):Mb tk s (pwhat tk en p s).2:=by
 unfold pwhat
 repeat' split
 ·exact(mb_m1 _ _).trans (mb_cell _ _)
 ·exact(mb_m1 _ _).trans ((mb_m1 _ _).trans ((mb_names _ _).trans (mb_m1 _ _)))
 ·exact mb_call _ _
 ·exact mb_ex _
theorem mb_simple (s:PS):Mb tk s (psimple tk en s).2:=by
 unfold psimple
 by_cases h1:ptx tk s 0=(⟨#[112,117,116]⟩:ByteArray)
 ·simp only[if_pos h1]
  exact(mb_m1 _ _).trans ((mb_cell _ _).trans ((mb_m1 _ _).trans (mb_ex _)))
 ·simp only[if_neg h1]
  by_cases h2:ptx tk s 0=(⟨#[102,114,101,101]⟩:ByteArray)
  ·simp only[if_pos h2]
   exact(mb_m1 _ _).trans (mb_cell _ _)
  ·simp only[if_neg h2]
   by_cases h3:ptx tk s 0=(⟨#[97,115,115,101,114,116]⟩:ByteArray)
   ·simp only[if_pos h3]
    exact(mb_m1 _ _).trans (mb_co _)
   ·simp only[if_neg h3]
    by_cases h4:ptx tk s 0=(⟨#[99,97,108,108]⟩:ByteArray)
    ·simp only[if_pos h4]
     exact mb_call _ _
    ·simp only[if_neg h4]
     by_cases h5:ptx tk s 0=(⟨#[115,107,105,112]⟩:ByteArray)
     ·simp only[if_pos h5]
      exact mb_m1 _ _
     ·simp only[if_neg h5]
      exact(mb_of (by decide) _).trans ((mb_m1 _ _).trans (mb_what _ _))
theorem mb_stmts {f:PS→ST×PS}(hf:∀s,Mb tk s (f s).2):∀(k:Nat) (l:List ST) (s:PS),Mb tk s (pstmts tk f k l s).2
 | 0,_,_=>Mb.refl _ _
 | k+1,l,s=>by
   unfold pstmts
   split
   ·exact(hf _).trans (mb_stmts hf k _ _)
   ·exact Mb.refl _ _
theorem mb_block {f:PS→ST×PS}(hf:∀s,Mb tk s (f s).2)(s:PS):Mb tk s (pblock tk en f s).2:=by
 unfold pblock
 try dsimp only
 exact mb_within _ _ _ (mb_stmts hf _ _) _
theorem mb_branch {f:PS→ST×PS}(hf:∀s,Mb tk s (f s).2)(s:PS):Mb tk s (pbranch tk en f s).2:=by
 unfold pbranch
 try dsimp only
 exact(mb_m1 _ _).trans ((mb_co _).trans ((mb_block hf _).trans ((mb_m1 _ _).trans (mb_block hf _))))
theorem mb_loop {f:PS→ST×PS}(hf:∀s,Mb tk s (f s).2)(s:PS):Mb tk s (ploop tk en f s).2:=by
 unfold ploop
 try dsimp only
 exact(mb_m1 _ _).trans ((mb_co _).trans ((mb_m1 _ _).trans ((mb_as _).trans (mb_block hf _))))
theorem mb_stmt:∀(n:Nat) (s:PS),Mb tk s (pstmt tk en n s).2
 | 0,_=>Mb.refl _ _
 | n+1,s=>by
   unfold pstmt
   repeat' split
   ·exact mb_branch (mb_stmt n) _
   ·exact mb_loop (mb_stmt n) _
   ·exact(mb_simple _).trans (mb_m1 _ _)
theorem mb_bl (s:PS):Mb tk s (pbl tk en s).2:=by
 unfold pbl
 try dsimp only
 exact mb_block (mb_stmt _) s
theorem mb_proc (s:PS):Mb tk s (pproc tk en s).2:=by
 unfold pproc
 try dsimp only
 exact(mb_m1 _ _).trans ((mb_of (by decide) _).trans ((mb_m1 _ _).trans ((mb_names _ _).trans ((mb_m1 _ _).trans ((mb_names _ _).trans ((mb_m1 _ _).trans ((mb_m1 _ _).trans ((mb_as _).trans ((mb_m1 _ _).trans ((mb_as _).trans (mb_bl _)))))))))))
theorem mb_procs:∀(k:Nat) (l:List QT) (s:PS),Mb tk s (pprocs tk en k l s).2
 | 0,_,_=>Mb.refl _ _
 | k+1,l,s=>by
   unfold pprocs
   split
   ·exact(mb_proc _).trans (mb_procs k _ _)
   ·exact Mb.refl _ _
end
end
end Go.Proofs.YtcinokljkieijaaGreatDoor
