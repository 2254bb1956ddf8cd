/- Parts of a proof. -/
import Derived.Test.YtipahfcaplbifaaGreatDoorV01
import Derived.Test.YtipahfcaplbifaaGreatDoorV02
import Derived.Test.YtipahfcaplbifaaGreatDoorV03
import Derived.Test.YtipahfcaplbifaaGreatDoorV04
import Derived.Test.YtipahfcaplbifaaGreatDoorV05
import Derived.Test.YtipahfcaplbifaaGreatDoorV07
import Derived.Test.YtipahfcaplbifaaGreatDoorV08
set_option linter.unusedVariables false
set_option linter.unusedSimpArgs false
set_option maxHeartbeats 60000000
set_option maxRecDepth 100000
namespace Go.Proofs.YtipahfcaplbifaaGreatDoor
section
open Go.RowKit
def nearAll (zs:List Int)(x:Int×List (Int×Int)):Prop:=∀i,i<x.2.length→near x.2 zs i=true
theorem kids_ok {zs:List Int}{n:Nat}{f:FT}(hm:madeF (n+1) f=true)(hv:(vOf zs (n+1) f).2=true):∀i,i<f.ks.length→(vOf zs n (f.ks.getD i default)).2=true:=by
 rcases made_kind hm with hk | hk | hk | hk | hk | hk
 ·have:=made_none hm (.inl hk);intro i hi;omega
 ·have:=made_none hm (.inr hk);intro i hi;omega
 ·have:=(made_snd hm hk).2;intro i hi;omega
 ·have h1:=(made_not hm hk).1
  intro i hi
  obtain rfl:i=0:=by omega
  rw[vOf,if_neg (by omega),if_neg (by omega),if_neg (by omega),if_pos hk]at hv
  exact hv
 all_goals
  rw[vOf_x (by omega)]at hv
  exact vTo_all f.ks.length (Nat.le_refl _) hv
theorem gat_near {zs:List Int}:∀(n:Nat) (f:FT) (am:List (Int×List (Int×Int))),madeF n f=true→(vOf zs n f).2=true→(∀x∈am,nearAll zs x)→∀x∈gatF n f am,nearAll zs x
 | 0,f,am,hm,_,_=>by cases hm
 | n+1,f,am,hm,hv,ha=>by
   have hmk:=made_kids hm
   have hvk:=kids_ok hm hv
   have hto:∀i,i≤f.ks.length→∀x∈gatTo n f.ks am i,nearAll zs x:=fun i=>by
    induction i with
    | zero=>exact fun _=>ha
    | succ i ih=>
      intro hi
      rw[gatTo_succ n f.ks am i hi]
      exact gat_near n _ _ (hmk i hi) (hvk i hi) (ih (by omega))
   rw[gatTo_len]
   by_cases h2:f.kind=2
   ·rw[if_pos h2]
    unfold addA
    split
    ·intro x hx
     rcases List.mem_append.1 hx with hx | hx
     ·exact hto _ (Nat.le_refl _) x hx
     ·obtain rfl:x=(f.c,f.t):=by simpa using hx
      rw[vOf,if_neg (by omega),if_neg (by omega),if_pos (.inl h2)]at hv
      split at hv
      ·rename_i hn;exact hn
      ·cases hv
    ·exact hto _ (Nat.le_refl _)
   ·rw[if_neg h2]
    exact hto _ (Nat.le_refl _)
theorem fval_opp (zs:List Int)(am:List (Int×List (Int×Int)))(x:Int):Cut.fval zs (oppA am x)=if x<0 then Cut.fval zs (atA am x) else 1 - Cut.fval zs (atA am x):=by
 unfold oppA
 by_cases h:x<0
 ·rw[if_pos h,if_pos h]
 ·rw[if_neg h,if_neg h,←Cut.fval_sAt zs (1 - (atA am x).1) (scale (-1) (atA am x).2),sAt_plus,scale_len,sAt_neg _ _ _ (Nat.le_refl _)]
  have:=Cut.fval_sAt zs (atA am x).1 (atA am x).2
  rw[sAt_plus]at this
  have e:Cut.fval zs (atA am x)=Cut.fval zs ((atA am x).1,(atA am x).2):=rfl
  rw[e,←this]
  omega
theorem lit_opp {zs:List Int}{am:List (Int×List (Int×Int))}{V:List Bool}(hA:∀k (h:k<am.length),V[k]? =some (decide (Cut.fval zs am[k]≤0))){x:Int}(hx:inA am.length x=true):Prp.litV V x= !decide (Cut.fval zs (oppA am x)≤0):=by
 have hx':=of_decide_eq_true hx
 obtain⟨k,hk⟩:∃k:Nat,x.natAbs=k+1:=⟨x.natAbs - 1,by omega⟩
 have hlt:k<am.length:=by omega
 have hl:=lit_at (hA k hlt)
 have e:atA am x=am[k]:=by
  unfold atA
  rw[hk,Nat.add_sub_cancel,List.getD_eq_getElem?_getD,List.getElem?_eq_getElem hlt,Option.getD_some]
 rw[fval_opp,e]
 by_cases h:x<0
 ·rw[if_pos h]
  obtain rfl:x= -((k+1:Nat):Int):=by omega
  exact hl.2
 ·rw[if_neg h]
  obtain rfl:x=((k+1:Nat):Int):=by omega
  rw[hl.1]
  generalize Cut.fval zs am[k]=v
  by_cases hv:v≤0
  ·rw[decide_eq_true hv,decide_eq_false (by omega)];rfl
  ·rw[decide_eq_false hv,decide_eq_true (by omega)];rfl
theorem lem_true {zs:List Int}{am:List (Int×List (Int×Int))}{V:List Bool}(hA:∀k (h:k<am.length),V[k]? =some (decide (Cut.fval zs am[k]≤0))){lm:List Int×List (List (Int×Int)×Int)}(h:LemIs am lm 0):Prp.anyV V lm.1=true:=by
 rcases h with ⟨h1,h2⟩ | ⟨h0,x,at',L,hL,e⟩
 ·exact absurd h2.symm h1
 ·obtain⟨hin,_,hP⟩:=premK_zero h0
  cases ha:Prp.anyV V lm.1 with
  | true=>rfl
  | false=>
    exfalso
    have hall:Cut.allLe zs (premL am lm.1):=fun i hi=>by
     rw[hP]at hi⊢
     rw[List.length_map]at hi
     rw[List.getD_eq_getElem?_getD,List.getElem?_map,List.getElem?_eq_getElem hi,Option.map_some,Option.getD_some]
     have h1:=List.any_eq_false.1 ha _ (List.getElem_mem hi)
     rw[lit_opp hA (hin _ (List.getElem_mem hi))]at h1
     simpa using h1
    have hx0:x=0:=by
     unfold Cut.refX at e
     split at e
     ·assumption
     ·exact e.symm
    obtain⟨_,hok,hs,rfl,_⟩:=hL.zero hx0
    have hr:=Cut.hasR_le (Cut.lnL_le hok hall _ hs)
    unfold Cut.refX at e
    rw[if_pos hx0,hr]at e
    simp at e
theorem cert_right {zs:List Int}{n:Nat}{f:FT}{ks:Nat→Int}{lms:List (List Int×List (List (Int×Int)×Int))}{ss:List (List Int)}{at':Int}(hm:madeF (n+3) (nrmT (n+1) f)=true)(hv:(fvN zs (n+1) f).2=0)
 (hks:∀j,j<lms.length→LemIs (atomsF (n+3) (nrmT (n+1) f)) (lms.getD j ([],[])) (ks j)) (h:CertIs (nrmK (n+1) f) (cnfK (n+3) (nrmT (n+1) f)) ks lms.length (makF (n+3) (nrmT (n+1) f)).n (clsF (n+3) (nrmT (n+1) f) ++ lms.map Prod.fst) ss 0 at'):(fvN zs (n+1) f).1=false:=by
 obtain⟨hn0,hc0,hk0,hr⟩:nrmK (n+1) f=0∧cnfK (n+3) (nrmT (n+1) f)=0∧(∀i,i<lms.length→ks i=0)∧Prp.RupIs (makF (n+3) (nrmT (n+1) f)).n (clsF (n+3) (nrmT (n+1) f) ++ lms.map Prod.fst) ss 0 at':=by
  generalize hx:(0:Int)=x at h
  cases h with
  | norm h=>exact absurd hx.symm h
  | cnf _ h=>exact absurd hx.symm h
  | lem j _ _ _ _ h=>exact absurd hx.symm h
  | rup _ _ h1 h2 h3 h4=>subst hx;exact⟨h1,h2,h3,h4⟩
 have hval:=right_val hn0 hv hm
 cases hb:(fvN zs (n+1) f).1 with
 | false=>rfl
 | true=>
   exfalso
   rw[hb]at hval
   obtain⟨v1,v2,v3⟩:=cnf_right zs (n+3) (nrmT (n+1) f) hm
   obtain⟨hc,g,hg,e⟩:=nrmK_ok hn0
   have hs:=(cc_sound hc).2.2
   have hv2:(vOf zs (n+1) f).2=true:=by
    unfold fvN at hv
    rw[if_pos hc]at hv
    split at hv
    ·assumption
    ·cases hv
   have hnear:=gat_near (zs:=zs) (n+3) (nrmT (n+1) f) [] hm (by rw[e,show vOf zs (n+3) g=_ from normF_val hs hg hv2 (n+1) (Nat.le_refl _)]) (fun x hx=>by cases hx)
   have hA:∀k (h:k<(atomsF (n+3) (nrmT (n+1) f)).length),(valsF zs (n+3) (nrmT (n+1) f))[k]? =some (decide (Cut.fval zs (atomsF (n+3) (nrmT (n+1) f))[k]≤0)):=fun k h=>by
    unfold valsF
    rw[List.getElem?_append_left (by rw[List.length_map];exact h)]
    have hk:∀i,i<(atomsF (n+3) (nrmT (n+1) f))[k].2.length→near (atomsF (n+3) (nrmT (n+1) f))[k].2 zs i=true:=hnear _ (List.getElem_mem h)
    rw[List.getElem?_map,List.getElem?_eq_getElem h,Option.map_some]
    unfold leB rvI
    rw[if_pos hk,Cut.fval_sAt]
   have hall:Prp.valB (clsF (n+3) (nrmT (n+1) f) ++ lms.map Prod.fst) (valsF zs (n+3) (nrmT (n+1) f))=true:=by
    refine List.all_eq_true.2 fun c hc=> ?_
    rcases List.mem_append.1 hc with hc | hc
    ·unfold clsF at hc
     rcases List.mem_append.1 hc with hc | hc
     ·exact List.all_eq_true.1 v2 c hc
     ·rw[hval]at v3
      exact List.all_eq_true.1 v3 c hc
    ·obtain⟨lm,hlm,rfl⟩:=List.mem_map.1 hc
     obtain⟨i,hi,rfl⟩:=List.getElem_of_mem hlm
     have:=hks i hi
     rw[hk0 i hi,List.getD_eq_getElem?_getD,List.getElem?_eq_getElem hi,Option.getD_some]at this
     exact lem_true hA this
   have:=Prp.rup_none hr rfl (Nat.le_of_eq v1.symm)
   rw[hall]at this
   cases this
end
end Go.Proofs.YtipahfcaplbifaaGreatDoor
