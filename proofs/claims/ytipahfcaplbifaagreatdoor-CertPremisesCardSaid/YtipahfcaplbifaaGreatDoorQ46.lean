/- Parts of a proof. -/
import Derived.Test.YtipahfcaplbifaaGreatDoorQ23
import Derived.Test.YtipahfcaplbifaaGreatDoorQ45
set_option linter.unusedVariables false
set_option linter.unusedSimpArgs false
set_option maxHeartbeats 60000000
set_option maxRecDepth 100000
namespace Go.Proofs.YtipahfcaplbifaaGreatDoor
section
open Go.RowKit
def UpSaid10:Prop:=∀w:World,Tens w.heap.size w→Prp.Laid0 w→Calls Tryz.prog 8 #[] w fun e w'=>e= .returned (.bool true)∧Below w.heap.size w w'
def fF:FT:= .mk 1 0 [] []
def fT:FT:= .mk 0 0 [] []
theorem exA:Prp.RupIs 1 [[-1],[1]] [[]] 0 (-1):=by
 refine .yes (by decide) (by decide) (fun j hj=> ?_) (by simp)
 have:j=0:=by simpa using hj
 subst this
 refine .inr ⟨1,.rule (c:=[1]) (by simp) (by simp) (fun y hy hne=>absurd (by simpa using hy) hne),.rule (c:=[-1]) (by simp) (by simp) (fun y hy hne=>absurd (by simpa using hy) hne)⟩
theorem exB:Prp.RupIs 1 [[1],[1]] [[]] 9 0:=by
 refine .step 0 (by decide) (by decide) (by decide) (fun j hj=>absurd hj (Nat.not_lt_zero j)) ?_
 refine Prp.Conf.not (v:=fun l=>0<l) (fun l h=>by omega) (fun c hc=> ?_) (fun l hl=> ?_)
 ·have:c=[1]:=by simpa using hc
  subst this;exact⟨1,by simp,by decide⟩
 ·simp[Prp.negs]at hl
theorem upA {ks:Nat→Int}{x at':Int}(h:CertIs (nrmK (0+1) fF) (cnfK (0+3) (nrmT (0+1) fF)) ks ([]:List (List Int×List (List (Int×Int)×Int))).length (makF (0+3) (nrmT (0+1) fF)).n (clsF (0+3) (nrmT (0+1) fF) ++ ([]:List (List Int×List (List (Int×Int)×Int))).map Prod.fst) [[]] x at'):x=0∧at'= -1:=by
 have e1:nrmK (0+1) fF=0:=by decide
 have e2:cnfK (0+3) (nrmT (0+1) fF)=0:=by decide
 have e3:(makF (0+3) (nrmT (0+1) fF)).n=1:=by decide
 have e4:clsF (0+3) (nrmT (0+1) fF) ++ ([]:List (List Int×List (List (Int×Int)×Int))).map Prod.fst=[[-1],[1]]:=by decide
 rw[e1,e2,e3,e4]at h
 exact h.unique (.rup 0 (-1) rfl rfl (fun i hi=>absurd hi (Nat.not_lt_zero _)) exA)
theorem upB {ks:Nat→Int}{x at':Int}(h:CertIs (nrmK (0+1) fT) (cnfK (0+3) (nrmT (0+1) fT)) ks ([]:List (List Int×List (List (Int×Int)×Int))).length (makF (0+3) (nrmT (0+1) fT)).n (clsF (0+3) (nrmT (0+1) fT) ++ ([]:List (List Int×List (List (Int×Int)×Int))).map Prod.fst) [[]] x at'):x=9∧at'=0:=by
 have e1:nrmK (0+1) fT=0:=by decide
 have e2:cnfK (0+3) (nrmT (0+1) fT)=0:=by decide
 have e3:(makF (0+3) (nrmT (0+1) fT)).n=1:=by decide
 have e4:clsF (0+3) (nrmT (0+1) fT) ++ ([]:List (List Int×List (List (Int×Int)×Int))).map Prod.fst=[[1],[1]]:=by decide
 rw[e1,e2,e3,e4]at h
 exact h.unique (.rup 9 0 rfl rfl (fun i hi=>absurd hi (Nat.not_lt_zero _)) exB)
def uW (w:World):World:=((w.alloc (.cells #[] 3)).alloc (.cells #[.slice (some ⟨w.heap.size,0,none⟩) 0 0] 23)).alloc (.cells #[.slice none 0 0,.slice (some ⟨w.heap.size+1,0,none⟩) 1 1] 43)
theorem u_given (w:World):Prp.CLies (uW w).heap.size (uW w) (some ⟨w.heap.size+1,0,none⟩) [[]]∧Below w.heap.size w (uW w)∧w.heap.size+2<(uW w).heap.size∧(uW w).cell? ⟨w.heap.size+1+1,0,none⟩=some (.slice none 0 0)∧(uW w).cell? ⟨w.heap.size+1+1,1,none⟩=some (.slice (some ⟨w.heap.size+1,0,none⟩) 1 1):=by
 have hz:(uW w).heap.size=w.heap.size+3:=by simp[uW]
 have h1:(uW w).heap[w.heap.size+1]? =some (.cells #[.slice (some ⟨w.heap.size,0,none⟩) 0 0] 23 (0,0)):=(by simp only[uW,Prp.heap_at,World.size_alloc];repeat (first | rw[if_pos trivial] | rw[if_pos (by omega)] | rw[if_neg (by omega)]))
 have h2:(uW w).heap[w.heap.size+1+1]? =some (.cells #[.slice none 0 0,.slice (some ⟨w.heap.size+1,0,none⟩) 1 1] 43 (0,0)):=(by simp only[uW,Prp.heap_at,World.size_alloc];repeat (first | rw[if_pos trivial] | rw[if_pos (by omega)] | rw[if_neg (by omega)]))
 have hb:Below w.heap.size w (uW w):=by
  unfold uW
  refine Below.alloc (Below.alloc (Below.alloc (Below.refl _ _) ?_ _) ?_ _) ?_ _<;>simp<;>omega
 generalize uW w=W at hz h1 h2 hb⊢
 refine⟨fun i hi=> ?_,hb,by omega,(cell_of_row _ _ _ _ _ _ h2).trans rfl,(cell_of_row _ _ _ _ _ _ h2).trans rfl⟩
 match i,hi with
 | 0,_=>exact⟨_,0,_,_,rfl,by omega,(cell_of_row _ _ _ _ _ _ h1).trans rfl,fun i hi=>absurd hi (Nat.not_lt_zero i)⟩
theorem easy0:EasyC [] [[]]:=⟨by decide,fun i hi=>absurd hi (Nat.not_lt_zero i),by decide,fun i hi=>by
 match i,hi with
 | 0,_=>decide⟩
theorem up_said10 (hbeg:Prp.BeginSaid):UpSaid10:=fun w ht hg=>by
 obtain⟨u1,u2,u3,u4,u5⟩:=u_given w
 have H1:=Lib.hid (check_cert hbeg 0 fF _ none 0 0 [] (some ⟨w.heap.size+1,0,none⟩) 1 1 [[]] (fun _=>0) (uW w) (flies_leafU (uW w).heap.size (uW w) 1 0 [] none 0 (Nat.zero_le _) (fun i hi=>absurd hi (Nat.not_lt_zero i))) (ht.up u2 u2.size) (hg.below u2 hg.pos) rfl (fun i hi=>absurd hi (Nat.not_lt_zero i)) rfl u1 easy0 (fun i hi=>absurd hi (Nat.not_lt_zero i)))
 have H2:=Lib.hid (fun W (hb:Below (uW w).heap.size (uW w) W)=>check_cert hbeg 0 fT _ none 0 0 [] (some ⟨w.heap.size+1,0,none⟩) 1 1 [[]] (fun _=>0) W (flies_leafU W.heap.size W 0 0 [] none 0 (Nat.zero_le _) (fun i hi=>absurd hi (Nat.not_lt_zero i))) (ht.up (u2.trans (hb.mono u2.size)) (u2.trans (hb.mono u2.size)).size) (hg.below (u2.trans (hb.mono u2.size)) hg.pos) rfl (fun i hi=>absurd hi (Nat.not_lt_zero i)) rfl ((u1.below hb).mono hb.size) easy0 (fun i hi=>absurd hi (Nat.not_lt_zero i)))
 have HG:=Lib.hid hg
 have HB:=Lib.hid u2
 have HC:Hid (∀W,Below (uW w).heap.size (uW w) W→W.cell? ⟨w.heap.size+1+1,0,none⟩=some (.slice none 0 0)∧W.cell? ⟨w.heap.size+1+1,1,none⟩=some (.slice (some ⟨w.heap.size+1,0,none⟩) 1 1)):=fun W hb=>⟨(hb.cell (p:=⟨w.heap.size+1+1,0,none⟩) u3).trans u4,(hb.cell (p:=⟨w.heap.size+1+1,1,none⟩) u3).trans u5⟩
 have q1:=fun W=>Tryz.eqNilNil W
 have HU:Hid (((w.alloc (.cells #[] 3)).alloc (.cells #[.slice (some ⟨w.heap.size,0,none⟩) 0 0] 23)).alloc (.cells #[.slice none 0 0,.slice (some ⟨w.heap.size+1,0,none⟩) 1 1] 43)=uW w):=Lib.hid rfl
 clear u1 u2 u3 u4 u5 hbeg hg ht
 go_enter Tryz.func8,Tryz.ntmps8
 go_wp2_with fail
 rw[HU.out]
 refine H1.out.mono ?_
 rintro e w1 ⟨er,x,at',rfl,hr,he,hb1⟩
 obtain⟨rfl,rfl⟩:=upA hr
 have he2:er= .nilIface:=he.1 (by decide)
 subst he2
 obtain⟨d0,d1⟩:=HC.out _ hb1
 have H3:=Lib.hid (H2.out _ hb1)
 have B1:=Lib.hid (HB.out.trans (hb1.mono HB.out.size))
 clear hr he hb1 H1 H2 HC HU HB
 go_wp2_with fail
 refine H3.out.mono ?_
 rintro e w2 ⟨er,x,at',rfl,hr,he,hb2⟩
 obtain⟨rfl,rfl⟩:=upB hr
 obtain⟨g,rfl,hg1,hg2,c1,c2⟩:=he.2 (by decide)
 have B2:=Lib.hid (B1.out.trans (hb2.mono B1.out.size))
 have HIS:=Lib.hid (Prp.sis_any g 0 9 w2 (HG.out.below B2.out HG.out.pos) hg2 c1 c2)
 clear hr he hb2 H3 c1 c2 d0 d1
 go_wp2_with fail
 refine HIS.out.mono ?_
 rintro e w3 ⟨rfl,hb3⟩
 have B3:=Lib.hid (B2.out.trans (hb3.mono B2.out.size))
 clear hb3 HIS
 go_wp2_with fail
 go_ret
 exact⟨rfl,B3.out⟩
def LightEnd (lms:List (List Int×List (List (Int×Int)×Int)))(ss:List (List Int))(w:World)(e:Ending)(w':World):Prop:=∃b,e= .returned (.bool b)∧Below w.heap.size w w'∧(b=true→EasyC lms ss)
theorem light_no {lms:List (List Int×List (List (Int×Int)×Int))}{ss:List (List Int)}{w W:World}(hb:Below w.heap.size w W):LightEnd lms ss w (.returned (.bool false)) W:=⟨false,rfl,hb,fun h=>by cases h⟩
theorem rlight_any (la:Option Addr)(ln lcap:Nat)(lms:List (List Int×List (List (Int×Int)×Int)))(ra:Option Addr)(rn rcap:Nat)(ss:List (List Int))(w:World)(hln:lms.length=ln)(hL:LmLies w.heap.size w la lms)(hrn:ss.length=rn)(hR:Prp.CLies w.heap.size w ra ss)(hl63:ln≤9223372036854775807)(hr63:rn≤9223372036854775807)(hcl:∀i,i<rn→(ss.getD i []).length≤9223372036854775807):
 Calls Tryz.prog 28 #[.agg #[.slice la ln lcap,.slice ra rn rcap]] w (LightEnd lms ss w):=by
 have hA:Below w.heap.size w (w.alloc (.cells #[.slice la ln lcap,.slice ra rn rcap] 43)):=(Below.refl _ w).alloc (Nat.le_refl _) _
 have hn:=heap_alloc_new w (.cells #[.slice la ln lcap,.slice ra rn rcap] 43)
 have d0:(w.alloc (.cells #[.slice la ln lcap,.slice ra rn rcap] 43)).cell? ⟨w.heap.size,0,none⟩=some (.slice la ln lcap):=(cell_of_row _ _ _ _ _ _ hn).trans rfl
 have d1:(w.alloc (.cells #[.slice la ln lcap,.slice ra rn rcap] 43)).cell? ⟨w.heap.size,1,none⟩=some (.slice ra rn rcap):=(cell_of_row _ _ _ _ _ _ hn).trans rfl
 have HL:=Lib.hid (hL.below hA (Nat.le_refl _))
 have HR:=Lib.hid (hR.below hA)
 have HA:=Lib.hid hA
 have HLN:=Lib.hid hln
 have HRN:=Lib.hid hrn
 have HCL:=Lib.hid hcl
 clear hL hR hA hn hln hrn hcl
 by_cases h1:40<ln
 ·have h1':(40:Int)<(ln:Int):=by omega
  go_enter Tryz.func28,Tryz.ntmps28
  go_wp2_with fail
  go_ret
  exact light_no HA.out
 ·have h1':decide ((40:Int)<(ln:Int))=false:=decide_eq_false (by omega)
  by_cases h2:60<rn
  ·have h2':(60:Int)<(rn:Int):=by omega
   go_enter Tryz.func28,Tryz.ntmps28
   go_wp2_with fail
   go_ret
   exact light_no HA.out
  ·have h2':decide ((60:Int)<(rn:Int))=false:=decide_eq_false (by omega)
   go_enter Tryz.func28,Tryz.ntmps28
   go_wp2_with fail
   generalize w.alloc (.cells #[.slice la ln lcap,.slice ra rn rcap] 43)=W at*
   go_loop [3] (fun i=>∃j:Nat,j≤ln∧i= .int .i64 j∧Hid (∀q,q<j→(lms.getD q ([],[])).1.length≤40∧(lms.getD q ([],[])).2.length≤60)) (fun i=>ln - (intOf i).toNat)
   case atStart=>exact⟨0,Nat.zero_le _,rfl,fun q hq=>absurd hq (Nat.not_lt_zero _)⟩
   case round=>
    obtain⟨j,hj,rfl,hok⟩:=hrel
    by_cases hlt:j<ln
    ·obtain⟨b,off,ta,tcap,sa,scap,rfl,hbl,c0,c1,⟨hm1,hm2⟩,hsi,hsl⟩:=HL.out j (by rw[HLN.out];exact hlt)
     have HOK:Hid ((lms.getD j ([],[])).1.length≤40→(lms.getD j ([],[])).2.length≤60→∀q,q<j+1→(lms.getD q ([],[])).1.length≤40∧(lms.getD q ([],[])).2.length≤60):=fun g1 g2 q hq=>by
      by_cases e:q=j
      ·subst e;exact⟨g1,g2⟩
      ·exact hok.out q (by omega)
     generalize (lms.getD j ([],[])).1.length=l1 at*
     generalize (lms.getD j ([],[])).2=sp at*
     have HSL:=Lib.hid hsl
     clear hsi hsl
     by_cases g1:40<l1
     ·have g1':(40:Int)<(l1:Int):=by omega
      go_wp2_with fail
      go_ret
      exact light_no HA.out
     ·have g1':decide ((40:Int)<(l1:Int))=false:=decide_eq_false (by omega)
      by_cases g2:60<sp.length
      ·have g2':(60:Int)<(sp.length:Int):=by omega
       go_wp2_with fail
       go_ret
       exact light_no HA.out
      ·have g2':decide ((60:Int)<(sp.length:Int))=false:=decide_eq_false (by omega)
       have HOK2:=Lib.hid (HOK.out (by omega) (by omega))
       clear HOK
       obtain⟨sl,hsl⟩:∃sl,sl=sp.length:=⟨_,rfl⟩
       have HSN:=Lib.hid hsl
       rw[←hsl]at g2 g2' c1 hm2
       clear hsl
       go_wp2_with fail
       go_loop [4] (fun i=>∃q:Nat,q≤sl∧i= .int .i64 q) (fun i=>sl - (intOf i).toNat)
       case atStart=>exact⟨0,Nat.zero_le _,rfl⟩
       case round=>
        obtain⟨q,hq,rfl⟩:=hrel
        by_cases hql:q<sl
        ·obtain⟨b2,off2,ta2,tcap2,rfl,hb2,hpm,e0,e1,_⟩:=HSL.out q (by rw[←HSN.out];exact hql)
         generalize (sp.getD q ([],0)).1.length=pl at*
         by_cases g3:70<pl
         ·have g3':(70:Int)<(pl:Int):=by omega
          go_wp2_with fail
          go_ret
          exact light_no HA.out
         ·have g3':decide ((70:Int)<(pl:Int))=false:=decide_eq_false (by omega)
          go_wp2_with fail
          go_round
          case rel=>exact⟨q+1,by omega,by go_num⟩
          case measure=>simp[intOf];omega
        ·obtain rfl:q=sl:=by omega
         go_wp2_with fail
         go_round
         case rel=>exact⟨j+1,by omega,by go_num,HOK2⟩
         case measure=>simp[intOf];omega
    ·obtain rfl:j=ln:=by omega
     have HK1:=hok
     clear HL hok
     go_wp2_with fail
     go_loop [5] (fun i=>∃q:Nat,q≤rn∧i= .int .i64 q∧Hid (∀p,p<q→(ss.getD p []).length≤60)) (fun i=>rn - (intOf i).toNat)
     case atStart=>exact⟨0,Nat.zero_le _,rfl,fun q hq=>absurd hq (Nat.not_lt_zero _)⟩
     case round=>
      obtain⟨q,hq,rfl,hok⟩:=hrel
      by_cases hql:q<rn
      ·obtain⟨b,off,ta,tcap,rfl,hbl,c0,_⟩:=HR.out q (by rw[HRN.out];exact hql)
       have hcq:=HCL.out q hql
       have HOK:Hid ((ss.getD q []).length≤60→∀p,p<q+1→(ss.getD p []).length≤60):=fun g1 p hp=>by
        by_cases e:p=q
        ·subst e;exact g1
        ·exact hok.out p (by omega)
       generalize (ss.getD q []).length=l1 at*
       by_cases g1:60<l1
       ·have g1':(60:Int)<(l1:Int):=by omega
        go_wp2_with fail
        go_ret
        exact light_no HA.out
       ·have g1':decide ((60:Int)<(l1:Int))=false:=decide_eq_false (by omega)
        have HOK2:=Lib.hid (HOK.out (by omega))
        clear HOK
        go_wp2_with fail
        go_round
        case rel=>exact⟨q+1,by omega,by go_num,HOK2⟩
        case measure=>simp[intOf];omega
      ·obtain rfl:q=rn:=by omega
       have HE:Hid (EasyC lms ss):=⟨by rw[HLN.out];omega,fun i hi=>HK1.out i (by rw[HLN.out]at hi;exact hi),by rw[HRN.out];omega,fun i hi=>hok.out i (by rw[HRN.out]at hi;exact hi)⟩
       go_wp2_with fail
       go_ret
       exact⟨true,rfl,HA.out,fun _=>HE.out⟩
theorem small10_any (n:Nat)(f:FT)(cs:List Value)(la:Option Addr)(ln lcap:Nat)(lms:List (List Int×List (List (Int×Int)×Int)))(ra:Option Addr)(rn rcap:Nat)(ss:List (List Int))(w:World)(h:FLies w.heap.size w (n+1) f cs)(hln:lms.length=ln)(hL:LmLies w.heap.size w la lms)(hrn:ss.length=rn)(hR:Prp.CLies w.heap.size w ra ss)(hl63:ln≤9223372036854775807)(hr63:rn≤9223372036854775807)(hcl:∀i,i<rn→(ss.getD i []).length≤9223372036854775807):
 Calls Tryz.prog 13 #[.agg cs.toArray,.agg #[.slice la ln lcap,.slice ra rn rcap]] w (LightEnd lms ss w):=by
 have hh:=h
 obtain⟨ta,tcap,ka,kcap,rfl, -⟩:=h
 have HLI:=Lib.hid (fun W (hb:Below w.heap.size w W)=>light_any (n+1) f _ 400 200 W (by omega) (by omega) (by omega) (by omega) ((hh.below hb).mono hb.size))
 have HRL:=Lib.hid (fun W (hb:Below w.heap.size w W)=>rlight_any la ln lcap lms ra rn rcap ss W hln (hL.below hb hb.size) hrn ((hR.below hb).mono hb.size) hl63 hr63 hcl)
 have hb0:=box_start w f.kind f.c ta ka f.t.length tcap f.ks.length kcap
 generalize f.kind=fk at*
 generalize f.c=fc at*
 generalize f.t.length=ft at*
 generalize f.ks.length=fl at*
 have hA2:Below (w.alloc (.cells #[.int .i64 fk,.int .i64 fc,.slice ta ft tcap,.slice ka fl kcap] 39)).heap.size (w.alloc (.cells #[.int .i64 fk,.int .i64 fc,.slice ta ft tcap,.slice ka fl kcap] 39)) ((w.alloc (.cells #[.int .i64 fk,.int .i64 fc,.slice ta ft tcap,.slice ka fl kcap] 39)).alloc (.cells #[.slice la ln lcap,.slice ra rn rcap] 43)):=(Below.refl _ _).alloc (Nat.le_refl _) _
 have hz1:(w.alloc (.cells #[.int .i64 fk,.int .i64 fc,.slice ta ft tcap,.slice ka fl kcap] 39)).heap.size=w.heap.size+1:=by simp
 have hn2:=heap_alloc_new (w.alloc (.cells #[.int .i64 fk,.int .i64 fc,.slice ta ft tcap,.slice ka fl kcap] 39)) (.cells #[.slice la ln lcap,.slice ra rn rcap] 43)
 rw[hz1]at hn2
 have T1:=Lib.hid (hb0.below hA2 hb0.lt)
 have D0:((w.alloc (.cells #[.int .i64 fk,.int .i64 fc,.slice ta ft tcap,.slice ka fl kcap] 39)).alloc (.cells #[.slice la ln lcap,.slice ra rn rcap] 43)).cell? ⟨w.heap.size+1,0,none⟩=some (.slice la ln lcap):=(cell_of_row _ _ _ _ _ _ hn2).trans rfl
 have D1:((w.alloc (.cells #[.int .i64 fk,.int .i64 fc,.slice ta ft tcap,.slice ka fl kcap] 39)).alloc (.cells #[.slice la ln lcap,.slice ra rn rcap] 43)).cell? ⟨w.heap.size+1,1,none⟩=some (.slice ra rn rcap):=(cell_of_row _ _ _ _ _ _ hn2).trans rfl
 clear hh hL hR hb0 hA2 hz1 hn2 hcl
 go_enter Tryz.func13,Tryz.ntmps13
 go_wp2_with fail
 generalize (w.alloc (.cells #[.int .i64 fk,.int .i64 fc,.slice ta ft tcap,.slice ka fl kcap] 39)).alloc (.cells #[.slice la ln lcap,.slice ra rn rcap] 43)=W2 at*
 refine(HRL.out _ T1.out.bel).mono ?_
 rintro e w3 ⟨b,rfl,hb3,he⟩
 have T3:=Lib.hid (T1.out.below hb3 T1.out.lt)
 have HE:=Lib.hid he
 clear hb3 he HRL D0 D1
 cases b with
 | false=>
   go_wp2_with fail
   go_ret
   exact light_no T3.out.bel
 | true=>
   obtain⟨_,p0,p1,p2,p3,_⟩:=T3.out
   go_wp2_with fail
   refine(HLI.out _ T3.out.bel).mono ?_
   rintro e w4 ⟨v,rfl,hv1,hv2,hb4⟩
   have HB4:=Lib.hid (T3.out.bel.trans (hb4.mono T3.out.bel.size))
   clear hb4 HLI p0 p1 p2 p3
   go_wp2_with fail
   go_ret
   exact⟨_,rfl,HB4.out,fun _=>by first | exact HE.out rfl | exact HE.out trivial⟩
end
end Go.Proofs.YtipahfcaplbifaaGreatDoor
