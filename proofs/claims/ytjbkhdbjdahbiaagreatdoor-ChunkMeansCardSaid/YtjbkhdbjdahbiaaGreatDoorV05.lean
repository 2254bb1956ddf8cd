/- Parts of a proof. -/
import Derived.Test.YtjbkhdbjdahbiaaGreatDoorV01
import Derived.Test.YtjbkhdbjdahbiaaGreatDoorV02
import Derived.Test.YtjbkhdbjdahbiaaGreatDoorV03
import Derived.Test.YtjbkhdbjdahbiaaGreatDoorQ13
import Derived.Test.YtjbkhdbjdahbiaaGreatDoorQ08
import Derived.RegionTactic
import Derived.BigRegion
import Derived.Deep.RegionWith
import Derived.BigQuiet
import Derived.Lib.QuietBelow
import Derived.Deep.QuietTactic
import Derived.Deep.RegionLaw
import Derived.Deep.RegionHeld3
set_option linter.unusedVariables false
set_option linter.unusedSimpArgs false
set_option maxHeartbeats 60000000
set_option maxRecDepth 100000
namespace Go.Proofs.YtjbkhdbjdahbiaaGreatDoor
section
open Go.RowKit
theorem timesS_ev {a r:LT}{n:Int}(zs:List Int)(h:timesS n a=some r):evL zs r=n*evL zs a:=by
 unfold timesS at h
 split at h
 ·injection h with h
  subst h
  unfold evL
  show n*a.1+Lf.evl zs (sumC (Lf.scale n a.2))=_
  rw[Lf.IsSum.evl (sumC_is _) zs,Lf.evl_scale,Int.mul_add]
 ·cases h
theorem linE_val {nm:ByteArray→Bool}{σ:ByteArray→Option LT}{ρ:ByteArray→Int}{zs:List Int}(hv:∀s,evL zs ((σ s).getD (0,[]))=ρ s):∀ {n:Nat} {e:ET} {x:LT},snE nm n e=true→linE σ n e=some x→(valE ρ n e).2=true→(valE ρ n e).1=evL zs x
 | 0,_,_,h,_,_=>by simp[snE]at h
 | n+1,e,x,h,hl,hn=>by
   have hs:=h
   unfold snE at h
   unfold linE at hl
   rw[valE_succ]at hn⊢
   by_cases h1:e.kind=1
   ·rw[if_pos h1]at h hl
    rw[if_neg (by omega),if_pos h1]
    simp only[Bool.and_eq_true,beq_iff_eq]at h
    injection hl with hl
    rw[←hl,h.1.2]
    exact(hv _).symm
   ·rw[if_neg h1]at h hl
    split at h
    ·simp only[Bool.and_eq_true,beq_iff_eq]at h
     have hlen:=h.1.2
     have hall:=List.all_eq_true.1 h.2
     have hk:∀i,i<e.ks.length→snE nm n (e.ks.getD i default)=true:=fun i hi=>by
      rw[List.getD_eq_getElem?_getD,List.getElem?_eq_getElem hi]
      exact hall _ (List.getElem_mem hi)
     by_cases h0:e.kind=0
     ·rw[if_neg (by omega),if_neg (by omega),if_neg (by omega)]at hl
      rw[if_pos h0]
      injection hl with hl
      rw[←hl]
      simp[evL,Lf.evl]
     ·rw[if_neg h0,if_neg h1]at hn⊢
      have hpos:0<e.ks.length:=by
       rw[hlen]
       unfold kidsE
       split
       ·omega
       ·split<;>omega
      by_cases ha:(valE ρ n (e.ks.getD 0 default)).2=false
      ·rw[if_pos ha]at hn;cases hn
      ·rw[if_neg ha]at hn⊢
       have ha':(valE ρ n (e.ks.getD 0 default)).2=true:=by simpa using ha
       by_cases h4:e.kind=4
       ·rw[if_pos h4]
        rw[if_neg (by omega),if_neg (by omega),if_pos h4]at hl
        obtain⟨a,hla,ht⟩:=Option.bind_eq_some_iff.1 hl
        rw[timesS_ev zs ht,←linE_val hv (hk 0 hpos) hla ha']
       ·rw[if_neg h4]at hn⊢
        by_cases hb:(valE ρ n (e.ks.getD 1 default)).2=false
        ·rw[if_pos hb]at hn;cases hn
        ·rw[if_neg hb]at hn⊢
         have hb':(valE ρ n (e.ks.getD 1 default)).2=true:=by simpa using hb
         have h23:e.kind=2∨e.kind=3:=by omega
         have h2l:1<e.ks.length:=by rw[hlen];unfold kidsE;rw[if_pos h23];omega
         by_cases h2:e.kind=2
         ·rw[if_pos h2]
          rw[if_pos h2]at hl
          obtain⟨a,hla,ht⟩:=Option.bind_eq_some_iff.1 hl
          obtain⟨b,hlb,ht⟩:=Option.bind_eq_some_iff.1 ht
          rw[addS_ev zs ht,←linE_val hv (hk 0 hpos) hla ha',←linE_val hv (hk 1 h2l) hlb hb']
          show _+_=_
          omega
         ·rw[if_neg h2]
          rw[if_neg h2,if_pos (by omega)]at hl
          obtain⟨a,hla,ht⟩:=Option.bind_eq_some_iff.1 hl
          obtain⟨b,hlb,ht⟩:=Option.bind_eq_some_iff.1 ht
          rw[addS_ev zs ht,←linE_val hv (hk 0 hpos) hla ha',←linE_val hv (hk 1 h2l) hlb hb']
          show _ - _=_
          omega
    ·cases h
noncomputable def cmpF (k:Int) (a b:LT):Option Lf.FT:=(addS 1 (-1) a b).bind fun x=>if k=4 then(addS 1 1 x (1,[])).map (fun y=> .mk 2 y.1 y.2 []) else some (if k=3 then .mk 4 0 [] [.mk 3 x.1 x.2 []] else if k=5 then .mk 2 x.1 x.2 [] else .mk 3 x.1 x.2 [])
def kindF (k:Int):Int:=if k=1 then 1 else if k=6 then 4 else if k=7 then 5 else if k=8 then 6 else 0
noncomputable def condF (σ:ByteArray→Option LT):Nat→CT→Option Lf.FT
 | 0,_=>none
 | n+1,c=>if c.es.length=2 then(linE σ n (c.es.getD 0 default)).bind fun a=>(linE σ n (c.es.getD 1 default)).bind fun b=>cmpF c.kind a b
   else(c.ks.mapM (condF σ n)).map fun fs=> .mk (kindF c.kind) 0 [] fs
theorem cmp_true {zs:List Int}{n:Nat}{k:Int}{a b:LT}{y:Lf.FT}(hk:2≤k∧k≤5)(h:cmpF k a b=some y)(hv:(Lf.vOf zs (n+2) y).2=true):(Lf.vOf zs (n+2) y).1=cmpV k (evL zs a) (evL zs b):=by
 unfold cmpF at h
 obtain⟨x,hx,h⟩:=Option.bind_eq_some_iff.1 h
 have ex:=addS_ev zs hx
 have e2:evL zs (x.1,x.2)=evL zs a - evL zs b:=by show evL zs x=_;omega
 unfold cmpV
 by_cases h4:k=4
 ·rw[if_pos h4]at h
  obtain⟨z,hz,rfl⟩:=Option.map_eq_some_iff.1 h
  have ez:=addS_ev zs hz
  have e1:evL zs (1,[])=1:=by simp[evL,Lf.evl]
  rw[e1]at ez
  have e3:evL zs (z.1,z.2)=evL zs a - evL zs b+1:=by show evL zs z=_;have:evL zs x=evL zs a - evL zs b:=e2;omega
  rw[eq_form (.inl rfl) hv,e3,if_neg (by omega),if_neg (by omega),if_pos h4]
  by_cases hl:evL zs a<evL zs b
  ·simp[hl];omega
  ·simp[hl];omega
 ·rw[if_neg h4]at h
  injection h with h
  subst h
  by_cases h3:k=3
  ·rw[if_pos h3]at hv⊢
   rw[vOf_not]at hv⊢
   show(!(Lf.vOf zs (n+1) (.mk 3 x.1 x.2 [])).1)=_
   rw[eq_form (.inr rfl) hv,e2,if_neg (by omega),if_pos h3]
   by_cases hl:evL zs a=evL zs b
   ·simp[hl]
   ·have:¬evL zs a - evL zs b=0:=by omega
    simp[hl,this]
  ·rw[if_neg h3]at hv⊢
   by_cases h5:k=5
   ·rw[if_pos h5]at hv⊢
    rw[eq_form (.inl rfl) hv,e2,if_neg (by omega),if_neg (by omega),if_neg h4]
    by_cases hl:evL zs a≤evL zs b
    ·simp[hl];omega
    ·simp[hl];omega
   ·rw[if_neg h5]at hv⊢
    have h2:k=2:=by omega
    rw[eq_form (.inr rfl) hv,e2,if_pos h2]
    by_cases hl:evL zs a=evL zs b
    ·simp[hl]
    ·have:¬evL zs a - evL zs b=0:=by omega
     simp[hl,this]
theorem vOf_and (zs:List Int)(n:Nat)(f g:Lf.FT):Lf.vOf zs (n+1) (.mk 5 0 [] [f,g])=((Lf.vOf zs n f).1 && (Lf.vOf zs n g).1,(Lf.vOf zs n f).2 && (Lf.vOf zs n g).2):=by
 show Lf.vStep true (Lf.vStep true (true,true) (Lf.vOf zs n f)) (Lf.vOf zs n g)=_
 generalize Lf.vOf zs n f=p
 generalize Lf.vOf zs n g=q
 obtain⟨p1,p2⟩:=p
 obtain⟨q1,q2⟩:=q
 cases p1<;>cases q1<;>simp[Lf.vStep]
theorem cond_true {nm:ByteArray→Bool}{σ:ByteArray→Option LT}{ρ:ByteArray→Int}{zs:List Int}(hv:∀s,evL zs ((σ s).getD (0,[]))=ρ s):∀ {n:Nat} {c:CT} {y:Lf.FT},snC nm n c=true→condF σ n c=some y→(Lf.vOf zs (n+1) y).2=true→(truC ρ n c).2=true→(Lf.vOf zs (n+1) y).1=(truC ρ n c).1
 | 0,_,_,h,_,_,_=>by simp[snC]at h
 | n+1,c,y,h,hl,hy,hn=>by
   unfold snC at h
   unfold condF at hl
   rw[truC_succ]at hn⊢
   split at h
   ·rename_i hk
    simp only[Bool.and_eq_true,beq_iff_eq]at h
    obtain⟨⟨⟨he,hks⟩,hae⟩,hak⟩:=h
    have hE:=List.all_eq_true.1 hae
    have hK:=List.all_eq_true.1 hak
    have hke:∀i,i<c.es.length→snE nm n (c.es.getD i default)=true:=fun i hi=>by
     rw[List.getD_eq_getElem?_getD,List.getElem?_eq_getElem hi]
     exact hE _ (List.getElem_mem hi)
    by_cases h2:c.es.length=2
    ·rw[if_pos h2]at hl hn⊢
     obtain⟨a,ha,hl⟩:=Option.bind_eq_some_iff.1 hl
     obtain⟨b,hb,hl⟩:=Option.bind_eq_some_iff.1 hl
     have hk2:2≤c.kind∧c.kind≤5:=by
      rw[h2]at he
      unfold esC at he
      split at he
      ·assumption
      ·cases he
     simp only[Bool.and_eq_true]at hn
     rw[cmp_true hk2 hl hy,linE_val hv (hke 0 (by omega)) ha hn.1,linE_val hv (hke 1 (by omega)) hb hn.2]
    ·rw[if_neg h2]at hl hn⊢
     obtain⟨fs,hfs,rfl⟩:=Option.map_eq_some_iff.1 hl
     have hk2:¬(2≤c.kind∧c.kind≤5):=fun h5=>h2 (by rw[he];unfold esC;rw[if_pos h5])
     by_cases h0:c.kind=0
     ·rw[if_pos h0]
      have:kindF c.kind=0:=by rw[h0];rfl
      rw[this]
      rfl
     ·rw[if_neg h0]at hn⊢
      by_cases h1:c.kind=1
      ·rw[if_pos h1]
       have:kindF c.kind=1:=by rw[h1];rfl
       rw[this]
       rfl
      ·rw[if_neg h1]at hn⊢
       by_cases ha:(truC ρ n (c.ks.getD 0 default)).2=false
       ·rw[if_pos ha]at hn;cases hn
       ·rw[if_neg ha]at hn⊢
        have ha':(truC ρ n (c.ks.getD 0 default)).2=true:=by simpa using ha
        by_cases h6:c.kind=6
        ·rw[if_pos h6]
         have hl1:c.ks.length=1:=by rw[hks];unfold ksC;rw[if_pos h6]
         obtain⟨p,hp⟩:=List.length_eq_one_iff.1 hl1
         rw[hp]at hfs ha' hK⊢
         simp only[List.mapM_cons,List.mapM_nil,Option.bind_eq_bind,Option.bind_eq_some_iff,Option.pure_def,Option.some.injEq]at hfs
         obtain⟨f,hf,r,hr,rfl⟩:=hfs
         subst hr
         have hkf:kindF c.kind=4:=by rw[h6];rfl
         rw[hkf]at hy⊢
         rw[vOf_not]at hy⊢
         show(!(Lf.vOf zs (n+1) f).1)= !(truC ρ n p).1
         rw[cond_true hv (hK p (by simp)) hf hy ha']
        ·rw[if_neg h6]at hn⊢
         by_cases hb:(truC ρ n (c.ks.getD 1 default)).2=false
         ·rw[if_pos hb]at hn;cases hn
         ·rw[if_neg hb]at hn⊢
          have hb':(truC ρ n (c.ks.getD 1 default)).2=true:=by simpa using hb
          have h78:c.kind=7∨c.kind=8:=by omega
          have hl2:c.ks.length=2:=by rw[hks];unfold ksC;rw[if_neg h6,if_pos h78]
          obtain⟨p,q,hp⟩:∃p q,c.ks=[p,q]:=by
           match c.ks,hl2 with
           | [p,q],_=>exact⟨p,q,rfl⟩
          rw[hp]at hfs ha' hb' hK⊢
          simp only[List.mapM_cons,List.mapM_nil,Option.bind_eq_bind,Option.bind_eq_some_iff,Option.pure_def,Option.some.injEq]at hfs
          obtain⟨f,hf,r,⟨g,hg,r2,hr2,rfl⟩,rfl⟩:=hfs
          subst hr2
          by_cases h7:c.kind=7
          ·have hkf:kindF c.kind=5:=by rw[h7];rfl
           rw[hkf]at hy⊢
           rw[if_pos h7]
           rw[vOf_and]at hy⊢
           simp only[Bool.and_eq_true]at hy
           show((Lf.vOf zs (n+1) f).1 && (Lf.vOf zs (n+1) g).1)=((truC ρ n p).1 && (truC ρ n q).1)
           rw[cond_true hv (hK p (by simp)) hf hy.1 ha',cond_true hv (hK q (by simp)) hg hy.2 hb']
          ·have h8:c.kind=8:=by omega
           have hkf:kindF c.kind=6:=by rw[h8];rfl
           rw[hkf]at hy⊢
           rw[if_neg h7]
           rw[vOf_or]at hy⊢
           simp only[Bool.and_eq_true]at hy
           show((Lf.vOf zs (n+1) f).1 || (Lf.vOf zs (n+1) g).1)=((truC ρ n p).1 || (truC ρ n q).1)
           rw[cond_true hv (hK p (by simp)) hf hy.1 ha',cond_true hv (hK q (by simp)) hg hy.2 hb']
   ·cases h
def varsX (zs:List Int)(l:List (ByteArray×LT)):List (ByteArray×Int):=l.map fun x=>(x.1,evL zs x.2)
theorem vars_val (zs:List Int)(s:ByteArray):∀l:List (ByteArray×LT),evL zs ((symOf s l).getD (0,[]))=varOf s (varsX zs l)
 | []=>by simp[symOf,varsX,varOf,evL,Lf.evl]
 | x :: r=>by
   have ih:=vars_val zs s r
   unfold symOf at ih⊢
   show _=if x.1=s then evL zs x.2 else varOf s (varsX zs r)
   by_cases e:x.1=s
   ·rw[if_pos e,List.find?_cons_of_pos (by simpa using e)]
    rfl
   ·rw[if_neg e,List.find?_cons_of_neg (by simpa using e)]
    exact ih
end
section
open Go.RowKit
def SzEnd (k:Nat)(l:Int)(w:World)(r:Ending)(w':World):Prop:=∃x:Int,r= .returned (.int .i64 x)∧ -1≤x∧x≤l∧(0≤x→x+k≤l)∧Below w.heap.size w w'
theorem sizeE_box (n:Nat)(es:List ET)(a:Option Addr)(m cap:Nat)(l dd:Int)(w:World)(hm:es.length=m)(hd0:0≤dd)(hd1:dd≤300)(hl0: -1≤l)(hl1:l≤300)(hs:Pak.Sits (exprSh (n+1)) (Pak.Lo w.heap.size) w a es)
 (hk:∀(x:ET) (u:Option Addr) (c:Nat) (q:Int) (W:World),x∈es→1≤dd→ -1≤q→q≤300→Below w.heap.size w W→Pak.Sits (exprSh n) (Pak.Lo W.heap.size) W u x.ks→Calls Tryz.prog 63 #[.slice u x.ks.length c,.int .i64 q,.int .i64 (dd - 1)] W (SzEnd x.ks.length q W)):
 Calls Tryz.prog 63 #[.slice a m cap,.int .i64 l,.int .i64 dd] w (SzEnd m l w):=by
 have HS:=Lib.hid hs
 have HM:=Lib.hid hm
 have hmm:m≤9223372036854775807:=by rw[←hm];exact hs.1
 have HK:=Lib.hid hk
 have HD0:=Lib.hid hd0
 have HD1:=Lib.hid hd1
 have HL0:=Lib.hid hl0
 have HL1:=Lib.hid hl1
 clear hs hm hk hd0 hd1 hl0 hl1
 by_cases hz:dd=0
 ·have e0:(dd == 0)=true:=by rw[hz];rfl
  clear hz
  go_enter Tryz.func63,Tryz.ntmps63
  go_wp2_with fail
  go_ret
  exact⟨-1,rfl,by omega,HL0.out,by omega,Below.refl _ _⟩
 ·have e0:(dd == 0)=false:=beq_eq_false_iff_ne.2 hz
  have HD2:Hid (1≤dd):=Lib.hid (by have:=HD0.out;omega)
  have ed:IntKind.i64.wrap (dd - 1)=dd - 1:=IntWalk.i64_in _ (by have:=HD0.out;have:=HD1.out;omega)
  clear hz
  go_enter Tryz.func63,Tryz.ntmps63
  go_wp2_with fail
  go_loopw [1,7] (fun t i wr=>∃(j:Nat) (x:Int),j≤m∧t= .int .i64 x∧i= .int .i64 j∧Hid (-1≤x∧x≤l∧(0≤x→x+j≤l))∧Hid (Below w.heap.size w wr)) (fun _ i _=>m - (intOf i).toNat)
  case atStart=>exact⟨0,l,Nat.zero_le _,rfl,rfl,Lib.hid ⟨HL0.out,Int.le_refl _,fun _=>by omega⟩,Below.refl _ _⟩
  case round=>
   obtain⟨j,x,hj,rfl,rfl,hin,hbr⟩:=hrel
   by_cases hx:0≤x
   ·have g1:decide (x ≥ 0)=true:=decide_eq_true hx
    have g2:decide (0≤x)=true:=decide_eq_true hx
    have ex:IntKind.i64.wrap (x - 1)=x - 1:=IntWalk.i64_in _ (by have:=hin.out;have:=HL1.out;omega)
    have HX:=Lib.hid hx
    clear hx
    by_cases hlt:j<m
    ·have hlx:j<es.length:=by rw[HM.out];exact hlt
     obtain⟨b,off,cs,rfl,hbl,hc,hrl⟩:=HS.out.2 j hlx
     obtain⟨v,rfl,_,u,c,rfl,hsk⟩:=hrl
     have c2:=(hbr.out.cell (p:=⟨b,_,none⟩) hbl).trans (hc 2 _ rfl)
     have c3:=(hbr.out.cell (p:=⟨b,_,none⟩) hbl).trans (hc 3 _ rfl)
     rw[exprSh_k]at c2 c3
     have HC:=Lib.hid (fun q hq0 hq1=>HK.out es[j] u c q wr (List.getElem_mem hlx) HD2.out hq0 hq1 hbr.out (hsk.below hbr.out hbr.out.size))
     have hji:(j:Int)<(m:Int):=by omega
     clear hc hsk
     generalize es[j]=y at c2 c3 HC
     generalize y.ks.length=kl at c3 HC
     generalize y.name=nm at c2
     clear y
     by_cases hn:(200:Int)<(nm.size:Int)
     ·have d1:decide ((nm.size:Int) > 200)=true:=decide_eq_true hn
      have d2:decide ((200:Int)<(nm.size:Int))=true:=decide_eq_true hn
      have d3:200<nm.size:=by omega
      clear hn
      go_wp2_with fail
      go_ret
      exact⟨-1,rfl,by omega,HL0.out,by omega,hbr.out⟩
     ·have d1:decide ((nm.size:Int) > 200)=false:=decide_eq_false hn
      have d2:decide ((200:Int)<(nm.size:Int))=false:=decide_eq_false hn
      have d3:¬ 200<nm.size:=by omega
      clear hn
      go_wp2_with fail
      refine(HC.out (x - 1) (by have:=HX.out;omega) (by have:=hin.out;have:=HL1.out;omega)).mono ?_
      rintro r w3 ⟨x2,rfl,h1,h2,h3,hb⟩
      have HB3:=Lib.hid (hbr.out.trans (hb.mono hbr.out.size))
      have HN:Hid (-1≤x2∧x2≤l∧(0≤x2→x2+((j+1:Nat):Int)≤l)):=Lib.hid (by have:=hin.out;refine⟨h1,by omega,fun h=> ?_⟩;have:=h3 h;have:=this;have:=hin.out.2.2 HX.out;omega)
      clear h1 h2 h3 hb HC hin hbr
      go_wp2_with fail
      go_roundw
      case rel=>exact⟨j+1,x2,by omega,rfl,by go_num,HN,HB3⟩
      case measure=>simp[intOf];omega
    ·obtain rfl:j=m:=by omega
     have HE:Hid (SzEnd j l w (.returned (.int .i64 x)) wr):=Lib.hid ⟨x,rfl,hin.out.1,hin.out.2.1,hin.out.2.2,hbr.out⟩
     go_wp2_with fail
     go_ret
     exact HE.out
   ·have g1:decide (x ≥ 0)=false:=decide_eq_false hx
    have g2:decide (0≤x)=false:=decide_eq_false hx
    have HE:Hid (SzEnd m l w (.returned (.int .i64 x)) wr):=Lib.hid ⟨x,rfl,hin.out.1,hin.out.2.1,fun h=>absurd h hx,hbr.out⟩
    clear hx
    by_cases hlt:j<m
    ·have hji:(j:Int)<(m:Int):=by omega
     go_wp2_with fail
     go_ret
     exact HE.out
    ·obtain rfl:j=m:=by omega
     go_wp2_with fail
     go_ret
     exact HE.out
theorem sizeE_any:∀(n:Nat) (es:List ET) (a:Option Addr) (cap:Nat) (l dd:Int) (w:World),0≤dd→dd≤300→ -1≤l→l≤300→Pak.Sits (exprSh n) (Pak.Lo w.heap.size) w a es→
 Calls Tryz.prog 63 #[.slice a es.length cap,.int .i64 l,.int .i64 dd] w (SzEnd es.length l w)
 | 0,es,a,cap,l,dd,w,h1,h2,h3,h4,hs=>by
   have he:es=[]:=by
    cases es with
    | nil=>rfl
    | cons x xs=>
      obtain⟨_,_,_,_,_,_,hr⟩:=hs.2 0 (by simp)
      exact hr.elim
   subst he
   exact sizeE_box 0 [] a 0 cap l dd w rfl h1 h2 h3 h4 (Pak.Sits.nil _ _ _ _) fun x u c q W hx _ _ _ _ _=>absurd hx (by simp)
 | n+1,es,a,cap,l,dd,w,h1,h2,h3,h4,hs=>
   sizeE_box n es a es.length cap l dd w rfl h1 h2 h3 h4 hs fun x u c q W _ hd hq0 hq1 hW hsx=>
    sizeE_any n x.ks u c q (dd - 1) W (by omega) (by omega) hq0 hq1 hsx
end
section
open Go.RowKit
theorem sizeC_box (n:Nat)(es:List CT)(a:Option Addr)(m cap:Nat)(l dd:Int)(w:World)(hm:es.length=m)(hd0:0≤dd)(hd1:dd≤300)(hl0: -1≤l)(hl1:l≤300)(hs:Pak.Sits (condSh (n+1)) (Pak.Lo w.heap.size) w a es)
 (hk:∀(x:CT) (u:Option Addr) (c:Nat) (q:Int) (W:World),x∈es→1≤dd→ -1≤q→q≤300→Below w.heap.size w W→Pak.Sits (condSh n) (Pak.Lo W.heap.size) W u x.ks→Calls Tryz.prog 62 #[.slice u x.ks.length c,.int .i64 q,.int .i64 (dd - 1)] W (SzEnd x.ks.length q W)):
 Calls Tryz.prog 62 #[.slice a m cap,.int .i64 l,.int .i64 dd] w (SzEnd m l w):=by
 have HS:=Lib.hid hs
 have HM:=Lib.hid hm
 have hmm:m≤9223372036854775807:=by rw[←hm];exact hs.1
 have HK:=Lib.hid hk
 have HD0:=Lib.hid hd0
 have HD1:=Lib.hid hd1
 have HL0:=Lib.hid hl0
 have HL1:=Lib.hid hl1
 clear hs hm hk hd0 hd1 hl0 hl1
 by_cases hz:dd=0
 ·have e0:(dd == 0)=true:=by rw[hz];rfl
  clear hz
  go_enter Tryz.func62,Tryz.ntmps62
  go_wp2_with fail
  go_ret
  exact⟨-1,rfl,by omega,HL0.out,by omega,Below.refl _ _⟩
 ·have e0:(dd == 0)=false:=beq_eq_false_iff_ne.2 hz
  have HD2:Hid (1≤dd):=Lib.hid (by have:=HD0.out;omega)
  have ed:IntKind.i64.wrap (dd - 1)=dd - 1:=IntWalk.i64_in _ (by have:=HD0.out;have:=HD1.out;omega)
  clear hz
  go_enter Tryz.func62,Tryz.ntmps62
  go_wp2_with fail
  go_loopw [1,7] (fun t i wr=>∃(j:Nat) (x:Int),j≤m∧t= .int .i64 x∧i= .int .i64 j∧Hid (-1≤x∧x≤l∧(0≤x→x+j≤l))∧Hid (Below w.heap.size w wr)) (fun _ i _=>m - (intOf i).toNat)
  case atStart=>exact⟨0,l,Nat.zero_le _,rfl,rfl,Lib.hid ⟨HL0.out,Int.le_refl _,fun _=>by omega⟩,Below.refl _ _⟩
  case round=>
   obtain⟨j,x,hj,rfl,rfl,hin,hbr⟩:=hrel
   by_cases hx:0≤x
   ·have g1:decide (x ≥ 0)=true:=decide_eq_true hx
    have g2:decide (0≤x)=true:=decide_eq_true hx
    have ex:IntKind.i64.wrap (x - 1)=x - 1:=IntWalk.i64_in _ (by have:=hin.out;have:=HL1.out;omega)
    have HX:=Lib.hid hx
    clear hx
    by_cases hlt:j<m
    ·have hlx:j<es.length:=by rw[HM.out];exact hlt
     obtain⟨b,off,cs,rfl,hbl,hc,hrl⟩:=HS.out.2 j hlx
     obtain⟨v1,v2,rfl,_,⟨u1,d1,rfl,hs1⟩,⟨u2,d2,rfl,hs2⟩⟩:=hrl
     have HQ1:Hid (∀W,Below w.heap.size w W→W.cell? ⟨b,off+j*3+1,none⟩=some (.slice u1 es[j].es.length d1)):=Lib.hid fun W hW=>by
      have:=(hW.cell (p:=⟨b,_,none⟩) hbl).trans (hc 1 _ rfl)
      rwa [condSh_k]at this
     have HQ2:Hid (∀W,Below w.heap.size w W→W.cell? ⟨b,off+j*3+2,none⟩=some (.slice u2 es[j].ks.length d2)):=Lib.hid fun W hW=>by
      have:=(hW.cell (p:=⟨b,_,none⟩) hbl).trans (hc 2 _ rfl)
      rwa [condSh_k]at this
     have HC1:=Lib.hid (fun q W hq0 hq1 (hW:Below w.heap.size w W)=>sizeE_any n es[j].es u1 d1 q (dd - 1) W (by have:=HD2.out;omega) (by have:=HD1.out;omega) hq0 hq1 (hs1.below hW hW.size))
     have HC2:=Lib.hid (fun q W hq0 hq1 (hW:Below w.heap.size w W)=>HK.out es[j] u2 d2 q W (List.getElem_mem hlx) HD2.out hq0 hq1 hW (hs2.below hW hW.size))
     have hji:(j:Int)<(m:Int):=by omega
     have c1:=HQ1.out _ hbr.out
     clear hc hs1 hs2
     generalize es[j].es.length=n1 at*
     generalize es[j].ks.length=n2 at*
     go_wp2_with fail
     refine(HC1.out (x - 1) _ (by have:=HX.out;omega) (by have:=hin.out;have:=HL1.out;omega) hbr.out).mono ?_
     rintro r w3 ⟨x2,rfl,h1,h2,h3,hb⟩
     have HB3:=Lib.hid (hbr.out.trans (hb.mono hbr.out.size))
     have H12:=Lib.hid (And.intro h1 h2)
     clear h1 h2 h3 hb HC1 c1
     by_cases hx2:0≤x2
     ·have p1:decide (x2 ≥ 0)=true:=decide_eq_true hx2
      have p2:decide (0≤x2)=true:=decide_eq_true hx2
      have HX2:=Lib.hid hx2
      have c2:=HQ2.out _ HB3.out
      clear hx2
      go_wp2_with fail
      refine(HC2.out x2 _ H12.out.1 (by have:=H12.out;have:=hin.out;have:=HL1.out;omega) HB3.out).mono ?_
      rintro r w4 ⟨x3,rfl,h1,h2,h3,hb⟩
      have HB4:=Lib.hid (HB3.out.trans (hb.mono HB3.out.size))
      have HN:Hid (-1≤x3∧x3≤l∧(0≤x3→x3+((j+1:Nat):Int)≤l)):=Lib.hid (by have:=H12.out;have:=hin.out;refine⟨h1,by omega,fun h=> ?_⟩;have:=hin.out.2.2 HX.out;omega)
      clear h1 h2 h3 hb HC2 hin hbr c2
      go_wp2_with fail
      go_roundw
      case rel=>exact⟨j+1,x3,by omega,rfl,by go_num,HN,HB4⟩
      case measure=>simp[intOf];omega
     ·have p1:decide (x2 ≥ 0)=false:=decide_eq_false hx2
      have p2:decide (0≤x2)=false:=decide_eq_false hx2
      have HN:Hid (-1≤x2∧x2≤l∧(0≤x2→x2+((j+1:Nat):Int)≤l)):=Lib.hid (by have:=H12.out;have:=hin.out;exact⟨by omega,by omega,fun h=>absurd h hx2⟩)
      clear hx2 HC2 hin hbr
      go_wp2_with fail
      go_roundw
      case rel=>exact⟨j+1,x2,by omega,rfl,by go_num,HN,HB3⟩
      case measure=>simp[intOf];omega
    ·obtain rfl:j=m:=by omega
     have HE:Hid (SzEnd j l w (.returned (.int .i64 x)) wr):=Lib.hid ⟨x,rfl,hin.out.1,hin.out.2.1,hin.out.2.2,hbr.out⟩
     go_wp2_with fail
     go_ret
     exact HE.out
   ·have g1:decide (x ≥ 0)=false:=decide_eq_false hx
    have g2:decide (0≤x)=false:=decide_eq_false hx
    have HE:Hid (SzEnd m l w (.returned (.int .i64 x)) wr):=Lib.hid ⟨x,rfl,hin.out.1,hin.out.2.1,fun h=>absurd h hx,hbr.out⟩
    clear hx
    by_cases hlt:j<m
    ·have hji:(j:Int)<(m:Int):=by omega
     go_wp2_with fail
     go_ret
     exact HE.out
    ·obtain rfl:j=m:=by omega
     go_wp2_with fail
     go_ret
     exact HE.out
theorem sizeC_any:∀(n:Nat) (es:List CT) (a:Option Addr) (cap:Nat) (l dd:Int) (w:World),0≤dd→dd≤300→ -1≤l→l≤300→Pak.Sits (condSh n) (Pak.Lo w.heap.size) w a es→
 Calls Tryz.prog 62 #[.slice a es.length cap,.int .i64 l,.int .i64 dd] w (SzEnd es.length l w)
 | 0,es,a,cap,l,dd,w,h1,h2,h3,h4,hs=>by
   have he:es=[]:=by
    cases es with
    | nil=>rfl
    | cons x xs=>
      obtain⟨_,_,_,_,_,_,hr⟩:=hs.2 0 (by simp)
      exact hr.elim
   subst he
   exact sizeC_box 0 [] a 0 cap l dd w rfl h1 h2 h3 h4 (Pak.Sits.nil _ _ _ _) fun x u c q W hx _ _ _ _ _=>absurd hx (by simp)
 | n+1,es,a,cap,l,dd,w,h1,h2,h3,h4,hs=>
   sizeC_box n es a es.length cap l dd w rfl h1 h2 h3 h4 hs fun x u c q W _ hd hq0 hq1 hW hsx=>
    sizeC_any n x.ks u c q (dd - 1) W (by omega) (by omega) hq0 hq1 hsx
end
section
open Go.RowKit
def ndA:Nat→AT→Nat
 | 0,_=>0
 | n+1,a=>1+(a.ks.map (ndA n)).sum
def ndS (n:Nat)(l:List AT):Nat:=(l.map (ndA n)).sum
theorem ndA_succ (n:Nat)(a:AT):ndA (n+1) a=1+ndS n a.ks:=rfl
theorem ndS_snoc {n:Nat}{l:List AT}{j:Nat}(h:j<l.length):ndS n (l.take (j+1))=ndS n (l.take j)+ndA n l[j]:=by
 unfold ndS
 rw[List.take_succ_eq_append_getElem h,List.map_append,List.sum_append]
 simp
theorem sits_two {T:Type}{sh:Pak.Sh T}{W:World}{g:Nat}{cs ds:List Value}{x y:T}{t:TypeId}(hg:W.heap[g]? =some (.cells (cs ++ ds).toArray t (0,0)))(hlt:g<W.heap.size)(hl:cs.length=sh.k)(h1:sh.rel (Pak.Lo W.heap.size) W cs x)(h2:sh.rel (Pak.Lo W.heap.size) W ds y):Pak.Sits sh (Pak.Lo W.heap.size) W (some ⟨g,0,none⟩) [x,y]:=by
 refine⟨by simp,fun i hi=> ?_⟩
 have hc:∀(o:Nat) v,(cs ++ ds)[o]? =some v→W.cell? ⟨g,o,none⟩=some v:=fun o v hv=>(cell_of_row _ _ _ _ _ _ hg).trans (by rw[List.getElem?_toArray];exact hv)
 have hi2:i=0∨i=1:=by simp at hi;omega
 rcases hi2 with rfl | rfl
 ·refine⟨g,0,cs,rfl,hlt,fun j u hu=>hc _ _ ?_,h1⟩
  rw[show 0+0*sh.k+j=j by omega,List.getElem?_append_left (List.getElem?_eq_some_iff.1 hu).1]
  exact hu
 ·refine⟨g,0,ds,rfl,hlt,fun j u hu=>hc _ _ ?_,h2⟩
  rw[show 0+1*sh.k+j=cs.length+j by omega,List.getElem?_append_right (Nat.le_add_right _ _),Nat.add_sub_cancel_left]
  exact hu
end
section
open Go.RowKit
theorem sizeA_box (n:Nat)(es:List AT)(a:Option Addr)(m cap:Nat)(l dd:Int)(w:World)(hm:es.length=m)(hd0:0≤dd)(hd1:dd≤300)(hl0: -1≤l)(hl1:l≤300)(hs:Pak.Sits (assnSh (n+1)) (Pak.Lo w.heap.size) w a es)
 (hk:∀(x:AT) (u:Option Addr) (c:Nat) (q:Int) (W:World),x∈es→1≤dd→ -1≤q→q≤300→Below w.heap.size w W→Pak.Sits (assnSh n) (Pak.Lo W.heap.size) W u x.ks→Calls Tryz.prog 64 #[.slice u x.ks.length c,.int .i64 q,.int .i64 (dd - 1)] W (SzEnd (4*ndS n x.ks) q W)):
 Calls Tryz.prog 64 #[.slice a m cap,.int .i64 l,.int .i64 dd] w (SzEnd (4*ndS (n+1) es) l w):=by
 have HS:=Lib.hid hs
 have HM:=Lib.hid hm
 have hmm:m≤9223372036854775807:=by rw[←hm];exact hs.1
 have HK:=Lib.hid hk
 have HD0:=Lib.hid hd0
 have HD1:=Lib.hid hd1
 have HL0:=Lib.hid hl0
 have HL1:=Lib.hid hl1
 clear hs hm hk hd0 hd1 hl0 hl1
 by_cases hz:dd=0
 ·have e0:(dd == 0)=true:=by rw[hz];rfl
  clear hz
  go_enter Tryz.func64,Tryz.ntmps64
  go_wp2_with fail
  go_ret
  exact⟨-1,rfl,by omega,HL0.out,by omega,Below.refl _ _⟩
 ·have e0:(dd == 0)=false:=beq_eq_false_iff_ne.2 hz
  have HD2:Hid (1≤dd):=Lib.hid (by have:=HD0.out;omega)
  have ed:IntKind.i64.wrap (dd - 1)=dd - 1:=IntWalk.i64_in _ (by have:=HD0.out;have:=HD1.out;omega)
  clear hz
  go_enter Tryz.func64,Tryz.ntmps64
  go_wp2_with fail
  go_loopw [1,7] (fun t i wr=>∃(j:Nat) (x:Int),j≤m∧t= .int .i64 x∧i= .int .i64 j∧Hid (-1≤x∧x≤l∧(0≤x→x+(4*ndS (n+1) (es.take j):Nat)≤l))∧Hid (Below w.heap.size w wr)) (fun _ i _=>m - (intOf i).toNat)
  case atStart=>exact⟨0,l,Nat.zero_le _,rfl,rfl,Lib.hid ⟨HL0.out,Int.le_refl _,fun _=>by simp[ndS]⟩,Below.refl _ _⟩
  case round=>
   obtain⟨j,x,hj,rfl,rfl,hin,hbr⟩:=hrel
   by_cases hx:0≤x
   ·have g1:decide (x ≥ 0)=true:=decide_eq_true hx
    have g2:decide (0≤x)=true:=decide_eq_true hx
    have ex:IntKind.i64.wrap (x - 1)=x - 1:=IntWalk.i64_in _ (by have:=hin.out;have:=HL1.out;omega)
    have HX:=Lib.hid hx
    clear hx
    by_cases hlt:j<m
    ·have hlx:j<es.length:=by rw[HM.out];exact hlt
     obtain⟨b,off,cs,rfl,hbl,hc,hrl⟩:=HS.out.2 j hlx
     have HND:=Lib.hid (ndS_snoc (n:=n+1) hlx)
     have HKJ:=Lib.hid (fun u c q W=>HK.out es[j] u c q W (List.getElem_mem hlx) HD2.out)
     obtain⟨k,a1,d1,a2,d2,a3,d3,a4,d4,a5,d5,hnk,rfl,hnn,hrc,hre,hrv,hks⟩:=assn_form hrl
     rw[←hnk]at hrc hre hrv hks
     clear hnk hrl
     generalize es[j]=y at*
     generalize hfs:y.field=fs at hc
     have HQ:Hid (∀W,Below w.heap.size w W→∀i v,([.int .i64 y.kind,.int .i64 y.c.kind,.slice a1 y.c.es.length d1,.slice a2 y.c.ks.length d2,.int .i64 y.e.kind,.int .i64 y.e.n,.string y.e.name,.slice a3 y.e.ks.length d3,.int .i64 y.v.kind,.int .i64 y.v.n,.string y.v.name,.slice a4 y.v.ks.length d4,.string fs,.int .i64 y.n,.slice a5 y.ks.length d5]:List Value)[i]? =some v→W.cell? ⟨b,off+j*15+i,none⟩=some v):=Lib.hid fun W hW i v hv=>by
      have:=(hW.cell (p:=⟨b,_,none⟩) hbl).trans (hc i v hv)
      rwa [assnSh_k]at this
     have HC1:=Lib.hid (fun q W hq0 hq1 (hW:Below w.heap.size w W)=>sizeC_any n [y.c] (some ⟨W.heap.size,0,none⟩) 1 q (dd - 1) (W.alloc (.cells #[.int .i64 y.c.kind,.slice a1 y.c.es.length d1,.slice a2 y.c.ks.length d2] 52)) (by have:=HD2.out;omega) (by have:=HD1.out;omega) hq0 hq1 (sits_block (heap_alloc_new W _) (by simp) (rel_low hrc (hW.alloc hW.size _))))
     have HC2:=Lib.hid (fun q W hq0 hq1 (hW:Below w.heap.size w W)=>sizeE_any n [y.e,y.v] (some ⟨W.heap.size,0,none⟩) 2 q (dd - 1) (W.alloc (.cells #[.int .i64 y.e.kind,.int .i64 y.e.n,.string y.e.name,.slice a3 y.e.ks.length d3,.int .i64 y.v.kind,.int .i64 y.v.n,.string y.v.name,.slice a4 y.v.ks.length d4] 49)) (by have:=HD2.out;omega) (by have:=HD1.out;omega) hq0 hq1 (sits_two (cs:=[.int .i64 y.e.kind,.int .i64 y.e.n,.string y.e.name,.slice a3 y.e.ks.length d3]) (ds:=[.int .i64 y.v.kind,.int .i64 y.v.n,.string y.v.name,.slice a4 y.v.ks.length d4]) (heap_alloc_new W _) (by simp) (by rw[exprSh_k];rfl) (rel_low hre (hW.alloc hW.size _)) (rel_low hrv (hW.alloc hW.size _))))
     have HC3:=Lib.hid (fun q W hq0 hq1 (hW:Below w.heap.size w W)=>HKJ.out a5 d5 q W hq0 hq1 hW (hks.below hW hW.size))
     have HN0:Hid (ndA (n+1) y=1+ndS n y.ks):=Lib.hid (ndA_succ n y)
     have hji:(j:Int)<(m:Int):=by omega
     clear hc hks hrc hre hrv HKJ hnn
     generalize ndS n y.ks=nk at*
     have c1:=HQ.out _ hbr.out 1 _ rfl
     have c2:=HQ.out _ hbr.out 2 _ rfl
     have c3:=HQ.out _ hbr.out 3 _ rfl
     go_wp2_with fail
     refine(HC1.out (x - 1) _ (by have:=HX.out;omega) (by have:=hin.out;have:=HL1.out;omega) hbr.out).mono ?_
     rintro r w3 ⟨x2,rfl,h1,h2,h3,hb⟩
     have HB3:=Lib.hid ((hbr.out.alloc hbr.out.size _).trans (hb.mono (hbr.out.alloc hbr.out.size _).size))
     have H12:Hid (-1≤x2∧x2≤x - 1∧(0≤x2→x2+1≤x - 1)):=Lib.hid ⟨h1,h2,fun h=>by have:=h3 h;simpa using this⟩
     clear h1 h2 h3 hb HC1 c1 c2 c3
     by_cases hx2:0≤x2
     ·have p1:decide (x2 ≥ 0)=true:=decide_eq_true hx2
      have p2:decide (0≤x2)=true:=decide_eq_true hx2
      have HX2:=Lib.hid hx2
      have c4:=HQ.out _ HB3.out 4 _ rfl
      have c5:=HQ.out _ HB3.out 5 _ rfl
      have c6:=HQ.out _ HB3.out 6 _ rfl
      have c7:=HQ.out _ HB3.out 7 _ rfl
      have c8:=HQ.out _ HB3.out 8 _ rfl
      have c9:=HQ.out _ HB3.out 9 _ rfl
      have c10:=HQ.out _ HB3.out 10 _ rfl
      have c11:=HQ.out _ HB3.out 11 _ rfl
      clear hx2
      have HC2D:=Lib.hid (HC2.out x2 w3.drew H12.out.1 (by have:=H12.out;have:=hin.out;have:=HL1.out;omega) HB3.out.drew)
      have HB3D:Hid (Below w.heap.size w (w3.drew.alloc (.cells #[.int .i64 y.e.kind,.int .i64 y.e.n,.string y.e.name,.slice a3 y.e.ks.length d3,.int .i64 y.v.kind,.int .i64 y.v.n,.string y.v.name,.slice a4 y.v.ks.length d4] 49))):=Lib.hid (HB3.out.drew.alloc HB3.out.drew.size _)
      clear HC2
      go_wp2_with fail
      go_region_with (go_at_call 63;refine HC2D.out.mono ?_;rintro r w4 ⟨x3,rfl,h1,h2,h3,hb⟩)
      all_goals (
       have HB4:=Lib.hid (HB3D.out.trans (hb.mono HB3D.out.size))
       have H23:Hid (-1≤x3∧x3≤x2∧(0≤x3→x3+2≤x2)):=Lib.hid ⟨h1,h2,fun h=>by have:=h3 h;simpa using this⟩
       clear h1 h2 h3 hb HC2D HB3D c4 c5 c6 c7 c8 c9 c10 c11
       by_cases hx3:0≤x3
       ·have r1:decide (x3 ≥ 0)=true:=decide_eq_true hx3
        have r2:decide (0≤x3)=true:=decide_eq_true hx3
        have HX3:=Lib.hid hx3
        have c14:=HQ.out _ HB4.out 14 _ rfl
        clear hx3
        go_wp2_with fail
        refine(HC3.out x3 _ H23.out.1 (by have:=H23.out;have:=H12.out;have:=hin.out;have:=HL1.out;omega) HB4.out).mono ?_
        rintro r w5 ⟨x4,rfl,h1,h2,h3,hb⟩
        have HB5:=Lib.hid (HB4.out.trans (hb.mono HB4.out.size))
        have HN:Hid (-1≤x4∧x4≤l∧(0≤x4→x4+(4*ndS (n+1) (es.take (j+1)):Nat)≤l)):=Lib.hid (by
         have q1:=H23.out
         have q2:=H12.out
         have q3:=hin.out
         refine⟨h1,by omega,fun h=> ?_⟩
         have q4:=h3 h
         have q5:=q3.2.2 HX.out
         have q6:=q1.2.2 HX3.out
         have q7:=q2.2.2 HX2.out
         rw[HND.out,HN0.out]
         omega)
        clear h1 h2 h3 hb HC3 hin hbr c14
        have c12:=HQ.out _ HB5.out 12 _ rfl
        by_cases hn:(200:Int)<(fs.size:Int)
        ·have t1:decide ((fs.size:Int) > 200)=true:=decide_eq_true hn
         have t2:decide ((200:Int)<(fs.size:Int))=true:=decide_eq_true hn
         have t3:200<fs.size:=by omega
         clear hn
         go_wp2_with fail
         go_ret
         exact⟨-1,rfl,by omega,HL0.out,by omega,HB5.out⟩
        ·have t1:decide ((fs.size:Int) > 200)=false:=decide_eq_false hn
         have t2:decide ((200:Int)<(fs.size:Int))=false:=decide_eq_false hn
         have t3:¬ 200<fs.size:=by omega
         clear hn
         go_wp2_with fail
         go_roundw
         case rel=>exact⟨j+1,x4,by omega,rfl,by go_num,HN,HB5⟩
         case measure=>simp[intOf];omega
       ·have r1:decide (x3 ≥ 0)=false:=decide_eq_false hx3
        have r2:decide (0≤x3)=false:=decide_eq_false hx3
        have HN:Hid (-1≤x3∧x3≤l∧(0≤x3→x3+(4*ndS (n+1) (es.take (j+1)):Nat)≤l)):=Lib.hid (by have:=H23.out;have:=H12.out;have:=hin.out;exact⟨by omega,by omega,fun h=>absurd h hx3⟩)
        clear hx3 HC3 hin hbr
        have c12:=HQ.out _ HB4.out 12 _ rfl
        by_cases hn:(200:Int)<(fs.size:Int)
        ·have t1:decide ((fs.size:Int) > 200)=true:=decide_eq_true hn
         have t2:decide ((200:Int)<(fs.size:Int))=true:=decide_eq_true hn
         have t3:200<fs.size:=by omega
         clear hn
         go_wp2_with fail
         go_ret
         exact⟨-1,rfl,by omega,HL0.out,by omega,HB4.out⟩
        ·have t1:decide ((fs.size:Int) > 200)=false:=decide_eq_false hn
         have t2:decide ((200:Int)<(fs.size:Int))=false:=decide_eq_false hn
         have t3:¬ 200<fs.size:=by omega
         clear hn
         go_wp2_with fail
         go_roundw
         case rel=>exact⟨j+1,x3,by omega,rfl,by go_num,HN,HB4⟩
         case measure=>simp[intOf];omega
      )
     ·have p1:decide (x2 ≥ 0)=false:=decide_eq_false hx2
      have p2:decide (0≤x2)=false:=decide_eq_false hx2
      have HN:Hid (-1≤x2∧x2≤l∧(0≤x2→x2+(4*ndS (n+1) (es.take (j+1)):Nat)≤l)):=Lib.hid (by have:=H12.out;have:=hin.out;exact⟨by omega,by omega,fun h=>absurd h hx2⟩)
      clear hx2 HC2 HC3 hin hbr
      have c12:=HQ.out _ HB3.out 12 _ rfl
      by_cases hn:(200:Int)<(fs.size:Int)
      ·have t1:decide ((fs.size:Int) > 200)=true:=decide_eq_true hn
       have t2:decide ((200:Int)<(fs.size:Int))=true:=decide_eq_true hn
       have t3:200<fs.size:=by omega
       clear hn
       go_wp2_with fail
       go_ret
       exact⟨-1,rfl,by omega,HL0.out,by omega,HB3.out⟩
      ·have t1:decide ((fs.size:Int) > 200)=false:=decide_eq_false hn
       have t2:decide ((200:Int)<(fs.size:Int))=false:=decide_eq_false hn
       have t3:¬ 200<fs.size:=by omega
       clear hn
       go_wp2_with fail
       go_roundw
       case rel=>exact⟨j+1,x2,by omega,rfl,by go_num,HN,HB3⟩
       case measure=>simp[intOf];omega
    ·obtain rfl:j=m:=by omega
     have HE:Hid (SzEnd (4*ndS (n+1) es) l w (.returned (.int .i64 x)) wr):=Lib.hid ⟨x,rfl,hin.out.1,hin.out.2.1,by have h:=hin.out.2.2;rw[←HM.out,List.take_length]at h;exact h,hbr.out⟩
     go_wp2_with fail
     go_ret
     exact HE.out
   ·have g1:decide (x ≥ 0)=false:=decide_eq_false hx
    have g2:decide (0≤x)=false:=decide_eq_false hx
    have HE:Hid (SzEnd (4*ndS (n+1) es) l w (.returned (.int .i64 x)) wr):=Lib.hid ⟨x,rfl,hin.out.1,hin.out.2.1,fun h=>absurd h hx,hbr.out⟩
    clear hx
    by_cases hlt:j<m
    ·have hji:(j:Int)<(m:Int):=by omega
     go_wp2_with fail
     go_ret
     exact HE.out
    ·obtain rfl:j=m:=by omega
     go_wp2_with fail
     go_ret
     exact HE.out
end
section
open Go.RowKit
theorem sizeA_any:∀(n:Nat) (es:List AT) (a:Option Addr) (cap:Nat) (l dd:Int) (w:World),0≤dd→dd≤300→ -1≤l→l≤300→Pak.Sits (assnSh n) (Pak.Lo w.heap.size) w a es→
 Calls Tryz.prog 64 #[.slice a es.length cap,.int .i64 l,.int .i64 dd] w (SzEnd (4*ndS n es) l w)
 | 0,es,a,cap,l,dd,w,h1,h2,h3,h4,hs=>by
   have he:es=[]:=by
    cases es with
    | nil=>rfl
    | cons x xs=>
      obtain⟨_,_,_,_,_,_,hr⟩:=hs.2 0 (by simp)
      exact hr.elim
   subst he
   exact sizeA_box 0 [] a 0 cap l dd w rfl h1 h2 h3 h4 (Pak.Sits.nil _ _ _ _) fun x u c q W hx _ _ _ _ _=>absurd hx (by simp)
 | n+1,es,a,cap,l,dd,w,h1,h2,h3,h4,hs=>
   sizeA_box n es a es.length cap l dd w rfl h1 h2 h3 h4 hs fun x u c q W _ hd hq0 hq1 hW hsx=>
    sizeA_any n x.ks u c q (dd - 1) W (by omega) (by omega) hq0 hq1 hsx
def SmEnd (p:Prop)(w:World)(r:Ending)(w':World):Prop:=∃b:Bool,r= .returned (.bool b)∧(b=true→p)∧Below w.heap.size w w'
end
section
open Go.RowKit
theorem chk_ast {nm:ByteArray→Bool}{n:Nat}{c:CT}(h:chkQ nm (n+3) [pOf zA [sAst c]]=0):snC nm (n+2) c=true:=by
 have h1:=chk_parts h
 unfold snQ pOf at h1
 simp only[Bool.and_eq_true,List.all_cons,List.all_nil,Bool.and_true]at h1
 have h2:=h1.2
 unfold snS at h2
 rw[if_pos (show 0≤(sAst c).p.kind∧(sAst c).p.kind<10 from⟨by show(0:Int)≤8;decide,by show(8:Int)<10;decide⟩)]at h2
 simp only[Bool.and_eq_true]at h2
 have h3:=h2.1.1.1.1.1.2
 rw[show hasB (sAst c).p.kind.toNat 32=true from by show hasB 8 32=true;decide]at h3
 exact h3
theorem refused_any (n:Nat)(a:AT)(ca:List Value)(v:Value)(l:List ST)(x0:Value)(w:World)(ha:(assnSh (n+3)).rel (Pak.Lo w.heap.size) w ca a)(hl:Pak.Slot (stmtSh (n+3)) (Pak.Lo w.heap.size) w v l)(hL:Laid w):
 Calls Tryz.prog 41 #[.agg (x0 :: (.slice none 0 0 :: .slice none 0 0 :: (ca ++ (zAc ++ [v])))).toArray] w (SoundEnd (!(chkQ nmB (n+3) [pOf a l] == 0)) w):=by
 have hla:=((assnSh (n+3)).len ha).trans (assnSh_k _)
 refine refused_box x0 _ _ w (by simp[hla,zAc]) (fun u hu=> ?_) (fun W g hW hg=> ?_)
 ·simp only[List.mem_cons,List.mem_append,List.not_mem_nil,or_false]at hu
  rcases hu with rfl | rfl | hu | hu | rfl
  ·rfl
  ·rfl
  ·exact(assnSh (n+3)).one ha u hu
  ·exact(assnSh (n+3)).one (zA_rel (n+1) (fun _=>True) w) u hu
  ·exact hl.one
 ·have hp:(procSh (n+3)).rel (Pak.Lo W.heap.size) W (.string ⟨#[112]⟩ :: .slice none 0 0 :: .slice none 0 0 :: (ca ++ (zAc ++ [v]))) (pOf a l):=proc_rel ⟨#[112]⟩ (by decide) (rel_low ha hW) (hl.keep (fun b (h:b<w.heap.size)=>Nat.lt_of_lt_of_le h hW.size) (fun b o (h:b<w.heap.size)=>hW.cell (p:=⟨b,o,none⟩) h))
  exact check_prog nmLaw (n+3) [pOf a l] (some ⟨g,0,none⟩) 1 W (sits_block hg (show g<W.heap.size from(Array.getElem?_eq_some_iff.1 hg).1) hp) (hL.up hW)
def exR (k:Int)(x:Int×Bool):Int×Int:=if k=0 then(if x.2=true then(x.1,0) else(0,3)) else(0,5)
def coR (k:Int)(x:Bool×Bool):Bool×Int:=if k=0 then(if x.2=true then(x.1,0) else(false,3)) else(false,5)
theorem expr_box (k0 m0:Int)(s0:ByteArray)(a0:Option Addr)(l0 c0:Nat)(vs:Value)(k:Int)(v:Int)(b:Bool)(w:World)
 (hr:Calls Tryz.prog 41 #[.agg #[.string ⟨#[]⟩,.slice none 0 0,.slice none 0 0,.int .i64 0,.int .i64 0,.slice none 0 0,.slice none 0 0,.int .i64 0,.int .i64 0,.string ⟨#[]⟩,.slice none 0 0,.int .i64 0,.int .i64 0,.string ⟨#[]⟩,.slice none 0 0,.string ⟨#[]⟩,.int .i64 0,.slice none 0 0,.int .i64 0,.int .i64 0,.slice none 0 0,.slice none 0 0,.int .i64 0,.int .i64 0,.string ⟨#[]⟩,.slice none 0 0,.int .i64 0,.int .i64 0,.string ⟨#[]⟩,.slice none 0 0,.string ⟨#[]⟩,.int .i64 0,.slice none 0 0,.slice (some ⟨w.heap.size+1,0,none⟩) 1 1]] ((w.alloc (.cells #[.int .i64 k0,.int .i64 m0,.string s0,.slice a0 l0 c0] 49)).alloc (.cells #[.int .i64 1,.string ⟨#[120]⟩,.string ⟨#[]⟩,.string ⟨#[]⟩,.int .i64 k0,.int .i64 m0,.string s0,.slice a0 l0 c0,.int .i64 0,.int .i64 0,.string ⟨#[]⟩,.slice none 0 0,.int .i64 0,.slice none 0 0,.slice none 0 0,.int .i64 0,.int .i64 0,.slice none 0 0,.slice none 0 0,.int .i64 0,.int .i64 0,.string ⟨#[]⟩,.slice none 0 0,.int .i64 0,.int .i64 0,.string ⟨#[]⟩,.slice none 0 0,.string ⟨#[]⟩,.int .i64 0,.slice none 0 0,.slice none 0 0,.slice none 0 0,.slice none 0 0,.slice none 0 0,.slice none 0 0] 104)) (SoundEnd (!(k == 0)) ((w.alloc (.cells #[.int .i64 k0,.int .i64 m0,.string s0,.slice a0 l0 c0] 49)).alloc (.cells #[.int .i64 1,.string ⟨#[120]⟩,.string ⟨#[]⟩,.string ⟨#[]⟩,.int .i64 k0,.int .i64 m0,.string s0,.slice a0 l0 c0,.int .i64 0,.int .i64 0,.string ⟨#[]⟩,.slice none 0 0,.int .i64 0,.slice none 0 0,.slice none 0 0,.int .i64 0,.int .i64 0,.slice none 0 0,.slice none 0 0,.int .i64 0,.int .i64 0,.string ⟨#[]⟩,.slice none 0 0,.int .i64 0,.int .i64 0,.string ⟨#[]⟩,.slice none 0 0,.string ⟨#[]⟩,.int .i64 0,.slice none 0 0,.slice none 0 0,.slice none 0 0,.slice none 0 0,.slice none 0 0,.slice none 0 0] 104))))
 (hv:k=0→ValAll 42 #[.agg #[.int .i64 k0,.int .i64 m0,.string s0,.slice a0 l0 c0],vs] (.tuple #[.int .i64 v,.bool b]) w):
 Calls Tryz.prog 19 #[.agg #[.int .i64 k0,.int .i64 m0,.string s0,.slice a0 l0 c0],vs] w fun r w'=>r= .returned (.tuple #[.int .i64 (exR k (v,b)).1,erV (exR k (v,b)).2])∧Below w.heap.size w w':=by
 have HA:Hid (Below w.heap.size w (w.alloc (.cells #[.int .i64 k0,.int .i64 m0,.string s0,.slice a0 l0 c0] 49))):=box_low
 have HA1:Hid (Below w.heap.size w ((w.alloc (.cells #[.int .i64 k0,.int .i64 m0,.string s0,.slice a0 l0 c0] 49)).alloc (.cells #[.int .i64 1,.string ⟨#[120]⟩,.string ⟨#[]⟩,.string ⟨#[]⟩,.int .i64 k0,.int .i64 m0,.string s0,.slice a0 l0 c0,.int .i64 0,.int .i64 0,.string ⟨#[]⟩,.slice none 0 0,.int .i64 0,.slice none 0 0,.slice none 0 0,.int .i64 0,.int .i64 0,.slice none 0 0,.slice none 0 0,.int .i64 0,.int .i64 0,.string ⟨#[]⟩,.slice none 0 0,.int .i64 0,.int .i64 0,.string ⟨#[]⟩,.slice none 0 0,.string ⟨#[]⟩,.int .i64 0,.slice none 0 0,.slice none 0 0,.slice none 0 0,.slice none 0 0,.slice none 0 0,.slice none 0 0] 104))):=Lib.hid (HA.out.alloc (by simp) _)
 have HB1:Hid (Below (w.alloc (.cells #[.int .i64 k0,.int .i64 m0,.string s0,.slice a0 l0 c0] 49)).heap.size (w.alloc (.cells #[.int .i64 k0,.int .i64 m0,.string s0,.slice a0 l0 c0] 49)) ((w.alloc (.cells #[.int .i64 k0,.int .i64 m0,.string s0,.slice a0 l0 c0] 49)).alloc (.cells #[.int .i64 1,.string ⟨#[120]⟩,.string ⟨#[]⟩,.string ⟨#[]⟩,.int .i64 k0,.int .i64 m0,.string s0,.slice a0 l0 c0,.int .i64 0,.int .i64 0,.string ⟨#[]⟩,.slice none 0 0,.int .i64 0,.slice none 0 0,.slice none 0 0,.int .i64 0,.int .i64 0,.slice none 0 0,.slice none 0 0,.int .i64 0,.int .i64 0,.string ⟨#[]⟩,.slice none 0 0,.int .i64 0,.int .i64 0,.string ⟨#[]⟩,.slice none 0 0,.string ⟨#[]⟩,.int .i64 0,.slice none 0 0,.slice none 0 0,.slice none 0 0,.slice none 0 0,.slice none 0 0,.slice none 0 0] 104))):=box_low
 have HC:=Lib.hid hr
 have HV:=Lib.hid hv
 have Q:=Lib.hid (fun W (hb:Below (w.alloc (.cells #[.int .i64 k0,.int .i64 m0,.string s0,.slice a0 l0 c0] 49)).heap.size (w.alloc (.cells #[.int .i64 k0,.int .i64 m0,.string s0,.slice a0 l0 c0] 49)) W)=>And.intro (box_at (cs:=[.int .i64 k0,.int .i64 m0,.string s0,.slice a0 l0 c0]) (o:=0) rfl hb) (And.intro (box_at (cs:=[.int .i64 k0,.int .i64 m0,.string s0,.slice a0 l0 c0]) (o:=1) rfl hb) (And.intro (box_at (cs:=[.int .i64 k0,.int .i64 m0,.string s0,.slice a0 l0 c0]) (o:=2) rfl hb) (box_at (cs:=[.int .i64 k0,.int .i64 m0,.string s0,.slice a0 l0 c0]) (o:=3) rfl hb))))
 clear hr hv
 go_enter Tryz.func19,Tryz.ntmps19
 go_wp2_with fail
 refine HC.out.mono ?_
 rintro r w2 ⟨rfl,hb⟩
 have HB:=Lib.hid (HA1.out.trans (hb.mono HA1.out.size))
 have HBB:=Lib.hid (HB1.out.trans (hb.mono HB1.out.size))
 clear hb HC
 by_cases hk:k=0
 ·have HV2:=Lib.hid ((HV.out hk).at HB.out)
  have HR:Hid (exR k (v,b)=if b=true then(v,0) else(0,3)):=if_pos hk
  have hz:(!(k == 0))=false:=by rw[hk];rfl
  rw[hz]
  obtain⟨q0,q1,q2,q3⟩:=Q.out _ HBB.out
  clear HV hz hk Q
  go_wp2_with fail
  refine HV2.out.mono ?_
  rintro r w3 ⟨rfl,hb⟩
  have HB3:=Lib.hid (HB.out.trans (hb.mono HB.out.size))
  clear hb HV2 q0 q1 q2 q3
  cases b with
  | true=>
    go_wp2_with fail
    go_ret2
    exact⟨by rw[HR.out];rfl,HB3.out⟩
  | false=>
    go_wp2_with fail
    go_ret2
    exact⟨by rw[HR.out];rfl,HB3.out⟩
 ·have HR:Hid (exR k (v,b)=(0,5)):=if_neg hk
  have hz:(!(k == 0))=true:=by rw[beq_eq_false_iff_ne.2 hk];rfl
  rw[hz]
  clear HV hz hk Q
  go_wp2_with fail
  go_ret2
  exact⟨by rw[HR.out];rfl,HB.out⟩
theorem cond_box (k0:Int)(a0:Option Addr)(l0 c0:Nat)(b0:Option Addr)(h0 d0:Nat)(vs:Value)(k:Int)(v:Bool)(b:Bool)(w:World)
 (hr:Calls Tryz.prog 41 #[.agg #[.string ⟨#[]⟩,.slice none 0 0,.slice none 0 0,.int .i64 0,.int .i64 0,.slice none 0 0,.slice none 0 0,.int .i64 0,.int .i64 0,.string ⟨#[]⟩,.slice none 0 0,.int .i64 0,.int .i64 0,.string ⟨#[]⟩,.slice none 0 0,.string ⟨#[]⟩,.int .i64 0,.slice none 0 0,.int .i64 0,.int .i64 0,.slice none 0 0,.slice none 0 0,.int .i64 0,.int .i64 0,.string ⟨#[]⟩,.slice none 0 0,.int .i64 0,.int .i64 0,.string ⟨#[]⟩,.slice none 0 0,.string ⟨#[]⟩,.int .i64 0,.slice none 0 0,.slice (some ⟨w.heap.size+1,0,none⟩) 1 1]] ((w.alloc (.cells #[.int .i64 k0,.slice a0 l0 c0,.slice b0 h0 d0] 52)).alloc (.cells #[.int .i64 8,.string ⟨#[]⟩,.string ⟨#[]⟩,.string ⟨#[]⟩,.int .i64 0,.int .i64 0,.string ⟨#[]⟩,.slice none 0 0,.int .i64 0,.int .i64 0,.string ⟨#[]⟩,.slice none 0 0,.int .i64 k0,.slice a0 l0 c0,.slice b0 h0 d0,.int .i64 0,.int .i64 0,.slice none 0 0,.slice none 0 0,.int .i64 0,.int .i64 0,.string ⟨#[]⟩,.slice none 0 0,.int .i64 0,.int .i64 0,.string ⟨#[]⟩,.slice none 0 0,.string ⟨#[]⟩,.int .i64 0,.slice none 0 0,.slice none 0 0,.slice none 0 0,.slice none 0 0,.slice none 0 0,.slice none 0 0] 104)) (SoundEnd (!(k == 0)) ((w.alloc (.cells #[.int .i64 k0,.slice a0 l0 c0,.slice b0 h0 d0] 52)).alloc (.cells #[.int .i64 8,.string ⟨#[]⟩,.string ⟨#[]⟩,.string ⟨#[]⟩,.int .i64 0,.int .i64 0,.string ⟨#[]⟩,.slice none 0 0,.int .i64 0,.int .i64 0,.string ⟨#[]⟩,.slice none 0 0,.int .i64 k0,.slice a0 l0 c0,.slice b0 h0 d0,.int .i64 0,.int .i64 0,.slice none 0 0,.slice none 0 0,.int .i64 0,.int .i64 0,.string ⟨#[]⟩,.slice none 0 0,.int .i64 0,.int .i64 0,.string ⟨#[]⟩,.slice none 0 0,.string ⟨#[]⟩,.int .i64 0,.slice none 0 0,.slice none 0 0,.slice none 0 0,.slice none 0 0,.slice none 0 0,.slice none 0 0] 104))))
 (hv:k=0→ValAll 45 #[.agg #[.int .i64 k0,.slice a0 l0 c0,.slice b0 h0 d0],vs] (.tuple #[.bool v,.bool b]) w):
 Calls Tryz.prog 22 #[.agg #[.int .i64 k0,.slice a0 l0 c0,.slice b0 h0 d0],vs] w fun r w'=>r= .returned (.tuple #[.bool (coR k (v,b)).1,erV (coR k (v,b)).2])∧Below w.heap.size w w':=by
 have HA:Hid (Below w.heap.size w (w.alloc (.cells #[.int .i64 k0,.slice a0 l0 c0,.slice b0 h0 d0] 52))):=box_low
 have HA1:Hid (Below w.heap.size w ((w.alloc (.cells #[.int .i64 k0,.slice a0 l0 c0,.slice b0 h0 d0] 52)).alloc (.cells #[.int .i64 8,.string ⟨#[]⟩,.string ⟨#[]⟩,.string ⟨#[]⟩,.int .i64 0,.int .i64 0,.string ⟨#[]⟩,.slice none 0 0,.int .i64 0,.int .i64 0,.string ⟨#[]⟩,.slice none 0 0,.int .i64 k0,.slice a0 l0 c0,.slice b0 h0 d0,.int .i64 0,.int .i64 0,.slice none 0 0,.slice none 0 0,.int .i64 0,.int .i64 0,.string ⟨#[]⟩,.slice none 0 0,.int .i64 0,.int .i64 0,.string ⟨#[]⟩,.slice none 0 0,.string ⟨#[]⟩,.int .i64 0,.slice none 0 0,.slice none 0 0,.slice none 0 0,.slice none 0 0,.slice none 0 0,.slice none 0 0] 104))):=Lib.hid (HA.out.alloc (by simp) _)
 have HB1:Hid (Below (w.alloc (.cells #[.int .i64 k0,.slice a0 l0 c0,.slice b0 h0 d0] 52)).heap.size (w.alloc (.cells #[.int .i64 k0,.slice a0 l0 c0,.slice b0 h0 d0] 52)) ((w.alloc (.cells #[.int .i64 k0,.slice a0 l0 c0,.slice b0 h0 d0] 52)).alloc (.cells #[.int .i64 8,.string ⟨#[]⟩,.string ⟨#[]⟩,.string ⟨#[]⟩,.int .i64 0,.int .i64 0,.string ⟨#[]⟩,.slice none 0 0,.int .i64 0,.int .i64 0,.string ⟨#[]⟩,.slice none 0 0,.int .i64 k0,.slice a0 l0 c0,.slice b0 h0 d0,.int .i64 0,.int .i64 0,.slice none 0 0,.slice none 0 0,.int .i64 0,.int .i64 0,.string ⟨#[]⟩,.slice none 0 0,.int .i64 0,.int .i64 0,.string ⟨#[]⟩,.slice none 0 0,.string ⟨#[]⟩,.int .i64 0,.slice none 0 0,.slice none 0 0,.slice none 0 0,.slice none 0 0,.slice none 0 0,.slice none 0 0] 104))):=box_low
 have HC:=Lib.hid hr
 have HV:=Lib.hid hv
 have Q:=Lib.hid (fun W (hb:Below (w.alloc (.cells #[.int .i64 k0,.slice a0 l0 c0,.slice b0 h0 d0] 52)).heap.size (w.alloc (.cells #[.int .i64 k0,.slice a0 l0 c0,.slice b0 h0 d0] 52)) W)=>And.intro (box_at (cs:=[.int .i64 k0,.slice a0 l0 c0,.slice b0 h0 d0]) (o:=0) rfl hb) (And.intro (box_at (cs:=[.int .i64 k0,.slice a0 l0 c0,.slice b0 h0 d0]) (o:=1) rfl hb) (box_at (cs:=[.int .i64 k0,.slice a0 l0 c0,.slice b0 h0 d0]) (o:=2) rfl hb)))
 clear hr hv
 go_enter Tryz.func22,Tryz.ntmps22
 go_wp2_with fail
 refine HC.out.mono ?_
 rintro r w2 ⟨rfl,hb⟩
 have HB:=Lib.hid (HA1.out.trans (hb.mono HA1.out.size))
 have HBB:=Lib.hid (HB1.out.trans (hb.mono HB1.out.size))
 clear hb HC
 by_cases hk:k=0
 ·have HV2:=Lib.hid ((HV.out hk).at HB.out)
  have HR:Hid (coR k (v,b)=if b=true then(v,0) else(false,3)):=if_pos hk
  have hz:(!(k == 0))=false:=by rw[hk];rfl
  rw[hz]
  obtain⟨q0,q1,q2⟩:=Q.out _ HBB.out
  clear HV hz hk Q
  go_wp2_with fail
  refine HV2.out.mono ?_
  rintro r w3 ⟨rfl,hb⟩
  have HB3:=Lib.hid (HB.out.trans (hb.mono HB.out.size))
  clear hb HV2 q0 q1 q2
  cases b with
  | true=>
    go_wp2_with fail
    go_ret2
    exact⟨by rw[HR.out];rfl,HB3.out⟩
  | false=>
    go_wp2_with fail
    go_ret2
    exact⟨by rw[HR.out];rfl,HB3.out⟩
 ·have HR:Hid (coR k (v,b)=(false,5)):=if_neg hk
  have hz:(!(k == 0))=true:=by rw[beq_eq_false_iff_ne.2 hk];rfl
  rw[hz]
  clear HV hz hk Q
  go_wp2_with fail
  go_ret2
  exact⟨by rw[HR.out];rfl,HB.out⟩
end
section
open Go.RowKit
theorem two_below (w:World)(c1:Array Value)(t1:TypeId)(c2:Array Value)(t2:TypeId):Below w.heap.size w ((w.alloc (.cells c1 t1)).alloc (.cells c2 t2)):=box_low.alloc (by simp) _
theorem two_at (w:World)(c1:Array Value)(t1:TypeId)(c2:Array Value)(t2:TypeId):((w.alloc (.cells c1 t1)).alloc (.cells c2 t2)).heap[w.heap.size+1]? =some (.cells c2 t2 (0,0)):=by
 have:=heap_alloc_new (w.alloc (.cells c1 t1)) (.cells c2 t2)
 rwa [show(w.alloc (.cells c1 t1)).heap.size=w.heap.size+1 by simp]at this
end
section
open Go.RowKit
def ckC (n:Nat)(c:CT):Int:=chkQ nmB (n+3) [pOf zA [sAst c]]
theorem hExpr_any (n:Nat)(e:ET)(cs:List Value)(xs:List (ByteArray×Int))(av:Option Addr)(cv:Nat)(w:World)(h:(exprSh (n+2)).rel (Pak.Lo w.heap.size) w cs e)(hx:Pak.Sits varSh (Pak.Lo w.heap.size) w av xs)(hL:Laid w):
 Calls Tryz.prog 19 #[.agg cs.toArray,.slice av xs.length cv] w fun r w'=>r= .returned (.tuple #[.int .i64 (exR (ekE n e) (valE (fun s=>varOf s xs) (n+2) e)).1,erV (exR (ekE n e) (valE (fun s=>varOf s xs) (n+2) e)).2])∧Below w.heap.size w w':=by
 have h0:=h
 obtain⟨v,rfl,_,a0,c0,rfl,hs⟩:=h
 have hb:=fun c1 c2=>two_below w c1 49 c2 104
 have hp:=fun c1 c2=>sSet_rel (rel_low h0 (hb c1 c2))
 refine expr_box e.kind e.n e.name a0 _ c0 _ (ekE n e) _ _ w ?_ (fun hk=>hexpr_all nmB xs av cv (n+2) e _ w (chk_set hk) h0 hx)
 exact refused_any n zA zAc _ [sSet e] _ _ (zA_rel (n+1) _ _) ⟨some ⟨w.heap.size+1,0,none⟩,1,rfl,sits_block (two_at w _ _ _ _) (by simp) (hp _ _)⟩ (hL.up (hb _ _))
theorem hCond_any (n:Nat)(c:CT)(cs:List Value)(xs:List (ByteArray×Int))(av:Option Addr)(cv:Nat)(w:World)(h:(condSh (n+2)).rel (Pak.Lo w.heap.size) w cs c)(hx:Pak.Sits varSh (Pak.Lo w.heap.size) w av xs)(hL:Laid w):
 Calls Tryz.prog 22 #[.agg cs.toArray,.slice av xs.length cv] w fun r w'=>r= .returned (.tuple #[.bool (coR (ckC n c) (truC (fun s=>varOf s xs) (n+2) c)).1,erV (coR (ckC n c) (truC (fun s=>varOf s xs) (n+2) c)).2])∧Below w.heap.size w w':=by
 have h0:=h
 obtain⟨u,v,rfl,_,⟨a0,c0,rfl,hs1⟩,⟨b0,d0,rfl,hs2⟩⟩:=h
 have hb:=fun c1 c2=>two_below w c1 52 c2 104
 have hp:=fun c1 c2=>sAst_rel (rel_low h0 (hb c1 c2))
 refine cond_box c.kind a0 _ c0 b0 _ d0 _ (ckC n c) _ _ w ?_ (fun hk W hW=>hcond_any nmB xs av cv (n+2) c _ W (chk_ast hk) (rel_low h0 hW) (hx.below hW hW.size))
 exact refused_any n zA zAc _ [sAst c] _ _ (zA_rel (n+1) _ _) ⟨some ⟨w.heap.size+1,0,none⟩,1,rfl,sits_block (two_at w _ _ _ _) (by simp) (hp _ _)⟩ (hL.up (hb _ _))
end
end Go.Proofs.YtjbkhdbjdahbiaaGreatDoor
