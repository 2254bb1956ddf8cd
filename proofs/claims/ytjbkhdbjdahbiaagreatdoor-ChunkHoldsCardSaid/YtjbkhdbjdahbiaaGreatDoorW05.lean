/- Parts of a proof. -/
import Derived.Test.YtjbkhdbjdahbiaaGreatDoorW01
import Derived.Test.YtjbkhdbjdahbiaaGreatDoorW02
import Derived.Test.YtjbkhdbjdahbiaaGreatDoorW03
import Derived.Test.YtjbkhdbjdahbiaaGreatDoorW04
import Derived.Test.YtjbkhdbjdahbiaaGreatDoorQ17
import Derived.Test.YtjbkhdbjdahbiaaGreatDoorQ20
import Derived.Test.YtjbkhdbjdahbiaaGreatDoorQ23
import Derived.Test.YtjbkhdbjdahbiaaGreatDoorQ07
import Derived.Test.YtjbkhdbjdahbiaaGreatDoorRows
import Derived.BigQuiet
set_option linter.unusedVariables false
set_option linter.unusedSimpArgs false
set_option maxHeartbeats 60000000
set_option maxRecDepth 100000
namespace Go.Proofs.YtjbkhdbjdahbiaaGreatDoor
namespace Lf
open Go.RowKit
theorem cc_snd {n:Nat}{f:FT}(h:cc n f=0):sndF n f=true:=by
 unfold cc ccV at h
 cases hb:sndF n f with
 | true=>rfl
 | false=>rw[hb]at h;split at h<;>(try split at h)<;>cases h
def fvN (zs:List Int)(n:Nat)(f:FT):Bool×Int:=if cc n f=0 then(if(vOf zs n f).2=true then((vOf zs n f).1,0) else(false,1)) else(false,cc n f)
theorem fvalue_any (n:Nat)(f:FT)(cs:List Value)(a2:Option Addr)(n2 cap2:Nat)(zs:List Int)(w:World)(h:FLies w.heap.size w n f cs)(hn2:zs.length=n2)(hz:Nums w.heap.size w a2 zs):
 Calls Tryz.prog 23 #[.agg cs.toArray,.slice a2 n2 cap2] w fun e w'=>e= .returned (.tuple #[.bool (fvN zs n f).1,codeV (fvN zs n f).2])∧Below w.heap.size w w':=by
 have FL:=fun W (hb:Below w.heap.size w W)=>(h.below hb).mono hb.size
 cases n with
 | zero=>exact h.elim
 | succ n=>
   obtain⟨ta,tcap,ka,kcap,rfl,_⟩:=h
   have hs:=Lib.hid (fun W hb=>fcheck_any (n+1) f _ W (FL W hb))
   have hv:=Lib.hid (fun(hc:cc (n+1) f=0) W (hb:Below w.heap.size w W)=>value_any (n+1) f _ a2 n2 cap2 zs W (FL W hb) (cc_snd hc) hn2 ((hz.below hb).mono hb.size))
   have T0:=Lib.hid (box_start w f.kind f.c ta ka f.t.length tcap f.ks.length kcap)
   unfold fvN
   clear FL hz hn2
   generalize vOf zs (n+1) f=p at hv
   generalize cc (n+1) f=k at hs hv
   obtain⟨o,u⟩:=p
   generalize f.kind=fk at T0 hs hv
   generalize f.c=fc at T0 hs hv
   generalize f.t.length=ft at T0 hs hv
   generalize f.ks.length=fl at T0 hs hv
   have n1:=fun W=>Tryz.neNil W
   have n2':=fun W=>Tryz.neCode k W
   by_cases hk:k=0
   ·subst hk
    have hv0:=Lib.hid (hv.out rfl)
    simp only[codeV,if_true]at hs
    clear hv n2'
    cases u with
    | true=>
      go_enter Tryz.func23,Tryz.ntmps23
      go_wp2_with fail
      refine(hs.out _ T0.out.bel).mono ?_
      rintro e w1 ⟨rfl,hb1⟩
      have T1:=Lib.hid (T0.out.below hb1 T0.out.lt)
      clear hb1
      obtain⟨l1,p0,p1,p2,p3,_⟩:=T1.out
      go_wp2_with fail
      refine(hv0.out _ T1.out.bel).mono ?_
      rintro e w2 ⟨rfl,hb2⟩
      have T2:=Lib.hid (T1.out.below hb2 T1.out.lt)
      clear hb2 l1 p0 p1 p2 p3
      go_wp2_with fail
      refine bodyPost_ret (v:= .tuple #[.bool o,.nilIface]) ?_ rfl ⟨by simp[codeV],T2.out.bel⟩
      simp[results,Tryz.results23,go_sem]
    | false=>
      go_enter Tryz.func23,Tryz.ntmps23
      go_wp2_with fail
      refine(hs.out _ T0.out.bel).mono ?_
      rintro e w1 ⟨rfl,hb1⟩
      have T1:=Lib.hid (T0.out.below hb1 T0.out.lt)
      clear hb1
      obtain⟨l1,p0,p1,p2,p3,_⟩:=T1.out
      go_wp2_with fail
      refine(hv0.out _ T1.out.bel).mono ?_
      rintro e w2 ⟨rfl,hb2⟩
      have T2:=Lib.hid (T1.out.below hb2 T1.out.lt)
      clear hb2 l1 p0 p1 p2 p3
      go_wp2_with fail
      refine bodyPost_ret (v:= .tuple #[.bool false,.iface 89 (.int .i64 1)]) ?_ rfl ⟨by simp[codeV],T2.out.bel⟩
      simp[results,Tryz.results23,go_sem]
   ·have e3:codeV k= .iface 89 (.int .i64 k):=by unfold codeV;rw[if_neg hk]
    rw[if_neg hk]
    show Calls _ _ _ _ fun e w'=>e= .returned (.tuple #[.bool false,codeV k])∧_
    rw[e3]at hs⊢
    clear hv e3 n1
    go_enter Tryz.func23,Tryz.ntmps23
    go_wp2_with fail
    refine(hs.out _ T0.out.bel).mono ?_
    rintro e w1 ⟨rfl,hb1⟩
    have T1:=Lib.hid (T0.out.below hb1 T0.out.lt)
    clear hb1
    go_wp2_with fail
    refine bodyPost_ret (v:= .tuple #[.bool false,.iface 89 (.int .i64 k)]) ?_ rfl ⟨rfl,T1.out.bel⟩
    simp[results,Tryz.results23,go_sem]
end Lf
section
open Go.RowKit
def evL (zs:List Int)(x:LT):Int:=x.1+Lf.evl zs x.2
theorem sAt_ev (zs:List Int)(c:Int)(l:List (Int×Int)):Lf.sAt c l zs l.length=c+Lf.evl zs l:=by
 rw[Lf.sAt_evl c l zs l.length (Nat.le_refl _),List.take_length]
theorem addS_ev {a b r:LT}{x y:Int}(zs:List Int)(h:addS x y a b=some r):evL zs r=x*evL zs a+y*evL zs b:=by
 unfold addS at h
 split at h
 ·injection h with h
  subst h
  unfold evL
  show x*a.1+y*b.1+Lf.evl zs (sumC (Lf.scale x a.2 ++ Lf.scale y b.2))=_
  rw[Lf.IsSum.evl (sumC_is _) zs,Lf.evl_append,Lf.evl_scale,Lf.evl_scale,Int.mul_add,Int.mul_add]
  omega
 ·cases h
theorem vOf_form (zs:List Int)(n:Nat)(k c:Int)(t:List (Int×Int))(hk:k=2∨k=3):Lf.vOf zs (n+1) (.mk k c t [])=if ∀i,i<t.length→Lf.near t zs i=true then(decide (c+Lf.evl zs t=0) || (decide (c+Lf.evl zs t<0) && decide (k=2)),true) else(true,false):=by
 rw[←sAt_ev]
 show(if k=0 then _ else if k=1 then _ else if k=2∨k=3 then _ else _)=_
 rw[if_neg (by omega),if_neg (by omega),if_pos hk]
 rfl
theorem vOf_not (zs:List Int)(n:Nat)(f:Lf.FT):Lf.vOf zs (n+1) (.mk 4 0 [] [f])=(!(Lf.vOf zs n f).1,(Lf.vOf zs n f).2):=rfl
theorem vOf_or (zs:List Int)(n:Nat)(f g:Lf.FT):Lf.vOf zs (n+1) (.mk 6 0 [] [f,g])=((Lf.vOf zs n f).1 || (Lf.vOf zs n g).1,(Lf.vOf zs n f).2 && (Lf.vOf zs n g).2):=by
 show Lf.vStep false (Lf.vStep false (false,true) (Lf.vOf zs n f)) (Lf.vOf zs n g)=_
 generalize Lf.vOf zs n f=p
 generalize Lf.vOf zs n g=q
 obtain⟨p1,p2⟩:=p
 obtain⟨q1,q2⟩:=q
 cases p1<;>cases q1<;>simp[Lf.vStep]
theorem eq_form {zs:List Int}{n:Nat}{k c:Int}{t:List (Int×Int)}(hk:k=2∨k=3)(h:(Lf.vOf zs (n+1) (.mk k c t [])).2=true):(Lf.vOf zs (n+1) (.mk k c t [])).1=(decide (evL zs (c,t)=0) || (decide (evL zs (c,t)<0) && decide (k=2))):=by
 rw[vOf_form zs n k c t hk]at h⊢
 split at h
 ·rename_i hn
  rw[if_pos hn]
  rfl
 ·cases h
theorem sameK_form {a b:LT}(h:(sameK a b).2=0):∃x,addS 1 (-1) a b=some x∧(sameK a b).1= .mk 3 x.1 x.2 []:=by
 unfold sameK at h⊢
 split at h
 ·rename_i hs
  rw[if_pos hs]
  cases hx:addS 1 (-1) a b with
  | none=>rw[hx]at h;exact absurd h (by decide)
  | some x=>exact⟨x,rfl,rfl⟩
 ·exact absurd h (by decide)
theorem same_val {zs:List Int}{n:Nat}{a b:LT}(h:(sameK a b).2=0)(hv:(Lf.vOf zs (n+1) (sameK a b).1).2=true):(Lf.vOf zs (n+1) (sameK a b).1).1=decide (evL zs a=evL zs b):=by
 obtain⟨x,hx,e⟩:=sameK_form h
 rw[e]at hv⊢
 rw[eq_form (.inr rfl) hv]
 have:=addS_ev zs hx
 have e2:evL zs (x.1,x.2)=evL zs a - evL zs b:=by show evL zs x=_;omega
 rw[e2]
 simp
 omega
theorem apart_true {zs:List Int}{o c:CK}(h0:(apartK o c).2=0)(h1:evL zs o.a=evL zs c.a→¬(64<o.n+c.n)∧evL zs o.v=evL zs c.v)(hv:(Lf.vOf zs 3 (apartK o c).1).2=true):(Lf.vOf zs 3 (apartK o c).1).1=true:=by
 unfold apartK at h0 hv⊢
 split at h0
 ·rename_i hk
  rw[if_pos hk]at hv⊢
  split at h0
  ·rename_i h64
   rw[if_pos h64]at hv⊢
   rw[vOf_not]at hv⊢
   rw[same_val hk hv]
   simp only[Bool.not_eq_true',decide_eq_false_iff_not]
   exact fun e=>(h1 e).1 h64
  ·rename_i h64
   rw[if_neg h64]at hv⊢
   split at h0
   ·rename_i hk2
    rw[if_pos hk2]at hv⊢
    rw[vOf_or,vOf_not]at hv⊢
    simp only[Bool.and_eq_true]at hv
    show(!(Lf.vOf zs 1 (sameK o.a c.a).1).1 || (Lf.vOf zs 2 (sameK o.v c.v).1).1)=true
    rw[same_val hk hv.1,same_val hk2 hv.2]
    by_cases e:evL zs o.a=evL zs c.a
    ·simp[(h1 e).2]
    ·simp[e]
   ·rename_i hk2
    exact absurd h0 hk2
 ·rename_i hk
  exact absurd h0 hk
theorem factsTo_mem {c:CK}{xs:List CK}{f:Lf.FT}:∀ {j:Nat},f∈factsTo c xs j→∃i,i<j∧f∈addF c (xs.getD i ck0)
 | 0,h=>by cases h
 | j+1,h=>by
   rcases List.mem_append.1 (show f∈factsTo c xs j ++ addF c (xs.getD j ck0) from h)with h | h
   ·obtain⟨i,hi,h2⟩:=factsTo_mem h
    exact⟨i,by omega,h2⟩
   ·exact⟨j,Nat.lt_succ_self _,h⟩
theorem facts_mem {xs:List CK}{c:CK}{f:Lf.FT}(h:(factsK xs c).2=0)(hf:f∈(factsK xs c).1):(∃y,addS 1 (-1) (1,[]) c.a=some y∧f= .mk 2 y.1 y.2 [])∨∃o∈xs,o.f=c.f∧(apartK o c).2=0∧f=(apartK o c).1:=by
 unfold factsK at h hf
 split at h
 ·rename_i hs
  rw[if_pos hs]at hf
  cases hx:addS 1 (-1) (1,[]) c.a with
  | none=>rw[hx]at h;exact absurd (show(3:Int)=0 from h) (by decide)
  | some y=>
    rw[hx]at h hf
    dsimp only at h hf
    split at h
    ·rename_i hok
     rw[if_pos hok]at hf
     rcases List.mem_cons.1 hf with hf | hf
     ·exact .inl ⟨y,rfl,hf⟩
     ·obtain⟨i,hi,hm⟩:=factsTo_mem hf
      have hmem:xs.getD i ck0∈xs:=by rw[List.getD_eq_getElem?_getD,List.getElem?_eq_getElem hi];exact List.getElem_mem hi
      have hk:=hok i hi
      unfold addF at hm
      split at hm
      ·rename_i e
       exact .inr ⟨_,hmem,e,hk e,by simpa using hm⟩
      ·cases hm
    ·exact absurd h (by decide)
 ·exact absurd h (by decide)
theorem facts_true {zs:List Int}{xs:List CK}{c:CK}(hc:1≤evL zs c.a)(hp:∀o∈xs,o.f=c.f→evL zs o.a=evL zs c.a→¬(64<o.n+c.n)∧evL zs o.v=evL zs c.v)(h:(factsK xs c).2=0){f:Lf.FT}(hf:f∈(factsK xs c).1)(hv:(Lf.fvN zs 3 f).2=0):(Lf.fvN zs 3 f).1=true:=by
 have h2:(Lf.vOf zs 3 f).2=true∧(Lf.fvN zs 3 f).1=(Lf.vOf zs 3 f).1:=by
  unfold Lf.fvN at hv⊢
  split at hv
  ·rename_i h1
   rw[if_pos h1]
   split at hv
   ·rename_i h3
    rw[if_pos h3]
    exact⟨h3,rfl⟩
   ·exact absurd hv (by decide)
  ·rename_i h1
   exact absurd hv h1
 rw[h2.2]
 rcases facts_mem h hf with ⟨y,hy,rfl⟩ | ⟨o,ho,e,h0,rfl⟩
 ·rw[eq_form (.inl rfl) h2.1]
  have:=addS_ev zs hy
  have e1:evL zs (1,[])=1:=by simp[evL,Lf.evl]
  rw[e1]at this
  have e2:evL zs (y.1,y.2)=1 - evL zs c.a:=by show evL zs y=_;omega
  rw[e2]
  simp
  omega
 ·exact apart_true h0 (hp o ho e) h2.1
def keyX (zs:List Int)(x:CK):Key:=(evL zs x.a,x.f.toList)
def shX (zs:List Int)(x:CK):HC:=⟨evL zs x.a,x.f,x.n⟩
theorem insTo_mem {rs:List HC}{c d:HC}:∀ {k:Nat},d∈(insTo rs c k).1↔(∃j,j<k∧d=rs.getD j hc0)∨((insTo rs c k).2=true∧d=c)
 | 0=>by simp[insTo]
 | k+1=>by
   have ih:=insTo_mem (rs:=rs) (c:=c) (d:=d) (k:=k)
   have hj:(∃j,j<k+1∧d=rs.getD j hc0)↔(∃j,j<k∧d=rs.getD j hc0)∨d=rs.getD k hc0:=by
    constructor
    ·rintro⟨j,h1,h2⟩
     by_cases e:j=k
     ·subst e;exact .inr h2
     ·exact .inl ⟨j,by omega,h2⟩
    ·rintro(⟨j,h1,h2⟩ | h)
     ·exact⟨j,by omega,h2⟩
     ·exact⟨k,Nat.lt_succ_self _,h⟩
   rw[hj]
   unfold insTo
   split
   ·rename_i h
    simp only[Bool.and_eq_true,Bool.not_eq_true']at h
    simp only[List.mem_append,List.mem_singleton,ih,h.1,Bool.false_eq_true,false_and,or_false,true_and]
    constructor
    ·rintro((h | h) | h)
     ·exact .inl (.inl h)
     ·exact .inr h
     ·exact .inl (.inr h)
    ·rintro((h | h) | h)
     ·exact .inl (.inl h)
     ·exact .inr h
     ·exact .inl (.inr h)
   ·simp only[List.mem_append,List.mem_singleton,ih]
    constructor
    ·rintro((h | h) | h)
     ·exact .inl (.inl h)
     ·exact .inr h
     ·exact .inl (.inr h)
    ·rintro((h | h) | h)
     ·exact .inl (.inl h)
     ·exact .inr h
     ·exact .inl (.inr h)
theorem insF_mem {rs:List HC}{c d:HC}:d∈insF rs c↔d∈rs∨d=c:=by
 have hj:(∃j,j<rs.length∧d=rs.getD j hc0)↔d∈rs:=by
  constructor
  ·rintro⟨j,h1,h2⟩
   rw[h2,List.getD_eq_getElem?_getD,List.getElem?_eq_getElem h1]
   exact List.getElem_mem h1
  ·intro h
   obtain⟨j,h1,h2⟩:=List.getElem_of_mem h
   exact⟨j,h1,by rw[List.getD_eq_getElem?_getD,List.getElem?_eq_getElem h1];exact h2.symm⟩
 have h:=insTo_mem (rs:=rs) (c:=c) (d:=d) (k:=rs.length)
 rw[hj]at h
 unfold insF
 split
 ·rename_i e
  rw[h,e]
  simp
 ·rename_i e
  rw[List.mem_append,h,List.mem_singleton]
  constructor
  ·rintro((h | h) | h)
   ·exact .inl h
   ·exact absurd h.1 e
   ·exact .inr h
  ·rintro(h | h)
   ·exact .inl (.inl h)
   ·exact .inr h
structure HInv (zs:List Int)(xs:List CK)(m:Nat)(hs ss:List HC):Prop where
 pos:∀i (h:i<xs.length),i<m→1≤evL zs xs[i].a∧1≤xs[i].n
 cell:∀i (h:i<xs.length),i<m→∃c∈hs,hkey c=keyX zs xs[i]
 val:∀c∈hs,∀i (h:i<xs.length),i<m→hkey c=keyX zs xs[i]→c.v=evL zs xs[i].v
 str:Str ss
 sum:∀k,tot ss k=tot ((xs.take m).map (shX zs)) k
theorem HInv.zero (zs:List Int)(xs:List CK):HInv zs xs 0 [] []:=
 ⟨fun i _ h=>absurd h (Nat.not_lt_zero i),fun i _ h=>absurd h (Nat.not_lt_zero i),fun c hc=>(by cases hc),List.Pairwise.nil,fun k=>(by simp)⟩
theorem HInv.step {zs:List Int}{xs:List CK}{m:Nat}{hs ss:List HC}(h:HInv zs xs m hs ss)(hm:m<xs.length)(ha:1≤evL zs xs[m].a)(hn:1≤xs[m].n){old:Int}{has:Bool}(hg:RGetIs hs (keyX zs xs[m]) old has)(ho:has=true→old=evL zs xs[m].v):
 HInv zs xs (m+1) (insF (dropL hs (keyX zs xs[m])) ⟨evL zs xs[m].a,xs[m].f,evL zs xs[m].v⟩) (joinD (ss ++ [shX zs xs[m]])):=by
 have hdm:∀c,c∈dropL hs (keyX zs xs[m])↔c∈hs∧hkey c≠keyX zs xs[m]:=fun c=>by unfold dropL;rw[List.mem_filter];simp
 have hold:∀i (hi:i<xs.length),i<m→keyX zs xs[i]=keyX zs xs[m]→evL zs xs[i].v=evL zs xs[m].v:=fun i hi him e=>by
  obtain⟨c,hc,hk⟩:=h.cell i hi him
  have hv:=h.val c hc i hi him hk
  cases hg with
  | yes q hq hkq _=>
    have hq2:hs.getD q hc0∈hs:=by rw[List.getD_eq_getElem?_getD,List.getElem?_eq_getElem hq];exact List.getElem_mem hq
    have:=h.val _ hq2 i hi him (hkq.trans e.symm)
    rw[←this]
    exact ho rfl
  | no hno=>
    obtain⟨q,hq,rfl⟩:=List.getElem_of_mem hc
    have:=hno q hq
    rw[List.getD_eq_getElem?_getD,List.getElem?_eq_getElem hq]at this
    exact absurd (hk.trans e) this
 obtain⟨j1,j2,j3⟩:=fold_is (ss ++ [shX zs xs[m]]) (l:=[]) List.Pairwise.nil
 refine⟨fun i hi him=> ?_,fun i hi him=> ?_,fun c hc i hi him hk=> ?_,j1,fun k=> ?_⟩
 ·by_cases e:i=m
  ·subst e;exact⟨ha,hn⟩
  ·exact h.pos i hi (by omega)
 ·by_cases e:keyX zs xs[i]=keyX zs xs[m]
  ·exact⟨_,insF_mem.2 (.inr rfl),e.symm⟩
  ·have hne:i≠m:=fun e2=>e (by subst e2;rfl)
   obtain⟨c,hc,hk⟩:=h.cell i hi (by omega)
   exact⟨c,insF_mem.2 (.inl ((hdm c).2 ⟨hc,by rw[hk];exact e⟩)),hk⟩
 ·rcases insF_mem.1 hc with hc | rfl
  ·obtain⟨hc1,hc2⟩:=(hdm c).1 hc
   have hne:i≠m:=fun e2=>hc2 (by subst e2;exact hk)
   exact h.val c hc1 i hi (by omega) hk
  ·have hk2:keyX zs xs[m]=keyX zs xs[i]:=hk
   show evL zs xs[m].v=_
   by_cases e:i=m
   ·subst e;rfl
   ·exact(hold i hi (by omega) hk2.symm).symm
 ·show tot (joinD _) k=_
  have:=j3 k
  unfold joinD
  rw[this,tot_append,h.sum k,List.take_succ_eq_append_getElem hm,List.map_append,tot_append]
  simp[tot]
theorem tot_str:∀ {l:List HC},Str l→(∀c∈l,c.v≤64)→∀k,tot l k≤64
 | [],_,_,k=>by simp[tot]
 | x :: l,hs,hv,k=>by
   show(if hkey x=k then x.v else 0)+tot l k≤64
   split
   ·rename_i e
    have:=tot_none (l:=l) (k:=k) (by rw[←e];exact str_not hs)
    have:=hv x (by simp)
    omega
   ·have:=tot_str (List.pairwise_cons.1 hs).2 (fun c hc=>hv c (by simp[hc])) k
    omega
theorem tot_ge0:∀ {l:List HC},(∀c∈l,0≤c.v)→∀k,0≤tot l k
 | [],_,k=>by simp[tot]
 | x :: l,hv,k=>by
   have:=tot_ge0 (fun c hc=>hv c (by simp[hc])) k (l:=l)
   have:=hv x (by simp)
   show 0≤(if hkey x=k then x.v else 0)+tot l k
   split<;>omega
theorem tot_ge1:∀ {l:List HC},(∀c∈l,0≤c.v)→∀j (h:j<l.length) k,hkey l[j]=k→l[j].v≤tot l k
 | x :: l,hv,0,_,k,hk=>by
   have:=tot_ge0 (fun c hc=>hv c (by simp[hc])) k (l:=l)
   have hk':hkey x=k:=hk
   show x.v≤(if hkey x=k then x.v else 0)+tot l k
   rw[if_pos hk']
   omega
 | x :: l,hv,j+1,h,k,hk=>by
   have hj:j<l.length:=by simpa using h
   have:=tot_ge1 (fun c hc=>hv c (by simp[hc])) j hj k hk (l:=l)
   have:=hv x (by simp)
   show l[j].v≤(if hkey x=k then x.v else 0)+tot l k
   split<;>omega
theorem tot_ge2:∀ {l:List HC},(∀c∈l,0≤c.v)→∀i j (hi:i<j) (h:j<l.length) k,hkey (l[i]'(by omega))=k→hkey l[j]=k→(l[i]'(by omega)).v+l[j].v≤tot l k
 | x :: l,hv,0,j+1,_,h,k,hk,hk2=>by
   have hj:j<l.length:=by simpa using h
   have hk':hkey x=k:=hk
   have:=tot_ge1 (fun c hc=>hv c (by simp[hc])) j hj k hk2 (l:=l)
   show x.v+l[j].v≤(if hkey x=k then x.v else 0)+tot l k
   rw[if_pos hk']
   omega
 | x :: l,hv,i+1,j+1,hij,h,k,hk,hk2=>by
   have hj:j<l.length:=by simpa using h
   have hij2:i<l.length:=by omega
   have:=tot_ge2 (fun c hc=>hv c (by simp[hc])) i j (by omega) hj k hk hk2 (l:=l)
   have:=hv x (by simp)
   show l[i].v+l[j].v≤(if hkey x=k then x.v else 0)+tot l k
   split<;>omega
theorem HInv.pair {zs:List Int}{xs:List CK}{hs ss:List HC}(h:HInv zs xs xs.length hs ss)(h64:∀c∈ss,c.v≤64){i j:Nat}(hij:i<j)(hj:j<xs.length)(hf:(xs[i]'(by omega)).f=xs[j].f)(he:evL zs (xs[i]'(by omega)).a=evL zs xs[j].a):¬(64<(xs[i]'(by omega)).n+xs[j].n)∧evL zs (xs[i]'(by omega)).v=evL zs xs[j].v:=by
 have hi:i<xs.length:=by omega
 have hk:keyX zs xs[i]=keyX zs xs[j]:=by unfold keyX;rw[hf,he]
 constructor
 ·have ht:=tot_str h.str h64 (keyX zs xs[j])
  rw[h.sum,List.take_length]at ht
  have hg:=tot_ge2 (l:=xs.map (shX zs)) (fun c hc=>by
   obtain⟨x,hx,rfl⟩:=List.mem_map.1 hc
   obtain⟨q,hq,rfl⟩:=List.getElem_of_mem hx
   have:=(h.pos q hq hq).2
   show 0≤xs[q].n
   omega) i j hij (by simpa using hj) (keyX zs xs[j]) (by simp only[List.getElem_map];exact hk) (by simp only[List.getElem_map];rfl)
  simp only[List.getElem_map]at hg
  have hg2:xs[i].n+xs[j].n≤tot (xs.map (shX zs)) (keyX zs xs[j]):=hg
  omega
 ·obtain⟨c,hc,hkc⟩:=h.cell i hi hi
  rw[←h.val c hc i hi hi hkc,←h.val c hc j hj hj (hkc.trans hk)]
theorem HInv.fact {zs:List Int}{xs:List CK}{hs ss:List HC}(h:HInv zs xs xs.length hs ss)(h64:∀c∈ss,c.v≤64){m:Nat}(hm:m<xs.length)(h0:(factsK (xs.take m) xs[m]).2=0){f:Lf.FT}(hf:f∈(factsK (xs.take m) xs[m]).1)(hv:(Lf.fvN zs 3 f).2=0):(Lf.fvN zs 3 f).1=true:=by
 refine facts_true (h.pos m hm hm).1 (fun o ho e1 e2=> ?_) h0 hf hv
 obtain⟨q,hq,rfl⟩:=List.getElem_of_mem ho
 rw[List.length_take]at hq
 rw[List.getElem_take]at e1 e2⊢
 exact h.pair h64 (by omega) hm e1 e2
end
section
open Go.RowKit
theorem SRow.lies {B:Nat}{xs:List HC}{v:Value}{w:World}(h:SRow B xs v w):∃a cap,v= .slice a xs.length cap∧xs.length≤cap∧cap≤9223372036854775807∧HLies w.heap.size w a xs:=by
 obtain⟨a,cap,e,h3,h4,h5,_⟩:=own_hlies rfl h
 exact⟨a,cap,e,h3,h4,h5⟩
theorem addD_len (s:HC):∀(d:Bool) (l:List HC),(addD s d l).length≤l.length+1
 | d,[]=>by unfold addD;split<;>simp
 | d,x :: l=>by
   unfold addD
   split
   ·have:=addD_len s true l;simp;omega
   ·split
    ·rename_i h1 h2
     have h3:∀m:List HC,(addD s true m).length=m.length:=fun m=>by
      induction m with
      | nil=>simp[addD]
      | cons y m ih=>
        unfold addD
        split
        ·simp[ih]
        ·rw[if_neg (by simp)];simp[ih]
     simp[h3]
    ·have:=addD_len s d l;simp;omega
theorem addD_bound {s:HC}{b c:Int}(hb:0≤b)(hc:0≤c)(hs: -c≤s.v∧s.v≤c):∀(d:Bool) (l:List HC),BoundV l b→BoundV (addD s d l) (b+c)
 | d,[],_=>by
   unfold addD
   split
   ·intro x hx;cases hx
   ·intro x hx
    rw[List.mem_singleton.1 hx];omega
 | d,x :: l,h=>by
   have hx:=h x List.mem_cons_self
   have hl:BoundV l b:=fun y hy=>h y (List.mem_cons_of_mem _ hy)
   unfold addD
   split
   ·intro y hy
    rcases List.mem_cons.1 hy with rfl | hy
    ·show -(b+c)≤x.v+s.v∧x.v+s.v≤b+c
     omega
    ·exact addD_bound hb hc hs true l hl y hy
   ·split
    ·intro y hy
     rcases List.mem_cons.1 hy with rfl | hy
     ·omega
     ·rcases List.mem_cons.1 hy with rfl | hy
      ·omega
      ·exact addD_bound hb hc hs true l hl y hy
    ·intro y hy
     rcases List.mem_cons.1 hy with rfl | hy
     ·omega
     ·exact addD_bound hb hc hs d l hl y hy
theorem joinD_snoc (zs:List HC)(c:HC):joinD (zs ++ [c])=addD c false (joinD zs):=by
 unfold joinD
 rw[List.foldl_append]
 rfl
theorem fold_len:∀(zs l:List HC),(zs.foldl (fun l s=>addD s false l) l).length≤l.length+zs.length
 | [],l=>by simp
 | z :: zs,l=>by
   have h1:=fold_len zs (addD z false l)
   have h2:=addD_len z false l
   show(zs.foldl _ (addD z false l)).length≤_
   simp only[List.length_cons]
   omega
theorem joinD_len (zs:List HC):(joinD zs).length≤zs.length:=by
 have:=fold_len zs []
 simpa [joinD]using this
theorem fold_bound {c:Int}(hc:0≤c):∀(zs l:List HC) (b:Int),0≤b→BoundV l b→BoundV zs c→BoundV (zs.foldl (fun l s=>addD s false l) l) (b+zs.length*c)
 | [],l,b,hb,hl,_=>by simpa using hl
 | z :: zs,l,b,hb,hl,hz=>by
   have h1:=addD_bound (s:=z) hb hc (hz z List.mem_cons_self) false l hl
   have h2:=fold_bound hc zs (addD z false l) (b+c) (by omega) h1 (fun y hy=>hz y (List.mem_cons_of_mem _ hy))
   have e:b+((z :: zs).length:Int)*c=b+c+(zs.length:Int)*c:=by
    rw[List.length_cons,Int.natCast_add,Int.add_mul];simp;omega
   rw[e]
   exact h2
end
section
open Go.RowKit
theorem joinD_bound2 {zs:List HC}(h:BoundV zs 17592186044416)(hl:zs.length≤200):BoundV (joinD zs) 3518437208883200:=fun c hc=>by
 have:=fold_bound (c:=17592186044416) (by omega) zs [] 0 (by omega) (fun x hx=>by cases hx) h c hc
 have h2:((zs.length:Nat):Int)*17592186044416≤200*17592186044416:=by omega
 omega
theorem rjoin_any2 (xs ys:List HC)(ad:Option Addr)(n cap:Nat)(ad2:Option Addr)(n2 cap2:Nat)(w:World)(hn:xs.length=n)(hn2:ys.length=n2)(hnm:n≤100)(hnm2:n2≤100)(hbd:BoundV (xs ++ ys) 17592186044416)(hl:HLies w.heap.size w ad xs)(hl2:HLies w.heap.size w ad2 ys):
 Calls Tryz.prog 26 #[.slice ad n cap,.slice ad2 n2 cap2] w (SRowEnd (joinD (xs ++ ys)) w):=by
 have HL:=Lib.hid hl
 have HL2:=Lib.hid hl2
 have HN:=Lib.hid hn
 have HN2:=Lib.hid hn2
 have HBD:=Lib.hid hbd
 have HADD:Hid (∀(zs:List HC) (c:HC) (a:Option Addr) (k cap:Nat) (W:World),BoundV zs 17592186044416→zs.length≤200→(-17592186044416≤c.v∧c.v≤17592186044416)→(joinD zs).length=k→HLies W.heap.size W a (joinD zs)→Calls Tryz.prog 50 #[.slice a k cap,.agg #[.int .i64 c.a,.string c.f,.int .i64 c.v]] W (SRowEnd (joinD (zs ++ [c])) W)):=fun zs c a k cap W h1 h2 h3 h4 h5=>by
  have:=joinD_len zs
  rw[joinD_snoc]
  exact add_any (joinD zs) c a k cap W h4 (by omega) h5 (fun x hx=>by
   have:=joinD_bound2 h1 h2 x hx
   omega)
 clear hl hl2 hn hn2 hbd
 go_enter Tryz.func26,Tryz.ntmps26
 go_wp2_with fail
 go_loopw [5,6] (fun o i wr=>∃k:Nat,i= .int .i64 k∧k≤n∧Hid (SRow w.heap.size (joinD (xs.take k)) o wr)∧Hid (Below w.heap.size w wr)) (fun _ i _=>n - (intOf i).toNat)
 case atStart=>exact⟨0,rfl,Nat.zero_le _,SRow.nil _ _,Below.refl _ _⟩
 case round=>
  obtain⟨k,rfl,hk,hrow,hb⟩:=hrel
  by_cases hlt:k<n
  ·have hlti:(k:Int)<(n:Int):=by omega
   obtain⟨b3,off3,rfl,hb3,c1,c2,c3⟩:=HL.out k (by rw[HN.out];exact hlt)
   have q1:=(hb.out.cell (p:=⟨b3,_,none⟩) hb3).trans c1
   have q2:=(hb.out.cell (p:=⟨b3,_,none⟩) hb3).trans c2
   have q3:=(hb.out.cell (p:=⟨b3,_,none⟩) hb3).trans c3
   obtain⟨oa,ocap,rfl,_,_,hol⟩:=hrow.out.lies
   have HC:Hid (Calls Tryz.prog 50 #[.slice oa (joinD (xs.take k)).length ocap,.agg #[.int .i64 (xs.getD k hc0).a,.string (xs.getD k hc0).f,.int .i64 (xs.getD k hc0).v]] wr (SRowEnd (joinD (xs.take (k+1))) wr)):=by
    have h9:k<xs.length:=by rw[HN.out];exact hlt
    have:=HADD.out (xs.take k) (xs.getD k hc0) oa _ ocap wr (fun c hc=>HBD.out c (List.mem_append_left _ (List.mem_of_mem_take hc))) (by rw[List.length_take];omega) (HBD.out _ (List.mem_append_left _ (getD_memH h9))) rfl hol
    rw[←take_snocH xs k h9]at this
    exact this
   clear c1 c2 c3 hol hrow
   generalize xs.getD k hc0=x at q1 q2 q3 HC
   generalize (joinD (xs.take k)).length=ol at HC⊢
   obtain⟨xa,xf,xv⟩:=x
   simp only at q1 q2 q3
   go_wp2_with fail
   refine HC.out.mono ?_
   rintro e5 w5 ⟨v5,rfl,t1,t2⟩
   have HR5:Hid (SRow w.heap.size (joinD (xs.take (k+1))) v5 w5):=ownsRow_lower t1 hb.out.size
   have HB5:Hid (Below w.heap.size w w5):=hb.out.trans (t2.mono hb.out.size)
   clear t1 t2 HC hb
   go_wp2_with fail
   go_roundw
   case rel=>exact⟨k+1,by go_num,by omega,HR5,HB5⟩
   case measure=>simp[intOf];omega
  ·have hlti:¬(k:Int)<(n:Int):=by omega
   have HR0:Hid (SRow w.heap.size (joinD (xs ++ ys.take 0)) u5 wr):=by
    have:=hrow.out
    rw[List.take_of_length_le (by rw[HN.out];omega)]at this
    show SRow _ _ _ _
    rw[List.take_zero,List.append_nil]
    exact this
   clear hrow
   go_wp2_with fail
   go_loopw [5,7] (fun o i wr=>∃k:Nat,i= .int .i64 k∧k≤n2∧Hid (SRow w.heap.size (joinD (xs ++ ys.take k)) o wr)∧Hid (Below w.heap.size w wr)) (fun _ i _=>n2 - (intOf i).toNat)
   case atStart=>exact⟨0,rfl,Nat.zero_le _,HR0,hb⟩
   case round=>
    clear HR0 hb
    obtain⟨k2,rfl,hk2,hrow,hb⟩:=hrel
    by_cases hlt2:k2<n2
    ·have hlti2:(k2:Int)<(n2:Int):=by omega
     obtain⟨b3,off3,rfl,hb3,c1,c2,c3⟩:=HL2.out k2 (by rw[HN2.out];exact hlt2)
     have q1:=(hb.out.cell (p:=⟨b3,_,none⟩) hb3).trans c1
     have q2:=(hb.out.cell (p:=⟨b3,_,none⟩) hb3).trans c2
     have q3:=(hb.out.cell (p:=⟨b3,_,none⟩) hb3).trans c3
     obtain⟨oa,ocap,rfl,_,_,hol⟩:=hrow.out.lies
     have HC:Hid (Calls Tryz.prog 50 #[.slice oa (joinD (xs ++ ys.take k2)).length ocap,.agg #[.int .i64 (ys.getD k2 hc0).a,.string (ys.getD k2 hc0).f,.int .i64 (ys.getD k2 hc0).v]] wr (SRowEnd (joinD (xs ++ ys.take (k2+1))) wr)):=by
      have h9:k2<ys.length:=by rw[HN2.out];exact hlt2
      have h8:xs.length≤100:=by rw[HN.out];exact hnm
      have:=HADD.out (xs ++ ys.take k2) (ys.getD k2 hc0) oa _ ocap wr (fun c hc=>(List.mem_append.1 hc).elim (fun h=>HBD.out c (List.mem_append_left _ h)) (fun h=>HBD.out c (List.mem_append_right _ (List.mem_of_mem_take h)))) (by rw[List.length_append,List.length_take];omega) (HBD.out _ (List.mem_append_right _ (getD_memH h9))) rfl hol
      rw[List.append_assoc,←take_snocH ys k2 h9]at this
      exact this
     clear c1 c2 c3 hol hrow
     generalize ys.getD k2 hc0=x at q1 q2 q3 HC
     generalize (joinD (xs ++ ys.take k2)).length=ol at HC⊢
     obtain⟨xa,xf,xv⟩:=x
     simp only at q1 q2 q3
     go_wp2_with fail
     refine HC.out.mono ?_
     rintro e5 w5 ⟨v5,rfl,t1,t2⟩
     have HR5:Hid (SRow w.heap.size (joinD (xs ++ ys.take (k2+1))) v5 w5):=ownsRow_lower t1 hb.out.size
     have HB5:Hid (Below w.heap.size w w5):=hb.out.trans (t2.mono hb.out.size)
     clear t1 t2 HC hb
     go_wp2_with fail
     go_roundw
     case rel=>exact⟨k2+1,by go_num,by omega,HR5,HB5⟩
     case measure=>simp[intOf];omega
    ·have hlti2:¬(k2:Int)<(n2:Int):=by omega
     have HE:Hid (SRowEnd (joinD (xs ++ ys)) w (.returned u5) wr):=by
      have:=hrow.out
      rw[List.take_of_length_le (by rw[HN2.out];omega)]at this
      exact⟨_,rfl,this,hb.out⟩
     clear hrow hb
     go_wp2_with fail
     go_ret
     exact HE.out
def valL (zs:List Int)(x:LT):Int×Int:=if Lf.snd x.1 x.2=true then(if ∀i,i<x.2.length→Lf.near x.2 zs i=true then(evL zs x,0) else(0,1)) else(0,5)
theorem valL_ok {zs:List Int}{x:LT}(h:(valL zs x).2=0):(valL zs x).1=evL zs x:=by
 unfold valL at h⊢
 split at h
 ·rename_i h1
  rw[if_pos h1]
  split at h
  ·rename_i h2
   rw[if_pos h2]
  ·exact absurd h (by decide)
 ·exact absurd h (by decide)
theorem rval_fn (zs:List Int)(x:LT)(a:Option Addr)(cap:Nat)(a2:Option Addr)(n2 cap2:Nat)(w:World)(hm:x.2.length≤9223372036854775807)(hn2:zs.length=n2)(hm2:n2≤9223372036854775807)(hl:Lf.Lies w.heap.size w a x.2)(hz:Lf.Nums w.heap.size w a2 zs):
 Calls Tryz.prog 20 #[.agg #[.int .i64 x.1,.slice a x.2.length cap],.slice a2 n2 cap2] w fun e w'=>e= .returned (.tuple #[.int .i64 (valL zs x).1,.int .i64 (valL zs x).2])∧Below w.heap.size w w':=by
 unfold valL
 split
 ·rename_i hs
  split
  ·rename_i hn
   refine Lf.rvalue_any x.1 a _ cap x.2 a2 n2 cap2 zs w rfl hn2 hm2 hl hz hs _ _ (.inl ⟨?_,rfl,hn⟩)
   rw[sAt_ev]
   rfl
  ·rename_i hn
   exact Lf.rvalue_any x.1 a _ cap x.2 a2 n2 cap2 zs w rfl hn2 hm2 hl hz hs _ _ (.inr ⟨rfl,rfl,hn⟩)
 ·rename_i hs
  exact Lf.rvalue_form x.1 a _ cap x.2 a2 n2 cap2 w rfl hm hl (by simpa using hs)
theorem sits_take {T:Type}{sh:Pak.Sh T}{S:Nat→Prop}{w:World}{a:Option Addr}{xs:List T}(h:Pak.Sits sh S w a xs)(m:Nat):Pak.Sits sh S w a (xs.take m):=
 ⟨by rw[List.length_take];exact Nat.le_trans (Nat.min_le_right _ _) h.1,fun i hi=>by
   have h2:i<xs.length:=by rw[List.length_take]at hi;omega
   rw[List.getElem_take]
   exact h.2 i h2⟩
theorem tot_one:∀ {l:List HC},Str l→∀c∈l,tot l (hkey c)=c.v
 | x :: l,hs,c,hc=>by
   rcases List.mem_cons.1 hc with rfl | hc
   ·show(if hkey c=hkey c then c.v else 0)+tot l (hkey c)=c.v
    rw[if_pos rfl,tot_none (str_not hs)]
    omega
   ·show(if hkey x=hkey c then x.v else 0)+tot l (hkey c)=c.v
    rw[tot_one (List.pairwise_cons.1 hs).2 c hc,if_neg (fun e=>str_not hs (by rw[e];exact⟨c,hc,rfl⟩))]
    omega
theorem tot_le {M:Int}:∀ {l:List HC},(∀c∈l,0≤c.v∧c.v≤M)→∀k,0≤tot l k∧tot l k≤l.length*M
 | [],_,k=>by simp[tot]
 | x :: l,hv,k=>by
   have h1:=tot_le (fun c hc=>hv c (by simp[hc])) k (l:=l)
   have h2:=hv x (by simp)
   have h3:(((x :: l).length:Nat):Int)*M=(l.length:Int)*M+M:=by
    rw[List.length_cons,Int.natCast_add,Int.add_mul]
    simp
   rw[h3]
   show 0≤(if hkey x=k then x.v else 0)+tot l k∧(if hkey x=k then x.v else 0)+tot l k≤_
   split<;>omega
theorem HInv.bound {zs:List Int}{xs:List CK}{m:Nat}{hs ss:List HC}(h:HInv zs xs m hs ss)(hN:∀x∈xs,x.n≤1099511627776)(hm:m≤12):BoundV ss 17592186044416:=fun c hc=>by
 have h1:=tot_one h.str c hc
 rw[h.sum]at h1
 have h2:=tot_le (M:=1099511627776) (l:=(xs.take m).map (shX zs)) (fun d hd=>by
  obtain⟨x,hx,rfl⟩:=List.mem_map.1 hd
  obtain⟨q,hq,rfl⟩:=List.getElem_of_mem hx
  rw[List.length_take]at hq
  have h3:=(h.pos q (by omega) (by omega)).2
  have h4:=hN xs[q] (List.getElem_mem (by omega))
  rw[List.getElem_take]
  show 0≤xs[q].n∧xs[q].n≤_
  omega) (hkey c)
 rw[List.length_map,List.length_take]at h2
 omega
theorem insF_len (rs:List HC)(c:HC):(insF rs c).length≤2*rs.length+1:=by
 have:=insTo_len rs c rs.length
 unfold insF
 split
 ·omega
 ·rw[List.length_append]
  simp
  omega
end
section
open Go.RowKit
def SlH (xs:List HC)(v:Value)(w:World):Prop:=∃a cap,v= .slice a xs.length cap∧HLies w.heap.size w a xs
theorem SlH.up {xs:List HC}{v:Value}{w w':World}(h:SlH xs v w)(hb:Below w.heap.size w w'):SlH xs v w':=by
 obtain⟨a,cap,e,hl⟩:=h
 exact⟨a,cap,e,hl.up hb⟩
theorem SlH.nil (w:World):SlH [] (.slice none 0 0) w:=⟨none,0,rfl,fun i hi=>absurd hi (Nat.not_lt_zero i)⟩
theorem factsK_len0 (xs:List CK)(c:CK):(factsK xs c).1.length≤xs.length+1:=by
 unfold factsK
 split
 ·split
  ·simp
  ·split
   ·have:=factsTo_len c xs xs.length
    simp only[List.length_cons]
    omega
   ·simp
 ·simp
theorem chunkHolds_any (hup:UpSaid20)(la:Option Addr)(ln lcap:Nat)(xs:List CK)(ua:Option Addr)(un ucap:Nat)(zs:List Int)(w:World)(hm:xs.length=ln)(hs:Pak.Sits ckSh (Pak.Lo w.heap.size) w la xs)(hb:∀x∈xs,x.a.2.length*16≤140737488355328∧x.v.2.length*16≤140737488355328)(hun:zs.length=un)(hum:un≤9223372036854775807)(hcap:ln≤lcap∧lcap≤9223372036854775807)(hz:Lf.Nums w.heap.size w ua zs)(hL:Laid w):
 Calls Tryz.prog 5 #[.slice la ln lcap,.slice ua un ucap] w fun e w'=>e= .returned (.bool true)∧Below w.heap.size w w':=by
 have n1:=fun W=>Tryz.neNil W
 have n2:=fun t v W=>Tryz.neIface t v W
 have n3:=fun W=>Tryz.eqNil W
 have n4:=fun t v W=>Tryz.eqIface t v W
 have HUP:=Lib.hid (hup w hL)
 have HLI:=Lib.hid (fun W (hW:Below w.heap.size w W)=>light_any la ln lcap xs W (hs.below hW hW.size) hm)
 have HVL:=Lib.hid (fun(x:LT) (a:Option Addr) (k:Nat) W (hW:Below w.heap.size w W) (hlen:x.2.length≤9223372036854775807) (hl:Lf.Lies W.heap.size W a x.2)=>rval_fn zs x a k ua un ucap W hlen hun hum hl ((hz.below hW).mono hW.size))
 have HFV:=Lib.hid (fun(f:Lf.FT) (cs:List Value) W (hW:Below w.heap.size w W) (hl:Lf.FLies W.heap.size W 3 f cs)=>Lf.fvalue_any 3 f cs ua un ucap zs W hl hun ((hz.below hW).mono hW.size))
 have HS:=Lib.hid hs
 have HBD:=Lib.hid hb
 have HM:=Lib.hid hm
 clear hup hs hb hL hm hun hz
 go_enter Tryz.func5,Tryz.ntmps5
 go_wp2_with fail
 refine HUP.out.mono ?_
 rintro r w1 ⟨rfl,hb1⟩
 have W1:=Lib.hid hb1
 clear hb1 HUP
 go_wp2_with fail
 refine(HLI.out w1 W1.out).mono ?_
 rintro r w1' ⟨b,rfl,hbn,rfl⟩
 have HBN:=Lib.hid hbn
 clear hbn HLI
 cases b with
 | false=>
   go_wp2_with fail
   go_ret
   exact⟨rfl,W1.out⟩
 | true=>
   by_cases h12:12<ln
   ·have h12i:(12:Int)<(ln:Int):=by omega
    go_wp2_with fail
    go_ret
    exact⟨rfl,W1.out⟩
   have h12i:¬(12:Int)<(ln:Int):=by omega
   obtain⟨_,hN2⟩:=HBN.out rfl
   have HNB:=Lib.hid hN2
   have hln12:ln≤12:=by omega
   clear hN2 HBN h12
   go_wp2_with fail
   clear h12i
   go_loopw [7,8,9] (fun vh vs i wr=>∃(m:Nat) (hs ss:List HC),i= .int .i64 m∧m≤ln∧Hid (HInv zs xs m hs ss)∧Hid (SlH hs vh wr)∧Hid (SlH ss vs wr)∧Hid (hs.length+1≤2 ^ m)∧Hid (ss.length≤m)∧Hid (Below w.heap.size w wr)) (fun _ _ i _=>ln - (intOf i).toNat)
   case atStart=>exact⟨0,[],[],rfl,Nat.zero_le _,HInv.zero zs xs,SlH.nil _,SlH.nil _,Nat.le_refl _,Nat.le_refl _,W1.out⟩
   case round=>
    obtain⟨m,hs,ss,rfl,hm,hinv,hsh,hss,hlh,hls,hb⟩:=hrel
    by_cases hlt:m<ln
    ·have hmi:(m:Int)<(ln:Int):=by omega
     have hmx:m<xs.length:=by rw[HM.out];exact hlt
     obtain⟨gl,ol,rfl,hgl,HEL⟩:=ck_cells HS.out (by omega)
     obtain⟨o,a1,k1,a2,k2,hox,hc0⟩:∃o a1 k1 a2 k2,xs[m]'hmx=o∧CkAt w.heap.size w gl (ol+m*6) o a1 k1 a2 k2:=by
      obtain⟨a1,k1,a2,k2,h⟩:=HEL m hmx
      exact⟨_,a1,k1,a2,k2,rfl,h⟩
     have hmem:o∈xs:=by rw[←hox];exact List.getElem_mem hmx
     have HCA:=Lib.hid (fun W (hW:Below w.heap.size w W)=>hc0.below hW hgl (Nat.le_refl _))
     have HO:=Lib.hid (HBD.out o hmem)
     have HON:=Lib.hid (HNB.out o hmem)
     have HST:=Lib.hid (fun ha hn {old} {has} hg ho=>by rw[←hox]at ha hn hg ho⊢;exact hinv.out.step hmx ha hn (old:=old) (has:=has) hg ho:1≤evL zs o.a→1≤o.n→∀ {old:Int} {has:Bool},RGetIs hs (keyX zs o) old has→(has=true→old=evL zs o.v)→HInv zs xs (m+1) (insF (dropL hs (keyX zs o)) ⟨evL zs o.a,o.f,evL zs o.v⟩) (joinD (ss ++ [shX zs o])))
     have HBO:Hid (BoundV ss 17592186044416):=Lib.hid (hinv.out.bound (fun x hx=>(HNB.out x hx).2) (by omega))
     have HH:=Lib.hid hsh.out
     have HSS:=Lib.hid hss.out
     have HB:=Lib.hid hb.out
     have HLH:=Lib.hid hlh.out
     have HLS:=Lib.hid hls.out
     have hca:=HCA.out wr hb.out
     have c0:=hca.c0
     have c1:=hca.c1
     have F:=Lib.hid (HVL.out o.a a1 k1 wr HB.out (by have:=HO.out;omega) (hca.la.mono HB.out.size))
     clear hc0 hca hinv hsh hss hlh hls hb HEL hmem hox hgl
     go_wp2_with fail
     refine F.out.mono ?_
     rintro r w2 ⟨rfl,hb2⟩
     have W2:=Lib.hid (HB.out.trans (hb2.mono HB.out.size))
     have H2:=Lib.hid (HH.out.up hb2)
     have S2:=Lib.hid (HSS.out.up hb2)
     clear hb2 F c0 c1 HH HSS HB
     have hca:=HCA.out w2 W2.out
     have c4:=hca.c4
     have c5:=hca.c5
     have F:=Lib.hid (HVL.out o.v a2 k2 w2 W2.out (by have:=HO.out;omega) (hca.lv.mono W2.out.size))
     clear hca
     go_wp2_with fail
     refine F.out.mono ?_
     rintro r w3 ⟨rfl,hb3⟩
     have W3:=Lib.hid (W2.out.trans (hb3.mono W2.out.size))
     have H3:=Lib.hid (H2.out.up hb3)
     have S3:=Lib.hid (S2.out.up hb3)
     clear hb3 F c4 c5 H2 S2 W2
     have hca:=HCA.out w3 W3.out
     have c2:=hca.c2
     have c3:=hca.c3
     clear hca
     by_cases hra:(valL zs o.a).2=0
     case neg=>
      have e1:((valL zs o.a).2 != 0)=true:=by simpa using hra
      go_wp2_with fail
      go_ret
      exact⟨rfl,W3.out⟩
     by_cases hrv:(valL zs o.v).2=0
     case neg=>
      have e1:((valL zs o.a).2 != 0)=false:=by simp[hra]
      have e2:((valL zs o.v).2 != 0)=true:=by simpa using hrv
      go_wp2_with fail
      go_ret
      exact⟨rfl,W3.out⟩
     have e1:((valL zs o.a).2 != 0)=false:=by simp[hra]
     have e2:((valL zs o.v).2 != 0)=false:=by simp[hrv]
     by_cases hva:(valL zs o.a).1<1
     ·go_wp2_with fail
      go_ret
      exact⟨rfl,W3.out⟩
     by_cases hon:o.n<1
     ·go_wp2_with fail
      go_ret
      exact⟨rfl,W3.out⟩
     have EA:=Lib.hid (valL_ok hra)
     have EV:=Lib.hid (valL_ok hrv)
     have HPA:Hid (1≤evL zs o.a∧1≤o.n):=Lib.hid (by rw[←EA.out];omega)
     obtain⟨ha,hk,rfl,hhl⟩:=H3.out
     have HLH30:Hid (hs.length≤30000):=Lib.hid (by have:=HLH.out;have h2:(2:Nat) ^ m≤2 ^ 12:=Nat.pow_le_pow_right (by omega) (by omega);have h3:(2:Nat) ^ 12=4096:=(by decide);omega)
     have F:=Lib.hid (rget_any hs ha _ hk (valL zs o.a).1 o.f w3 rfl (by have:=HLH30.out;omega) hhl)
     have HH3:=Lib.hid hhl
     clear hhl H3 hra hrv
     go_wp2_with fail
     refine F.out.mono ?_
     rintro r w4 ⟨old,has,rfl,hg,hb4⟩
     have HG:Hid (RGetIs hs (keyX zs o) old has):=Lib.hid (by have h:=hg;rw[EA.out]at h;exact h)
     have W4:=Lib.hid (W3.out.trans (hb4.mono W3.out.size))
     have HH4:=Lib.hid (HH3.out.up hb4)
     have S4:=Lib.hid (S3.out.up hb4)
     clear hg hb4 F HH3 S3 W3 c2 c3 e1 e2 hva hon
     have key:has=false∨(has=true∧(old != (valL zs o.v).1)=false)∨(has=true∧(old != (valL zs o.v).1)=true):=by
      cases has
      ·exact .inl rfl
      ·cases h:(old != (valL zs o.v).1)
       ·exact .inr (.inl ⟨rfl,rfl⟩)
       ·exact .inr (.inr ⟨rfl,rfl⟩)
     rcases key with rfl | ⟨rfl,e3⟩ | ⟨rfl,e3⟩
     ·have HSTEP:=Lib.hid (HST.out HPA.out.1 HPA.out.2 HG.out (fun h=>by cases h))
      have F:=Lib.hid (rset_any hs ha _ hk (valL zs o.a).1 o.f (valL zs o.v).1 w4 rfl HLH30.out HH4.out)
      rw[EA.out,EV.out]at F
      have hca:=HCA.out w4 W4.out
      have c2:=hca.c2
      clear hca HG
      go_wp2_with fail
      rw[EA.out,EV.out]
      refine F.out.mono ?_
      rintro r w5 ⟨v5,rfl,hrow5,hb5⟩
      obtain⟨a5,k5,rfl,_,_,hl5⟩:=hrow5.lies
      have W5:=Lib.hid (W4.out.trans (hb5.mono W4.out.size))
      have HL5:=Lib.hid hl5
      obtain⟨sa,sk,rfl,hsl⟩:=S4.out.up hb5
      have HSL:=Lib.hid hsl
      have HD5:Hid (Below w5.heap.size w5 (w5.alloc (.cells #[.int .i64 (evL zs o.a),.string o.f,.int .i64 o.n] 77)).drew):=Lib.hid (box_low (w:=w5)).drew
      have HJ:=Lib.hid (rjoin_any2 ss [shX zs o] sa _ sk (some ⟨w5.heap.size,0,none⟩) 1 1 (w5.alloc (.cells #[.int .i64 (evL zs o.a),.string o.f,.int .i64 o.n] 77)).drew rfl rfl (by have:=HLS.out;omega) (by decide) (fun c hc=>by
       rcases List.mem_append.1 hc with h | h
       ·exact HBO.out c h
       ·obtain rfl:c=shX zs o:=by simpa using h
        have:=HON.out
        unfold NB at this
        show -17592186044416≤o.n∧o.n≤17592186044416
        omega) (hsl.up HD5.out) (((hlies_new w5 [shX zs o] 77).below (Below.refl _ _).drew).mono (by show w5.heap.size+1≤(w5.alloc _).heap.size;simp)))
      have hca:=HCA.out w5 W5.out
      have c2:=hca.c2
      have c3:=hca.c3
      clear hca hrow5 hb5 hl5 hsl F S4 W4 HH4 HBO HON
      go_wp2_with fail
      go_region_with (go_at_call 26;refine HJ.out.mono ?_;rintro e w6 ⟨v6,rfl,hrow6,hb6⟩;obtain⟨a6,k6,rfl,_,_,hl6⟩:=hrow6.lies)
      all_goals (
       have HL6:=Lib.hid hl6
       have HB6:=Lib.hid (HD5.out.trans (hb6.mono HD5.out.size))
       have HBF:=Lib.hid (W5.out.trans (HB6.out.mono W5.out.size))
       have HH6:=Lib.hid (HL5.out.up HB6.out)
       clear hrow6 hb6 hl6 c2 c3 HJ
       go_wp2_with fail
       go_roundw
       case rel=>exact⟨m+1,_,_,by go_num,by omega,HSTEP,⟨_,_,rfl,HH6.out⟩,⟨_,_,rfl,HL6.out⟩,Lib.hid (by have h1:=insF_len (dropL hs (keyX zs o)) ⟨evL zs o.a,o.f,evL zs o.v⟩;have h2:=dropL_len hs (keyX zs o);have h3:=HLH.out;rw[Nat.pow_succ];omega),Lib.hid (by have h1:=joinD_len (ss ++ [shX zs o]);have h2:=HLS.out;rw[List.length_append,List.length_singleton]at h1;omega),HBF⟩
       case measure=>simp[intOf];omega)
     ·have HOE:Hid (old=evL zs o.v):=Lib.hid (by rw[←EV.out];simpa using e3)
      have HSTEP:=Lib.hid (HST.out HPA.out.1 HPA.out.2 HG.out (fun _=>HOE.out))
      have F:=Lib.hid (rset_any hs ha _ hk (valL zs o.a).1 o.f (valL zs o.v).1 w4 rfl HLH30.out HH4.out)
      rw[EA.out,EV.out]at F
      have hca:=HCA.out w4 W4.out
      have c2:=hca.c2
      clear hca HG
      go_wp2_with fail
      rw[EA.out,EV.out]
      refine F.out.mono ?_
      rintro r w5 ⟨v5,rfl,hrow5,hb5⟩
      obtain⟨a5,k5,rfl,_,_,hl5⟩:=hrow5.lies
      have W5:=Lib.hid (W4.out.trans (hb5.mono W4.out.size))
      have HL5:=Lib.hid hl5
      obtain⟨sa,sk,rfl,hsl⟩:=S4.out.up hb5
      have HSL:=Lib.hid hsl
      have HD5:Hid (Below w5.heap.size w5 (w5.alloc (.cells #[.int .i64 (evL zs o.a),.string o.f,.int .i64 o.n] 77)).drew):=Lib.hid (box_low (w:=w5)).drew
      have HJ:=Lib.hid (rjoin_any2 ss [shX zs o] sa _ sk (some ⟨w5.heap.size,0,none⟩) 1 1 (w5.alloc (.cells #[.int .i64 (evL zs o.a),.string o.f,.int .i64 o.n] 77)).drew rfl rfl (by have:=HLS.out;omega) (by decide) (fun c hc=>by
       rcases List.mem_append.1 hc with h | h
       ·exact HBO.out c h
       ·obtain rfl:c=shX zs o:=by simpa using h
        have:=HON.out
        unfold NB at this
        show -17592186044416≤o.n∧o.n≤17592186044416
        omega) (hsl.up HD5.out) (((hlies_new w5 [shX zs o] 77).below (Below.refl _ _).drew).mono (by show w5.heap.size+1≤(w5.alloc _).heap.size;simp)))
      have hca:=HCA.out w5 W5.out
      have c2:=hca.c2
      have c3:=hca.c3
      clear hca hrow5 hb5 hl5 hsl F S4 W4 HH4 HBO HON
      go_wp2_with fail
      go_region_with (go_at_call 26;refine HJ.out.mono ?_;rintro e w6 ⟨v6,rfl,hrow6,hb6⟩;obtain⟨a6,k6,rfl,_,_,hl6⟩:=hrow6.lies)
      all_goals (
       have HL6:=Lib.hid hl6
       have HB6:=Lib.hid (HD5.out.trans (hb6.mono HD5.out.size))
       have HBF:=Lib.hid (W5.out.trans (HB6.out.mono W5.out.size))
       have HH6:=Lib.hid (HL5.out.up HB6.out)
       clear hrow6 hb6 hl6 c2 c3 HJ
       go_wp2_with fail
       go_roundw
       case rel=>exact⟨m+1,_,_,by go_num,by omega,HSTEP,⟨_,_,rfl,HH6.out⟩,⟨_,_,rfl,HL6.out⟩,Lib.hid (by have h1:=insF_len (dropL hs (keyX zs o)) ⟨evL zs o.a,o.f,evL zs o.v⟩;have h2:=dropL_len hs (keyX zs o);have h3:=HLH.out;rw[Nat.pow_succ];omega),Lib.hid (by have h1:=joinD_len (ss ++ [shX zs o]);have h2:=HLS.out;rw[List.length_append,List.length_singleton]at h1;omega),HBF⟩
       case measure=>simp[intOf];omega)
     ·go_wp2_with fail
      go_ret
      exact⟨rfl,W4.out⟩
    ·obtain rfl:m=ln:=by omega
     have hlti:¬(m:Int)<(m:Int):=by omega
     have HI:Hid (HInv zs xs xs.length hs ss):=Lib.hid (by rw[HM.out];exact hinv.out)
     obtain⟨sa,sk,rfl,hsl⟩:=hss.out
     have HSL:=Lib.hid hsl
     have HB:=Lib.hid hb.out
     have hss12:ss.length≤12:=by have:=hls.out;omega
     clear hinv hsh hss hlh hls hb hsl
     go_wp2_with fail
     go_loopw [16] (fun i wr=>∃q:Nat,i= .int .i64 q∧q≤ss.length∧Hid (∀j,j<q→(ss.getD j hc0).v≤64)∧Hid (Below w.heap.size w wr)∧Hid (HLies wr.heap.size wr sa ss)) (fun i _=>ss.length - (intOf i).toNat)
     case atStart=>exact⟨0,rfl,Nat.zero_le _,fun j hj=>absurd hj (Nat.not_lt_zero j),HB,HSL⟩
     case round=>
      obtain⟨q,rfl,hq,h64,hb2,hl2⟩:=hrel
      clear HB HSL
      by_cases hlt2:q<ss.length
      ·have hqi:(q:Int)<(ss.length:Int):=by omega
       obtain⟨b3,off3,rfl,hb3,c1,c2,c3⟩:=hl2.out q hlt2
       generalize hsv:(ss.getD q hc0).v=sv at c3
       by_cases hv:64<sv
       ·clear c1 c2
        go_wp2_with fail
        go_ret
        exact⟨rfl,hb2.out⟩
       ·have HN:Hid (∀j,j<q+1→(ss.getD j hc0).v≤64):=Lib.hid fun j hj=>by
         by_cases e:j=q
         ·subst e;rw[hsv];omega
         ·exact h64.out j (by omega)
        clear c1 c2 h64 hsv
        go_wp2_with fail
        go_roundw
        case rel=>exact⟨q+1,by go_num,by omega,HN,hb2,hl2⟩
        case measure=>simp[intOf];omega
      ·obtain rfl:q=ss.length:=by omega
       have hlti2:¬(ss.length:Int)<(ss.length:Int):=by omega
       have HFACT:Hid (∀p (hp:p<xs.length),(factsK (xs.take p) xs[p]).2=0→∀f∈(factsK (xs.take p) xs[p]).1,(Lf.fvN zs 3 f).2=0→(Lf.fvN zs 3 f).1=true):=Lib.hid fun p hp h0 f hf hv=>HI.out.fact (fun c hc=>by
        obtain⟨j,hj,rfl⟩:=List.getElem_of_mem hc
        have:=h64.out j hj
        rwa [List.getD_eq_getElem?_getD,List.getElem?_eq_getElem hj]at this) hp h0 hf hv
       have HB:=Lib.hid hb2.out
       clear h64 hb2 hl2 HI
       go_wp2_with fail
       go_loopw [17] (fun i wr=>∃p:Nat,i= .int .i64 p∧p≤m∧Hid (Below w.heap.size w wr)) (fun i _=>m - (intOf i).toNat)
       case atStart=>exact⟨0,rfl,Nat.zero_le _,HB⟩
       case round=>
        obtain⟨p,rfl,hp,hb⟩:=hrel
        clear HB
        by_cases hlt3:p<m
        ·have hpi:(p:Int)<(m:Int):=by omega
         have hpc:(p:Int)≤(lcap:Int):=by have:=hcap.1;omega
         have hpx:p<xs.length:=by rw[HM.out];exact hlt3
         obtain⟨gl,ol,rfl,hgl,HEL⟩:=ck_cells HS.out (by omega)
         obtain⟨o,a1,k1,a2,k2,hox,hc0⟩:∃o a1 k1 a2 k2,xs[p]'hpx=o∧CkAt w.heap.size w gl (ol+p*6) o a1 k1 a2 k2:=by
          obtain⟨a1,k1,a2,k2,h⟩:=HEL p hpx
          exact⟨_,a1,k1,a2,k2,rfl,h⟩
         have hmem:o∈xs:=by rw[←hox];exact List.getElem_mem hpx
         have hca:=hc0.below hb.out hgl (Nat.le_refl _)
         have HD:Hid (Below w.heap.size w wr.drew):=Lib.hid hb.out.drew
         have hcd:=hc0.below HD.out hgl (Nat.le_refl _)
         have HF:=Lib.hid (facts_any (some ⟨gl,ol,none⟩) p lcap (xs.take p) o a1 a2 k1 k2 wr.drew (sits_take (HS.out.below HD.out HD.out.size) p) (by rw[List.length_take];omega) (by omega) (fun x hx=>HNB.out x (List.mem_of_mem_take hx)) (fun x hx=>HBD.out x (List.mem_of_mem_take hx)) ⟨hcd.la.mono HD.out.size,hcd.na,hcd.lv.mono HD.out.size,hcd.nv,hcd.hf,HNB.out o hmem,(HBD.out o hmem).1,(HBD.out o hmem).2⟩)
         have HFC:=Lib.hid (HFACT.out p hpx)
         rw[hox]at HFC
         have hfl:(factsK (xs.take p) o).1.length≤100:=by have h:=factsK_len0 (xs.take p) o;rw[List.length_take]at h;omega
         have c0:=hca.c0
         have c1:=hca.c1
         have c2:=hca.c2
         have c3:=hca.c3
         have c4:=hca.c4
         have c5:=hca.c5
         clear hc0 hca hcd HEL hmem hox hgl
         generalize factsK (xs.take p) o=fk at*
         obtain⟨fl,fe⟩:=fk
         dsimp only at*
         go_upto_region 27 with fail
         go_cut [18,19] (fun vf ve wx=>∃(af:Option Addr) (kf:Nat),vf= .slice af fl.length kf∧ve=erV fe∧Hid (Pak.Sits (frmSh 3) (Pak.Lo wx.heap.size) wx af fl)∧Hid (Below w.heap.size w wx))
         case first=>
          go_region_with (go_at_call 9;refine HF.out.mono ?_;rintro e w3 ⟨v3,rfl,hrow3,hb3⟩;obtain⟨af,kf,rfl,sf⟩:=hrow3.sits (by show fl.length≤_;omega))
          all_goals (
           have SF:=Lib.hid sf
           have BF:=Lib.hid (HD.out.trans (hb3.mono HD.out.size))
           clear sf hb3 hrow3
           go_wp2_with fail
           go_meet
           case rel=>exact⟨_,_,rfl,rfl,SF,BF⟩)
         case rest=>
         obtain⟨af,kf,rfl,rfl,SF,BF⟩:=hcut
         clear HF HD c0 c1 c2 c3 c4 c5
         by_cases hfe:fe=0
         ·rw[show erV fe= .nilIface from if_pos hfe]
          have HFT:=Lib.hid (HFC.out hfe)
          clear HFC hfe
          go_wp2_with fail
          go_loopw [20] (fun i wr=>∃q:Nat,i= .int .i64 q∧q≤fl.length∧Hid (Below w.heap.size w wr)∧Hid (Pak.Sits (frmSh 3) (Pak.Lo wr.heap.size) wr af fl)) (fun i _=>fl.length - (intOf i).toNat)
          case atStart=>exact⟨0,rfl,Nat.zero_le _,BF,SF⟩
          case round=>
           obtain⟨q4,rfl,hq4,hb4,hs4⟩:=hrel
           by_cases hlt4:q4<fl.length
           ·have hqi4:(q4:Int)<(fl.length:Int):=by omega
            obtain⟨b,off,rfl,hbb,HC⟩:=fm_cells hs4.out (by omega)
            obtain⟨c0,c1,c2,c3,⟨y0,y1,y2,y3⟩,hf⟩:=HC q4 hlt4
            obtain⟨ek,ec,eta,etn,etc,eka,ekn,ekc,rfl,rfl,rfl,rfl⟩:=(hf.lies (B:=wr.heap.size) (fun b hb=>hb)).form
            have HV:=Lib.hid (HFV.out fl[q4] _ wr hb4.out (hf.lies (B:=wr.heap.size) (fun b hb=>hb)))
            have HT:=Lib.hid (HFT.out fl[q4] (List.getElem_mem hlt4))
            have HB4:=Lib.hid hb4.out
            have HS4:=Lib.hid hs4.out
            clear HC hf hb4 hs4 hbb
            generalize Lf.fvN zs 3 fl[q4]=fv at HV HT
            obtain⟨fb,fc⟩:=fv
            dsimp only at HV HT
            go_wp2_with fail
            refine HV.out.mono ?_
            rintro r w5 ⟨rfl,hb5⟩
            have HB5:=Lib.hid (HB4.out.trans (hb5.mono HB4.out.size))
            have HS5:=Lib.hid (HS4.out.below hb5 hb5.size)
            clear hb5 HV HB4 HS4 y0 y1 y2 y3
            by_cases hfc:fc=0
            ·rw[show Lf.codeV fc= .nilIface from if_pos hfc]
             have hft:=HT.out hfc
             subst hft
             clear HT hfc
             go_wp2_with fail
             go_roundw
             case rel=>exact⟨q4+1,by go_num,by omega,HB5,HS5⟩
             case measure=>simp[intOf];omega
            ·rw[show Lf.codeV fc= .iface 89 (.int .i64 fc) from if_neg hfc]
             clear HT hfc
             go_wp2_with fail
             go_roundw
             case rel=>exact⟨q4+1,by go_num,by omega,HB5,HS5⟩
             case measure=>simp[intOf];omega
           ·obtain rfl:q4=fl.length:=by omega
            have hlti4:¬(fl.length:Int)<(fl.length:Int):=by omega
            have HB4:=Lib.hid hb4.out
            clear hb4 hs4
            go_wp2_with fail
            go_roundw
            case rel=>exact⟨p+1,by go_num,by omega,HB4⟩
            case measure=>simp[intOf];omega
         ·rw[show erV fe= .iface 89 (.int .i64 fe) from if_neg hfe]
          clear HFC hfe
          go_wp2_with fail
          go_roundw
          case rel=>exact⟨p+1,by go_num,by omega,BF⟩
          case measure=>simp[intOf];omega
        ·obtain rfl:p=m:=by omega
         have hlti3:¬(p:Int)<(p:Int):=by omega
         go_wp2_with fail
         go_ret
         exact⟨rfl,hb.out⟩
end
section
open Go.ChangeShapes Go.WideShapes Go.ChangeAt Go.RowKit
theorem chunkHolds_lifted (hup:UpSaid20)(os:Os)(started:os.Started)(H:Type)(enc:TypeId×Value→H):
 ReturnsInHanded {} Tryz.checked os 5 .any (fun w args=>(Rows.chunkHoldsSpec.pre enc Tryz.prog Tryz.f5 [] false w args∧laidMetH Tryz.prog laidL w)∧sizedMet enc Tryz.prog Tryz.f5 (OpenSpec.ofChange Rows.chunkHoldsSpec) false w args)
  (Rows.chunkHoldsSpec.post enc Tryz.prog Tryz.f5 false true false false):=by
 refine returnsInHanded_of_change_and (C:=Tryz.checked) (X:=fun w _=>laidMetH Tryz.prog laidL w) (fun _ _ _ hh h=>h.of_heap hh) Tryz.own started (by kernel_rfl) Tryz.func5
  (ChangeSpec.witness_at (enc:=enc) (C:=Tryz.checked) (os:=os) (X:=fun w _=>laidMetH Tryz.prog laidL w) false (laidWorld os) #[.slice none 0 0,.slice none 0 0] 8 rfl (by kernel_rfl) (by kernel_rfl) (by kernel_rfl) (by kernel_rfl) (by kernel_rfl) (laidWorld_met os _)) ?_
 intro W base args ds gs before hval0 hW _ hsz0 hL _
 have hval:∀(j:Nat) t v,Tryz.f5.params[j]? =some t→args[j]? =some v→Value.okWide Tryz.prog W .any base t v:=hval0
 have hW':=hW
 obtain⟨p,q,hA0,hV,rfl,hfz,hnd⟩:=hW
 have hA:DataW.TrodAll enc Tryz.prog W 0 (fun _=>true) true Tryz.f5.params.toList args.toList ds p:=hA0
 rw[Tryz.params5]at hA hval
 obtain⟨v0,vs0,d0,ds0,p0,q0,hargs,rfl,rfl,h0,r0⟩:=trodAll_cons hA
 obtain⟨v1,vs1,d1,ds1,p1,q1,rfl,rfl,rfl,h1,r1⟩:=trodAll_cons r0
 obtain⟨rfl,rfl,rfl⟩:=trodAll_nil r1
 obtain rfl:args= #[v0,v1]:=by cases args;simp_all
 obtain⟨rfl,rfl⟩:=trodVars_none hV
 have k0:=h0
 have lt0:∀x∈p0,x.block<W.heap.size:=by obtain⟨m,hm⟩:=k0;exact DataW.trod_lt m _ _ _ hm
 have k1:=h1
 have lt1:∀x∈p1,x.block<W.heap.size:=by obtain⟨m,hm⟩:=k1;exact DataW.trod_lt m _ _ _ hm
 obtain⟨la,lm,lc,xs,rfl,ll,ls,lb,lcap⟩:=open_chunks3 hsz0 (j:=0) rfl rfl (hval 0 22 v0 rfl rfl) h0
 obtain⟨ua,un,uc,zs,rfl,hl1,hn1,hc1,hnums1,hwf1⟩:=Lf.open_nums (hval 1 54 v1 rfl rfl) h1
 have hm1:un≤9223372036854775807:=by unfold maxLen at hc1;omega
 have hg:=handle_of_laid hL
 clear hA0 hval0
 refine(chunkHolds_any hup la lm lc xs ua un uc zs W ll ls lb hl1 hm1 lcap hnums1 hg).mono fun e W' ⟨he,bel⟩=> ?_
 subst he
 exact⟨_,rfl,_,_,_,[],_,[],hW',trodAll_mk1 (shut_bool Tryz.underlying4 _),(trodAll_cons_mk (Below.trod Tryz.laidOut (by kernel_rfl) (of_decide_eq_true (by kernel_rfl)) k0 bel lt0) (trodAll_cons_mk (Below.trod Tryz.laidOut (by kernel_rfl) (of_decide_eq_true (by kernel_rfl)) k1 bel lt1) trodAll_mk0)),rfl,bel.frame _,fun h=>by cases h⟩
theorem chunkHolds_over (hup:UpSaid20):Rows.ChunkHoldsSaid:=
 OpenClaim.holds_of_wide 5 Tryz.f5 rfl rfl rfl rfl rfl rfl rfl ⟨rfl,rfl,rfl,rfl,rfl⟩ rfl rfl rfl rfl rfl (by kernel_rfl) Tryz.func5 (by kernel_rfl)
  (of_decide_eq_true (by kernel_rfl)) (by unfold Func.isWrapper;first | (rw[if_pos (by decide+kernel)];kernel_rfl) | (rw[if_neg (by decide+kernel)];exact⟨rfl,rfl⟩))
  (fun os started H enc _=>chunkHolds_lifted hup os started H enc)
end
end Go.Proofs.YtjbkhdbjdahbiaaGreatDoor
