/- Parts of a proof. -/
import Derived.Test.YtipahfcaplbifaaGreatDoorQ04
import Derived.Test.YtipahfcaplbifaaGreatDoorQ09
import Derived.Test.YtipahfcaplbifaaGreatDoorQ11
import Derived.Test.YtipahfcaplbifaaGreatDoorQ19
import Derived.Maps.Own
import Derived.Maps.OwnOps
import Derived.Maps.Views
import Derived.StringKeys
import Derived.Deep.RegionHeld3
set_option linter.unusedVariables false
set_option linter.unusedSimpArgs false
set_option maxHeartbeats 60000000
set_option maxRecDepth 100000
namespace Go.Proofs.YtipahfcaplbifaaGreatDoor
section
theorem made_kids {n:Nat}{f:FT}(h:madeF (n+1) f=true):∀i,i<f.ks.length→madeF n (f.ks.getD i default)=true:=fun i hi=>by
 by_cases h0:f.kind=0∨f.kind=1
 ·rw[madeF_0 h0]at h
  simp at h
  rw[h.2]at hi
  cases hi
 ·by_cases h2:f.kind=2
  ·rw[madeF_2 h2]at h
   simp at h
   rw[h.2]at hi
   cases hi
  ·by_cases h4:f.kind=4
   ·rw[madeF_4 h4]at h
    simp only[Bool.and_eq_true,decide_eq_true_eq]at h
    obtain rfl:i=0:=by omega
    exact h.2.2.2
   ·by_cases h5:f.kind=5∨f.kind=6
    ·rw[madeF_5 h5]at h
     simp only[Bool.and_eq_true,decide_eq_true_eq]at h
     exact h.1 i hi
    ·rw[madeF_x ⟨h0,h2,h4,h5⟩]at h
     cases h
theorem made_pos {n:Nat}{f:FT}(h:madeF n f=true):1≤siz n f:=by
 cases n with
 | zero=>cases h
 | succ n=>exact siz_pos n f
theorem made_snd {n:Nat}{f:FT}(h:madeF (n+1) f=true)(h2:f.kind=2):snd f.c f.t=true∧f.ks.length=0:=by
 rw[madeF_2 h2]at h
 unfold canF at h
 simp only[Bool.and_eq_true,decide_eq_true_eq]at h
 exact⟨h.1.1,h.2⟩
theorem made_not {n:Nat}{f:FT}(h:madeF (n+1) f=true)(h4:f.kind=4):f.ks.length=1∧(f.ks.getD 0 default).kind=2:=by
 rw[madeF_4 h4]at h
 simp only[Bool.and_eq_true,decide_eq_true_eq]at h
 exact⟨h.2.1,h.2.2.1⟩
theorem made_kind {n:Nat}{f:FT}(h:madeF (n+1) f=true):f.kind=0∨f.kind=1∨f.kind=2∨f.kind=4∨f.kind=5∨f.kind=6:=by
 by_cases h0:f.kind=0∨f.kind=1
 ·omega
 ·by_cases h2:f.kind=2
  ·omega
  ·by_cases h4:f.kind=4
   ·omega
   ·by_cases h5:f.kind=5∨f.kind=6
    ·omega
    ·rw[madeF_x ⟨h0,h2,h4,h5⟩]at h
     cases h
def atN:List (Int×List (Int×Int))→Int×List (Int×Int)→Nat
 | [],_=>0
 | a :: am,x=>if a=x then 1 else if atN am x=0 then 0 else atN am x+1
theorem atN_le:∀(am:List (Int×List (Int×Int))) (x:Int×List (Int×Int)),atN am x≤am.length
 | [],_=>Nat.le_refl _
 | a :: am,x=>by
   have:=atN_le am x
   rw[atN,List.length_cons]
   split
   ·omega
   ·split<;>omega
theorem atN_snoc:∀(am:List (Int×List (Int×Int))) (x y:Int×List (Int×Int)),atN (am ++ [x]) y=if atN am y=0 then(if x=y then am.length+1 else 0) else atN am y
 | [],x,y=>by
   simp[atN]
 | a :: am,x,y=>by
   rw[List.cons_append,atN,atN_snoc am x y,atN,List.length_cons]
   by_cases h1:a=y
   ·simp[h1]
   ·by_cases h2:atN am y=0
    ·by_cases h3:x=y
     ·simp[h1,h2,h3]
     ·simp[h1,h2,h3]
    ·simp[h1,h2]
def addA (am:List (Int×List (Int×Int)))(x:Int×List (Int×Int)):List (Int×List (Int×Int)):=if atN am x=0 then am ++ [x] else am
theorem addA_len (am:List (Int×List (Int×Int)))(x:Int×List (Int×Int)):am.length≤(addA am x).length∧(addA am x).length≤am.length+1:=by
 unfold addA;split<;>simp
def gatF:Nat→FT→List (Int×List (Int×Int))→List (Int×List (Int×Int))
 | 0,_,am=>am
 | n+1,f,am=>if f.kind=2 then addA (f.ks.foldl (fun a k=>gatF n k a) am) (f.c,f.t) else f.ks.foldl (fun a k=>gatF n k a) am
def gatTo (n:Nat)(ks:List FT)(am:List (Int×List (Int×Int)))(i:Nat):List (Int×List (Int×Int)):=(ks.take i).foldl (fun a k=>gatF n k a) am
theorem gatTo_zero (n:Nat)(ks:List FT)(am:List (Int×List (Int×Int))):gatTo n ks am 0=am:=rfl
theorem gatTo_succ (n:Nat)(ks:List FT)(am:List (Int×List (Int×Int)))(i:Nat)(h:i<ks.length):gatTo n ks am (i+1)=gatF n (ks.getD i default) (gatTo n ks am i):=by
 unfold gatTo
 rw[List.take_succ_eq_append_getElem h,List.foldl_append]
 simp[List.getD_eq_getElem?_getD,h]
theorem gatTo_len (n:Nat)(f:FT)(am:List (Int×List (Int×Int))):gatF (n+1) f am=if f.kind=2 then addA (gatTo n f.ks am f.ks.length) (f.c,f.t) else gatTo n f.ks am f.ks.length:=by
 unfold gatTo;rw[List.take_length];rfl
theorem gatF_le:∀(n:Nat) (f:FT) (am:List (Int×List (Int×Int))),am.length≤(gatF n f am).length∧(gatF n f am).length≤am.length+siz n f
 | 0,f,am=>⟨Nat.le_refl _,by show am.length≤_;omega⟩
 | n+1,f,am=>by
   have hto:∀i,i≤f.ks.length→am.length≤(gatTo n f.ks am i).length∧(gatTo n f.ks am i).length≤am.length+sizTo n f.ks i:=fun i=>by
    induction i with
    | zero=>exact fun _=>⟨Nat.le_refl _,by show am.length≤_;omega⟩
    | succ i ih=>
      intro hi
      have h1:=ih (by omega)
      have h2:=gatF_le n (f.ks.getD i default) (gatTo n f.ks am i)
      rw[gatTo_succ n f.ks am i hi,sizTo_succ n f.ks i hi]
      omega
   have h:=hto f.ks.length (Nat.le_refl _)
   rw[gatTo_len,sizTo_len]
   split
   ·have:=addA_len (gatTo n f.ks am f.ks.length) (f.c,f.t)
    omega
   ·omega
theorem gatTo_le (n:Nat)(ks:List FT)(am:List (Int×List (Int×Int))):∀i,i≤ks.length→am.length≤(gatTo n ks am i).length∧(gatTo n ks am i).length≤am.length+sizTo n ks i
 | 0,_=>⟨Nat.le_refl _,by show am.length≤_;omega⟩
 | i+1,hi=>by
   have h1:=gatTo_le n ks am i (by omega)
   have h2:=gatF_le n (ks.getD i default) (gatTo n ks am i)
   rw[gatTo_succ n ks am i hi,sizTo_succ n ks i hi]
   omega
def joinL (v s:Int)(ls:List Int):List (List Int):=(ls.map fun l=>[-v,s*l]) ++ [v :: ls.map fun l=> -s*l]
def ownC (kind v:Int)(ls:List Int):List (List Int):=
 if kind=0 then[[v]] else if kind=1 then[[-v]] else if kind=5 then joinL v 1 ls else if kind=6 then joinL (-v) (-1) ls else[]
structure MkR where
 n:Nat
 cl:List (List Int)
 lit:Int
def mkF (am:List (Int×List (Int×Int))):Nat→FT→Nat→List (List Int)→MkR
 | 0,_,N,cl=>⟨N,cl,0⟩
 | n+1,f,N,cl=>
   if f.kind=2 then⟨N,cl,atN am (f.c,f.t)⟩
   else if f.kind=4 then⟨(mkF am n (f.ks.getD 0 default) N cl).n,(mkF am n (f.ks.getD 0 default) N cl).cl, -(mkF am n (f.ks.getD 0 default) N cl).lit⟩
   else
    let r:=f.ks.foldl (fun(a:Nat×List (List Int)×List Int) k=>((mkF am n k a.1 a.2.1).n,(mkF am n k a.1 a.2.1).cl,a.2.2 ++ [(mkF am n k a.1 a.2.1).lit])) (N,cl,[])
    ⟨r.1+1,r.2.1 ++ ownC f.kind (r.1+1:Nat) r.2.2,(r.1+1:Nat)⟩
def mkTo (am:List (Int×List (Int×Int)))(n:Nat)(ks:List FT)(N:Nat)(cl:List (List Int))(i:Nat):Nat×List (List Int)×List Int:=
 (ks.take i).foldl (fun(a:Nat×List (List Int)×List Int) k=>((mkF am n k a.1 a.2.1).n,(mkF am n k a.1 a.2.1).cl,a.2.2 ++ [(mkF am n k a.1 a.2.1).lit])) (N,cl,[])
theorem mkTo_succ (am:List (Int×List (Int×Int)))(n:Nat)(ks:List FT)(N:Nat)(cl:List (List Int))(i:Nat)(h:i<ks.length):
  mkTo am n ks N cl (i+1)=((mkF am n (ks.getD i default) (mkTo am n ks N cl i).1 (mkTo am n ks N cl i).2.1).n,(mkF am n (ks.getD i default) (mkTo am n ks N cl i).1 (mkTo am n ks N cl i).2.1).cl,(mkTo am n ks N cl i).2.2 ++ [(mkF am n (ks.getD i default) (mkTo am n ks N cl i).1 (mkTo am n ks N cl i).2.1).lit]):=by
 unfold mkTo
 rw[List.take_succ_eq_append_getElem h,List.foldl_append]
 simp[List.getD_eq_getElem?_getD,h]
theorem mkF_2 {am:List (Int×List (Int×Int))}{n:Nat}{f:FT}{N:Nat}{cl:List (List Int)}(h:f.kind=2):mkF am (n+1) f N cl=⟨N,cl,atN am (f.c,f.t)⟩:=by
 rw[mkF,if_pos h]
theorem mkF_4 {am:List (Int×List (Int×Int))}{n:Nat}{f:FT}{N:Nat}{cl:List (List Int)}(h:f.kind=4):mkF am (n+1) f N cl=⟨(mkF am n (f.ks.getD 0 default) N cl).n,(mkF am n (f.ks.getD 0 default) N cl).cl, -(mkF am n (f.ks.getD 0 default) N cl).lit⟩:=by
 rw[mkF,if_neg (by omega),if_pos h]
theorem mkF_x {am:List (Int×List (Int×Int))}{n:Nat}{f:FT}{N:Nat}{cl:List (List Int)}(h:f.kind≠2∧f.kind≠4):mkF am (n+1) f N cl=⟨(mkTo am n f.ks N cl f.ks.length).1+1,(mkTo am n f.ks N cl f.ks.length).2.1 ++ ownC f.kind ((mkTo am n f.ks N cl f.ks.length).1+1:Nat) (mkTo am n f.ks N cl f.ks.length).2.2,((mkTo am n f.ks N cl f.ks.length).1+1:Nat)⟩:=by
 rw[mkF,if_neg h.1,if_neg h.2]
 unfold mkTo
 rw[List.take_length]
structure Fits (A:Nat)(n0:Nat)(c0:List (List Int))(s d:Nat)(m:Nat)(cl:List (List Int)):Prop where
 n:n0≤m∧m≤n0+s
 c:c0.length≤cl.length∧cl.length+d≤c0.length+2*s
 l:∀c∈cl,c∈c0∨c.length≤s+2∧∀x∈c, -(A+n0+s:Int)≤x∧x≤A+n0+s
theorem ownC_len {kind v:Int}{ls:List Int}:(ownC kind v ls).length≤ls.length+1:=by
 unfold ownC joinL
 repeat (first | split | simp)
theorem ownC_in {kind v:Int}{ls:List Int}{m:Int}(hv: -m≤v∧v≤m)(hl:∀x∈ls, -m≤x∧x≤m):∀c∈ownC kind v ls,c.length≤ls.length+2∧∀x∈c, -m≤x∧x≤m:=fun c hc=>by
 have hj:∀u s:Int,(-m≤u∧u≤m)→(s=1∨s= -1)→∀c∈joinL u s ls,c.length≤ls.length+2∧∀x∈c, -m≤x∧x≤m:=fun u s hu hs c hc=>by
  unfold joinL at hc
  rcases List.mem_append.1 hc with hc | hc
  ·obtain⟨l,hl2,rfl⟩:=List.mem_map.1 hc
   have h1:=hl l hl2
   refine⟨by simp,fun x hx=> ?_⟩
   rcases List.mem_cons.1 hx with rfl | hx
   ·omega
   ·rw[List.mem_singleton]at hx
    subst hx
    rcases hs with rfl | rfl<;>omega
  ·rw[List.mem_singleton]at hc
   subst hc
   refine⟨by simp,fun x hx=> ?_⟩
   rcases List.mem_cons.1 hx with rfl | hx
   ·omega
   ·obtain⟨l,hl2,rfl⟩:=List.mem_map.1 hx
    have h1:=hl l hl2
    rcases hs with rfl | rfl<;>omega
 unfold ownC at hc
 split at hc
 ·rw[List.mem_singleton]at hc
  subst hc
  exact⟨by simp,fun x hx=>by rw[List.mem_singleton]at hx;subst hx;exact hv⟩
 ·split at hc
  ·rw[List.mem_singleton]at hc
   subst hc
   exact⟨by simp,fun x hx=>by rw[List.mem_singleton]at hx;subst hx;omega⟩
  ·split at hc
   ·exact hj v 1 hv (.inl rfl) c hc
   ·split at hc
    ·exact hj (-v) (-1) (by omega) (.inr rfl) c hc
    ·cases hc
theorem mkF_fits (am:List (Int×List (Int×Int))):∀(n:Nat) (f:FT) (N:Nat) (cl:List (List Int)),madeF n f=true→
  Fits am.length N cl (siz n f) 1 (mkF am n f N cl).n (mkF am n f N cl).cl∧(-(am.length+N+siz n f:Int)≤(mkF am n f N cl).lit∧(mkF am n f N cl).lit≤am.length+N+siz n f)
 | 0,f,N,cl,hm=>by cases hm
 | n+1,f,N,cl,hm=>by
   have hmk:=made_kids hm
   by_cases h2:f.kind=2
   ·rw[mkF_2 h2]
    have:=atN_le am (f.c,f.t)
    have hp:=siz_pos n f
    exact⟨⟨⟨Nat.le_refl _,Nat.le_add_right _ _⟩,⟨Nat.le_refl _,by show cl.length+1≤_;omega⟩,fun c hc=> .inl hc⟩,by show _≤((atN am (f.c,f.t):Nat):Int)∧((atN am (f.c,f.t):Nat):Int)≤_;omega⟩
   ·have hto:∀i,i≤f.ks.length→Fits am.length N cl (sizTo n f.ks i) i (mkTo am n f.ks N cl i).1 (mkTo am n f.ks N cl i).2.1∧(mkTo am n f.ks N cl i).2.2.length=i∧∀x∈(mkTo am n f.ks N cl i).2.2, -(am.length+N+sizTo n f.ks i:Int)≤x∧x≤am.length+N+sizTo n f.ks i:=fun i=>by
     induction i with
     | zero=>exact fun _=>⟨⟨⟨Nat.le_refl _,Nat.le_add_right _ _⟩,⟨Nat.le_refl _,Nat.le_add_right _ _⟩,fun c hc=> .inl hc⟩,rfl,fun x hx=>by cases hx⟩
     | succ i ih=>
       intro hi
       obtain⟨⟨a1,a2,a3⟩,a4,a5⟩:=ih (by omega)
       obtain⟨⟨b1,b2,b3⟩,b4⟩:=mkF_fits am n (f.ks.getD i default) (mkTo am n f.ks N cl i).1 (mkTo am n f.ks N cl i).2.1 (hmk i hi)
       rw[mkTo_succ am n f.ks N cl i hi,sizTo_succ n f.ks i hi]
       generalize mkTo am n f.ks N cl i=p at*
       generalize mkF am n (f.ks.getD i default) p.1 p.2.1=q at*
       generalize siz n (f.ks.getD i default)=s at*
       generalize sizTo n f.ks i=t at*
       refine⟨⟨by show N≤q.n∧q.n≤_;omega,by show _≤q.cl.length∧q.cl.length+_≤_;omega,fun c hc=> ?_⟩,by simp[a4],fun x hx=> ?_⟩
       ·rcases b3 c hc with h | ⟨h,h'⟩
        ·rcases a3 c h with h | ⟨h,h'⟩
         ·exact .inl h
         ·exact .inr ⟨by omega,fun x hx=>by have:=h' x hx;omega⟩
        ·exact .inr ⟨by omega,fun x hx=>by have:=h' x hx;omega⟩
       ·rcases List.mem_append.1 hx with hx | hx
        ·have:=a5 x hx;omega
        ·rw[List.mem_singleton]at hx
         subst hx
         omega
    obtain⟨⟨a1,a2,a3⟩,a4,a5⟩:=hto f.ks.length (Nat.le_refl _)
    have hs:=sizTo_len n f
    by_cases h4:f.kind=4
    ·have hk:=(made_not hm h4).1
     obtain⟨⟨b1,b2,b3⟩,b4⟩:=mkF_fits am n (f.ks.getD 0 default) N cl (hmk 0 (by omega))
     have h0:siz n (f.ks.getD 0 default)≤siz (n+1) f:=by
      have e:=sizTo_succ n f.ks 0 (by omega)
      have m:=sizTo_mono n f.ks (i:=1) (j:=f.ks.length) (by omega)
      rw[sizTo_zero]at e
      rw[show(0:Nat)+1=1 from rfl]at e
      omega
     rw[mkF_4 h4]
     generalize mkF am n (f.ks.getD 0 default) N cl=q at*
     generalize siz n (f.ks.getD 0 default)=s at*
     refine⟨⟨by show N≤q.n∧q.n≤_;omega,by show _≤q.cl.length∧q.cl.length+_≤_;omega,fun c hc=> ?_⟩,by show _≤ -q.lit∧ -q.lit≤_;omega⟩
     rcases b3 c hc with h | ⟨h,h'⟩
     ·exact .inl h
     ·exact .inr ⟨by omega,fun x hx=>by have:=h' x hx;omega⟩
    ·rw[mkF_x ⟨h2,h4⟩,hs]
     have hln:f.ks.length≤sizTo n f.ks f.ks.length:=by
      have:∀i,i≤f.ks.length→i≤sizTo n f.ks i:=fun i=>by
       induction i with
       | zero=>exact fun _=>Nat.zero_le _
       | succ i ih=>
         intro hi
         have h1:=ih (by omega)
         have h2:=made_pos (hmk i hi)
         rw[sizTo_succ n f.ks i hi]
         omega
      exact this _ (Nat.le_refl _)
     generalize mkTo am n f.ks N cl f.ks.length=p at*
     generalize sizTo n f.ks f.ks.length=t at*
     have ho:=ownC_len (kind:=f.kind) (v:=(p.1+1:Nat)) (ls:=p.2.2)
     have hi:=ownC_in (kind:=f.kind) (v:=(p.1+1:Nat)) (ls:=p.2.2) (m:=am.length+N+(1+t)) (by omega) (fun x hx=>by have:=a5 x hx;omega)
     refine⟨⟨by show N≤p.1+1∧p.1+1≤_;omega,by show _≤(p.2.1 ++ _).length∧(p.2.1 ++ _).length+1≤_;rw[List.length_append];omega,fun c hc=> ?_⟩,by show _≤((p.1+1:Nat):Int)∧((p.1+1:Nat):Int)≤_;omega⟩
     rcases List.mem_append.1 hc with hc | hc
     ·rcases a3 c hc with h | ⟨h,h'⟩
      ·exact .inl h
      ·exact .inr ⟨by omega,fun x hx=>by have:=h' x hx;omega⟩
     ·have:=hi c hc
      exact .inr ⟨by omega,fun x hx=>by have:=this.2 x hx;omega⟩
theorem mkTo_fits (am:List (Int×List (Int×Int)))(n:Nat)(ks:List FT)(N:Nat)(cl:List (List Int))(hmk:∀i,i<ks.length→madeF n (ks.getD i default)=true):∀i,i≤ks.length→Fits am.length N cl (sizTo n ks i) i (mkTo am n ks N cl i).1 (mkTo am n ks N cl i).2.1∧(mkTo am n ks N cl i).2.2.length=i∧∀x∈(mkTo am n ks N cl i).2.2, -(am.length+N+sizTo n ks i:Int)≤x∧x≤am.length+N+sizTo n ks i:=fun i=>by
 induction i with
 | zero=>exact fun _=>⟨⟨⟨Nat.le_refl _,Nat.le_add_right _ _⟩,⟨Nat.le_refl _,Nat.le_add_right _ _⟩,fun c hc=> .inl hc⟩,rfl,fun x hx=>by cases hx⟩
 | succ i ih=>
   intro hi
   obtain⟨⟨a1,a2,a3⟩,a4,a5⟩:=ih (by omega)
   obtain⟨⟨b1,b2,b3⟩,b4⟩:=mkF_fits am n (ks.getD i default) (mkTo am n ks N cl i).1 (mkTo am n ks N cl i).2.1 (hmk i hi)
   rw[mkTo_succ am n ks N cl i hi,sizTo_succ n ks i hi]
   generalize mkTo am n ks N cl i=p at*
   generalize mkF am n (ks.getD i default) p.1 p.2.1=q at*
   generalize siz n (ks.getD i default)=s at*
   generalize sizTo n ks i=t at*
   refine⟨⟨by show N≤q.n∧q.n≤_;omega,by show _≤q.cl.length∧q.cl.length+_≤_;omega,fun c hc=> ?_⟩,by simp[a4],fun x hx=> ?_⟩
   ·rcases b3 c hc with h | ⟨h,h'⟩
    ·rcases a3 c h with h | ⟨h,h'⟩
     ·exact .inl h
     ·exact .inr ⟨by omega,fun x hx=>by have:=h' x hx;omega⟩
    ·exact .inr ⟨by omega,fun x hx=>by have:=h' x hx;omega⟩
   ·rcases List.mem_append.1 hx with hx | hx
    ·have:=a5 x hx;omega
    ·rw[List.mem_singleton]at hx
     subst hx
     omega
theorem len_siz (n:Nat)(ks:List FT)(hmk:∀i,i<ks.length→madeF n (ks.getD i default)=true):∀i,i≤ks.length→i≤sizTo n ks i:=fun i=>by
 induction i with
 | zero=>exact fun _=>Nat.zero_le _
 | succ i ih=>
   intro hi
   have h1:=ih (by omega)
   have h2:=made_pos (hmk i hi)
   rw[sizTo_succ n ks i hi]
   omega
end
section
open Go.RowKit
section
variable {T:Type}
structure OwnP (sh:Pak.Sh T)(e:TypeId)(B:Nat)(S:Nat→Prop)(xs:List T)(v:Value)(w:World):Prop where
 row:∃css:List (List Value),css.length=xs.length∧w.ownsRow B e sh.k v xs.length css.flatten∧∀i (h:i<xs.length) (h2:i<css.length),sh.rel S w css[i] xs[i]
 ok:∀b,S b→b<w.heap.size∧v.ownBlock≠some b
theorem OwnP.nil (sh:Pak.Sh T)(e:TypeId)(B:Nat)(w:World):OwnP sh e B (fun _=>False) [] (.slice none 0 0) w:=⟨⟨[],rfl,World.ownsRow_nil _ _ _ _,fun i hi=>absurd hi (Nat.not_lt_zero i)⟩,fun b h=>h.elim⟩
theorem OwnP.lt {sh:Pak.Sh T}{e:TypeId}{B:Nat}{S:Nat→Prop}{xs:List T}{v:Value}{w:World}(h:OwnP sh e B S xs v w):∀q,v.ownBlock=some q→B≤q∧q<w.heap.size:=fun q hq=>by
 obtain⟨css,h1,h2,h3⟩:=h.row
 exact World.ownsRow.lt h2 q hq
theorem OwnP.form {sh:Pak.Sh T}{e:TypeId}{B:Nat}{S:Nat→Prop}{xs:List T}{v:Value}{w:World}(h:OwnP sh e B S xs v w):∃a cap,v= .slice a xs.length cap:=by
 obtain⟨css,h1,h2,h3⟩:=h.row
 exact Pak.own_slice h2
theorem OwnP.nf {sh:Pak.Sh T}{e:TypeId}{B:Nat}{S:Nat→Prop}{xs:List T}{v:Value}{w:World}(h:OwnP sh e B S xs v w):∀q,v.ownBlock=some q→∀o,w.frozen? ⟨q,o,none⟩=false:=fun q hq o=>by
 obtain⟨css,h1,h2,h3⟩:=h.row
 obtain⟨_,⟨rfl,_⟩ | ⟨g,cap,cur,rfl,_,hh,_⟩⟩:=h2
 ·cases hq
 ·injection hq with hq
  subst hq
  exact frozen_of_row _ _ _ _ _ hh
theorem OwnP.keep {sh:Pak.Sh T}{e:TypeId}{B:Nat}{S:Nat→Prop}{xs:List T}{v:Value}{w w':World}(h:OwnP sh e B S xs v w)(hsz:w.heap.size≤w'.heap.size)(hk:∀q,(S q∨v.ownBlock=some q)→w'.heap[q]? =w.heap[q]?):OwnP sh e B S xs v w':=by
 obtain⟨css,h1,h2,h3⟩:=h.row
 refine⟨⟨css,h1, ?_,fun i hi hi2=>sh.keep (fun b hb=>hb) (fun b o hb=>World.cell?_of_block (hk b (.inl hb))) (h3 i hi hi2)⟩,fun b hb=>⟨Nat.lt_of_lt_of_le (h.ok b hb).1 hsz,(h.ok b hb).2⟩⟩
 obtain⟨hl,h0 | ⟨g,cap,cur,hv,hb,hh,r⟩⟩:=h2
 ·exact⟨hl,.inl h0⟩
 ·exact⟨hl,.inr ⟨g,cap,cur,hv,hb,by rw[hk g (.inr (by rw[hv];rfl))];exact hh,r⟩⟩
theorem OwnP.below {sh:Pak.Sh T}{e:TypeId}{B:Nat}{S:Nat→Prop}{xs:List T}{v:Value}{w w':World}(h:OwnP sh e B S xs v w)(hb:Below w.heap.size w w'):OwnP sh e B S xs v w':=
 h.keep hb.size (fun q hq=>hb.block q (by
  rcases hq with hq | hq
  ·exact(h.ok q hq).1
  ·exact(h.lt q hq).2))
theorem OwnP.grown {sh:Pak.Sh T}{e:TypeId}{B:Nat}{S:Nat→Prop}{xs:List T}{v:Value}{w w':World}{row:Option Nat}(h:OwnP sh e B S xs v w)(hg:w.grownBy w' row)(hr:∀q,row=some q→¬S q∧v.ownBlock≠some q):OwnP sh e B S xs v w':=
 h.keep hg.size (fun q hq=>hg.block q (by
  rcases hq with hq | hq
  ·exact(h.ok q hq).1
  ·exact(h.lt q hq).2) (fun e=>by
  rcases hq with hq | hq
  ·exact(hr q e.symm).1 hq
  ·exact(hr q e.symm).2 hq))
theorem OwnP.keptW {sh:Pak.Sh T}{e:TypeId}{B M:Nat}{r:Option Nat}{S:Nat→Prop}{xs:List T}{v:Value}{w w':World}(h:OwnP sh e B S xs v w)(hk:Pak.KeptW M r w w')(hM:¬S M∧v.ownBlock≠some M)(hr:∀q,r=some q→¬S q∧v.ownBlock≠some q):OwnP sh e B S xs v w':=
 h.keep hk.size (fun q hq=>hk.block q (by
  rcases hq with hq | hq
  ·exact(h.ok q hq).1
  ·exact(h.lt q hq).2) (fun e=>by
  subst e
  rcases hq with hq | hq
  ·exact hM.1 hq
  ·exact hM.2 hq) (fun e=>by
  rcases hq with hq | hq
  ·exact(hr q e.symm).1 hq
  ·exact(hr q e.symm).2 hq))
theorem OwnP.more {sh:Pak.Sh T}{e:TypeId}{B:Nat}{S S':Nat→Prop}{xs:List T}{v:Value}{w:World}(h:OwnP sh e B S xs v w)(hS:∀b,S b→S' b)(hok:∀b,S' b→b<w.heap.size∧v.ownBlock≠some b):OwnP sh e B S' xs v w:=by
 obtain⟨css,h1,h2,h3⟩:=h.row
 exact⟨⟨css,h1,h2,fun i hi hi2=>sh.keep hS (fun b o hb=>rfl) (h3 i hi hi2)⟩,hok⟩
theorem OwnP.put {P:Program}{sh:Pak.Sh T}{t e:TypeId}{B:Nat}{S Sx:Nat→Prop}{xs:List T}{x:T}{v:Value}{w:World}{cs:List Value}(ht:P.underlying t=some (.slice e)){by':Nat}(hin:(P.info? e).map (fun i=>(i.zero.map fun z=>z.cells.size,i.size,i.bytes))=some (some sh.k,sh.k,by'))(hk:0<sh.k)(hby:by'≤100)
  (h:OwnP sh e B S xs v w) (hn:xs.length≤4194304) (hB:B≤w.heap.size) (hx:sh.rel Sx w cs x) (hSx:∀b,Sx b→b<w.heap.size∧v.ownBlock≠some b):
  ∃v6 w6,(∀ty,(Builtin.append_ #[t,t] ty #[v,.slice (some ⟨w.heap.size,0,none⟩) 1 1]).run P (w.alloc (.cells cs.toArray e))= .ok v6 w6)∧OwnP sh e B (fun b=>S b∨Sx b) (xs ++ [x]) v6 w6∧w.grownBy w6 v.ownBlock∧(v6.ownBlock=v.ownBlock∨∃q,v6.ownBlock=some q∧w.heap.size≤q):=by
 have hA:Below w.heap.size w (w.alloc (.cells cs.toArray e)):=(Below.refl _ w).alloc (Nat.le_refl _) _
 obtain⟨css,h1,h2,h3⟩:=(h.below hA).row
 obtain⟨i0,hi,hz,hs,hb⟩:∃i0,P.info? e=some i0∧(∃z,i0.zero=some z∧z.cells.size=sh.k)∧i0.size=sh.k∧i0.bytes=by':=by
  cases hp:P.info? e with
  | none=>rw[hp]at hin;cases hin
  | some i=>
    rw[hp]at hin
    simp at hin
    obtain⟨⟨z,a1,a2⟩,a3,a4⟩:=hin
    exact⟨i,rfl,⟨z,a1,a2⟩,a3,a4⟩
 obtain⟨z,hz1,hz2⟩:=hz
 have hlen:=sh.len hx
 have hrun:=fun ty=>run_append_own_at (P:=P) (w.alloc (.cells cs.toArray e)) B t ty e i0 z sh.k by' ht hi hz1 hs hb hz2 hk v xs.length css.flatten h2 ⟨w.heap.size,0,none⟩ 1 1 cs (by rw[hlen];omega) (by
  have:=World.news_of_block (heap_alloc_new w (.cells cs.toArray e))
  simpa using this) (sh.one hx) (by unfold maxLen;omega) (by
  have:(xs.length+1)*by'≤(4194304+1)*100:=Nat.mul_le_mul (by omega) hby
  omega) (Nat.le_trans hB hA.size)
 obtain⟨v6,w6,hr,k2,k3,_,k5⟩:=hrun t
 have hvb:=h.lt
 have hkeep:∀b o,b<w.heap.size→v.ownBlock≠some b→w6.cell? ⟨b,o,none⟩=w.cell? ⟨b,o,none⟩:=fun b o hb hne=>(World.cell?_of_block (k3.block b (Nat.lt_of_lt_of_le hb hA.size) (fun e=>hne e.symm))).trans (hA.cell (p:=⟨b,o,none⟩) hb)
 have hsz:w.heap.size≤w6.heap.size:=Nat.le_trans hA.size k3.size
 have k6:v6.ownBlock=v.ownBlock∨∃q,v6.ownBlock=some q∧w.heap.size≤q:=by
  rcases k5 with k5 | k5
  ·exact .inl k5
  ·exact .inr ⟨_,k5,hA.size⟩
 have hne6:∀b,b<w.heap.size→v.ownBlock≠some b→v6.ownBlock≠some b:=fun b hb hne e=>by
  rcases k6 with k5 | ⟨q,k5,hq⟩
  ·exact hne (k5.symm.trans e)
  ·rw[k5]at e
   injection e with e
   omega
 refine⟨v6,w6,fun ty=>hr,⟨⟨css ++ [cs],by simp[h1], ?_,fun i hi hi2=> ?_⟩,fun b hb=> ?_⟩,⟨k3.os.trans hA.os,k3.tape.trans hA.tape,k3.output.trans hA.output,hsz,fun q hq hne=>(k3.block q (Nat.lt_of_lt_of_le hq hA.size) hne).trans (hA.block q hq)⟩,k6⟩
 ·rw[List.length_append,List.flatten_append]
  simpa using k2
 ·by_cases hlt:i<xs.length
  ·rw[List.getElem_append_left hlt,List.getElem_append_left (by omega)]
   have h3':=h3 i hlt (by omega)
   exact sh.keep (fun b hb=> .inl hb) (fun b o hb=>World.cell?_of_block (k3.block b (Nat.lt_of_lt_of_le (h.ok b hb).1 hA.size) (fun e=>(h.ok b hb).2 e.symm))) h3'
  ·have hi':i=xs.length:=by simp at hi;omega
   subst hi'
   simp only[List.getElem_concat_length]
   have e2:(css ++ [cs])[xs.length]'hi2=cs:=by simp only[←h1,List.getElem_concat_length]
   rw[e2]
   exact sh.keep (fun b hb=> .inr hb) (fun b o hb=>hkeep b o (hSx b hb).1 (hSx b hb).2) hx
 ·have h6:b<w.heap.size∧v.ownBlock≠some b:=by
   rcases hb with hb | hb
   ·exact h.ok b hb
   ·exact hSx b hb
  exact⟨Nat.lt_of_lt_of_le h6.1 hsz,hne6 b h6.1 h6.2⟩
theorem OwnP.slot {sh:Pak.Sh T}{e:TypeId}{B:Nat}{S:Nat→Prop}{xs:List T}{v:Value}{w:World}(h:OwnP sh e B S xs v w)(hm:xs.length≤9223372036854775807):Pak.Slot sh (fun b=>S b∨v.ownBlock=some b) w v xs:=by
 obtain⟨css,h1,h2,h3⟩:=h.row
 have hk:∀cs∈css,cs.length=sh.k:=fun cs hc=>by
  obtain⟨i,hi,rfl⟩:=List.getElem_of_mem hc
  exact sh.len (h3 i (by omega) hi)
 have hc:=fun g=>World.ownsRow.cells h2 (g:=g)
 obtain⟨_,⟨rfl,h0⟩ | ⟨g,cap,cur,rfl,_⟩⟩:=h2
 ·exact⟨none,0,by rw[h0],hm,fun i hi=>by omega⟩
 ·refine⟨some ⟨g,0,none⟩,cap,rfl,hm,fun i hi=>⟨g,0,css[i]'(by omega),rfl,.inr rfl,fun j u hu=> ?_,sh.keep (fun b hb=> .inl hb) (fun b o _=>rfl) (h3 i hi (by omega))⟩⟩
  have hj:j<sh.k:=by
   have:=(List.getElem?_eq_some_iff.1 hu).1
   rwa [hk _ (List.getElem_mem _)]at this
  have:=hc g rfl (i*sh.k+j) u (by rw[Pak.flatten_get hk i j (by omega) hj];exact hu)
  rwa [show(⟨g,0,none⟩:Addr).add (i*sh.k+j)=⟨g,0+i*sh.k+j,none⟩ by unfold Addr.add;split<;>simp_all]at this
end
def LiesS (S:Nat→Prop)(w:World)(a:Option Addr)(l:List (Int×Int)):Prop:=
 ∀i,i<l.length→∃b off,a=some ⟨b,off,none⟩∧S b∧w.cell? ⟨b,off+i*2,none⟩=some (.int .i64 (l.getD i (0,0)).1)∧w.cell? ⟨b,off+i*2+1,none⟩=some (.int .i64 (l.getD i (0,0)).2)
def linSh:Pak.Sh (Int×List (Int×Int)) where
 k:=2
 rel:=fun S w cs x=>∃ta tcap,cs=[.int .i64 x.1,.slice ta x.2.length tcap]∧LiesS S w ta x.2
 len:=fun h=>by obtain⟨_,_,rfl,_⟩:=h;rfl
 one:=fun h u hu=>by
  obtain⟨_,_,rfl,_⟩:=h
  simp at hu
  rcases hu with rfl | rfl<;>rfl
 keep:=fun hS hk h=>by
  obtain⟨ta,tcap,rfl,h⟩:=h
  exact⟨ta,tcap,rfl,fun i hi=>by
   obtain⟨b,off,e,hb,h1,h2⟩:=h i hi
   exact⟨b,off,e,hS b hb,(hk b _ hb).trans h1,(hk b _ hb).trans h2⟩⟩
theorem LiesS.lies {S:Nat→Prop}{w:World}{a:Option Addr}{l:List (Int×Int)}{B:Nat}(h:LiesS S w a l)(hS:∀b,S b→b<B):Lies B w a l:=fun i hi=>by
 obtain⟨b,off,e,hb,h1,h2⟩:=h i hi
 exact⟨b,off,e,hS b hb,h1,h2⟩
theorem Lies.liesS {B:Nat}{w:World}{a:Option Addr}{l:List (Int×Int)}(h:Lies B w a l):LiesS (fun b=>b<B) w a l:=h
theorem nums_of {S:Nat→Prop}{w:World}{a:Option Addr}{xs:List Int}{B:Nat}(h:Pak.Sits Pak.intSh S w a xs)(hS:∀b,S b→b<B):Prp.Nums B w a xs:=fun i hi=>by
 obtain⟨b,off,cs,e,hb,hc,rfl,_⟩:=h.2 i hi
 refine⟨b,off,e,hS b hb, ?_⟩
 have:=hc 0 _ rfl
 have e1:Pak.intSh.k=1:=rfl
 rw[e1,Nat.mul_one,Nat.add_zero]at this
 rw[this,List.getD_eq_getElem?_getD,List.getElem?_eq_getElem hi,Option.getD_some]
theorem clies_of {S:Nat→Prop}{w:World}{a:Option Addr}{cs:List (List Int)}{B:Nat}(h:Pak.Sits Pak.clauseSh S w a cs)(hS:∀b,S b→b<B):Prp.CLies B w a cs:=fun i hi=>by
 obtain⟨b,off,us,e,hb,hc,v,rfl,ta,cap,rfl,hn⟩:=h.2 i hi
 have e1:Pak.clauseSh.k=1:=rfl
 have:=hc 0 _ rfl
 rw[e1,Nat.mul_one,Nat.add_zero]at this
 rw[List.getD_eq_getElem?_getD,List.getElem?_eq_getElem hi,Option.getD_some]
 exact⟨b,off,ta,cap,e,hS b hb,this,nums_of hn hS⟩
end
section
open Go.RowKit
structure LS (M K mp:Nat)(av:Value)(N:Nat)(cl:List (List Int))(r:Option Nat)(S:Nat→Prop)(w:World):Prop where
 c0:w.cell? ⟨M,0,none⟩=some (.int .i64 N)
 c1:w.cell? ⟨M,1,none⟩=some av
 ex:∃v,w.cell? ⟨M,2,none⟩=some v∧v.ownBlock=r∧OwnP Pak.clauseSh 23 K S cl v w
 lo:∀b,S b→K≤b
 c3:w.cell? ⟨M,3,none⟩=some (.map (some mp))
 fz:∀j,w.frozen? ⟨M,j,none⟩=false
 lt:M<K∧K≤w.heap.size
 nf:∀b,S b→∀o,w.frozen? ⟨b,o,none⟩=false
def LTo (M K mp:Nat)(av:Value)(N:Nat)(cl:List (List Int))(r:Option Nat)(S':Nat→Prop)(w w':World):Prop:=∃r',LS M K mp av N cl r' S' w'∧(r'=r∨∃q,r'=some q∧w.heap.size≤q)∧Pak.KeptW M r w w'
theorem keptW_trans {M:Nat}{r r':Option Nat}{w w1 w2:World}(hr:r'=r∨∃q,r'=some q∧w.heap.size≤q)(h:Pak.KeptW M r w w1)(k:Pak.KeptW M r' w1 w2):Pak.KeptW M r w w2:=
 ⟨k.os.trans h.os,k.tape.trans h.tape,k.output.trans h.output,Nat.le_trans h.size k.size,fun q hq h1 h2=>(k.block q (Nat.lt_of_lt_of_le hq h.size) h1 (fun e=>by
  rcases hr with rfl | ⟨p,rfl,hp⟩
  ·exact h2 e
  ·injection e with e;omega)).trans (h.block q hq h1 h2)⟩
theorem next_trans {r r' r2:Option Nat}{w w1:World}(hr:r'=r∨∃q,r'=some q∧w.heap.size≤q)(hs:w.heap.size≤w1.heap.size)(k:r2=r'∨∃q,r2=some q∧w1.heap.size≤q):r2=r∨∃q,r2=some q∧w.heap.size≤q:=by
 rcases k with rfl | ⟨q,rfl,hq⟩
 ·exact hr
 ·exact .inr ⟨q,rfl,by omega⟩
section
variable {M K mp:Nat} {av:Value} {N:Nat} {cl:List (List Int)} {r r':Option Nat} {S:Nat→Prop} {w w1 w2 w':World}
theorem LTo.refl (h:LS M K mp av N cl r S w):LTo M K mp av N cl r S w w:=⟨r,h,.inl rfl,.of_below (Below.refl _ _)⟩
theorem LTo.trans (hr:r'=r∨∃q,r'=some q∧w.heap.size≤q)(h:Pak.KeptW M r w w1)(k:LTo M K mp av N cl r' S w1 w2):LTo M K mp av N cl r S w w2:=by
 obtain⟨r2,k1,k2,k3⟩:=k
 exact⟨r2,k1,next_trans hr h.size k2,keptW_trans hr h k3⟩
theorem LS.size (h:LS M K mp av N cl r S w):M<w.heap.size:=Nat.lt_of_lt_of_le h.lt.1 h.lt.2
theorem LS.keep (h:LS M K mp av N cl r S w)(hsz:w.heap.size≤w'.heap.size)(hM:w'.heap[M]? =w.heap[M]?)(hk:∀q,(S q∨r=some q)→w'.heap[q]? =w.heap[q]?):LS M K mp av N cl r S w':=by
 obtain⟨v,h1,h2,h3⟩:=h.ex
 have c:=fun j=>World.cell?_of_block (a:=⟨M,j,none⟩) hM
 exact⟨(c 0).trans h.c0,(c 1).trans h.c1,⟨v,(c 2).trans h1,h2,h3.keep hsz (fun q hq=>hk q (by rw[←h2];exact hq))⟩,h.lo,(c 3).trans h.c3,fun j=>(World.frozen?_of_block (a:=⟨M,j,none⟩) hM).trans (h.fz j),⟨h.lt.1,Nat.le_trans h.lt.2 hsz⟩,fun b hb o=>(World.frozen?_of_block (a:=⟨b,o,none⟩) (hk b (.inl hb))).trans (h.nf b hb o)⟩
theorem LS.row (h:LS M K mp av N cl r S w):∀q,r=some q→K≤q∧q<w.heap.size∧¬S q:=fun q hq=>by
 obtain⟨v,h1,h2,h3⟩:=h.ex
 exact⟨(h3.lt q (h2.trans hq)).1,(h3.lt q (h2.trans hq)).2,fun hs=>(h3.ok q hs).2 (h2.trans hq)⟩
theorem LS.ok (h:LS M K mp av N cl r S w):∀b,S b→b<w.heap.size:=fun b hb=>by
 obtain⟨v,h1,h2,h3⟩:=h.ex
 exact(h3.ok b hb).1
theorem LS.below (h:LS M K mp av N cl r S w)(hb:Below w.heap.size w w'):LS M K mp av N cl r S w':=
 h.keep hb.size (hb.block M h.size) (fun q hq=>hb.block q (by
  rcases hq with hq | hq
  ·exact h.ok q hq
  ·exact(h.row q hq).2.1))
theorem LS.grown (h:LS M K mp av N cl r S w){row:Option Nat}(hg:w.grownBy w' row)(hr:∀q,row=some q→q≠M∧¬S q∧r≠some q):LS M K mp av N cl r S w':=
 h.keep hg.size (hg.block M h.size (fun e=>(hr M e.symm).1 rfl)) (fun q hq=>hg.block q (by
  rcases hq with hq | hq
  ·exact h.ok q hq
  ·exact(h.row q hq).2.1) (fun e=>by
  rcases hq with hq | hq
  ·exact(hr q e.symm).2.1 hq
  ·exact(hr q e.symm).2.2 hq))
theorem LTo.below (h:LTo M K mp av N cl r S w w1)(hb:Below w1.heap.size w1 w2):LTo M K mp av N cl r S w w2:=by
 obtain⟨r2,k1,k2,k3⟩:=h
 exact⟨r2,k1.below hb,k2,keptW_trans k2 k3 (.of_below hb)⟩
theorem LS.low (hs:LS M K mp av N cl r S w)(k3:Pak.KeptW M r w w'):Below M w w':=by
 have h1:=hs.lt
 exact⟨k3.os,k3.tape,k3.output,k3.size,fun q hq=>k3.block q (by omega) (by omega) (fun e=>by have:=hs.row q e.symm;omega)⟩
theorem grown_set {j:Nat}(v:Value):w.grownBy (w.setCell ⟨M,j,none⟩ v) (some M):=⟨rfl,rfl,rfl,by simp[World.setCell],fun q hq hn=>Below.heap_setCell _ _ _ _ (fun e=>hn (by rw[e]))⟩
theorem LS.count (h:LS M K mp av N cl r S w)(n:Nat):LTo M K mp av n cl r S w (w.setCell ⟨M,0,none⟩ (.int .i64 n)):=by
 obtain⟨v,h1,h2,h3⟩:=h.ex
 have hsz:(w.setCell ⟨M,0,none⟩ (.int .i64 n)).heap.size=w.heap.size:=by simp[World.setCell]
 have hl:=h.lt
 refine⟨r,⟨World.cell?_setCell_same' _ _ _ (by rw[h.c0];rfl),(World.cell?_setCell_other w ⟨M,0,none⟩ ⟨M,1,none⟩ _ (by simp)).trans h.c1,⟨v,(World.cell?_setCell_other w ⟨M,0,none⟩ ⟨M,2,none⟩ _ (by simp)).trans h1,h2,h3.grown (grown_set _) (fun q hq=> ?_)⟩,h.lo,(World.cell?_setCell_other w ⟨M,0,none⟩ ⟨M,3,none⟩ _ (by simp)).trans h.c3,fun j=>by rw[World.frozen?_setCell];exact h.fz j,⟨hl.1,by rw[hsz];exact hl.2⟩,fun b hb o=>by rw[World.frozen?_setCell];exact h.nf b hb o⟩,.inl rfl,⟨rfl,rfl,rfl,Nat.le_of_eq hsz.symm,fun q hq h1 h2=>Below.heap_setCell _ _ _ _ h1⟩⟩
 injection hq with hq
 subst hq
 exact⟨fun hb=>by have:=h.lo M hb;omega,fun e=>by have:=(h3.lt M e).1;omega⟩
theorem LS.add {a:Option Addr}{cap:Nat}{xs:List Int}{Sx:Nat→Prop}(h:LS M K mp av N cl r S w)(hn:cl.length≤4194304)(hx:Pak.Sits Pak.intSh Sx w a xs)(hSx:∀b,Sx b→K≤b∧b<w.heap.size∧r≠some b)(hNx:∀b,Sx b→∀o,w.frozen? ⟨b,o,none⟩=false):
  ∃v a6 n6 c6 w6,w.cell? ⟨M,2,none⟩=some v∧(∀ty,(Builtin.append_ #[41,41] ty #[v,.slice (some ⟨w.heap.size,0,none⟩) 1 1]).run Tryz.prog (w.alloc (.cells #[.slice a xs.length cap] 23))= .ok (.slice a6 n6 c6) w6)∧w6.cell? ⟨M,2,none⟩=some v∧w6.frozen? ⟨M,2,none⟩=false∧LTo M K mp av N (cl ++ [xs]) r (fun b=>S b∨Sx b) w (w6.setCell ⟨M,2,none⟩ (.slice a6 n6 c6)):=by
 obtain⟨v,h1,h2,h3⟩:=h.ex
 have h4:=h.lo
 have hl:=h.lt
 obtain⟨v6,w6,hr,k1,k2,k3⟩:=h3.put (P:=Tryz.prog) (t:=41) (x:=xs) (cs:=[.slice a xs.length cap]) (Sx:=Sx) Tryz.underlying41 (by':=24) (by kernel_rfl) (by decide) (by decide) hn hl.2 ⟨_,rfl,a,cap,rfl,hx⟩ (fun b hb=>⟨(hSx b hb).2.1,by rw[h2];exact(hSx b hb).2.2⟩)
 have hrM:v.ownBlock≠some M:=fun e=>by have:=(h3.lt M e).1;omega
 have hlt:M<w.heap.size:=by omega
 have hg6:w6.heap[M]? =w.heap[M]? :=k2.block M hlt (fun e=>hrM e.symm)
 have c:=fun j=>World.cell?_of_block (a:=⟨M,j,none⟩) hg6
 have hs6:=k2.size
 have hsz:(w6.setCell ⟨M,2,none⟩ v6).heap.size=w6.heap.size:=by simp[World.setCell]
 have k4:∀b,S b∨Sx b→K≤b:=fun b hb=>by
  rcases hb with hb | hb
  ·exact h4 b hb
  ·exact(hSx b hb).1
 have hv6:∀q,v6.ownBlock=some q→K≤q:=fun q hq=>(k1.lt q hq).1
 obtain⟨a6,c6,e6⟩:=k1.form
 generalize (cl ++ [xs]).length=n6 at e6
 subst e6
 refine⟨v,a6,n6,c6,w6,h1,hr,(c 2).trans h1,(World.frozen?_of_block (a:=⟨M,2,none⟩) hg6).trans (h.fz 2),Value.ownBlock (.slice a6 n6 c6),⟨(World.cell?_setCell_other w6 ⟨M,2,none⟩ ⟨M,0,none⟩ _ (by simp)).trans ((c 0).trans h.c0),(World.cell?_setCell_other w6 ⟨M,2,none⟩ ⟨M,1,none⟩ _ (by simp)).trans ((c 1).trans h.c1),⟨_,World.cell?_setCell_same' _ _ _ (by rw[c 2,h1];rfl),rfl,k1.grown (grown_set _) (fun q hq=> ?_)⟩,k4,(World.cell?_setCell_other w6 ⟨M,2,none⟩ ⟨M,3,none⟩ _ (by simp)).trans ((c 3).trans h.c3),fun j=> ?_,⟨hl.1,by omega⟩,fun b hb o=> ?_⟩,by rw[←h2];exact k3,⟨k2.os,k2.tape,k2.output,by omega,fun q hq h5 h6=> ?_⟩⟩
 ·injection hq with hq
  subst hq
  exact⟨fun hb=>by have:=k4 M hb;omega,fun e=>by have:=hv6 M e;omega⟩
 ·rw[World.frozen?_setCell,World.frozen?_of_block (a:=⟨M,j,none⟩) hg6]
  exact h.fz j
 ·have hbz:b<w.heap.size∧v.ownBlock≠some b:=by
   rcases hb with hb | hb
   ·exact h3.ok b hb
   ·exact⟨(hSx b hb).2.1,by rw[h2];exact(hSx b hb).2.2⟩
  rw[World.frozen?_setCell,World.frozen?_of_block (a:=⟨b,o,none⟩) (k2.block b hbz.1 (fun e=>hbz.2 e.symm))]
  rcases hb with hb | hb
  ·exact h.nf b hb o
  ·exact hNx b hb o
 ·rw[Below.heap_setCell _ _ _ _ h5,k2.block q hq (by rw[h2];exact h6)]
end
def LEnd (M K mp:Nat)(av:Value)(N:Nat)(cl:List (List Int))(r:Option Nat)(S':Nat→Prop)(w:World)(e:Ending)(w':World):Prop:=e= .returned (.tuple #[])∧LTo M K mp av N cl r S' w w'
theorem clause_any (M K mp:Nat)(av:Value)(N:Nat)(cl:List (List Int))(r:Option Nat)(w:World)(a:Option Addr)(n cap:Nat)(xs:List Int)(S Sx:Nat→Prop)(h:LS M K mp av N cl r S w)(hn:cl.length≤4194304)(hxn:xs.length=n)(hx:Pak.Sits Pak.intSh Sx w a xs)(hSx:∀b,Sx b→K≤b∧b<w.heap.size∧r≠some b)(hNx:∀b,Sx b→∀o,w.frozen? ⟨b,o,none⟩=false):
  Calls Tryz.prog 54 #[.pointer (some ⟨M,0,none⟩),.slice a n cap] w (LEnd M K mp av N (cl ++ [xs]) r (fun b=>S b∨Sx b) w):=by
 obtain⟨v,a6,n6,c6,w6,h1,hr,h2,h3,h4⟩:=h.add (cap:=cap) hn hx hSx hNx
 rw[hxn]at hr
 have H4:=Lib.hid h4
 clear h hn hx hSx hNx h4
 go_enter Tryz.func54,Tryz.ntmps54
 go_wp2_with (at_builtin;refine Lib.wpList_append_run _ rfl _ _ _ _ rfl _ _ rfl rfl _ _ (hr _) ?_)
 go_end0
 exact⟨rfl,H4.out⟩
end
section
open Go.RowKit
def sm (B x:Int):Prop:= -B≤x∧x≤B
theorem ints_new (w:World)(xs:List Int)(h:∀x∈xs, -9223372036854775808≤x∧x≤9223372036854775807)(hl:xs.length≤9223372036854775807):Pak.Sits Pak.intSh (fun b=>b=w.heap.size) (w.alloc (.cells (xs.map (Value.int .i64)).toArray 3)) (some ⟨w.heap.size,0,none⟩) xs:=by
 refine⟨hl,fun i hi=>⟨w.heap.size,0,[.int .i64 xs[i]],rfl,rfl,fun j u hu=> ?_,rfl,h _ (List.getElem_mem hi)⟩⟩
 have hj:j=0:=by have:=(List.getElem?_eq_some_iff.1 hu).1;simp at this;exact this
 subst hj
 rw[cell_of_row _ _ _ _ _ _ (heap_alloc_new w _)]
 simp at hu
 subst hu
 have e:Pak.intSh.k=1:=rfl
 simp[e,hi]
theorem own_new (w:World)(x:Int)(h: -9223372036854775808≤x∧x≤9223372036854775807){K:Nat}(hK:K≤w.heap.size):OwnP Pak.intSh 3 K (fun _=>False) [x] (.slice (some ⟨w.heap.size,0,none⟩) 1 1) (w.alloc (.cells #[.int .i64 x] 3)):=
 ⟨⟨[[.int .i64 x]],rfl,⟨rfl,.inr ⟨w.heap.size,1, #[.int .i64 x],rfl,hK,heap_alloc_new w _,Nat.le_refl _,by decide,rfl,rfl⟩⟩,fun i hi hi2=>by
   have:i=0:=by simp at hi;exact hi
   subst this
   exact⟨rfl,h⟩⟩,fun b hb=>hb.elim⟩
def joinK (v s:Int)(ls:List Int)(k:Nat):List (List Int):=(ls.take k).map fun l=>[-v,s*l]
def lastK (v s:Int)(ls:List Int)(k:Nat):List Int:=v :: (ls.take k).map fun l=> -s*l
theorem joinK_succ {v s:Int}{ls:List Int}{k:Nat}(h:k<ls.length):joinK v s ls (k+1)=joinK v s ls k ++ [[-v,s*ls[k]]]:=by
 unfold joinK;rw[List.take_succ_eq_append_getElem h,List.map_append];rfl
theorem lastK_succ {v s:Int}{ls:List Int}{k:Nat}(h:k<ls.length):lastK v s ls (k+1)=lastK v s ls k ++ [-s*ls[k]]:=by
 unfold lastK;rw[List.take_succ_eq_append_getElem h,List.map_append];rfl
theorem join_all (v s:Int)(ls:List Int):joinK v s ls ls.length ++ [lastK v s ls ls.length]=joinL v s ls:=by
 unfold joinK lastK joinL;rw[List.take_length]
def JEnd (M K mp:Nat)(av:Value)(N:Nat)(cl:List (List Int))(r:Option Nat)(S:Nat→Prop)(w:World)(w':World):Prop:=∃S',(∀b,S' b→S b∨w.heap.size≤b)∧LTo M K mp av N cl r S' w w'
theorem join_any (M K mp:Nat)(av:Value)(N:Nat)(cl:List (List Int))(r:Option Nat)(S Sl:Nat→Prop)(w:World)(v s:Int)(a:Option Addr)(n cap:Nat)(ls:List Int)(h:LS M K mp av N cl r S w)(hn:cl.length+n≤4000000)(hln:ls.length=n)(hl:Pak.Sits Pak.intSh Sl w a ls)(hSl:∀b,Sl b→b<w.heap.size∧b≠M∧r≠some b)
  (hv:sm 1000000000000 v) (hs:s=1∨s= -1) (hx:∀x∈ls,sm 1000000000000 x):
  Calls Tryz.prog 87 #[.pointer (some ⟨M,0,none⟩),.int .i64 v,.int .i64 s,.slice a n cap] w fun e w'=>e= .returned (.tuple #[])∧JEnd M K mp av N (cl ++ joinL v s ls) r S w w':=by
 unfold sm at hv hx
 have hA:Below w.heap.size w (w.alloc (.cells #[.int .i64 v] 3)):=(Below.refl _ _).alloc (Nat.le_refl _) _
 have hK:=h.lt.2
 have HO:=Lib.hid (own_new w v (by omega) hK)
 have HS:=Lib.hid (h.below hA)
 have HN:=Lib.hid hln
 have HL:=Lib.hid hl
 have HSL:=Lib.hid hSl
 have HX:=Lib.hid hx
 have HK:=Lib.hid hK
 have hsz:(w.alloc (.cells #[.int .i64 v] 3)).heap.size=w.heap.size+1:=by simp
 have HZ:=Lib.hid hsz
 have HW:Hid (Pak.KeptW M r w (w.alloc (.cells #[.int .i64 v] 3))):=Lib.hid (.of_below hA)
 have HH:=Lib.hid h
 have hsm:n≤4000000:=by omega
 have e1:IntKind.i64.wrap (-v)= -v:=IntWalk.i64_in _ (by omega)
 have e2:IntKind.i64.wrap (-s)= -s:=IntWalk.i64_in _ (by omega)
 clear h hl hSl hx hln hA hK hsz
 go_enter Tryz.func87,Tryz.ntmps87
 go_wp2_with fail
 generalize w.alloc (.cells #[.int .i64 v] 3)=W0 at*
 go_loopw [8,15] (fun o i wr=>∃k:Nat,i= .int .i64 k∧k≤n∧∃r' S',Hid (LS M K mp av N (cl ++ joinK v s ls k) r' S' wr)∧Hid (r'=r∨∃q,r'=some q∧w.heap.size≤q)∧Hid (Pak.KeptW M r w wr)∧Hid (∀b,S' b→S b∨w.heap.size≤b)∧Hid (OwnP Pak.intSh 3 K (fun _=>False) (lastK v s ls k) o wr)∧Hid (∀q,o.ownBlock=some q→w.heap.size≤q∧r'≠some q∧¬S' q)) (fun _ i _=>n - (intOf i).toNat)
 case atStart=>
  refine⟨0,rfl,Nat.zero_le _,r,S,Lib.hid (by simpa [joinK]using HS.out),Lib.hid (.inl rfl),HW,Lib.hid (fun b hb=> .inl hb),HO,Lib.hid (fun q hq=> ?_)⟩
  injection hq with hq
  have hq:w.heap.size=q:=hq
  subst hq
  exact⟨Nat.le_refl _,fun e=>by have:=(HH.out.row _ e).2.1;omega,fun e=>by have:=HH.out.ok _ e;omega⟩
 case round=>
  clear HS HO HW
  obtain⟨k,rfl,hk,r1,S1,hS,hr,hW,hS1,hO,hq⟩:=hrel
  by_cases hlt:k<n
  ·have hlti:(k:Int)<(n:Int):=by omega
   have hkl:k<ls.length:=by rw[HN.out];exact hlt
   obtain⟨b,off,us,rfl,hb,hc,rfl,hi⟩:=HL.out.2 k hkl
   have c1:=hc 0 _ rfl
   have hbl:=HSL.out b hb
   have ek:Pak.intSh.k=1:=rfl
   rw[ek,Nat.mul_one,Nat.add_zero]at c1
   have c2:=(World.cell?_of_block (a:=⟨b,off+k,none⟩) (hW.out.block b hbl.1 hbl.2.1 (fun e=>hbl.2.2 e.symm))).trans c1
   have hxk:=HX.out _ (List.getElem_mem hkl)
   have HJ:=Lib.hid (joinK_succ (v:=v) (s:=s) hkl)
   have HT:=Lib.hid (lastK_succ (v:=v) (s:=s) hkl)
   clear hc hi c1 hbl ek
   generalize ls[k]=x at*
   have hb1: -1000000000000≤s*x∧s*x≤1000000000000:=by rcases hs with rfl | rfl<;>omega
   have hb2: -1000000000000≤ -s*x∧ -s*x≤1000000000000:=by rcases hs with rfl | rfl<;>omega
   have e3:IntKind.i64.wrap (s*x)=s*x:=IntWalk.i64_in _ (by omega)
   have e4:IntKind.i64.wrap (-s*x)= -s*x:=IntWalk.i64_in _ (by omega)
   have hA1:Below wr.heap.size wr (wr.alloc (.cells #[.int .i64 (-v),.int .i64 (s*x)] 3)):=(Below.refl _ _).alloc (Nat.le_refl _) _
   have hI:Pak.Sits Pak.intSh (fun b=>b=wr.heap.size) (wr.alloc (.cells #[.int .i64 (-v),.int .i64 (s*x)] 3)) (some ⟨wr.heap.size,0,none⟩) [-v,s*x]:=ints_new wr [-v,s*x] (fun y hy=>by
    rcases List.mem_cons.1 hy with rfl | hy
    ·omega
    ·rw[List.mem_singleton]at hy
     subst hy;omega) (by simp)
   have hKr:=hS.out.lt.2
   have hz1:(wr.alloc (.cells #[.int .i64 (-v),.int .i64 (s*x)] 3)).heap.size=wr.heap.size+1:=by simp
   have HC:=Lib.hid (clause_any M K mp av N _ r1 _ _ 2 2 [-v,s*x] S1 (fun b=>b=wr.heap.size) (hS.out.below hA1) (by rw[List.length_append];unfold joinK;rw[List.length_map,List.length_take];omega) rfl hI (fun b hb=>by
    subst hb
    exact⟨hKr,by omega,fun e=>by have:=(hS.out.row _ e).2.1;omega⟩) (fun b hb o=>by
    subst hb
    exact frozen_of_row _ _ _ _ _ (heap_alloc_new wr _)))
   have HO1:=Lib.hid (hO.out.below hA1)
   have HW1:=Lib.hid (keptW_trans hr.out hW.out (.of_below hA1))
   have HQ:=Lib.hid (fun q h=>And.intro (hq.out q h).1 (And.intro (hq.out q h).2.1 (And.intro (hq.out q h).2.2 (hO.out.lt q h).2)))
   have HZ1:Hid ((wr.alloc (.cells #[.int .i64 (-v),.int .i64 (s*x)] 3)).heap.size=wr.heap.size+1):=Lib.hid hz1
   have HKW:Hid (w.heap.size≤wr.heap.size):=Lib.hid hW.out.size
   clear hA1 hI hKr hz1 hS hO hW hq
   go_wp2_with fail
   clear c2
   generalize wr.alloc (.cells #[.int .i64 (-v),.int .i64 (s*x)] 3)=w1 at*
   refine HC.out.mono ?_
   rintro e w2 ⟨rfl,r2,hS2,hr2,hW2⟩
   have hO2:=HO1.out.keptW hW2 ⟨fun h=>h,fun e=>by have:=(HO1.out.lt _ e).1;have:=hS2.lt.1;omega⟩ (fun q e=>⟨fun h=>h,fun e2=>(HQ.out q e2).2.1 e⟩)
   have hz2:=hW2.size
   have hlen:(lastK v s ls k).length≤4194304:=by unfold lastK;rw[List.length_cons,List.length_map,List.length_take];omega
   obtain⟨v3,w3,hr3,hO3,hg3,hv3⟩:=hO2.put (P:=Tryz.prog) (t:=23) (x:= -s*x) (cs:=[.int .i64 (-s*x)]) (Sx:=fun _=>False) Tryz.underlying23 (by':=8) (by kernel_rfl) (by decide) (by decide) hlen (Nat.le_trans hS2.lt.2 (Nat.le_refl _)) ⟨rfl,by omega⟩ (fun b hb=>hb.elim)
   have hS3:=hS2.grown hg3 (fun q e=>by
    obtain⟨q1,q2,q3,q4⟩:=HQ.out q e
    have hM:=hS2.lt
    have hK2:=HK.out
    refine⟨by omega,fun h=> ?_,fun h=> ?_⟩
    ·rcases h with h | h
     ·exact q3 h
     ·omega
    ·rcases hr2 with rfl | ⟨p,rfl,hp⟩
     ·exact q2 h
     ·injection h with h;have:=HZ1.out;omega)
   have hW3:Pak.KeptW M r w w3:=by
    have h1:=keptW_trans hr.out HW1.out hW2
    refine⟨hg3.os.trans h1.os,hg3.tape.trans h1.tape,hg3.output.trans h1.output,Nat.le_trans h1.size hg3.size,fun q hq a1 a2=>(hg3.block q (Nat.lt_of_lt_of_le hq h1.size) (fun e=> ?_)).trans (h1.block q hq a1 a2)⟩
    have:=(HQ.out q e.symm).1
    omega
   obtain⟨a3,c3,e3'⟩:=hO3.form
   have HF:Hid (∃r' S',Hid (LS M K mp av N (cl ++ joinK v s ls (k+1)) r' S' w3)∧Hid (r'=r∨∃q,r'=some q∧w.heap.size≤q)∧Hid (Pak.KeptW M r w w3)∧Hid (∀b,S' b→S b∨w.heap.size≤b)∧Hid (OwnP Pak.intSh 3 K (fun _=>False) (lastK v s ls (k+1)) v3 w3)∧Hid (∀q,v3.ownBlock=some q→w.heap.size≤q∧r'≠some q∧¬S' q)):=by
    refine Lib.hid ⟨r2,_,Lib.hid (by rw[HJ.out,←List.append_assoc];exact hS3),Lib.hid (next_trans hr.out (Nat.le_trans HKW.out (Nat.le_of_lt (by have:=HZ1.out;omega))) hr2),Lib.hid hW3,Lib.hid (fun b hb=> ?_),Lib.hid (by rw[HT.out];exact hO3.more (fun b hb=>by rcases hb with hb | hb<;>exact hb) (fun b hb=>hb.elim)),Lib.hid (fun q e=> ?_)⟩
    ·rcases hb with hb | hb
     ·exact hS1.out b hb
     ·right;have:=HKW.out;omega
    ·have hz1:=HZ1.out
     rcases hv3 with hv3 | ⟨p,hv3,hp⟩
     ·obtain⟨q1,q2,q3,q4⟩:=HQ.out q (hv3.symm.trans e)
      refine⟨q1,fun h=> ?_,fun h=> ?_⟩
      ·rcases hr2 with rfl | ⟨p,rfl,hp⟩
       ·exact q2 h
       ·injection h with h;omega
      ·rcases h with h | h
       ·exact q3 h
       ·omega
     ·rw[hv3]at e
      injection e with e
      subst e
      have:=HKW.out
      refine⟨by omega,fun h=>by have:=(hS2.row _ h).2.1;omega,fun h=>by have:=hS2.ok _ h;omega⟩
   subst e3'
   generalize (lastK v s ls k ++ [-s*x]).length=n3 at*
   clear hS2 hr2 hW2 hO2 hO3 hg3 hv3 hS3 hW3 HO1 HW1 HC HQ hS1 hr hlen
   go_wp2_with (at_builtin;refine Lib.wpList_append_run _ rfl _ _ _ _ rfl _ _ rfl rfl _ _ (hr3 _) ?_)
   go_roundw
   case rel=>exact⟨k+1,by go_num,by omega,HF.out⟩
   case measure=>simp[intOf];omega
  ·have hlti:¬(k:Int)<(n:Int):=by omega
   obtain rfl:k=n:=by omega
   have hlen:(lastK v s ls k).length=k+1:=by unfold lastK;rw[List.length_cons,List.length_map,List.length_take,HN.out];omega
   obtain⟨a9,c9,e9,hs9⟩:=hO.out.slot (by omega)
   subst e9
   obtain⟨m9,y2⟩:∃m9,(lastK v s ls k).length=m9:=⟨_,rfl⟩
   rw[y2]at hs9 hlen hO hq
   rw[y2]
   have HC:=Lib.hid (clause_any M K mp av N _ r1 _ _ _ c9 (lastK v s ls k) S1 _ hS.out (by rw[List.length_append];unfold joinK;rw[List.length_map,List.length_take];omega) y2 hs9 (fun b hb=>by
    rcases hb with hb | hb
    ·exact hb.elim
    ·exact⟨(hO.out.lt b hb).1,(hO.out.lt b hb).2,(hq.out b hb).2.1⟩) (fun b hb o=>by
    rcases hb with hb | hb
    ·exact hb.elim
    ·exact hO.out.nf b hb o))
   have hlo:=fun b (hb:S1 b∨(False∨_))=>(show S b∨w.heap.size≤b by
    rcases hb with hb | hb | hb
    ·exact hS1.out b hb
    ·exact hb.elim
    ·exact .inr (hq.out b hb).1)
   have HLO:=Lib.hid hlo
   have HALL:=Lib.hid (join_all v s ls)
   have HNK:=Lib.hid HN.out
   clear hlo y2 hs9 hS hO hS1 hq hlen HN HSL HL HX HH HZ
   go_wp2_with fail
   refine HC.out.mono ?_
   rintro e w2 ⟨rfl,r2,hS2,hr2,hW2⟩
   have HE:Hid (JEnd M K mp av N (cl ++ joinL v s ls) r S w w2):=by
    refine Lib.hid ⟨_,HLO.out, ?_⟩
    have hj:=HALL.out
    rw[HNK.out]at hj
    rw[←hj,←List.append_assoc]
    exact⟨r2,hS2,next_trans hr.out hW.out.size hr2,keptW_trans hr.out hW.out hW2⟩
   clear hS2 hr2 hW2
   go_wp2_with fail
   go_end0
   exact⟨rfl,HE.out⟩
end
section
open Go.RowKit Go.Maps
theorem Tryz.lawStr:Keyed Tryz.prog 9:=string_keyed Tryz.underlying9
theorem Tryz.zeroInt (w:World):(zeroValue 3).run Tryz.prog w= .ok (.int .i64 0) w:=by kernel_rfl
structure Places (am:List (Int×List (Int×Int)))(mp:Nat)(w:World):Prop where
 ex:∃D:DataW Unit,w.ownsMap Tryz.prog 9 (plainElem Tryz.prog 3) mp am.length D∧∀c t,D.atKey (.string (textL c t)) (.lit (.int .i64 0))= .lit (.int .i64 (atN am (c,t)))
theorem Places.made (w:World):Places [] w.heap.size (w.alloc (.map #[] 0)):=⟨.map [],World.ownsMap_made _ _ _ _,fun c t=>rfl⟩
theorem Places.keep {am:List (Int×List (Int×Int))}{mp:Nat}{w w':World}(h:Places am mp w)(hk:w'.heap[mp]? =w.heap[mp]?):Places am mp w':=by
 obtain⟨D,⟨es,clock,hb,F,hs,hD⟩,h2⟩:=h.ex
 exact⟨D,⟨es,clock,hk.trans hb,F,hs,hD⟩,h2⟩
theorem key_of {c:Int}{t:List (Int×Int)}(hs:(textL c t).length≤4000):keyOf Tryz.prog 9 (.string ⟨(textL c t).toArray⟩)=some (.string (textL c t)):=by
 have:=Go.WideMaps.keyOf_string_mk (P:=Tryz.prog) Tryz.underlying9 (s:=⟨(textL c t).toArray⟩) (by show(textL c t).toArray.size≤_;rw[List.size_toArray];unfold maxLen;omega)
 simpa using this
theorem Places.look {am:List (Int×List (Int×Int))}{mp:Nat}{w:World}(h:Places am mp w){c:Int}{t:List (Int×Int)}(hs:(textL c t).length≤4000):
  (Instr.lookup 108 (.map (some mp)) (.string ⟨(textL c t).toArray⟩) false).run Tryz.prog w= .ok (.int .i64 (atN am (c,t))) w:=by
 obtain⟨D,h1,h2⟩:=h.ex
 obtain⟨x,hr,hx,_⟩:=h1.lookup_int Tryz.lawStr Tryz.underlying108 Tryz.underlying3 (Tryz.zeroInt _) (key_of hs)
 rw[h2]at hx
 injection hx with hx
 injection hx with _ hx
 rw[hr,hx]
theorem Places.put {am:List (Int×List (Int×Int))}{mp:Nat}{w:World}(h:Places am mp w){c:Int}{t:List (Int×Int)}(hs:(textL c t).length≤4000)(hn:am.length≤1000000)(h0:atN am (c,t)=0):
  ∃w',(Instr.mapUpdate 108 (.map (some mp)) (.string ⟨(textL c t).toArray⟩) (.int .i64 (am.length+1:Nat))).run Tryz.prog w= .ok () w'∧Places (am ++ [(c,t)]) mp w'∧w.grownBy w' (some mp):=by
 obtain⟨D,h1,h2⟩:=h.ex
 obtain⟨w',hr,h3,h4⟩:=h1.update Tryz.lawStr Tryz.underlying108 (by unfold maxLen;omega) (key_of hs) (plainElem_int Tryz.underlying3 (a:=((am.length+1:Nat):Int)) (WalkArith.wf_i64 (by omega)))
 refine⟨w',hr,⟨_,by rw[List.length_append];exact h3,fun c' t'=> ?_⟩,h4⟩
 rw[atN_snoc]
 by_cases e:(c,t)=(c',t')
 ·obtain⟨rfl,rfl⟩:c=c'∧t=t':=by injection e with e1 e2;exact⟨e1,e2⟩
  rw[if_pos h0,if_pos rfl]
  exact atKey_put_same h1.isMap (by exact trivial) _ _
 ·rw[atKey_put_other (fun h=>by
   injection h with h
   obtain⟨h5,h6⟩:=textL_inj h
   exact e (by rw[h5,h6])) _ _,h2]
  by_cases h5:atN am (c',t')=0
  ·rw[if_pos h5,if_neg e,h5]
  ·rw[if_neg h5]
end
end Go.Proofs.YtipahfcaplbifaaGreatDoor
