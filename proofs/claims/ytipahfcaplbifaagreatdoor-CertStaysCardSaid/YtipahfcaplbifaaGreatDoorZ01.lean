/- Parts of a proof. -/
import Derived.WalkKit
import Derived.Deep.AppendSrc
import Derived.Lib.Hide
import Derived.Below
import Derived.Laws.AppendOwn
import Derived.Test.YtipahfcaplbifaaGreatDoorProg
import Derived.RegionTactic
import Derived.BigQuiet
import Derived.Deep.RegionWith
set_option linter.unusedVariables false
set_option linter.unusedSimpArgs false
set_option maxHeartbeats 60000000
set_option maxRecDepth 100000
namespace Go.Proofs.YtipahfcaplbifaaGreatDoor
namespace Prp
inductive Der (cs:List (List Int)) (ls:List Int):Int→Prop
 | told {l:Int}:l∈ls→Der cs ls l
 | rule {c:List Int} {l:Int}:c∈cs→l∈c→(∀x,x∈c→x≠l→Der cs ls (-x))→Der cs ls l
def Conf (cs:List (List Int))(ls:List Int):Prop:=[]∈cs∨∃l,Der cs ls l∧Der cs ls (-l)
def va (A:Nat→Int)(l:Int):Int:=if 0<l then A l.toNat else -A (-l).toNat
def inR (n:Nat)(l:Int):Prop:=l≠0∧ -(n:Int)≤l∧l≤n
def upd (f:Nat→Int)(i:Nat)(v:Int):Nat→Int:=fun j=>if j=i then v else f j
theorem upd_same {f:Nat→Int}{i:Nat}{v:Int}:upd f i v i=v:=if_pos rfl
theorem upd_ne {f:Nat→Int}{i j:Nat}{v:Int}(h:j≠i):upd f i v j=f j:=if_neg h
def setL (A:Nat→Int)(l:Int):Nat→Int:=if 0<l then upd A l.toNat 1 else upd A (-l).toNat (-1)
theorem va_neg {A:Nat→Int}{l:Int}(h:l≠0):va A (-l)= -va A l:=by
 unfold va
 by_cases h1:0<l
 ·rw[if_pos h1,if_neg (by omega),Int.neg_neg]
 ·rw[if_neg h1,if_pos (by omega)];omega
theorem va_setL {A:Nat→Int}{l x:Int}(hl:l≠0)(hx:x≠0):va (setL A l) x=if x=l then 1 else if x= -l then -1 else va A x:=by
 unfold va setL upd
 by_cases h1:0<l<;>by_cases h2:0<x<;>simp only[h1,h2,if_true,if_false]
 ·by_cases e:x=l
  ·subst e;simp
  ·rw[if_neg (by omega),if_neg e,if_neg (by omega)]
 ·by_cases e:x= -l
  ·rw[if_pos (by omega),if_neg (by omega),if_pos e]
  ·rw[if_neg (by omega),if_neg (by omega),if_neg e]
 ·by_cases e:x= -l
  ·rw[if_pos (by omega),if_neg (by omega),if_pos e]
  ·rw[if_neg (by omega),if_neg (by omega),if_neg e]
 ·by_cases e:x=l
  ·subst e;simp
  ·rw[if_neg (by omega),if_neg e,if_neg (by omega)]
theorem inR.neg {n:Nat}{l:Int}(h:inR n l):inR n (-l):=⟨by have:=h.1;omega,by have:=h.2.2;omega,by have:=h.2.1;omega⟩
structure Sane (n:Nat)(cs:List (List Int))(ls:List Int):Prop where
 hc:∀c,c∈cs→∀x,x∈c→inR n x
 hl:∀l,l∈ls→inR n l
theorem Der.inR {n:Nat}{cs:List (List Int)}{ls:List Int}(hs:Sane n cs ls){l:Int}(h:Der cs ls l):inR n l:=by
 cases h with
 | told h=>exact hs.hl _ h
 | rule hc hl _=>exact hs.hc _ hc _ hl
inductive FollowIs (n:Nat) (cs:List (List Int)) (ls:List Int):Bool→(Nat→Int)→Prop
 | conf {A:Nat→Int}:Conf cs ls→FollowIs n cs ls true A
 | ok {A:Nat→Int}:(∀i,A i= -1∨A i=0∨A i=1)→A 0=0→(∀l,inR n l→(va A l=1↔Der cs ls l))→¬Conf cs ls→FollowIs n cs ls false A
def act (c:List Int):Prop:=∃x,x∈c∧x≠c.headD 0
def isW (cs:List (List Int))(w:Nat):Prop:=∃c,cs[w / 2]? =some c∧act c
def oth (w:Nat):Nat:=if w % 2=0 then w+1 else w - 1
theorem oth_div (w:Nat):oth w / 2=w / 2:=by unfold oth;split<;>omega
theorem oth_oth (w:Nat):oth (oth w)=w:=by unfold oth;split<;>split<;>omega
def place (l:Int):Nat:=if 0<l then(2*l).toNat else(-2*l+1).toNat
theorem place_inj {n:Nat}{l x:Int}(h1:inR n l)(h2:inR n x)(h:place l=place x):l=x:=by
 have a:=h1.1;have b:=h2.1
 unfold place at h
 split at h<;>split at h<;>omega
theorem place_lt {n:Nat}{l:Int}(h:inR n l):place l<2*n+2:=by
 have a:=h.2.1;have b:=h.2.2
 unfold place;split<;>omega
def Ch (T:Nat→Int):Int→List Nat→Prop
 | x,[]=>x= -1
 | x,w :: r=>x=w∧Ch T (T w) r
theorem Ch.upd {T:Nat→Int}{w:Nat}{v:Int}:∀ {x:Int} {r:List Nat},Ch T x r→w∉r→Ch (upd T w v) x r
 | _,[],h,_=>h
 | _,y :: r,h,hn=>⟨h.1,by
   rw[upd_ne (fun e=>hn (by rw[←e];exact List.mem_cons_self))]
   exact Ch.upd h.2 (fun hm=>hn (List.mem_cons_of_mem _ hm))⟩
structure Asg (n:Nat)(cs:List (List Int))(ls:List Int)(A:Nat→Int)(Q:List Int):Prop where
 tri:∀i,A i= -1∨A i=0∨A i=1
 zero:A 0=0
 snd:∀l,inR n l→va A l=1→Der cs ls l
 qin:∀l,l∈Q→inR n l∧va A l=1
 qnd:Q.Nodup
theorem va_tri {A:Nat→Int}(h:∀i,A i= -1∨A i=0∨A i=1)(l:Int):va A l= -1∨va A l=0∨va A l=1:=by
 unfold va
 split
 ·exact h _
 ·have:=h (-l).toNat;omega
def dead (A:Nat→Int)(Q:List Int)(l:Int):Prop:=va A (-l)=1∧ -l∉Q
structure Wat (cs:List (List Int))(n:Nat)(A:Nat→Int)(Q:List Int)(Wd F T S:Nat→Int)(L:Int→List Nat)(R:List Nat):Prop where
 two:∀i c,cs[i]? =some c→act c→Wd (2*i)∈c∧Wd (2*i+1)∈c∧Wd (2*i)≠Wd (2*i+1)∧0≤S i∧S i≤c.length∧
  ∀k,k<(S i).toNat→c.getD k 0=Wd (2*i)∨c.getD k 0=Wd (2*i+1)∨va A (c.getD k 0)= -1
 chain:∀l,inR n l→¬dead A Q l→Ch T (F (place l)) (L l)
 mem:∀l,inR n l→¬dead A Q l→∀w,w∈L l↔(isW cs w∧Wd w=l)
 nd:∀l,inR n l→¬dead A Q l→(L l).Nodup
 done:∀w,isW cs w→dead A Q (Wd w)→va A (Wd (oth w))=1∨w∈R
theorem Asg.make {n:Nat}{cs:List (List Int)}{ls:List Int}{A:Nat→Int}{Q:List Int}(h:Asg n cs ls A Q){l:Int}(hl:inR n l)(hv:va A l=0)(hd:Der cs ls l):Asg n cs ls (setL A l) (Q ++ [l]):=by
 have h0:=hl.1
 refine⟨fun i=> ?_, ?_,fun x hx hxv=> ?_,fun x hx=> ?_, ?_⟩
 ·unfold setL upd
  have:=h.tri i
  split<;>(simp only;split<;>omega)
 ·unfold setL upd
  have:=h.zero
  split<;>(simp only;rw[if_neg (by omega)];exact this)
 ·rw[va_setL h0 hx.1]at hxv
  split at hxv
  ·rename_i e;subst e;exact hd
  ·split at hxv
   ·omega
   ·exact h.snd x hx hxv
 ·rcases List.mem_append.1 hx with hx | hx
  ·obtain⟨h1,h2⟩:=h.qin x hx
   refine⟨h1, ?_⟩
   rw[va_setL h0 h1.1]
   split
   ·rfl
   ·split
    ·rename_i _ e
     subst e
     rw[va_neg h0,hv]at h2
     omega
    ·exact h2
  ·rw[List.mem_singleton]at hx
   subst hx
   exact⟨hl,by rw[va_setL h0 h0,if_pos rfl]⟩
 ·refine List.nodup_append.2 ⟨h.qnd,(by simp),fun a ha b hb e=> ?_⟩
  rw[List.mem_singleton]at hb
  have:=(h.qin a ha).2
  rw[e,hb,hv]at this
  omega
theorem dead_make {n:Nat}{cs:List (List Int)}{ls:List Int}{A:Nat→Int}{Q:List Int}(h:Asg n cs ls A Q){l:Int}(hl:l≠0)(hv:va A l=0){x:Int}(hx:x≠0):dead (setL A l) (Q ++ [l]) x↔dead A Q x:=by
 unfold dead
 rw[va_setL hl (by omega),List.mem_append,List.mem_singleton]
 by_cases e: -x=l
 ·rw[if_pos e,e,hv]
  constructor
  ·rintro⟨_,h2⟩;exact absurd (Or.inr rfl) h2
  ·rintro⟨h1,_⟩;omega
 ·rw[if_neg e]
  by_cases e2: -x= -l
  ·rw[if_pos e2]
   have:x=l:=by omega
   subst this
   rw[va_neg hx,hv]
   constructor
   ·rintro⟨h1,_⟩;omega
   ·rintro⟨h1,_⟩;omega
  ·rw[if_neg e2]
   constructor
   ·rintro⟨h1,h2⟩;exact⟨h1,fun h=>h2 (.inl h)⟩
   ·rintro⟨h1,h2⟩;exact⟨h1,fun h=>h.elim h2 e⟩
theorem va_mono {A:Nat→Int}{l x:Int}(hl:l≠0)(hx:x≠0)(hv:va A l=0):(va A x=1→va (setL A l) x=1)∧(va A x= -1→va (setL A l) x= -1):=by
 rw[va_setL hl hx]
 constructor
 ·intro h
  split
  ·rfl
  ·split
   ·rename_i _ e;subst e;rw[va_neg hl,hv]at h;omega
   ·exact h
 ·intro h
  split
  ·rename_i e;subst e;omega
  ·split
   ·rfl
   ·exact h
theorem act_inR {n:Nat}{cs:List (List Int)}{ls:List Int}(hs:Sane n cs ls){A:Nat→Int}{Q:List Int}{Wd F T S:Nat→Int}{L:Int→List Nat}{R:List Nat}(h:Wat cs n A Q Wd F T S L R){w:Nat}(hw:isW cs w):inR n (Wd w)∧inR n (Wd (oth w))∧Wd w≠Wd (oth w)∧∃c,cs[w / 2]? =some c∧Wd w∈c∧Wd (oth w)∈c:=by
 obtain⟨c,hc,ha⟩:=hw
 obtain⟨h1,h2,h3,_⟩:=h.two _ c hc ha
 have hm:c∈cs:=List.mem_of_getElem? hc
 unfold oth
 by_cases e:w % 2=0
 ·rw[if_pos e]
  have e1:2*(w / 2)=w:=by omega
  rw[e1]at h1 h2 h3
  exact⟨hs.hc c hm _ h1,hs.hc c hm _ h2,h3,c,hc,h1,h2⟩
 ·rw[if_neg e]
  have e1:2*(w / 2)+1=w:=by omega
  have e2:2*(w / 2)=w - 1:=by omega
  rw[e1]at h2 h3
  rw[e2]at h1 h3
  exact⟨hs.hc c hm _ h2,hs.hc c hm _ h1,fun h=>h3 h.symm,c,hc,h2,h1⟩
theorem Wat.make {n:Nat}{cs:List (List Int)}{ls:List Int}(hs:Sane n cs ls){A:Nat→Int}{Q:List Int}{Wd F T S:Nat→Int}{L:Int→List Nat}{R:List Nat}(hA:Asg n cs ls A Q)(h:Wat cs n A Q Wd F T S L R){l:Int}(hl:inR n l)(hv:va A l=0):Wat cs n (setL A l) (Q ++ [l]) Wd F T S L R:=by
 have hdm:∀x,inR n x→(dead (setL A l) (Q ++ [l]) x↔dead A Q x):=fun x hx=>dead_make hA hl.1 hv hx.1
 refine⟨fun i c hc ha=> ?_,fun x hx hd=>h.chain x hx (fun e=>hd ((hdm x hx).2 e)),fun x hx hd=>h.mem x hx (fun e=>hd ((hdm x hx).2 e)),fun x hx hd=>h.nd x hx (fun e=>hd ((hdm x hx).2 e)),fun w hw hd=> ?_⟩
 ·obtain⟨h1,h2,h3,h4,h5,h6⟩:=h.two i c hc ha
  refine⟨h1,h2,h3,h4,h5,fun k hk=> ?_⟩
  rcases h6 k hk with e | e | e
  ·exact .inl e
  ·exact .inr (.inl e)
  ·have hk2:k<c.length:=by omega
   have hm:c.getD k 0∈c:=by rw[List.getD_eq_getElem?_getD,List.getElem?_eq_getElem hk2];exact List.getElem_mem hk2
   exact .inr (.inr ((va_mono hl.1 (hs.hc c (List.mem_of_getElem? hc) _ hm).1 hv).2 e))
 ·obtain⟨r1,r2,_⟩:=act_inR hs h hw
  rcases h.done w hw ((hdm _ r1).1 hd)with e | e
  ·exact .inl ((va_mono hl.1 r2.1 hv).1 e)
  ·exact .inr e
theorem Asg.deq {n:Nat}{cs:List (List Int)}{ls:List Int}{A:Nat→Int}{q:Int}{Q:List Int}(h:Asg n cs ls A (q :: Q)):Asg n cs ls A Q:=
 ⟨h.tri,h.zero,h.snd,fun l hl=>h.qin l (List.mem_cons_of_mem _ hl),(List.nodup_cons.1 h.qnd).2⟩
theorem dead_deq {A:Nat→Int}{q:Int}{Q:List Int}{x:Int}:dead A (q :: Q) x→dead A Q x:=fun h=>⟨h.1,fun hm=>h.2 (List.mem_cons_of_mem _ hm)⟩
theorem dead_deq2 {A:Nat→Int}{q:Int}{Q:List Int}{x:Int}(h:dead A Q x):dead A (q :: Q) x∨x= -q:=by
 by_cases e:x= -q
 ·exact .inr e
 ·refine .inl ⟨h.1,fun hm=> ?_⟩
  rcases List.mem_cons.1 hm with h1 | h1
  ·omega
  ·exact h.2 h1
theorem Wat.deq {n:Nat}{cs:List (List Int)}{ls:List Int}{A:Nat→Int}{q:Int}{Q:List Int}{Wd F T S:Nat→Int}{L:Int→List Nat}(hA:Asg n cs ls A (q :: Q))(h:Wat cs n A (q :: Q) Wd F T S L []):
 Wat cs n A Q Wd F T S L (L (-q))∧Ch T (F (place (-q))) (L (-q))∧(L (-q)).Nodup∧(∀w,w∈L (-q)→isW cs w∧Wd w= -q)∧va A (-q)= -1∧dead A Q (-q):=by
 obtain⟨hqr,hqv⟩:=hA.qin q List.mem_cons_self
 have hnd:¬dead A (q :: Q) (-q):=fun h=>h.2 (by rw[Int.neg_neg];exact List.mem_cons_self)
 have hdq:dead A Q (-q):=⟨by rw[Int.neg_neg];exact hqv,by rw[Int.neg_neg];exact(List.nodup_cons.1 hA.qnd).1⟩
 refine⟨⟨h.two,fun l hl hd=>h.chain l hl (fun e=>hd (dead_deq e)),fun l hl hd=>h.mem l hl (fun e=>hd (dead_deq e)),fun l hl hd=>h.nd l hl (fun e=>hd (dead_deq e)),fun w hw hd=> ?_⟩,h.chain _ hqr.neg hnd,h.nd _ hqr.neg hnd,fun w hw=>(h.mem _ hqr.neg hnd w).1 hw,by rw[va_neg hqr.1,hqv],hdq⟩
 rcases dead_deq2 hd with e | e
 ·rcases h.done w hw e with e | e
  ·exact .inl e
  ·cases e
 ·exact .inr ((h.mem _ hqr.neg hnd w).2 ⟨hw,e⟩)
theorem Wat.drop {n:Nat}{cs:List (List Int)}{A:Nat→Int}{Q:List Int}{Wd F T S:Nat→Int}{L:Int→List Nat}{w:Nat}{R:List Nat}(h:Wat cs n A Q Wd F T S L (w :: R))(ho:va A (Wd (oth w))=1):Wat cs n A Q Wd F T S L R:=
 ⟨h.two,h.chain,h.mem,h.nd,fun x hx hd=>by
   rcases h.done x hx hd with e | e
   ·exact .inl e
   ·rcases List.mem_cons.1 e with e | e
    ·subst e;exact .inl ho
    ·exact .inr e⟩
theorem Wat.seen {n:Nat}{cs:List (List Int)}{A:Nat→Int}{Q:List Int}{Wd F T S:Nat→Int}{L:Int→List Nat}{R:List Nat}(h:Wat cs n A Q Wd F T S L R){i m:Nat}{c:List Int}(hc:cs[i]? =some c)(hm:m≤c.length)
 (hk:∀k,k<m→c.getD k 0=Wd (2*i)∨c.getD k 0=Wd (2*i+1)∨va A (c.getD k 0)= -1):Wat cs n A Q Wd F T (upd S i m) L R:=by
 refine⟨fun j d hd ha=> ?_,h.chain,h.mem,h.nd,h.done⟩
 obtain⟨h1,h2,h3,h4,h5,h6⟩:=h.two j d hd ha
 by_cases e:j=i
 ·subst e
  obtain rfl:c=d:=Option.some.inj (hc.symm.trans hd)
  rw[upd_same]
  exact⟨h1,h2,h3,by omega,by omega,fun k hk2=>hk k (by omega)⟩
 ·rw[upd_ne e]
  exact⟨h1,h2,h3,h4,h5,h6⟩
theorem Wat.move {n:Nat}{cs:List (List Int)}{ls:List Int}(hs:Sane n cs ls){A:Nat→Int}{Q:List Int}{Wd F T S:Nat→Int}{L:Int→List Nat}{w:Nat}{R:List Nat}{c:List Int}{m:Nat}
 (h:Wat cs n A Q Wd F T S L (w :: R)) (hR:w∉R) (hw:isW cs w) (hf:va A (Wd w)= -1) (hdd:dead A Q (Wd w)) (hc:cs[w / 2]? =some c) (hm:m<c.length)
 (hx1:c.getD m 0≠Wd (oth w)) (hx2:0≤va A (c.getD m 0))
 (hk:∀k,k<m→c.getD k 0=Wd (2*(w / 2))∨c.getD k 0=Wd (2*(w / 2)+1)∨va A (c.getD k 0)= -1):
 ∃L',Wat cs n A Q (upd Wd w (c.getD m 0)) (upd F (place (c.getD m 0)) w) (upd T w (F (place (c.getD m 0)))) (upd S (w / 2) (m+1:Nat)) L' R:=by
 obtain⟨r1,r2,r3,_⟩:=act_inR hs h hw
 have hcm:c∈cs:=List.mem_of_getElem? hc
 have hxm:c.getD m 0∈c:=by rw[List.getD_eq_getElem?_getD,List.getElem?_eq_getElem hm];exact List.getElem_mem hm
 generalize hxe:c.getD m 0=x at hx1 hx2 hxm⊢
 have hxr:inR n x:=hs.hc c hcm x hxm
 have hxnd:¬dead A Q x:=fun hd=>by have:=hd.1;rw[va_neg hxr.1]at this;omega
 have hxw:x≠Wd w:=fun e=>by rw[e,hf]at hx2;omega
 have hactc:act c:=by obtain⟨d,hd,ha⟩:=hw;obtain rfl:=Option.some.inj (hc.symm.trans hd);exact ha
 have hwx:w∉L x:=fun hm=>hxw ((h.mem x hxr hxnd w).1 hm).2.symm
 have hpair:∀k,k<m→c.getD k 0=Wd (oth w)∨va A (c.getD k 0)= -1:=fun k hk2=>by
  rcases hk k hk2 with e | e | e
  ·by_cases p:w % 2=0
   ·rw[show 2*(w / 2)=w by omega]at e;right;rw[e];exact hf
   ·left;rw[e];unfold oth;rw[if_neg p];congr 1;omega
  ·by_cases p:w % 2=0
   ·left;rw[e];unfold oth;rw[if_pos p];congr 1;omega
   ·rw[show 2*(w / 2)+1=w by omega]at e;right;rw[e];exact hf
  ·exact .inr e
 refine⟨fun l=>if l=x then w :: L x else L l,fun j d hd ha=> ?_,fun l hl hnd=> ?_,fun l hl hnd y=> ?_,fun l hl hnd=> ?_,fun y hy hd=> ?_⟩
 ·by_cases e:j=w / 2
  ·subst e
   obtain rfl:c=d:=Option.some.inj (hc.symm.trans hd)
   obtain⟨h1,h2,h3,h4,h5,h6⟩:=h.two _ c hd ha
   rw[upd_same]
   by_cases p:w % 2=0
   ·have e1:2*(w / 2)=w:=by omega
    have eo:oth w=w+1:=by unfold oth;rw[if_pos p]
    rw[e1,upd_same,upd_ne (by omega)]
    rw[eo]at hx1 hpair
    refine⟨hxm,by rw[e1]at h2;exact h2,hx1,by omega,by omega,fun k hk2=> ?_⟩
    by_cases ek:k=m
    ·subst ek;exact .inl hxe
    ·rcases hpair k (by omega)with e | e
     ·exact .inr (.inl e)
     ·exact .inr (.inr e)
   ·have e1:2*(w / 2)+1=w:=by omega
    have e2:2*(w / 2)=w - 1:=by omega
    have eo:oth w=w - 1:=by unfold oth;rw[if_neg p]
    rw[e1,upd_same,e2,upd_ne (by omega)]
    rw[eo]at hx1 hpair
    refine⟨by rw[e2]at h1;exact h1,hxm,fun e=>hx1 e.symm,by omega,by omega,fun k hk2=> ?_⟩
    by_cases ek:k=m
    ·subst ek;exact .inr (.inl hxe)
    ·rcases hpair k (by omega)with e | e
     ·exact .inl e
     ·exact .inr (.inr e)
  ·obtain⟨h1,h2,h3,h4,h5,h6⟩:=h.two j d hd ha
   rw[upd_ne e,upd_ne (show 2*j≠w by omega),upd_ne (show 2*j+1≠w by omega)]
   exact⟨h1,h2,h3,h4,h5,h6⟩
 ·by_cases e:l=x
  ·subst e
   rw[if_pos rfl,upd_same]
   refine⟨rfl, ?_⟩
   rw[upd_same]
   exact(h.chain l hl hnd).upd hwx
  ·rw[if_neg e,upd_ne (fun e2=>e (place_inj hl hxr e2))]
   refine(h.chain l hl hnd).upd (fun hm=> ?_)
   have:=((h.mem l hl hnd w).1 hm).2
   rw[←this]at hnd
   exact hnd hdd
 ·by_cases e:l=x
  ·subst e
   rw[if_pos rfl,List.mem_cons]
   constructor
   ·rintro(rfl | hy)
    ·exact⟨hw,upd_same⟩
    ·obtain⟨a,b⟩:=(h.mem l hl hnd y).1 hy
     refine⟨a, ?_⟩
     rw[upd_ne (fun e=>hwx (by rw[←e];exact hy))];exact b
   ·rintro⟨a,b⟩
    by_cases e:y=w
    ·exact .inl e
    ·rw[upd_ne e]at b
     exact .inr ((h.mem l hl hnd y).2 ⟨a,b⟩)
  ·rw[if_neg e]
   constructor
   ·intro hy
    obtain⟨a,b⟩:=(h.mem l hl hnd y).1 hy
    refine⟨a, ?_⟩
    rw[upd_ne (fun e=> ?_)];exact b
    subst e;rw[←b]at hnd;exact hnd hdd
   ·rintro⟨a,b⟩
    by_cases e2:y=w
    ·subst e2;rw[upd_same]at b;exact absurd b.symm e
    ·rw[upd_ne e2]at b
     exact(h.mem l hl hnd y).2 ⟨a,b⟩
 ·by_cases e:l=x
  ·subst e
   rw[if_pos rfl]
   exact List.nodup_cons.2 ⟨hwx,h.nd l hl hnd⟩
  ·rw[if_neg e];exact h.nd l hl hnd
 ·by_cases e:y=w
  ·subst e
   rw[upd_same]at hd
   exact absurd hd hxnd
  ·rw[upd_ne e]at hd
   have ho:oth y=w→va A (upd Wd w x (oth y))=1∨y∈R:=fun eo=>by
    rw[eo,upd_same]
    have ey:oth w=y:=by rw[←eo,oth_oth]
    rcases h.done y hy hd with e1 | e1
    ·rw[eo,hf]at e1;omega
    ·rcases List.mem_cons.1 e1 with e1 | e1
     ·exact absurd e1 e
     ·exact .inr e1
   by_cases eo:oth y=w
   ·exact ho eo
   ·rw[upd_ne eo]
    rcases h.done y hy hd with e1 | e1
    ·exact .inl e1
    ·rcases List.mem_cons.1 e1 with e1 | e1
     ·exact absurd e1 e
     ·exact .inr e1
theorem Wat.rule {n:Nat}{cs:List (List Int)}{ls:List Int}(hs:Sane n cs ls){A:Nat→Int}{Q:List Int}{Wd F T S:Nat→Int}{L:Int→List Nat}{R:List Nat}(hA:Asg n cs ls A Q)(h:Wat cs n A Q Wd F T S L R){w:Nat}(hw:isW cs w){c:List Int}(hc:cs[w / 2]? =some c)(hf:va A (Wd w)= -1)
 (hk:∀k,k<c.length→c.getD k 0=Wd (2*(w / 2))∨c.getD k 0=Wd (2*(w / 2)+1)∨va A (c.getD k 0)= -1):Der cs ls (Wd (oth w)):=by
 obtain⟨r1,r2,r3,d,hd,m1,m2⟩:=act_inR hs h hw
 obtain rfl:c=d:=Option.some.inj (hc.symm.trans hd)
 have hcm:c∈cs:=List.mem_of_getElem? hc
 refine .rule hcm m2 (fun x hx hne=> ?_)
 obtain⟨k,hk2,rfl⟩:=List.getElem_of_mem hx
 have hxr:=hs.hc c hcm _ hx
 have:=hk k hk2
 rw[List.getD_eq_getElem?_getD,List.getElem?_eq_getElem hk2,Option.getD_some]at this
 have hfx:va A c[k]= -1:=by
  rcases this with e | e | e
  ·by_cases p:w % 2=0
   ·rw[show 2*(w / 2)=w by omega]at e;rw[e];exact hf
   ·exact absurd (by rw[e];unfold oth;rw[if_neg p];congr 1;omega) hne
  ·by_cases p:w % 2=0
   ·exact absurd (by rw[e];unfold oth;rw[if_pos p];congr 1;omega) hne
   ·rw[show 2*(w / 2)+1=w by omega]at e;rw[e];exact hf
  ·exact e
 exact hA.snd _ hxr.neg (by rw[va_neg hxr.1,hfx];decide)
theorem Wat.ends {n:Nat}{cs:List (List Int)}{ls:List Int}(hs:Sane n cs ls){A:Nat→Int}{Wd F T S:Nat→Int}{L:Int→List Nat}(hA:Asg n cs ls A [])(h:Wat cs n A [] Wd F T S L [])(hls:∀l,l∈ls→va A l=1)(hun:∀c,c∈cs→¬act c→c≠[]∧va A (c.headD 0)=1):FollowIs n cs ls false A:=by
 have hcomp:∀l,Der cs ls l→va A l=1:=fun l hd=>by
  induction hd with
  | told h=>exact hls _ h
  | @rule c l hc hl hr ih=>
    by_cases ha:act c
    ·obtain⟨i,hi,hci⟩:=List.getElem_of_mem hc
     have hcs:cs[i]? =some c:=by rw[List.getElem?_eq_getElem hi,hci]
     have hw0:isW cs (2*i):=⟨c,by rw[show 2*i / 2=i by omega];exact hcs,ha⟩
     have hw1:isW cs (2*i+1):=⟨c,by rw[show(2*i+1) / 2=i by omega];exact hcs,ha⟩
     obtain⟨h1,h2,h3,_⟩:=h.two i c hcs ha
     have o0:oth (2*i)=2*i+1:=by unfold oth;rw[if_pos (by omega)]
     have o1:oth (2*i+1)=2*i:=by unfold oth;rw[if_neg (by omega)];omega
     have key:∀a b:Nat,isW cs a→oth a=b→Wd a∈c→Wd b∈c→Wd a≠l→va A l=1:=fun a b hwa hab ma mb hne=>by
      have hra:=hs.hc c hc _ ma
      have hrb:=hs.hc c hc _ mb
      have h9:=ih _ ma hne
      have hdd:dead A [] (Wd a):=⟨h9,List.not_mem_nil⟩
      rcases h.done a hwa hdd with e | e
      ·rw[hab]at e
       by_cases e2:Wd b=l
       ·rw[←e2];exact e
       ·have:=ih _ mb e2
        rw[va_neg hrb.1,e]at this;omega
      ·cases e
     by_cases e:Wd (2*i)=l
     ·exact key (2*i+1) (2*i) hw1 o1 h2 h1 (fun e2=>h3 (e.trans e2.symm))
     ·exact key (2*i) (2*i+1) hw0 o0 h1 h2 e
    ·obtain⟨_,h2⟩:=hun c hc ha
     have:l=c.headD 0:=Classical.byContradiction fun hne=>ha ⟨l,hl,hne⟩
     rw[this];exact h2
 refine .ok hA.tri hA.zero (fun l hl=>⟨fun hv=>hA.snd l hl hv,hcomp l⟩) (fun hcf=> ?_)
 rcases hcf with he | ⟨l,h1,h2⟩
 ·exact(hun [] he (fun⟨x,hx,_⟩=>by cases hx)).1 rfl
 ·have a:=hcomp _ h1
  have b:=hcomp _ h2
  rw[va_neg (h1.inR hs).1,a]at b;omega
def zeros (A:Nat→Int):Nat→Nat
 | 0=>0
 | n+1=>zeros A n+if A (n+1)=0 then 1 else 0
theorem zeros_upd {A:Nat→Int}{i:Nat}{v:Int}(hv:v≠0)(h0:A i=0)(hi:1≤i):∀n,zeros (upd A i v) n+(if i≤n then 1 else 0)=zeros A n
 | 0=>by simp[zeros];omega
 | n+1=>by
   have ih:=zeros_upd hv h0 hi n
   simp only[zeros]
   by_cases e:n+1=i
   ·subst e
    rw[upd_same,if_neg hv,h0,if_pos rfl,if_pos (Nat.le_refl _)]
    rw[if_neg (by omega)]at ih
    omega
   ·rw[upd_ne e]
    by_cases e2:i≤n
    ·have e3:(if i≤n+1 then 1 else 0)=1:=if_pos (by omega)
     rw[if_pos e2]at ih;rw[e3];omega
    ·have e3:(if i≤n+1 then 1 else 0)=0:=if_neg (by omega)
     rw[if_neg e2]at ih;rw[e3];omega
theorem zeros_make {n:Nat}{A:Nat→Int}{l:Int}(hl:inR n l)(hv:va A l=0):zeros (setL A l) n+1=zeros A n:=by
 have h1:=hl.1;have h2:=hl.2.1;have h3:=hl.2.2
 unfold va at hv
 unfold setL
 by_cases h:0<l
 ·rw[if_pos h]at hv⊢
  have:=zeros_upd (v:=1) (by decide) hv (by omega) n
  rwa [if_pos (by omega)]at this
 ·rw[if_neg h]at hv⊢
  have:=zeros_upd (v:= -1) (by decide) (show A (-l).toNat=0 by omega) (by omega) n
  rwa [if_pos (by omega)]at this
end Prp
namespace Prp
open Go.RowKit
def Arr (w:World)(b n:Nat)(f:Nat→Int):Prop:=∀i,i<n→w.cell? ⟨b,i,none⟩=some (.int .i64 (f i))
theorem Arr.set {w:World}{b n i:Nat}{f:Nat→Int}(h:Arr w b n f)(hi:i<n)(v:Int):Arr (w.setCell ⟨b,i,none⟩ (.int .i64 v)) b n (upd f i v):=fun j hj=>by
 by_cases e:j=i
 ·subst e;rw[upd_same];exact World.cell?_setCell_same _ _ _ (h j hj)
 ·rw[upd_ne e,World.cell?_setCell_other _ _ _ _ (by simp<;>omega)];exact h j hj
theorem Arr.other {w:World}{b n:Nat}{f:Nat→Int}(h:Arr w b n f){p:Addr}(hp:p.block≠b)(v:Value):Arr (w.setCell p v) b n f:=fun j hj=>by
 rw[World.cell?_setCell_other _ _ _ _ (by intro e;subst e;exact hp rfl)];exact h j hj
theorem Arr.kept {w w':World}{b n:Nat}{f:Nat→Int}(h:Arr w b n f)(hk:w'.heap[b]? =w.heap[b]?):Arr w' b n f:=fun j hj=>(World.cell?_of_block (a:=⟨b,j,none⟩) hk).trans (h j hj)
structure QRow (B:Nat)(X:Nat→Prop)(w:World)(v:Value)(Q:List Int):Prop where
 ex:∃ao cap,v= .slice ao Q.length cap∧Q.length≤cap∧(ao=none→cap=0)∧∀a,ao=some a→∃b off,a=⟨b,off,none⟩∧B≤b∧¬X b∧b<w.heap.size∧
  (∀i,i<Q.length→w.cell? ⟨b,off+i,none⟩=some (.int .i64 (Q.getD i 0)))∧∀j,j<cap→(w.cell? ⟨b,off+j,none⟩).isSome=true∧w.frozen? ⟨b,off+j,none⟩=false
theorem QRow.nil (B:Nat)(X:Nat→Prop)(w:World):QRow B X w (.slice none 0 0) []:=⟨none,0,rfl,Nat.le_refl _,fun _=>rfl,fun a h=>by cases h⟩
theorem QRow.kept {B:Nat}{X:Nat→Prop}{w w':World}{v:Value}{Q:List Int}(h:QRow B X w v Q)(hs:w.heap.size≤w'.heap.size)(hk:∀b,B≤b→b<w.heap.size→¬X b→w'.heap[b]? =w.heap[b]?):QRow B X w' v Q:=by
 obtain⟨ao,cap,e1,e2,e3,h⟩:=h.ex
 refine⟨ao,cap,e1,e2,e3,fun a ha=> ?_⟩
 obtain⟨b,off,e,hB,hX,hlt,h1,h2⟩:=h a ha
 have hb:=hk b hB hlt hX
 refine⟨b,off,e,hB,hX,Nat.lt_of_lt_of_le hlt hs,fun i hi=>(World.cell?_of_block (a:=⟨b,_,none⟩) hb).trans (h1 i hi),fun j hj=> ?_⟩
 obtain⟨g1,g2⟩:=h2 j hj
 exact⟨by rw[World.cell?_of_block (a:=⟨b,_,none⟩) hb];exact g1,(World.frozen?_of_block (a:=⟨b,_,none⟩) hb).trans g2⟩
theorem QRow.tail {B:Nat}{X:Nat→Prop}{w:World}{ao:Option Addr}{n cap:Nat}{q:Int}{Q:List Int}(h:QRow B X w (.slice ao n cap) (q :: Q)):
 ∃b off,ao=some ⟨b,off,none⟩∧n=Q.length+1∧n≤cap∧w.cell? ⟨b,off,none⟩=some (.int .i64 q)∧QRow B X w (.slice (some ⟨b,off+1,none⟩) Q.length (cap - 1)) Q∧(cap - 1=0→QRow B X w (.slice (some ⟨b,off,none⟩) Q.length (cap - 1)) Q):=by
 obtain⟨ao',cap',e1,e2,e3,h⟩:=h.ex
 injection e1 with e11 e12 e13
 subst e11 e12 e13
 simp only[List.length_cons]at e2
 cases ao with
 | none=>have:=e3 rfl;omega
 | some a=>
   obtain⟨b,off,rfl,hB,hX,hlt,h1,h2⟩:=h a rfl
   refine⟨b,off,rfl,rfl,by simpa using e2,h1 0 (by simp),⟨_,_,rfl,by omega,(fun e=>by cases e),fun a ha=>⟨b,off+1,(Option.some.inj ha).symm,hB,hX,hlt,fun i hi=> ?_,fun j hj=> ?_⟩⟩,fun hc=>⟨_,_,rfl,by omega,(fun e=>by cases e),fun a ha=>⟨b,off,(Option.some.inj ha).symm,hB,hX,hlt,fun i hi=>by omega,fun j hj=>by omega⟩⟩⟩
   ·have:=h1 (i+1) (by simp<;>omega)
    rw[Nat.add_assoc,Nat.add_comm 1 i]
    simpa using this
   ·have:=h2 (j+1) (by omega)
    rw[Nat.add_assoc,Nat.add_comm 1 j]
    exact this
theorem run_append_q {P:Program}(w:World)(t ty e:TypeId)(i:TypeInfo)(z:Value)(ht:P.underlying t=some (.slice e))(hi:P.info? e=some i)(hz:i.zero=some z)(hs:i.size=1)(hby:i.bytes=8)(hzs:z.cells.size=1)
 {B:Nat} {X:Nat→Prop} {v:Value} {Q:List Int} (h:QRow B X w v Q) (hB:B≤w.heap.size) (hX:∀x,X x→x<w.heap.size) (hq:Q.length≤1000000) (a:Addr) (c:Nat) (l:Int) (ha:w.cell? a=some (.int .i64 l)):
 ∃v' w',(Builtin.append_ #[t,t] ty #[v,.slice (some a) 1 c]).run P w= .ok v' w'∧QRow B X w' v' (Q ++ [l])∧Below B w w'∧∀x,X x→w'.heap[x]? =w.heap[x]? :=by
 have hsrc:Src P i.size t (.slice (some a) 1 c) 1 [.int .i64 l] w:=Src.ofSlice w ht a 1 c _ (by rw[hs];rfl) (fun j u hj=>by
  match j,hj with
  | 0,hj=>obtain rfl:Value.int .i64 l=u:=by simpa using hj
          simpa [Addr.add]using ha) (fun u hu=>by obtain rfl:=List.mem_singleton.1 hu;rfl)
 obtain⟨ao,cap,rfl,hle,hno,hao⟩:=h.ex
 by_cases hroom:Q.length+1≤cap
 ·cases ao with
  | none=>have:=hno rfl;omega
  | some a0=>
    obtain⟨b,off,rfl,hBb,hXb,hlt,h1,h2⟩:=hao a0 rfl
    have hr:=run_append_room_src (P:=P) w t t ty e i ht hi b off Q.length cap (.slice (some a) 1 c) 1 [.int .i64 l] hsrc hroom
     (fun j hj=>by rw[hs];have:=(h2 (Q.length+j) (by simp at hj;omega)).1;rwa [Nat.mul_one,Nat.add_assoc]) (fun j hj=>by rw[hs];have:=(h2 (Q.length+j) (by simp at hj;omega)).2;rwa [Nat.mul_one,Nat.add_assoc])
    rw[hs,Nat.mul_one]at hr
    have hset:w.setCells b (off+Q.length) [.int .i64 l]=w.setCell ⟨b,off+Q.length,none⟩ (.int .i64 l):=rfl
    rw[hset]at hr
    have hk:∀x,x≠b→(w.setCell ⟨b,off+Q.length,none⟩ (.int .i64 l)).heap[x]? =w.heap[x]? :=fun x hx=>Below.heap_setCell _ _ _ _ hx
    have hsome:=(h2 Q.length (by omega)).1
    refine⟨_,_,hr,⟨_,cap,by rw[List.length_append];rfl,by simpa using hroom,(fun e=>by cases e),fun a1 ha1=>⟨b,off,(Option.some.inj ha1).symm,hBb,hXb,by rw[World.size_setCell];exact hlt,fun k hk=> ?_,fun j hj=> ?_⟩⟩,(Below.refl _ _).setCell (p:=⟨b,_,none⟩) hBb _,fun x hx=>hk x (fun e=>hXb (e ▸ hx))⟩
    ·by_cases ek:k=Q.length
     ·subst ek
      rw[World.cell?_setCell_same' _ _ _ hsome]
      simp
     ·have hk2:k<Q.length:=by simp at hk;omega
      rw[World.cell?_setCell_other _ _ _ _ (by simp<;>omega),h1 k hk2]
      simp[List.getD_eq_getElem?_getD,List.getElem?_append_left hk2]
    ·obtain⟨g1,g2⟩:=h2 j hj
     refine⟨?_,by rw[World.frozen?_setCell];exact g2⟩
     by_cases ej:j=Q.length
     ·subst ej;rw[World.cell?_setCell_same' _ _ _ hsome];rfl
     ·rw[World.cell?_setCell_other _ _ _ _ (by simp<;>omega)];exact g1
 ·have hcl:cap=Q.length:=by omega
  have holds:(Builtin.firstCells i.size Q.length (.slice ao Q.length cap)).run P w.drew= .ok (Q.map (Value.int .i64)).toArray w.drew:=by
   cases ao with
   | none=>
     have:=hno rfl
     have hQ:Q=[]:=List.eq_nil_of_length_eq_zero (by omega)
     subst hQ
     exact run_firstCells_none w.drew _ _ _ _
   | some a0=>
     obtain⟨b,off,rfl,hBb,hXb,hlt,h1,h2⟩:=hao a0 rfl
     refine run_firstCells_some w.drew i.size Q.length ⟨b,off,none⟩ Q.length cap _ (by rw[hs,List.length_map,Nat.mul_one]) (fun j u hj=> ?_)
     have hjl:j<Q.length:=by have:=(List.getElem?_eq_some_iff.1 hj).1;simpa using this
     have h3:=h1 j hjl
     rw[List.getElem?_map]at hj
     obtain⟨x,hx,rfl⟩:=Option.map_eq_some_iff.1 hj
     have e1:Q.getD j 0=x:=by rw[List.getD_eq_getElem?_getD,hx];rfl
     rw[e1]at h3
     have e2:(⟨b,off,none⟩:Addr).add j=⟨b,off+j,none⟩:=by unfold Addr.add;split<;>simp_all
     rw[e2]
     exact h3
  have hr:=run_append_grow_src (P:=P) w t t ty e i z ht hi hz ao Q.length cap (Q.map (Value.int .i64)) holds (.slice (some a) 1 c) 1 [.int .i64 l] hsrc (by omega) (by omega) (by
   have:=nextslicecap_le (need:=Q.length+1) (old:=cap) (by omega)
   rw[hby];omega)
  have hge:=grownCap_ge w (Q.length+1) cap e
  have hbk:∀x,x<w.heap.size→(w.drew.alloc (.cells ((Q.map (Value.int .i64) ++ [Value.int .i64 l]).toArray ++ Builtin.zeroCells z.cells (grownCap w (Q.length+1) cap e - (Q.length+1))) e)).heap[x]? =w.heap[x]? :=fun x hx=>heap_alloc_old w.drew _ hx
  have hnew:=heap_alloc_new w.drew (.cells ((Q.map (Value.int .i64) ++ [Value.int .i64 l]).toArray ++ Builtin.zeroCells z.cells (grownCap w (Q.length+1) cap e - (Q.length+1))) e)
  have hcl2:=fun j=>cell_of_row (w.drew.alloc (.cells ((Q.map (Value.int .i64) ++ [Value.int .i64 l]).toArray ++ Builtin.zeroCells z.cells (grownCap w (Q.length+1) cap e - (Q.length+1))) e)) w.heap.size j _ e _ hnew
  have hsz:(((Q.map (Value.int .i64) ++ [Value.int .i64 l]).toArray ++ Builtin.zeroCells z.cells (grownCap w (Q.length+1) cap e - (Q.length+1)))).size=grownCap w (Q.length+1) cap e:=by
   rw[Array.size_append,size_zeroCells,hzs];simp;omega
  refine⟨_,_,hr,⟨_,grownCap w (Q.length+1) cap e,by rw[List.length_append];rfl,by simpa using hge,(fun e=>by cases e),fun a1 ha1=>⟨w.heap.size,0,(Option.some.inj ha1).symm,hB,fun hx=>by have:=hX _ hx;omega,by simp,fun k hk=> ?_,fun j hj=>⟨?_,frozen_of_row _ _ _ _ _ hnew⟩⟩⟩,⟨rfl,rfl,rfl,by simp,fun k hk=>hbk k (Nat.lt_of_lt_of_le hk hB)⟩,fun x hx=>hbk x (hX x hx)⟩
  ·rw[hcl2]
   have hk2:k<Q.length+1:=by simpa using hk
   rw[Nat.zero_add,Array.getElem?_append_left (by simp<;>omega),List.getElem?_toArray]
   by_cases ek:k=Q.length
   ·subst ek;simp
   ·have hk3:k<Q.length:=by omega
    rw[List.getElem?_append_left (by simpa using hk3)]
    simp[List.getD_eq_getElem?_getD,List.getElem?_append_left hk3,hk3]
  ·rw[hcl2,Array.getElem?_eq_getElem (by rw[hsz];omega)];rfl
theorem wpList_append_q {P:Program}{w:World}{ops:Array Oper}{rest:List Oper}{o:Oper}{a:Act}{K:Exit→Act→World→Prop}(hgd:o.guard=none)(s x:Operand)(t:TypeId)
 (ho:o.op= .call { callee:= .builtin .append,args:= #[s,x],argTypes:= #[t,t] }) (e:TypeId) (i:TypeInfo) (z:Value) (ht:P.underlying t=some (.slice e)) (hi:P.info? e=some i) (hz:i.zero=some z) (hs:i.size=1) (hby:i.bytes=8) (hzs:z.cells.size=1)
 {B:Nat} {X:Nat→Prop} {v:Value} {Q:List Int} (hv:a.eval s=v) (h:QRow B X w v Q) (hB:B≤w.heap.size) (hX:∀x,X x→x<w.heap.size) (hq:Q.length≤1000000) (ad:Addr) (c:Nat) (l:Int) (hx:a.eval x= .slice (some ad) 1 c) (ha:w.cell? ad=some (.int .i64 l))
 (hK:∀v' w',QRow B X w' v' (Q ++ [l])→Below B w w'→(∀x,X x→w'.heap[x]? =w.heap[x]?)→wpList P ops K rest (a.put o.dst v') w'):wpList P ops K (o :: rest) a w:=by
 refine wpList_plain hgd fun K' hK'=> ?_
 obtain⟨v',w',hrun,h1,h2,h3⟩:=run_append_q (P:=P) w t o.type e i z ht hi hz hs hby hzs h hB hX hq ad c l ha
 unfold Oper.wp
 simp[execOp,ho,resolve,invoke,builtin,hv,hx,hrun,Result.andThen]
 exact hK' _ _ (hK v' w' h1 h2 h3)
structure FolS where
 F:Nat
 I:Nat
 W:Nat
 H:Nat
 T:Nat
 S:Nat
 ca:Option Addr
 ccap:Nat
 G:Nat
 gv:Value
def FolS.In (p:FolS)(b:Nat):Prop:=b=p.F∨b=p.I∨b=p.W∨b=p.H∨b=p.T∨b=p.S∨b=p.G
structure FolS.Ok (p:FolS):Prop where
 fi:p.F≠p.I
 fw:p.F≠p.W
 fh:p.F≠p.H
 ft:p.F≠p.T
 fs:p.F≠p.S
 iw:p.I≠p.W
 ih:p.I≠p.H
 it:p.I≠p.T
 is':p.I≠p.S
 wh:p.W≠p.H
 wt:p.W≠p.T
 ws:p.W≠p.S
 ht:p.H≠p.T
 hs:p.H≠p.S
 ts:p.T≠p.S
 gi:p.I≠p.G
 gw:p.W≠p.G
 gh:p.H≠p.G
 gt:p.T≠p.G
 gs:p.S≠p.G
structure Fol (B n m:Nat)(p:FolS)(w:World)(A Wd H T S:Nat→Int)(Q:List Int):Prop where
 ok:p.Ok
 c0:w.cell? ⟨p.F,0,none⟩=some (.slice p.ca m p.ccap)
 c1:w.cell? ⟨p.F,1,none⟩=some (.slice (some ⟨p.I,0,none⟩) (n+1) (n+1))
 c2:w.cell? ⟨p.F,2,none⟩=some (.slice (some ⟨p.W,0,none⟩) (2*m) (2*m))
 c3:w.cell? ⟨p.F,3,none⟩=some (.slice (some ⟨p.H,0,none⟩) (2*n+2) (2*n+2))
 c4:w.cell? ⟨p.F,4,none⟩=some (.slice (some ⟨p.T,0,none⟩) (2*m) (2*m))
 c5:w.cell? ⟨p.F,5,none⟩=some (.slice (some ⟨p.S,0,none⟩) m m)
 c6:∃v,w.cell? ⟨p.F,6,none⟩=some v∧QRow B p.In w v Q
 aI:Arr w p.I (n+1) A
 aW:Arr w p.W (2*m) Wd
 aH:Arr w p.H (2*n+2) H
 aT:Arr w p.T (2*m) T
 aS:Arr w p.S m S
 fr:∀b,p.In b→∀o,w.frozen? ⟨b,o,none⟩=false
 lo:∀b,p.In b→B≤b∧b<w.heap.size
 cg:w.cell? ⟨p.G,0,none⟩=some p.gv
theorem FolS.inF (p:FolS):p.In p.F:= .inl rfl
theorem FolS.inI (p:FolS):p.In p.I:= .inr (.inl rfl)
theorem FolS.inW (p:FolS):p.In p.W:= .inr (.inr (.inl rfl))
theorem FolS.inH (p:FolS):p.In p.H:= .inr (.inr (.inr (.inl rfl)))
theorem FolS.inT (p:FolS):p.In p.T:= .inr (.inr (.inr (.inr (.inl rfl))))
theorem FolS.inS (p:FolS):p.In p.S:= .inr (.inr (.inr (.inr (.inr (.inl rfl)))))
theorem FolS.inG (p:FolS):p.In p.G:= .inr (.inr (.inr (.inr (.inr (.inr rfl)))))
section
variable {B n m:Nat} {p:FolS} {w w':World} {A Wd H T S:Nat→Int} {Q Q':List Int}
theorem Fol.kept {Q':List Int}(h:Fol B n m p w A Wd H T S Q)(hs:w.heap.size≤w'.heap.size)(hk:∀b,p.In b→w'.heap[b]? =w.heap[b]?)(hq:∀v,QRow B p.In w v Q→QRow B p.In w' v Q'):Fol B n m p w' A Wd H T S Q':=by
 have hF:=hk _ p.inF
 have hc:∀o,w'.cell? ⟨p.F,o,none⟩=w.cell? ⟨p.F,o,none⟩:=fun o=>World.cell?_of_block (a:=⟨p.F,o,none⟩) hF
 obtain⟨v,h6,h7⟩:=h.c6
 exact⟨h.ok,(hc 0).trans h.c0,(hc 1).trans h.c1,(hc 2).trans h.c2,(hc 3).trans h.c3,(hc 4).trans h.c4,(hc 5).trans h.c5,⟨v,(hc 6).trans h6,hq v h7⟩,
  h.aI.kept (hk _ p.inI),h.aW.kept (hk _ p.inW),h.aH.kept (hk _ p.inH),h.aT.kept (hk _ p.inT),h.aS.kept (hk _ p.inS),
  fun b hb o=>(World.frozen?_of_block (a:=⟨b,o,none⟩) (hk b hb)).trans (h.fr b hb o),fun b hb=>⟨(h.lo b hb).1,Nat.lt_of_lt_of_le (h.lo b hb).2 hs⟩,(World.cell?_of_block (a:=⟨p.G,0,none⟩) (hk _ p.inG)).trans h.cg⟩
theorem Fol.below (h:Fol B n m p w A Wd H T S Q)(hb:Below w.heap.size w w'):Fol B n m p w' A Wd H T S Q:=
 h.kept hb.size (fun b hx=>hb.block b (h.lo b hx).2) (fun v hv=>hv.kept hb.size (fun b _ hlt _=>hb.block b hlt))
theorem Fol.kept2 (h:Fol B n m p w A Wd H T S Q){b o:Nat}(hb:p.In b)(hne:b≠p.F)(x:Value):
 (∀k,(w.setCell ⟨b,o,none⟩ x).cell? ⟨p.F,k,none⟩=w.cell? ⟨p.F,k,none⟩)∧(∃v,w.cell? ⟨p.F,6,none⟩=some v∧QRow B p.In (w.setCell ⟨b,o,none⟩ x) v Q)∧
 (∀b',p.In b'→∀k,(w.setCell ⟨b,o,none⟩ x).frozen? ⟨b',k,none⟩=false)∧(∀b',p.In b'→B≤b'∧b'<(w.setCell ⟨b,o,none⟩ x).heap.size)∧(b≠p.G→(w.setCell ⟨b,o,none⟩ x).cell? ⟨p.G,0,none⟩=some p.gv):=by
 obtain⟨v,h6,h7⟩:=h.c6
 refine⟨fun k=>World.cell?_setCell_other _ _ _ _ (by simp[hne]),⟨v,h6,h7.kept (by rw[World.size_setCell];exact Nat.le_refl _) (fun b' _ _ hn=>Below.heap_setCell _ _ _ _ (fun e=>hn (by rw[e];exact hb)))⟩,fun b' hb' k=>(World.frozen?_setCell _ _ _ _).trans (h.fr b' hb' k),fun b' hb'=> ?_,fun hg=>(World.cell?_setCell_other _ _ _ _ (by simp[hg])).trans h.cg⟩
 rw[World.size_setCell];exact h.lo b' hb'
theorem Fol.setI (h:Fol B n m p w A Wd H T S Q){i:Nat}(hi:i<n+1)(v:Int):Fol B n m p (w.setCell ⟨p.I,i,none⟩ (.int .i64 v)) (upd A i v) Wd H T S Q:=by
 obtain⟨k1,⟨q,k2,k3⟩,k4,k5,k6⟩:=h.kept2 (o:=i) p.inI (fun e=>h.ok.fi e.symm) (.int .i64 v)
 exact⟨h.ok,(k1 0).trans h.c0,(k1 1).trans h.c1,(k1 2).trans h.c2,(k1 3).trans h.c3,(k1 4).trans h.c4,(k1 5).trans h.c5,⟨q,(k1 6).trans k2,k3⟩,
  h.aI.set hi v,h.aW.other h.ok.iw _,h.aH.other h.ok.ih _,h.aT.other h.ok.it _,h.aS.other h.ok.is' _,k4,k5,k6 h.ok.gi⟩
theorem Fol.setW (h:Fol B n m p w A Wd H T S Q){i:Nat}(hi:i<2*m)(v:Int):Fol B n m p (w.setCell ⟨p.W,i,none⟩ (.int .i64 v)) A (upd Wd i v) H T S Q:=by
 obtain⟨k1,⟨q,k2,k3⟩,k4,k5,k6⟩:=h.kept2 (o:=i) p.inW (fun e=>h.ok.fw e.symm) (.int .i64 v)
 exact⟨h.ok,(k1 0).trans h.c0,(k1 1).trans h.c1,(k1 2).trans h.c2,(k1 3).trans h.c3,(k1 4).trans h.c4,(k1 5).trans h.c5,⟨q,(k1 6).trans k2,k3⟩,
  h.aI.other (fun e=>h.ok.iw e.symm) _,h.aW.set hi v,h.aH.other h.ok.wh _,h.aT.other h.ok.wt _,h.aS.other h.ok.ws _,k4,k5,k6 h.ok.gw⟩
theorem Fol.setH (h:Fol B n m p w A Wd H T S Q){i:Nat}(hi:i<2*n+2)(v:Int):Fol B n m p (w.setCell ⟨p.H,i,none⟩ (.int .i64 v)) A Wd (upd H i v) T S Q:=by
 obtain⟨k1,⟨q,k2,k3⟩,k4,k5,k6⟩:=h.kept2 (o:=i) p.inH (fun e=>h.ok.fh e.symm) (.int .i64 v)
 exact⟨h.ok,(k1 0).trans h.c0,(k1 1).trans h.c1,(k1 2).trans h.c2,(k1 3).trans h.c3,(k1 4).trans h.c4,(k1 5).trans h.c5,⟨q,(k1 6).trans k2,k3⟩,
  h.aI.other (fun e=>h.ok.ih e.symm) _,h.aW.other (fun e=>h.ok.wh e.symm) _,h.aH.set hi v,h.aT.other h.ok.ht _,h.aS.other h.ok.hs _,k4,k5,k6 h.ok.gh⟩
theorem Fol.setT (h:Fol B n m p w A Wd H T S Q){i:Nat}(hi:i<2*m)(v:Int):Fol B n m p (w.setCell ⟨p.T,i,none⟩ (.int .i64 v)) A Wd H (upd T i v) S Q:=by
 obtain⟨k1,⟨q,k2,k3⟩,k4,k5,k6⟩:=h.kept2 (o:=i) p.inT (fun e=>h.ok.ft e.symm) (.int .i64 v)
 exact⟨h.ok,(k1 0).trans h.c0,(k1 1).trans h.c1,(k1 2).trans h.c2,(k1 3).trans h.c3,(k1 4).trans h.c4,(k1 5).trans h.c5,⟨q,(k1 6).trans k2,k3⟩,
  h.aI.other (fun e=>h.ok.it e.symm) _,h.aW.other (fun e=>h.ok.wt e.symm) _,h.aH.other (fun e=>h.ok.ht e.symm) _,h.aT.set hi v,h.aS.other h.ok.ts _,k4,k5,k6 h.ok.gt⟩
theorem Fol.setS (h:Fol B n m p w A Wd H T S Q){i:Nat}(hi:i<m)(v:Int):Fol B n m p (w.setCell ⟨p.S,i,none⟩ (.int .i64 v)) A Wd H T (upd S i v) Q:=by
 obtain⟨k1,⟨q,k2,k3⟩,k4,k5,k6⟩:=h.kept2 (o:=i) p.inS (fun e=>h.ok.fs e.symm) (.int .i64 v)
 exact⟨h.ok,(k1 0).trans h.c0,(k1 1).trans h.c1,(k1 2).trans h.c2,(k1 3).trans h.c3,(k1 4).trans h.c4,(k1 5).trans h.c5,⟨q,(k1 6).trans k2,k3⟩,
  h.aI.other (fun e=>h.ok.is' e.symm) _,h.aW.other (fun e=>h.ok.ws e.symm) _,h.aH.other (fun e=>h.ok.hs e.symm) _,h.aT.other (fun e=>h.ok.ts e.symm) _,h.aS.set hi v,k4,k5,k6 h.ok.gs⟩
theorem Fol.setQ {Q':List Int}(h:Fol B n m p w A Wd H T S Q)(hk:∀b,p.In b→w'.heap[b]? =w.heap[b]?)(hs:w.heap.size≤w'.heap.size){v':Value}(hq:QRow B p.In w' v' Q'):Fol B n m p (w'.setCell ⟨p.F,6,none⟩ v') A Wd H T S Q':=by
 have hc:∀o,o≠6→(w'.setCell ⟨p.F,6,none⟩ v').cell? ⟨p.F,o,none⟩=w.cell? ⟨p.F,o,none⟩:=fun o ho=>(World.cell?_setCell_other _ _ _ _ (by simp<;>omega)).trans (World.cell?_of_block (a:=⟨p.F,o,none⟩) (hk _ p.inF))
 obtain⟨v,h6,_⟩:=h.c6
 have h6':w'.cell? ⟨p.F,6,none⟩=some v:=(World.cell?_of_block (a:=⟨p.F,6,none⟩) (hk _ p.inF)).trans h6
 exact⟨h.ok,(hc 0 (by decide)).trans h.c0,(hc 1 (by decide)).trans h.c1,(hc 2 (by decide)).trans h.c2,(hc 3 (by decide)).trans h.c3,(hc 4 (by decide)).trans h.c4,(hc 5 (by decide)).trans h.c5,
  ⟨v',World.cell?_setCell_same _ _ _ h6',hq.kept (by rw[World.size_setCell];exact Nat.le_refl _) (fun b _ _ hn=>Below.heap_setCell _ _ _ _ (fun e=>hn (by rw[e];exact p.inF)))⟩,
  (h.aI.kept (hk _ p.inI)).other h.ok.fi _,(h.aW.kept (hk _ p.inW)).other h.ok.fw _,(h.aH.kept (hk _ p.inH)).other h.ok.fh _,(h.aT.kept (hk _ p.inT)).other h.ok.ft _,(h.aS.kept (hk _ p.inS)).other h.ok.fs _,
  fun b hb o=>(World.frozen?_setCell _ _ _ _).trans ((World.frozen?_of_block (a:=⟨b,o,none⟩) (hk b hb)).trans (h.fr b hb o)),fun b hb=>⟨(h.lo b hb).1,by rw[World.size_setCell];exact Nat.lt_of_lt_of_le (h.lo b hb).2 hs⟩,(World.cell?_setCell_other _ _ _ _ (by simp)).trans ((World.cell?_of_block (a:=⟨p.G,0,none⟩) (hk _ p.inG)).trans h.cg)⟩
theorem Fol.guard (h:Fol B n m p w A Wd H T S Q)(hB:B≤w.heap.size)(v:Value)(t:TypeId):Fol B n m { p with G:=w.heap.size,gv:=v } (w.alloc (.cells #[v] t)) A Wd H T S Q:=by
 have hb:Below w.heap.size w (w.alloc (.cells #[v] t)):=(Below.refl _ w).alloc (Nat.le_refl _) _
 have h1:=h.below hb
 have hn:=heap_alloc_new w (.cells #[v] t)
 have hlt:∀b,p.In b→b≠w.heap.size:=fun b hb e=>by have:=(h.lo b hb).2;omega
 obtain⟨q,c6,ao,cap,e1,e2,e3,hq⟩:=h.c6
 obtain⟨q',c6',hq'⟩:=h1.c6
 refine⟨⟨h.ok.fi,h.ok.fw,h.ok.fh,h.ok.ft,h.ok.fs,h.ok.iw,h.ok.ih,h.ok.it,h.ok.is',h.ok.wh,h.ok.wt,h.ok.ws,h.ok.ht,h.ok.hs,h.ok.ts,hlt _ p.inI,hlt _ p.inW,hlt _ p.inH,hlt _ p.inT,hlt _ p.inS⟩,h1.c0,h1.c1,h1.c2,h1.c3,h1.c4,h1.c5,⟨q,(hb.cell (p:=⟨p.F,6,none⟩) (h.lo _ p.inF).2).trans c6,ao,cap,e1,e2,e3,fun a ha=> ?_⟩,h1.aI,h1.aW,h1.aH,h1.aT,h1.aS, ?_, ?_,(cell_of_row _ _ _ _ _ _ hn).trans rfl⟩
 ·obtain⟨b,off,g1,g2,g3,g4,g5,g6⟩:=hq a ha
  have hbk:=hb.block b g4
  refine⟨b,off,g1,g2, ?_,Nat.lt_of_lt_of_le g4 hb.size,fun i hi=>(World.cell?_of_block (a:=⟨b,_,none⟩) hbk).trans (g5 i hi),fun j hj=>⟨by rw[World.cell?_of_block (a:=⟨b,_,none⟩) hbk];exact(g6 j hj).1,(World.frozen?_of_block (a:=⟨b,_,none⟩) hbk).trans (g6 j hj).2⟩⟩
  rintro(r | r | r | r | r | r | r)
  ·exact g3 (.inl r)
  ·exact g3 (.inr (.inl r))
  ·exact g3 (.inr (.inr (.inl r)))
  ·exact g3 (.inr (.inr (.inr (.inl r))))
  ·exact g3 (.inr (.inr (.inr (.inr (.inl r)))))
  ·exact g3 (.inr (.inr (.inr (.inr (.inr (.inl r))))))
  ·have:b=w.heap.size:=r
   omega
 ·rintro b (r | r | r | r | r | r | r) o
  ·subst r;exact h1.fr _ p.inF o
  ·subst r;exact h1.fr _ p.inI o
  ·subst r;exact h1.fr _ p.inW o
  ·subst r;exact h1.fr _ p.inH o
  ·subst r;exact h1.fr _ p.inT o
  ·subst r;exact h1.fr _ p.inS o
  ·have:b=w.heap.size:=r
   subst this;exact frozen_of_row _ _ _ _ _ hn
 ·rintro b (r | r | r | r | r | r | r)
  ·subst r;exact h1.lo _ p.inF
  ·subst r;exact h1.lo _ p.inI
  ·subst r;exact h1.lo _ p.inW
  ·subst r;exact h1.lo _ p.inH
  ·subst r;exact h1.lo _ p.inT
  ·subst r;exact h1.lo _ p.inS
  ·have:b=w.heap.size:=r
   subst this;exact⟨hB,by simp⟩
end
end Prp
namespace Prp
open Go.RowKit
theorem place_any (l:Int)(w:World)(hl: -8192≤l∧l≤8192):
 Calls Tryz.prog 139 #[.int .i64 l] w fun e w'=>e= .returned (.int .i64 (place l))∧w=w':=by
 by_cases h:0<l
 ·have e:((place l:Nat):Int)=2*l:=by unfold place;rw[if_pos h];omega
  rw[e]
  go_enter Tryz.func139,Tryz.ntmps139
  go_wp2_with fail
  go_ret
  exact⟨rfl,rfl⟩
 ·have e:((place l:Nat):Int)= -2*l+1:=by unfold place;rw[if_neg h];omega
  rw[e]
  go_enter Tryz.func139,Tryz.ntmps139
  go_wp2_with fail
  go_ret
  exact⟨rfl,rfl⟩
section
variable {B n m:Nat} {p:FolS} {w:World} {A Wd H T S:Nat→Int} {Q:List Int}
theorem value_any (h:Fol B n m p w A Wd H T S Q)(htri:∀i,A i= -1∨A i=0∨A i=1){l:Int}(hl:inR n l)(hn:n≤8192):
 Calls Tryz.prog 158 #[.pointer (some ⟨p.F,0,none⟩),.int .i64 l] w fun e w'=>e= .returned (.int .i64 (va A l))∧w=w':=by
 have c1:=h.c1
 obtain⟨h1,h2,h3⟩:=hl
 by_cases hp:0<l
 ·obtain⟨k,rfl⟩:=Int.eq_ofNat_of_zero_le (show 0≤l by omega)
  have a1:=h.aI k (by omega)
  have e:va A (k:Int)=A k:=by unfold va;rw[if_pos hp,Int.toNat_natCast]
  rw[e]
  have hk:(k:Int)<(n+1:Nat):=by omega
  clear h htri
  generalize A k=x at a1
  go_enter Tryz.func158,Tryz.ntmps158
  go_wp2_with fail
  go_ret
  exact⟨rfl,rfl⟩
 ·obtain⟨k,hk⟩:=Int.eq_ofNat_of_zero_le (show 0≤ -l by omega)
  have hlk:l= -(k:Int):=by omega
  subst hlk
  have a1:=h.aI k (by omega)
  have hA:=htri k
  have e:va A (-(k:Int))= -A k:=by unfold va;rw[if_neg hp,Int.neg_neg,Int.toNat_natCast]
  rw[e]
  have hk2:(k:Int)<(n+1:Nat):=by omega
  have hw:IntKind.i64.wrap (-(-(k:Int)))=(k:Int):=by rw[Int.neg_neg];exact IntWalk.i64_in _ (by omega)
  clear h htri hk
  generalize A k=x at a1 hA
  have hw2:IntKind.i64.wrap (-x)= -x:=IntWalk.i64_in _ (by omega)
  go_enter Tryz.func158,Tryz.ntmps158
  go_wp2_with fail
  go_ret
  exact⟨rfl,rfl⟩
theorem watch_any (h:Fol B n m p w A Wd H T S Q){l:Int}(hl:inR n l)(hn:n≤8192){x:Nat}(hx:x<2*m)(hm:m≤16384):
 Calls Tryz.prog 136 #[.pointer (some ⟨p.F,0,none⟩),.int .i64 x,.int .i64 l] w fun e w'=>e= .returned (.tuple #[])∧Fol B n m p w' A (upd Wd x l) (upd H (place l) x) (upd T x (H (place l))) S Q∧Below B w w':=by
 have hp:=place_lt hl
 have HP:=Lib.hid (place_any l w (by have:=hl.2.1;have:=hl.2.2;omega))
 have F1:=Lib.hid (h.setW hx l)
 have F2:=Lib.hid ((F1.out.setT hx (H (place l))))
 have F3:=Lib.hid ((F2.out.setH hp x))
 have B3:Hid (Below B w (((w.setCell ⟨p.W,x,none⟩ (.int .i64 l)).setCell ⟨p.T,x,none⟩ (.int .i64 (H (place l)))).setCell ⟨p.H,place l,none⟩ (.int .i64 x))):=
  (((Below.refl B w).setCell (p:=⟨p.W,x,none⟩) (h.lo _ p.inW).1 _).setCell (p:=⟨p.T,x,none⟩) (h.lo _ p.inT).1 _).setCell (p:=⟨p.H,place l,none⟩) (h.lo _ p.inH).1 _
 have c2:=h.c2
 have w0:=h.aW x hx
 have f0:=h.fr _ p.inW x
 have c4:=F1.out.c4
 have c3:=F1.out.c3
 have a3:=F1.out.aH _ hp
 have a4:=F1.out.aT x hx
 have f4:=F1.out.fr _ p.inT x
 have d3:=F2.out.c3
 have e3:=F2.out.aH _ hp
 have g3:=F2.out.fr _ p.inH (place l)
 generalize H (place l)=hv at a3 F2 F3 B3 d3 e3 g3
 generalize place l=pl at hp HP F3 B3 a3 e3 g3
 clear h
 go_enter Tryz.func136,Tryz.ntmps136
 go_wp2_with fail
 refine HP.out.mono ?_
 rintro e w' ⟨rfl,rfl⟩
 go_wp2_with fail
 have hpl:(pl:Int)<(2*n+2:Nat):=by omega
 have hxl:(x:Int)<(2*m:Nat):=by omega
 generalize w.setCell ⟨p.W,x,none⟩ (.int .i64 l)=w1 at F1 F2 F3 B3 c4 c3 a3 a4 f4 d3 e3 g3⊢
 clear c2 w0 f0
 go_region
 all_goals
  go_wp2_with fail
  go_end0
  exact⟨rfl,F3.out.below (Below.refl _ _).drew,B3.out.drew⟩
theorem Tryz.infoInt:(Tryz.prog.info? 3).map (fun i=>(i.zero,i.size,i.bytes))=some (some (.int .i64 0),1,8):=by kernel_rfl
def MakeEnd (B n m:Nat)(p:FolS)(A Wd H T S:Nat→Int)(Q:List Int)(l:Int)(w:World)(e:Ending)(w':World):Prop:=
 e= .returned (.bool (decide (0≤va A l)))∧Below B w w'∧(va A l≠0→Fol B n m p w' A Wd H T S Q)∧(va A l=0→Fol B n m p w' (setL A l) Wd H T S (Q ++ [l]))
theorem make_any (h:Fol B n m p w A Wd H T S Q)(htri:∀i,A i= -1∨A i=0∨A i=1){l:Int}(hl:inR n l)(hn:n≤8192)(hq:Q.length≤1000000)(hB:B≤w.heap.size):
 Calls Tryz.prog 138 #[.pointer (some ⟨p.F,0,none⟩),.int .i64 l] w (MakeEnd B n m p A Wd H T S Q l w):=by
 have HV:=Lib.hid (value_any h htri hl hn)
 have ht:=va_tri htri l
 obtain⟨i0,hi,hz0,hz1,hz2⟩:=info_parts Tryz.infoInt
 obtain⟨h1,h2,h3⟩:=hl
 by_cases h0:va A l=0
 ·have key:∀(k:Nat) (v:Int),k<n+1→setL A l=upd A k v→Hid (Fol B n m p (w.setCell ⟨p.I,k,none⟩ (.int .i64 v)) (setL A l) Wd H T S Q)∧Hid (Below B w (w.setCell ⟨p.I,k,none⟩ (.int .i64 v))):=fun k v hk e=>by
   refine⟨?_,((Below.refl B w).setCell (p:=⟨p.I,k,none⟩) (h.lo _ p.inI).1 _)⟩
   show Fol _ _ _ _ _ _ _ _ _ _ _
   rw[e];exact h.setI hk v
  have c1:=h.c1
  have HE:Hid (∀e w',e= .returned (.bool true)→Below B w w'→Fol B n m p w' (setL A l) Wd H T S (Q ++ [l])→MakeEnd B n m p A Wd H T S Q l w e w'):=fun e w' he hb hf=>
   ⟨by rw[he,h0];rfl,hb,fun hne=>absurd h0 hne,fun _=>hf⟩
  have rest:∀w1:World,Hid (Fol B n m p w1 (setL A l) Wd H T S Q)→Hid (Below B w w1)→∃q6,w1.cell? ⟨p.F,6,none⟩=some q6∧Hid (QRow B p.In (w1.alloc (.cells #[.int .i64 l] 3)) q6 Q)∧Hid (Fol B n m p (w1.alloc (.cells #[.int .i64 l] 3)) (setL A l) Wd H T S Q)∧Hid (Below B w (w1.alloc (.cells #[.int .i64 l] 3)))∧
   (w1.alloc (.cells #[.int .i64 l] 3)).cell? ⟨p.F,6,none⟩=some q6∧(∀o,(w1.alloc (.cells #[.int .i64 l] 3)).frozen? ⟨p.F,o,none⟩=false):=fun w1 f1 b1=>by
   have hba:Below w1.heap.size w1 (w1.alloc (.cells #[.int .i64 l] 3)):=(Below.refl _ w1).alloc (Nat.le_refl _) _
   have f2:=f1.out.below hba
   obtain⟨v,g1,g2⟩:=f1.out.c6
   have g3:(w1.alloc (.cells #[.int .i64 l] 3)).cell? ⟨p.F,6,none⟩=some v:=(hba.cell (p:=⟨p.F,6,none⟩) (f1.out.lo _ p.inF).2).trans g1
   obtain⟨v',g4,g5⟩:=f2.c6
   obtain rfl:=Option.some.inj (g3.symm.trans g4)
   exact⟨v,g1,g5,f2,b1.out.trans (hba.mono (Nat.le_trans hB b1.out.size)),g3,fun o=>f2.fr _ p.inF o⟩
  by_cases hp:0<l
  ·obtain⟨k,rfl⟩:=Int.eq_ofNat_of_zero_le (show 0≤l by omega)
   obtain⟨F1,B1⟩:=key k 1 (by omega) (by unfold setL;rw[if_pos hp,Int.toNat_natCast])
   have a1:=h.aI k (by omega)
   have f1:=h.fr _ p.inI k
   have hk:(k:Int)<(n+1:Nat):=by omega
   have hF1:=F1.out.c6
   obtain⟨q6,g1,HQ,F2,B2,g2,g3⟩:=rest _ F1 B1
   have HX:Hid (∀x,p.In x→x<((w.setCell ⟨p.I,k,none⟩ (.int .i64 1)).alloc (.cells #[.int .i64 (k:Int)] 3)).heap.size):=fun x hx=>(F2.out.lo x hx).2
   have HBZ:Hid (B≤((w.setCell ⟨p.I,k,none⟩ (.int .i64 1)).alloc (.cells #[.int .i64 (k:Int)] 3)).heap.size):=Nat.le_trans hB B2.out.size
   have HNW:Hid (((w.setCell ⟨p.I,k,none⟩ (.int .i64 1)).alloc (.cells #[.int .i64 (k:Int)] 3)).cell? ⟨w.heap.size,0,none⟩=some (.int .i64 (k:Int))):=by
    have:=heap_alloc_new (w.setCell ⟨p.I,k,none⟩ (.int .i64 1)) (.cells #[.int .i64 (k:Int)] 3)
    rw[World.size_setCell]at this
    exact(cell_of_row _ _ _ _ _ _ this).trans rfl
   clear h key rest hF1 ht htri
   go_enter Tryz.func138,Tryz.ntmps138
   go_wp2_with fail
   refine HV.out.mono ?_
   rintro e w' ⟨rfl,rfl⟩
   rw[h0]
   go_wp2_with (at_builtin;refine wpList_append_q rfl _ _ 23 rfl 3 i0 (.int .i64 0) Tryz.underlying23 hi hz0 hz1 hz2 rfl (B:=B) (X:=p.In) (v:=q6) rfl HQ.out HBZ.out HX.out hq ⟨w.heap.size,0,none⟩ 1 (k:Int) rfl HNW.out ?_)
   intro v' w3 hq3 hb3 hk3
   obtain⟨a6,cap6,ev6,_⟩:=hq3.ex
   rw[List.length_append,List.length_singleton]at ev6
   subst ev6
   have g4:w3.cell? ⟨p.F,6,none⟩=some q6:=(World.cell?_of_block (a:=⟨p.F,6,none⟩) (hk3 _ p.inF)).trans g2
   have g5:w3.frozen? ⟨p.F,6,none⟩=false:=(World.frozen?_of_block (a:=⟨p.F,6,none⟩) (hk3 _ p.inF)).trans (g3 6)
   have F3:=Lib.hid (F2.out.setQ hk3 hb3.size hq3)
   have B3:=Lib.hid (B2.out.trans (hb3.setCell (p:=⟨p.F,6,none⟩) (F2.out.lo _ p.inF).1 (.slice a6 (Q.length+1) cap6)))
   clear hq3 hb3 hk3
   go_wp2_with fail
   go_ret
   exact HE.out _ _ rfl B3.out F3.out
  ·obtain⟨k,hlk⟩:=Int.eq_ofNat_of_zero_le (show 0≤ -l by omega)
   have hlk:l= -(k:Int):=by omega
   subst hlk
   obtain⟨F1,B1⟩:=key k (-1) (by omega) (by unfold setL;rw[if_neg hp,Int.neg_neg,Int.toNat_natCast])
   have a1:=h.aI k (by omega)
   have f1:=h.fr _ p.inI k
   have hk:(k:Int)<(n+1:Nat):=by omega
   have hF1:=F1.out.c6
   obtain⟨q6,g1,HQ,F2,B2,g2,g3⟩:=rest _ F1 B1
   have HX:Hid (∀x,p.In x→x<((w.setCell ⟨p.I,k,none⟩ (.int .i64 (-1))).alloc (.cells #[.int .i64 (-(k:Int))] 3)).heap.size):=fun x hx=>(F2.out.lo x hx).2
   have HBZ:Hid (B≤((w.setCell ⟨p.I,k,none⟩ (.int .i64 (-1))).alloc (.cells #[.int .i64 (-(k:Int))] 3)).heap.size):=Nat.le_trans hB B2.out.size
   have HNW:Hid (((w.setCell ⟨p.I,k,none⟩ (.int .i64 (-1))).alloc (.cells #[.int .i64 (-(k:Int))] 3)).cell? ⟨w.heap.size,0,none⟩=some (.int .i64 (-(k:Int)))):=by
    have:=heap_alloc_new (w.setCell ⟨p.I,k,none⟩ (.int .i64 (-1))) (.cells #[.int .i64 (-(k:Int))] 3)
    rw[World.size_setCell]at this
    exact(cell_of_row _ _ _ _ _ _ this).trans rfl
   have hw:IntKind.i64.wrap (-(-(k:Int)))=(k:Int):=by rw[Int.neg_neg];exact IntWalk.i64_in _ (by omega)
   clear h key rest hF1 ht htri
   go_enter Tryz.func138,Tryz.ntmps138
   go_wp2_with fail
   refine HV.out.mono ?_
   rintro e w' ⟨rfl,rfl⟩
   rw[h0]
   go_wp2_with (at_builtin;refine wpList_append_q rfl _ _ 23 rfl 3 i0 (.int .i64 0) Tryz.underlying23 hi hz0 hz1 hz2 rfl (B:=B) (X:=p.In) (v:=q6) rfl HQ.out HBZ.out HX.out hq ⟨w.heap.size,0,none⟩ 1 (-(k:Int)) rfl HNW.out ?_)
   intro v' w3 hq3 hb3 hk3
   obtain⟨a6,cap6,ev6,_⟩:=hq3.ex
   rw[List.length_append,List.length_singleton]at ev6
   subst ev6
   have g4:w3.cell? ⟨p.F,6,none⟩=some q6:=(World.cell?_of_block (a:=⟨p.F,6,none⟩) (hk3 _ p.inF)).trans g2
   have g5:w3.frozen? ⟨p.F,6,none⟩=false:=(World.frozen?_of_block (a:=⟨p.F,6,none⟩) (hk3 _ p.inF)).trans (g3 6)
   have F3:=Lib.hid (F2.out.setQ hk3 hb3.size hq3)
   have B3:=Lib.hid (B2.out.trans (hb3.setCell (p:=⟨p.F,6,none⟩) (F2.out.lo _ p.inF).1 (.slice a6 (Q.length+1) cap6)))
   clear hq3 hb3 hk3
   go_wp2_with fail
   go_ret
   exact HE.out _ _ rfl B3.out F3.out
 ·have HE:Hid (∀e,e= .returned (.bool (decide (0<va A l)))→MakeEnd B n m p A Wd H T S Q l w e w):=fun e he=>
   ⟨by rw[he];congr 2;simp only[decide_eq_decide];omega,Below.refl _ _,fun _=>h,fun e=>absurd e h0⟩
  generalize va A l=x at HV HE h0 ht
  clear h
  have hx:x=1∨x= -1:=by omega
  clear ht
  rcases hx with rfl | rfl
  all_goals
   go_enter Tryz.func138,Tryz.ntmps138
   go_wp2_with fail
   refine HV.out.mono ?_
   rintro e w' ⟨rfl,rfl⟩
   go_wp2_with fail
   go_ret
   exact HE.out _ rfl
end
end Prp
end Go.Proofs.YtipahfcaplbifaaGreatDoor
