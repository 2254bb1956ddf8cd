/- Parts of a proof. -/
import Derived.Test.YtipahfcaplbifaaGreatDoorZ03
import Derived.Test.YtipahfcaplbifaaGreatDoorZ04
import Derived.LaidEql
import Derived.Lib.QuietBelow
import Derived.Deep.AppendLies
import Derived.Deep.AppendSrc
import Derived.Test.YtipahfcaplbifaaGreatDoorRows
import Derived.ProofKit
import Derived.OpenShut
import Derived.ChangeOld
import Derived.Deep.Slices
import Derived.Deep.Fields
set_option linter.unusedVariables false
set_option linter.unusedSimpArgs false
set_option maxHeartbeats 60000000
set_option maxRecDepth 100000
namespace Go.Proofs.YtipahfcaplbifaaGreatDoor
namespace Prp
open Go.RowKit
theorem lt_of_some {W:World}{b:Nat}{o:Obj}(h:W.heap[b]? =some o):b<W.heap.size:=(Array.getElem?_eq_some_iff.1 h).1
structure Lst (n:Nat)(Is:Nat→Prop)(Wd H T:Nat→Int)(L:Int→List Nat):Prop where
 chain:∀l,inR n l→Ch T (H (place l)) (L l)
 mem:∀l,inR n l→∀w,w∈L l↔(Is w∧Wd w=l)
 nd:∀l,inR n l→(L l).Nodup
theorem Lst.nil {n:Nat}{Wd H T:Nat→Int}(hH:∀i,i<2*n+2→H i= -1):Lst n (fun _=>False) Wd H T (fun _=>[]):=
 ⟨fun l hl=>hH _ (place_lt hl),fun _ _ _=>⟨(fun h=>by cases h),fun h=>h.1.elim⟩,fun _ _=>List.nodup_nil⟩
theorem Lst.congr {n:Nat}{Is Is':Nat→Prop}{Wd H T:Nat→Int}{L:Int→List Nat}(h:Lst n Is Wd H T L)(he:∀w,Is w↔Is' w):Lst n Is' Wd H T L:=
 ⟨h.chain,fun l hl w=>(h.mem l hl w).trans (by rw[he]),h.nd⟩
theorem Lst.add {n:Nat}{Is:Nat→Prop}{Wd H T:Nat→Int}{L:Int→List Nat}(h:Lst n Is Wd H T L){x:Nat}{l0:Int}(hx:¬Is x)(hl0:inR n l0):∃L',Lst n (fun w=>Is w∨w=x) (upd Wd x l0) (upd H (place l0) x) (upd T x (H (place l0))) L':=by
 have hno:∀l,inR n l→x∉L l:=fun l hl hm=>hx ((h.mem l hl x).1 hm).1
 refine⟨fun l=>if l=l0 then x :: L l0 else L l,fun l hl=> ?_,fun l hl w=> ?_,fun l hl=> ?_⟩
 ·by_cases e:l=l0
  ·subst e
   rw[if_pos rfl,upd_same]
   refine⟨rfl, ?_⟩
   rw[upd_same]
   exact(h.chain l hl).upd (hno l hl)
  ·rw[if_neg e,upd_ne (fun e2=>e (place_inj hl hl0 e2))]
   exact(h.chain l hl).upd (hno l hl)
 ·by_cases e:l=l0
  ·subst e
   rw[if_pos rfl,List.mem_cons]
   constructor
   ·rintro(rfl | hy)
    ·exact⟨.inr rfl,upd_same⟩
    ·obtain⟨a,b⟩:=(h.mem l hl w).1 hy
     refine⟨.inl a, ?_⟩
     rw[upd_ne (fun e=>hx (by rw[←e];exact a))];exact b
   ·rintro⟨a,b⟩
    by_cases e:w=x
    ·exact .inl e
    ·rw[upd_ne e]at b
     exact .inr ((h.mem l hl w).2 ⟨a.resolve_right e,b⟩)
  ·rw[if_neg e]
   constructor
   ·intro hy
    obtain⟨a,b⟩:=(h.mem l hl w).1 hy
    refine⟨.inl a, ?_⟩
    rw[upd_ne (fun e=>hx (by rw[←e];exact a))];exact b
   ·rintro⟨a,b⟩
    by_cases e2:w=x
    ·subst e2;rw[upd_same]at b;exact absurd b.symm e
    ·rw[upd_ne e2]at b
     exact(h.mem l hl w).2 ⟨a.resolve_right e2,b⟩
 ·by_cases e:l=l0
  ·subst e
   rw[if_pos rfl]
   exact List.nodup_cons.2 ⟨hno l hl,h.nd l hl⟩
  ·rw[if_neg e];exact h.nd l hl
def isJ (cs:List (List Int))(j w:Nat):Prop:=w / 2<j∧isW cs w
structure Beg (n:Nat)(cs:List (List Int))(j:Nat)(Wd H T S:Nat→Int)(L:Int→List Nat):Prop where
 lst:Lst n (isJ cs j) Wd H T L
 two:∀i c,i<j→cs[i]? =some c→act c→Wd (2*i)∈c∧Wd (2*i+1)∈c∧Wd (2*i)≠Wd (2*i+1)∧0≤S i∧S i≤c.length∧∀k,k<(S i).toNat→c.getD k 0=Wd (2*i)∨c.getD k 0=Wd (2*i+1)
 one:∀i c,i<j→cs[i]? =some c→¬act c→S i=c.length+1
theorem Beg.nil {n:Nat}{cs:List (List Int)}{Wd H T S:Nat→Int}(hH:∀i,i<2*n+2→H i= -1):Beg n cs 0 Wd H T S (fun _=>[]):=
 ⟨(Lst.nil hH).congr (fun w=>⟨fun h=>h.elim,fun h=>by have:=h.1;omega⟩),fun i _ hi=>absurd hi (Nat.not_lt_zero _),fun i _ hi=>absurd hi (Nat.not_lt_zero _)⟩
def sameTo (c:List Int)(k:Nat):Prop:=∀i,i<k→c.getD i 0=c.headD 0
theorem not_act_of {c:List Int}(h:sameTo c c.length):¬act c:=by
 rintro⟨x,hx,hne⟩
 obtain⟨i,hi,rfl⟩:=List.getElem_of_mem hx
 have:=h i hi
 rw[List.getD_eq_getElem?_getD,List.getElem?_eq_getElem hi]at this
 exact hne this
theorem act_of {c:List Int}{k:Nat}(hk:k<c.length)(h:c.getD k 0≠c.headD 0):act c:=
 ⟨c.getD k 0,by rw[List.getD_eq_getElem?_getD,List.getElem?_eq_getElem hk];exact List.getElem_mem hk,h⟩
theorem Beg.flat {n:Nat}{cs:List (List Int)}{j:Nat}{Wd H T S:Nat→Int}{L:Int→List Nat}(h:Beg n cs j Wd H T S L){c:List Int}(hc:cs[j]? =some c)(hs:sameTo c c.length):Beg n cs (j+1) Wd H T (upd S j (c.length+1:Nat)) L:=by
 have hna:=not_act_of hs
 refine⟨h.lst.congr (fun w=>⟨fun⟨a,b⟩=>⟨by omega,b⟩,fun⟨a,b⟩=>⟨?_,b⟩⟩),fun i d hi hd ha=> ?_,fun i d hi hd ha=> ?_⟩
 ·by_cases e:w / 2=j
  ·obtain⟨d,hd,ha⟩:=b
   rw[e,hc]at hd
   obtain rfl:=Option.some.inj hd
   exact absurd ha hna
  ·omega
 ·by_cases e:i=j
  ·subst e
   obtain rfl:=Option.some.inj (hc.symm.trans hd)
   exact absurd ha hna
  ·rw[upd_ne e];exact h.two i d (by omega) hd ha
 ·by_cases e:i=j
  ·subst e
   obtain rfl:=Option.some.inj (hc.symm.trans hd)
   rw[upd_same];omega
  ·rw[upd_ne e];exact h.one i d (by omega) hd ha
theorem Beg.pair {n:Nat}{cs:List (List Int)}{ls:List Int}(hs:Sane n cs ls){j:Nat}{Wd H T S:Nat→Int}{L:Int→List Nat}(h:Beg n cs j Wd H T S L){c:List Int}{k:Nat}(hc:cs[j]? =some c)(hk:k<c.length)(hsm:sameTo c k)(hne:c.getD k 0≠c.headD 0):
 ∃L',Beg n cs (j+1) (upd (upd Wd (2*j) (c.headD 0)) (2*j+1) (c.getD k 0)) (upd (upd H (place (c.headD 0)) (2*j:Nat)) (place (c.getD k 0)) (2*j+1:Nat)) (upd (upd T (2*j) (H (place (c.headD 0)))) (2*j+1) (upd H (place (c.headD 0)) (2*j:Nat) (place (c.getD k 0)))) (upd S j (k+1:Nat)) L':=by
 have hact:=act_of hk hne
 have hcm:c∈cs:=List.mem_of_getElem? hc
 have hkm:c.getD k 0∈c:=by rw[List.getD_eq_getElem?_getD,List.getElem?_eq_getElem hk];exact List.getElem_mem hk
 have h0m:c.headD 0∈c:=by
  cases c with
  | nil=>exact absurd hk (Nat.not_lt_zero _)
  | cons y r=>exact List.mem_cons_self
 obtain⟨L1,h1⟩:=h.lst.add (x:=2*j) (fun hi=>by have:=hi.1;omega) (hs.hc c hcm _ h0m)
 obtain⟨L2,h2⟩:=h1.add (x:=2*j+1) (fun hi=>hi.elim (fun hi=>by have:=hi.1;omega) (fun e=>by omega)) (hs.hc c hcm _ hkm)
 refine⟨L2,h2.congr (fun w=>⟨?_,fun⟨a,b⟩=> ?_⟩),fun i d hi hd ha=> ?_,fun i d hi hd ha=> ?_⟩
 ·rintro((⟨a,b⟩ | rfl) | rfl)
  ·exact⟨by omega,b⟩
  ·exact⟨by omega,c,by rw[show 2*j / 2=j by omega];exact hc,hact⟩
  ·exact⟨by omega,c,by rw[show(2*j+1) / 2=j by omega];exact hc,hact⟩
 ·by_cases e:w=2*j
  ·exact .inl (.inr e)
  ·by_cases e2:w=2*j+1
   ·exact .inr e2
   ·exact .inl (.inl ⟨by omega,b⟩)
 ·by_cases e:i=j
  ·subst e
   obtain rfl:=Option.some.inj (hc.symm.trans hd)
   rw[upd_same,upd_same,upd_ne (show 2*i≠2*i+1 by omega),upd_same]
   refine⟨h0m,hkm,fun e=>hne e.symm,by omega,by omega,fun q hq=> ?_⟩
   by_cases eq:q=k
   ·subst eq;exact .inr rfl
   ·exact .inl (hsm q (by omega))
  ·rw[upd_ne e,upd_ne (show 2*i≠2*j+1 by omega),upd_ne (show 2*i≠2*j by omega),upd_ne (show 2*i+1≠2*j+1 by omega),upd_ne (show 2*i+1≠2*j by omega)]
   exact h.two i d (by omega) hd ha
 ·by_cases e:i=j
  ·subst e
   obtain rfl:=Option.some.inj (hc.symm.trans hd)
   exact absurd hact ha
  ·rw[upd_ne e];exact h.one i d (by omega) hd ha
theorem va_zero (l:Int):va (fun _=>0) l=0:=by unfold va;split<;>rfl
theorem zeros_le (A:Nat→Int):∀n,zeros A n≤n
 | 0=>Nat.le_refl _
 | n+1=>by have:=zeros_le A n;unfold zeros;split<;>omega
theorem Beg.st {B n:Nat}{cs:List (List Int)}{ls:List Int}{p:FolS}{w:World}{Wd H T S:Nat→Int}{L:Int→List Nat}(h:Beg n cs cs.length Wd H T S L)(hf:Fol B n cs.length p w (fun _=>0) Wd H T S [])(hc:CLies B w p.ca cs):St B n cs ls p w (fun _=>0) Wd H T S [] L []:=by
 have hnd:∀l,¬dead (fun _=>0) [] l:=fun l hd=>by have:=hd.1;rw[va_zero]at this;omega
 refine⟨hf,⟨fun _=> .inr (.inl rfl),rfl,fun l _ hv=>by rw[va_zero]at hv;omega,(fun l hl=>by cases hl),List.nodup_nil⟩,⟨fun i c hi ha=> ?_,fun l hl _=>h.lst.chain l hl,fun l hl _ w=>(h.lst.mem l hl w).trans ⟨fun⟨a,b⟩=>⟨a.2,b⟩,fun⟨a,b⟩=>⟨⟨?_,a⟩,b⟩⟩,fun l hl _=>h.lst.nd l hl,fun w _ hd=>absurd hd (hnd _)⟩, ?_,hc⟩
 ·obtain⟨h1,h2,h3,h4,h5,h6⟩:=h.two i c (List.getElem?_eq_some_iff.1 hi).1 hi ha
  exact⟨h1,h2,h3,h4,h5,fun k hk=>(h6 k hk).elim .inl (fun e=> .inr (.inl e))⟩
 ·obtain⟨c,hc,_⟩:=a
  exact(List.getElem?_eq_some_iff.1 hc).1
 ·have:=zeros_le (fun _=>0) n;simp only[List.length_nil];omega
theorem Beg.ones {n:Nat}{cs:List (List Int)}{Wd H T S:Nat→Int}{L:Int→List Nat}(h:Beg n cs cs.length Wd H T S L):∀i c,cs[i]? =some c→¬act c→S i=c.length+1:=fun i c hi ha=>h.one i c (List.getElem?_eq_some_iff.1 hi).1 hi ha
theorem Begun.fol {w wr:World}{a:Option Addr}{m cap n F I W H T S:Nat}(h:Begun w wr a m cap n F I W H T S):Fol w.heap.size n m ⟨F,I,W,H,T,S,a,cap,F,.slice a m cap⟩ wr (fun _=>0) (fun _=>0) (fun _=>0) (fun _=>0) (fun _=>0) []:=by
 have arr:∀(b k:Nat),wr.heap[b]? =some (.cells (madeCells #[.int .i64 0] k) 3 (0,0))→Arr wr b k (fun _=>0):=fun b k hb i hi=>by
  rw[cell_of_row _ _ _ _ _ _ hb]
  simp[madeCells,hi,Nat.mod_one]
 obtain⟨⟨n1,n2,n3,n4,n5⟩,⟨n6,n7,n8,n9⟩,⟨n10,n11,n12⟩,⟨n13,n14⟩,n15⟩:=h.ne
 obtain⟨l1,l2,l3,l4,l5,l6⟩:=h.lo
 have cF:=fun j=>cell_of_row wr F j _ _ _ h.hF
 refine⟨⟨n1,n2,n3,n4,n5,n6,n7,n8,n9,n10,n11,n12,n13,n14,n15,n1.symm,n2.symm,n3.symm,n4.symm,n5.symm⟩,cF 0,cF 1,cF 2,cF 3,cF 4,cF 5,⟨_,cF 6,QRow.nil _ _ _⟩,arr _ _ h.hI,arr _ _ h.hW,arr _ _ h.hH,arr _ _ h.hT,arr _ _ h.hS, ?_, ?_,cF 0⟩
 ·rintro b (r | r | r | r | r | r | r) o<;>subst r
  ·exact frozen_of_row _ _ _ _ _ h.hF
  ·exact frozen_of_row _ _ _ _ _ h.hI
  ·exact frozen_of_row _ _ _ _ _ h.hW
  ·exact frozen_of_row _ _ _ _ _ h.hH
  ·exact frozen_of_row _ _ _ _ _ h.hT
  ·exact frozen_of_row _ _ _ _ _ h.hS
  ·exact frozen_of_row _ _ _ _ _ h.hF
 ·rintro b (r | r | r | r | r | r | r)<;>subst r
  ·exact⟨l1,lt_of_some h.hF⟩
  ·exact⟨l2,lt_of_some h.hI⟩
  ·exact⟨l3,lt_of_some h.hW⟩
  ·exact⟨l4,lt_of_some h.hH⟩
  ·exact⟨l5,lt_of_some h.hT⟩
  ·exact⟨l6,lt_of_some h.hS⟩
  ·exact⟨l1,lt_of_some h.hF⟩
end Prp
namespace Prp
open Go.RowKit
def BeginEnd (n:Nat)(cs:List (List Int))(ls:List Int)(w:World)(e:Ending)(w':World):Prop:=
 ∃p Wd H T S L,e= .returned (.pointer (some ⟨p.F,0,none⟩))∧St w.heap.size n cs ls p w' (fun _=>0) Wd H T S [] L []∧(∀i c,cs[i]? =some c→¬act c→S i=c.length+1)∧Below w.heap.size w w'
def Jbeg (B n:Nat)(cs:List (List Int))(p:FolS)(w:World)(j:Nat)(wr:World):Prop:=
 ∃Wd H T S L,Fol B n cs.length p wr (fun _=>0) Wd H T S []∧Beg n cs j Wd H T S L∧Below B w wr
end Prp
namespace Prp
open Go.RowKit
def litB (n:Int)(l:Int):Bool:=decide (l≠0∧ -n≤l∧l≤n)
def litsB (n:Int)(c:List Int):Bool:=c.all (litB n)
theorem litsB_iff {n:Nat}{c:List Int}:litsB n c=true↔∀x,x∈c→inR n x:=by
 unfold litsB litB inR
 simp
theorem bad_any (l n:Int)(g:Nat)(w:World)(hn:0≤n∧n≤8192)(hg:w.cell? ⟨g,0,none⟩=some (.int .i64 n)):
 Calls Tryz.prog 118 #[.int .i64 l,.pointer (some ⟨g,0,none⟩)] w fun e w'=>e= .returned (.bool (!litB n l))∧w=w':=by
 have hw:IntKind.i64.wrap (-n)= -n:=IntWalk.i64_in _ (by omega)
 by_cases h0:l=0
 ·have e:litB n l=false:=by unfold litB;simp[h0]
  rw[e]
  subst h0
  go_enter Tryz.func118,Tryz.ntmps118
  go_wp2_with fail
  go_ret
  exact⟨rfl,rfl⟩
 ·have h00:(l == 0)=false:=by simp[h0]
  by_cases h1:l< -n
  ·have e:litB n l=false:=by unfold litB;simp;omega
   rw[e]
   go_enter Tryz.func118,Tryz.ntmps118
   go_wp2_with fail
   go_ret
   exact⟨rfl,rfl⟩
  ·by_cases h2:n<l
   ·have e:litB n l=false:=by unfold litB;simp;omega
    rw[e]
    go_enter Tryz.func118,Tryz.ntmps118
    go_wp2_with fail
    go_ret
    exact⟨rfl,rfl⟩
   ·have e:litB n l=true:=by unfold litB;simp;omega
    rw[e]
    go_enter Tryz.func118,Tryz.ntmps118
    go_wp2_with fail
    go_ret
    exact⟨rfl,rfl⟩
theorem getD_mem {c:List Int}{j:Nat}(h:j<c.length):c.getD j 0∈c:=by rw[List.getD_eq_getElem?_getD,List.getElem?_eq_getElem h];exact List.getElem_mem h
theorem some_bad (n:Int)(hn:0≤n∧n≤8192)(g:Nat)(a:Option Addr)(k cap:Nat)(c:List Int)(w:World)(hk:c.length=k)(hkm:k≤9223372036854775807)(hl:Nums w.heap.size w a c)(hg:w.cell? ⟨g,0,none⟩=some (.int .i64 n)):
 Calls Tryz.prog 117 #[.slice a k cap,.func (.func 118) #[] #[.pointer (some ⟨g,0,none⟩)]] w fun e w'=>e= .returned (.bool (!litsB n c))∧w=w':=by
 have HL:=Lib.hid hl
 have HK:=Lib.hid hk
 have HB:=Lib.hid (fun l=>bad_any l n g w hn hg)
 have HYES:Hid (∀j,j<k→litB n (c.getD j 0)=false→(!litsB n c)=true):=fun j hj h=>by
  have:litsB n c=false:=by
   cases e:litsB n c
   ·rfl
   ·have:=List.all_eq_true.1 e _ (getD_mem (by rw[hk];exact hj));rw[h]at this;cases this
  rw[this];rfl
 have HNO:Hid ((∀j,j<k→litB n (c.getD j 0)=true)→(!litsB n c)=false):=fun h=>by
  have:litsB n c=true:=List.all_eq_true.2 fun x hx=>by
   obtain⟨i,hi,rfl⟩:=List.getElem_of_mem hx
   have:=h i (by omega)
   rwa [List.getD_eq_getElem?_getD,List.getElem?_eq_getElem hi]at this
  rw[this];rfl
 clear hl hk hg
 generalize (!litsB n c)=r at HYES HNO
 go_enter Tryz.func117,Tryz.ntmps117
 go_wp2_with fail
 go_loop [9] (fun i=>∃j:Nat,j≤k∧i= .int .i64 j∧Hid (∀i,i<j→litB n (c.getD i 0)=true)) (fun i=>k - (intOf i).toNat)
 case atStart=>exact⟨0,Nat.zero_le _,rfl,fun i hi=>absurd hi (Nat.not_lt_zero _)⟩
 case round=>
  obtain⟨j,hj,rfl,hal⟩:=hrel
  by_cases hlt:j<k
  ·obtain⟨b,off,rfl,hblt,c1⟩:=HL.out j (by rw[HK.out];exact hlt)
   have HC:=Lib.hid (HB.out (c.getD j 0))
   have HY:=Lib.hid (HYES.out j hlt)
   have HST:Hid (litB n (c.getD j 0)=true→∀i,i<j+1→litB n (c.getD i 0)=true):=fun h i hi=>by
    by_cases e:i=j
    ·subst e;exact h
    ·exact hal.out i (by omega)
   generalize c.getD j 0=l at c1 HC HY HST
   cases hb:litB n l
   ·have hr:=HY.out hb
    rw[hb]at HC
    clear HST HY HYES HNO
    go_wp2_with (first | (go_at_call 118;refine HC.out.mono ?_;rintro e w' ⟨rfl,rfl⟩))
    go_ret
    exact⟨by rw[hr];rfl,rfl⟩
   ·have hs:=Lib.hid (HST.out hb)
    rw[hb]at HC
    clear HST HY HYES HNO
    go_wp2_with (first | (go_at_call 118;refine HC.out.mono ?_;rintro e w' ⟨rfl,rfl⟩))
    go_round
    case rel=>exact⟨j+1,by omega,by go_num,hs⟩
    case measure=>simp[intOf];omega
  ·obtain rfl:j=k:=by omega
   have hr:=HNO.out hal.out
   clear HYES HNO hal
   go_wp2_with fail
   go_ret
   exact⟨rfl,rfl⟩
theorem sound_any (n:Int)(hn:0≤n∧n≤8192)(a:Option Addr)(k cap:Nat)(c:List Int)(w:World)(hk:c.length=k)(hkm:k≤9223372036854775807)(hl:Nums w.heap.size w a c):
 Calls Tryz.prog 88 #[.int .i64 n,.slice a k cap] w fun e w'=>e= .returned (.bool (litsB n c))∧Below w.heap.size w w':=by
 have hb:Below w.heap.size w (w.alloc (.cells #[.int .i64 n] 3)):=(Below.refl _ w).alloc (Nat.le_refl _) _
 have hnw:=heap_alloc_new w (.cells #[.int .i64 n] 3)
 have HS:=Lib.hid (some_bad n hn w.heap.size a k cap c (w.alloc (.cells #[.int .i64 n] 3)) hk hkm ((hl.below hb).mono hb.size) ((cell_of_row _ _ _ _ _ _ hnw).trans rfl))
 have HB:=Lib.hid hb
 clear hl hk hb hnw
 go_enter Tryz.func88,Tryz.ntmps88
 go_wp2_with fail
 refine HS.out.mono ?_
 rintro e w' ⟨rfl,rfl⟩
 go_wp2_with fail
 go_ret
 exact⟨by simp,HB.out⟩
end Prp
namespace Prp
open Go.RowKit
def codeV (k:Int):Value:=if k=0 then .nilIface else .iface 60 (.int .i64 k)
def sumTo (cs:List (List Int)):Nat→Nat
 | 0=>0
 | k+1=>sumTo cs k+(cs.getD k []).length
theorem sumTo_mono (cs:List (List Int)){j k:Nat}(h:j≤k):sumTo cs j≤sumTo cs k:=by
 induction h with
 | refl=>exact Nat.le_refl _
 | step _ ih=>exact Nat.le_trans ih (Nat.le_add_right _ _)
def chkK (n:Int)(cs:List (List Int)):Int:=
 if n<0∨8192<n then 1 else if 16384<cs.length then 2 else if 131072<sumTo cs cs.length then 2 else if cs.all (litsB n)=true then 0 else 5
theorem chkK_in (n:Int)(cs:List (List Int)):0≤chkK n cs∧chkK n cs≤5:=by unfold chkK;repeat (first | split | omega)
theorem all_get {n:Int}{cs:List (List Int)}:cs.all (litsB n)=true↔∀j,j<cs.length→litsB n (cs.getD j [])=true:=by
 constructor
 ·intro h j hj
  rw[List.getD_eq_getElem?_getD,List.getElem?_eq_getElem hj]
  exact List.all_eq_true.1 h _ (List.getElem_mem hj)
 ·intro h
  refine List.all_eq_true.2 fun c hc=> ?_
  obtain⟨i,hi,rfl⟩:=List.getElem_of_mem hc
  have:=h i hi
  rwa [List.getD_eq_getElem?_getD,List.getElem?_eq_getElem hi]at this
theorem chkK_zero {n:Int}{cs:List (List Int)}(h:chkK n cs=0):∃m:Nat,n=m∧m≤8192∧cs.length≤16384∧(∀c,c∈cs→c.length≤131072)∧∀c,c∈cs→∀x,x∈c→inR m x:=by
 unfold chkK at h
 by_cases h1:n<0∨8192<n
 ·rw[if_pos h1]at h;cases h
 ·rw[if_neg h1]at h
  by_cases h2:16384<cs.length
  ·rw[if_pos h2]at h;cases h
  ·rw[if_neg h2]at h
   by_cases h3:131072<sumTo cs cs.length
   ·rw[if_pos h3]at h;cases h
   ·rw[if_neg h3]at h
    by_cases h4:cs.all (litsB n)=true
    ·obtain⟨m,rfl⟩:=Int.eq_ofNat_of_zero_le (show 0≤n by omega)
     refine⟨m,rfl,by omega,by omega,fun c hc=> ?_,fun c hc=>litsB_iff.1 (List.all_eq_true.1 h4 c hc)⟩
     obtain⟨i,hi,rfl⟩:=List.getElem_of_mem hc
     have:=sumTo_mono cs (show i+1≤cs.length by omega)
     have e:sumTo cs (i+1)=sumTo cs i+(cs.getD i []).length:=rfl
     rw[List.getD_eq_getElem?_getD,List.getElem?_eq_getElem hi,Option.getD_some]at e
     omega
    ·rw[if_neg h4]at h;cases h
theorem check_any (n:Int)(a:Option Addr)(m cap:Nat)(cs:List (List Int))(w:World)(hm:cs.length=m)(hmm:m≤9223372036854775807)(hl:CLies w.heap.size w a cs)(hk:m≤16384→∀j,j<m→(cs.getD j []).length≤4611686018427387904):
 Calls Tryz.prog 56 #[.int .i64 n,.slice a m cap] w fun e w'=>e= .returned (codeV (chkK n cs))∧Below w.heap.size w w':=by
 by_cases h1:n<0∨8192<n
 ·have e:codeV (chkK n cs)= .iface 60 (.int .i64 1):=by unfold chkK;rw[if_pos h1];rfl
  rw[e]
  by_cases h2:n<0
  ·go_enter Tryz.func56,Tryz.ntmps56
   go_wp2_with fail
   go_ret
   exact⟨rfl,Below.refl _ _⟩
  ·have h3:8192<n:=by omega
   go_enter Tryz.func56,Tryz.ntmps56
   go_wp2_with fail
   go_ret
   exact⟨rfl,Below.refl _ _⟩
 ·have h2:¬n<0:=by omega
  have h3:¬ 8192<n:=by omega
  by_cases h4:16384<m
  ·have e:codeV (chkK n cs)= .iface 60 (.int .i64 2):=by unfold chkK;rw[if_neg h1,if_pos (by omega)];rfl
   rw[e]
   go_enter Tryz.func56,Tryz.ntmps56
   go_wp2_with fail
   go_ret
   exact⟨rfl,Below.refl _ _⟩
  ·have hk:=hk (by omega)
   have HE:Hid (chkK n cs=if 131072<sumTo cs m then 2 else if cs.all (litsB n)=true then 0 else 5):=by
    show _=_
    unfold chkK;rw[if_neg h1,if_neg (by omega),hm]
   have HL:=Lib.hid hl
   have HM:=Lib.hid hm
   have HK:=Lib.hid hk
   have HS:=Lib.hid (fun W j (hj:j<m) (hb:Below w.heap.size w W) (ta:Option Addr) (tcap:Nat) (hn9:Nums w.heap.size w ta (cs.getD j []))=>sound_any n ⟨by omega,by omega⟩ ta (cs.getD j []).length tcap (cs.getD j []) W rfl (by have:=hk j hj;omega) ((hn9.below hb).mono hb.size))
   generalize hr:chkK n cs=r at HE⊢
   clear hl hm hk hr h1
   go_enter Tryz.func56,Tryz.ntmps56
   go_wp2_with fail
   go_loop [5,23] (fun s i=>∃k:Nat,k≤m∧i= .int .i64 k∧s= .int .i64 (sumTo cs k)∧Hid (sumTo cs k≤131072)) (fun _ i=>m - (intOf i).toNat)
   case atStart=>exact⟨0,Nat.zero_le _,rfl,rfl,Nat.zero_le _⟩
   case round=>
    obtain⟨k,hk,rfl,rfl,hs⟩:=hrel
    by_cases hlt:k<m
    ·obtain⟨b,off,ta,tcap,rfl,hblt,c1,_⟩:=HL.out k (by rw[HM.out];exact hlt)
     have HN:Hid (sumTo cs (k+1)=sumTo cs k+(cs.getD k []).length):=rfl
     have HMO:Hid (sumTo cs (k+1)≤sumTo cs m):=sumTo_mono cs hlt
     have hkl:=HK.out k hlt
     have hs1:=hs.out
     generalize (cs.getD k []).length=len at c1 HN hkl
     generalize sumTo cs k=sk at HN hs1
     by_cases hgt:131072<sk+len
     ·have hr:=HE.out
      rw[if_pos (by have:=HN.out;have:=HMO.out;omega)]at hr
      subst hr
      clear HE HS HN HMO hs
      have hgt2:(131072:Int)<(sk:Int)+(len:Int):=by omega
      go_wp2_with fail
      go_ret
      exact⟨rfl,Below.refl _ _⟩
     ·have HS1:Hid (sumTo cs (k+1)≤131072):=by show _≤_;rw[HN.out];omega
      have hgt2:¬(131072:Int)<(sk:Int)+(len:Int):=by omega
      clear HE HS HMO hs
      go_wp2_with fail
      go_round
      case rel=>exact⟨k+1,by omega,by go_num,by rw[HN.out];go_num,HS1⟩
      case measure=>simp[intOf];omega
    ·obtain rfl:k=m:=by omega
     have HE2:Hid (r=if cs.all (litsB n)=true then 0 else 5):=by
      have:=HE.out
      rwa [if_neg (by have:=hs.out;omega)]at this
     clear HE hs
     go_wp2_with fail
     go_loopw [37] (fun i wr=>∃j:Nat,j≤k∧i= .int .i64 j∧Hid (∀q,q<j→litsB n (cs.getD q [])=true)∧Hid (Below w.heap.size w wr)) (fun i _=>k - (intOf i).toNat)
     case atStart=>exact⟨0,Nat.zero_le _,rfl,fun q hq=>absurd hq (Nat.not_lt_zero _),Below.refl _ _⟩
     case round=>
      obtain⟨j,hj,rfl,hal,hb⟩:=hrel
      by_cases hlt:j<k
      ·obtain⟨b,off,ta,tcap,rfl,hblt,c1,cn⟩:=HL.out j (by rw[HM.out];exact hlt)
       rw[←hb.out.cell (p:=⟨b,_,none⟩) hblt]at c1
       have HC:=Lib.hid (HS.out wr j hlt hb.out ta tcap cn)
       have HBD:=Lib.hid hb.out
       have HY:Hid (litsB n (cs.getD j [])=true→∀q,q<j+1→litsB n (cs.getD q [])=true):=fun h q hq=>by
        by_cases e:q=j
        ·subst e;exact h
        ·exact hal.out q (by omega)
       have HNO:Hid (litsB n (cs.getD j [])=false→r=5):=fun h=>by
        rw[HE2.out,if_neg]
        intro h9
        have:=all_get.1 h9 j (by rw[HM.out];exact hlt)
        rw[h]at this;cases this
       clear cn hal hb HS HE2
       cases hbb:litsB n (cs.getD j [])
       ·obtain rfl:=HNO.out hbb
        rw[hbb]at HC
        clear HY HNO hbb
        generalize (cs.getD j []).length=len at c1 HC
        go_wp2_with fail
        refine HC.out.mono ?_
        rintro e w' ⟨rfl,hb'⟩
        have HB9:=Lib.hid (HBD.out.trans (hb'.mono HBD.out.size))
        clear hb' HC
        go_wp2_with fail
        go_ret
        exact⟨rfl,HB9.out⟩
       ·have HY2:=Lib.hid (HY.out hbb)
        rw[hbb]at HC
        clear HY HNO hbb
        generalize (cs.getD j []).length=len at c1 HC
        go_wp2_with fail
        refine HC.out.mono ?_
        rintro e w' ⟨rfl,hb'⟩
        have HB9:=Lib.hid (HBD.out.trans (hb'.mono HBD.out.size))
        clear hb' HC
        go_wp2_with fail
        go_roundw
        case rel=>exact⟨j+1,by omega,by go_num,HY2,HB9⟩
        case measure=>simp[intOf];omega
      ·obtain rfl:j=k:=by omega
       have hr:=HE2.out
       rw[if_pos (all_get.2 (by rw[HM.out];exact hal.out))]at hr
       subst hr
       clear HE2 HS hal
       go_wp2_with fail
       go_ret
       exact⟨rfl,hb.out⟩
end Prp
namespace Prp
open Go.RowKit
section
variable {P:Program} (w:World)
theorem run_equalIn_iface_int (d:Nat){ti tn:TypeId}{ms:Array (String×TypeId)}{i:TypeInfo}{k:IntKind}(a b:Int)
 (hi:P.underlying ti=some (.interface ms)) (hn:P.underlying tn=some (.int k)) (hinfo:P.info? tn=some i) (hcomp:i.comparable=true):
 (Op.equalIn (d+2) ti (.iface tn (.int k a)) (.iface tn (.int k b))).run P w= .ok (a == b) w:=by
 simp[Op.equalIn,run_underlying hi,run_underlying hn,typeInfo,hinfo,hcomp]
theorem run_eql_iface_int {ti tn:TypeId}{ms:Array (String×TypeId)}{i:TypeInfo}{k:IntKind}(a b:Int)
 (hi:P.underlying ti=some (.interface ms)) (hn:P.underlying tn=some (.int k)) (hinfo:P.info? tn=some i) (hcomp:i.comparable=true):
 (binOp .eql ti (.iface tn (.int k a)) (.iface tn (.int k b))).run P w= .ok (.bool (a == b)) w:=by
 simp only[binOp]
 simp[Op.equal,Op.maxDepth,run_equalIn_iface_int w 9998 a b hi hn hinfo hcomp]
end
theorem Tryz.eqCode (a b:Int)(w:World):(binOp .eql 26 (.iface 60 (.int .i64 a)) (.iface 60 (.int .i64 b))).run Tryz.prog w= .ok (.bool (a == b)) w:=
 run_eql_iface_int (P:=Tryz.prog) w a b Tryz.underlying26 Tryz.underlying60 (i:=Tryz.t60) (by kernel_rfl) (by kernel_rfl)
end Prp
namespace Prp
open Go.RowKit
def BeginSaid:Prop:=∀(n:Nat) (cs:List (List Int)) (ls:List Int) (w:World),Ctx n cs ls→∀(a:Option Addr) (cap:Nat),CLies w.heap.size w a cs→Calls Tryz.prog 120 #[.int .i64 n,.slice a cs.length cap] w (BeginEnd n cs ls w)
def fK (n:Int)(cs:List (List Int))(ls:List Int):Int:=if chkK n cs≠0 then chkK n cs else if litsB n ls=true then 0 else 5
def FEnd (n:Int)(cs:List (List Int))(ls:List Int)(w:World)(e:Ending)(w':World):Prop:=
 Below w.heap.size w w'∧∃v b,e= .returned (.tuple #[v,.bool b,codeV (fK n cs ls)])∧(fK n cs ls≠0→v= .slice none 0 0∧b=false)∧
  (fK n cs ls=0→∃(m:Nat) (A:Nat→Int),n=m∧m≤8192∧Sane m cs ls∧FollowIs m cs ls b A∧(b=true→v= .slice none 0 0)∧(b=false→∃I,v= .slice (some ⟨I,0,none⟩) (m+1) (m+1)∧w.heap.size≤I∧I<w'.heap.size∧Arr w' I (m+1) A∧∀o,w'.frozen? ⟨I,o,none⟩=false))
theorem codeV_zero:codeV 0= .nilIface:=rfl
theorem codeV_ne {k:Int}(h:k≠0):codeV k= .iface 60 (.int .i64 k):=if_neg h
theorem Tryz.neIface (t:TypeId)(v:Value)(w:World):(binOp .neq 26 (.iface t v) .nilIface).run Tryz.prog w= .ok (.bool true) w:=by simp[go_sem]
theorem Tryz.neNil (w:World):(binOp .neq 26 .nilIface .nilIface).run Tryz.prog w= .ok (.bool false) w:=by simp[go_sem]
theorem follow_any (hbeg:BeginSaid)(n:Int)(a:Option Addr)(m cap:Nat)(cs:List (List Int))(a2:Option Addr)(k cap2:Nat)(ls:List Int)(w:World)(hm:cs.length=m)(hmm:m≤9223372036854775807)(hl:CLies w.heap.size w a cs)(hk:m≤16384→∀j,j<m→(cs.getD j []).length≤4611686018427387904)(hln:ls.length=k)(hlm:k≤9223372036854775807)(hll:Nums w.heap.size w a2 ls):
 Calls Tryz.prog 91 #[.int .i64 n,.slice a m cap,.slice a2 k cap2] w (FEnd n cs ls w):=by
 have HCK:=Lib.hid (check_any n a m cap cs w hm hmm hl hk)
 have n1:=fun t v W=>Tryz.neIface t v W
 have n2:=fun W=>Tryz.neNil W
 by_cases h0:chkK n cs=0
 ·obtain⟨n0,rfl,hn,hm2,hkk,hcs⟩:=chkK_zero h0
  rw[h0,codeV_zero]at HCK
  have HSN:=Lib.hid (fun W (hb:Below w.heap.size w W)=>sound_any n0 ⟨by omega,by omega⟩ a2 k cap2 ls W hln hlm ((hll.below hb).mono hb.size))
  by_cases hls:litsB n0 ls=true
  ·have hfk:fK n0 cs ls=0:=by unfold fK;rw[if_neg (by rw[h0];decide),if_pos hls]
   have hx:Ctx n0 cs ls:=⟨⟨hcs,litsB_iff.1 hls⟩,hn,hm2,hkk⟩
   have HX:=Lib.hid hx
   have HBG:=Lib.hid (fun W (hb:Below w.heap.size w W)=>by
    have:=hbeg n0 cs ls W hx a cap ((hl.below hb).mono hb.size)
    rw[hm]at this;exact this)
   have HLL:=Lib.hid (fun W (hb:Below w.heap.size w W)=>hll.below hb)
   have HC:Hid (∀(w':World) (e:Ending),Below w.heap.size w w'→e= .returned (.tuple #[.slice none 0 0,.bool true,.nilIface])→Conf cs ls→FEnd n0 cs ls w e w'):=fun w' e hb he hc=>
    ⟨hb,_,true,by rw[he,hfk];rfl,fun h=>absurd hfk h,fun _=>⟨n0,fun _=>0,rfl,hn,hx.sane,.conf hc,fun _=>rfl,fun h=>by cases h⟩⟩
   have HO:Hid (∀(w':World) (e:Ending) (I:Nat) (A:Nat→Int),Below w.heap.size w w'→e= .returned (.tuple #[.slice (some ⟨I,0,none⟩) (n0+1) (n0+1),.bool false,.nilIface])→FollowIs n0 cs ls false A→w.heap.size≤I→I<w'.heap.size→Arr w' I (n0+1) A→(∀o,w'.frozen? ⟨I,o,none⟩=false)→FEnd n0 cs ls w e w'):=fun w' e I A hb he hf h1 h2 h3 h4=>
    ⟨hb,_,false,by rw[he,hfk];rfl,fun h=>absurd hfk h,fun _=>⟨n0,A,rfl,hn,hx.sane,hf,(fun h=>by cases h),fun _=>⟨I,rfl,h1,h2,h3,h4⟩⟩⟩
   rw[hls]at HSN
   clear hl hk hll hcs hkk h0 hls hfk hx hbeg
   go_enter Tryz.func91,Tryz.ntmps91
   go_wp2_with fail
   refine HCK.out.mono ?_
   rintro e w1 ⟨rfl,hb1⟩
   have B1:=Lib.hid hb1
   clear hb1 HCK
   go_wp2_with fail
   refine(HSN.out _ B1.out).mono ?_
   rintro e w2 ⟨rfl,hb2⟩
   have B2:=Lib.hid (B1.out.trans (hb2.mono B1.out.size))
   clear hb2 HSN
   go_wp2_with fail
   refine(HBG.out _ B2.out).mono ?_
   rintro e w3 ⟨p,Wd,H,T,S,L,rfl,hst,hone,hb3⟩
   have B3:=Lib.hid (B2.out.trans (hb3.mono B2.out.size))
   have HTL:=Lib.hid (told_any HX.out hst hb3.size hone a2 k cap2 hln hlm ((HLL.out _ B3.out).mono B2.out.size))
   have e2:(gd p w3.heap.size).F=p.F:=rfl
   generalize gd p w3.heap.size=p' at HTL e2
   clear hst hone hb3 HBG
   go_wp2_with fail
   refine HTL.out.mono ?_
   rintro e w4 ⟨hb4,⟨rfl,hcf⟩ | ⟨rfl,A1,Q1,hst,hal,hun⟩⟩
   ·have HE:=Lib.hid (HC.out w4 _ (B3.out.trans (hb4.mono B2.out.size)) rfl hcf)
    clear hcf hb4 HTL HC HO
    go_wp2_with fail
    go_ret3
    exact HE.out
   ·have B4:=Lib.hid (B3.out.trans (hb4.mono B2.out.size))
    have HRS:=Lib.hid (rest_any HX.out hst (Nat.le_trans B3.out.size hb4.size |> fun _=>(by have:=hst.fol.lo _ p'.inF;omega)) hal hun)
    rw[e2]at HRS
    clear hst hal hun hb4 HTL
    go_wp2_with fail
    refine HRS.out.mono ?_
    rintro e w5 ⟨hb5,⟨rfl,hcf⟩ | ⟨rfl,A2,Wd2,H2,T2,S2,hfol,hfi⟩⟩
    ·have HE:=Lib.hid (HC.out w5 _ (B4.out.trans (hb5.mono B2.out.size)) rfl hcf)
     clear hcf hb5 HRS HC HO
     go_wp2_with fail
     go_ret3
     exact HE.out
    ·have c1:=hfol.c1
     rw[e2]at c1
     have hlo:=hfol.lo _ p'.inI
     have HE:=Lib.hid (HO.out w5 _ p'.I A2 (B4.out.trans (hb5.mono B2.out.size)) rfl hfi (Nat.le_trans B2.out.size hlo.1) hlo.2 hfol.aI (hfol.fr _ p'.inI))
     clear hfol hfi hb5 HRS HC HO hlo
     go_wp2_with fail
     go_ret3
     exact HE.out
  ·rw[Bool.not_eq_true]at hls
   have hfk:fK n0 cs ls=5:=by unfold fK;rw[if_neg (by rw[h0];decide),if_neg (by rw[hls];decide)]
   have HE:Hid (∀(w':World) (e:Ending),Below w.heap.size w w'→e= .returned (.tuple #[.slice none 0 0,.bool false,.iface 60 (.int .i64 5)])→FEnd n0 cs ls w e w'):=fun w' e hb he=>
    ⟨hb,_,false,by rw[he,hfk];rfl,fun _=>⟨rfl,rfl⟩,fun h=>by rw[hfk]at h;cases h⟩
   rw[hls]at HSN
   clear hl hk hll hcs hkk h0 hls hfk hbeg
   go_enter Tryz.func91,Tryz.ntmps91
   go_wp2_with fail
   refine HCK.out.mono ?_
   rintro e w1 ⟨rfl,hb1⟩
   have B1:=Lib.hid hb1
   clear hb1 HCK
   go_wp2_with fail
   refine(HSN.out _ B1.out).mono ?_
   rintro e w2 ⟨rfl,hb2⟩
   have B2:=Lib.hid (B1.out.trans (hb2.mono B1.out.size))
   clear hb2 HSN
   go_wp2_with fail
   go_ret3
   exact HE.out _ _ B2.out rfl
 ·have hfk:fK n cs ls=chkK n cs:=by unfold fK;rw[if_pos h0]
  rw[codeV_ne h0]at HCK
  have HE:Hid (∀(w':World) (e:Ending),Below w.heap.size w w'→e= .returned (.tuple #[.slice none 0 0,.bool false,.iface 60 (.int .i64 (chkK n cs))])→FEnd n cs ls w e w'):=fun w' e hb he=>
   ⟨hb,_,false,by rw[he,hfk,codeV_ne h0],fun _=>⟨rfl,rfl⟩,fun h=>by rw[hfk]at h;exact absurd h h0⟩
  clear hl hk hll hfk hbeg h0
  generalize chkK n cs=x at HCK HE
  go_enter Tryz.func91,Tryz.ntmps91
  go_wp2_with fail
  refine HCK.out.mono ?_
  rintro e w1 ⟨rfl,hb1⟩
  have B1:=Lib.hid hb1
  clear hb1 HCK
  go_wp2_with fail
  go_ret3
  exact HE.out _ _ B1.out rfl
end Prp
namespace Prp
open Go.RowKit
theorem Der.holds {cs:List (List Int)}{ls:List Int}{v:Int→Prop}(hn:∀l,v l→¬v (-l))(hc:∀c,c∈cs→∃l,l∈c∧v l)(hl:∀l,l∈ls→v l){l:Int}(h:Der cs ls l):v l:=by
 induction h with
 | told h=>exact hl _ h
 | @rule c l hm hlc _ ih=>
   obtain⟨x,hx,hv⟩:=hc c hm
   by_cases e:x=l
   ·subst e;exact hv
   ·exact absurd (ih x hx e) (hn x hv)
theorem Conf.not {cs:List (List Int)}{ls:List Int}{v:Int→Prop}(hn:∀l,v l→¬v (-l))(hc:∀c,c∈cs→∃l,l∈c∧v l)(hl:∀l,l∈ls→v l):¬Conf cs ls:=by
 rintro(h | ⟨l,h1,h2⟩)
 ·obtain⟨x,hx,_⟩:=hc _ h;cases hx
 ·exact hn l (h1.holds hn hc hl) (h2.holds hn hc hl)
end Prp
namespace Prp
open Go.RowKit
structure GivenC (w:World)(a:Option Addr)(m:Nat)(cs:List (List Int)):Prop where
 hm:cs.length=m
 hmm:m≤9223372036854775807
 hl:CLies w.heap.size w a cs
 hlen:∀j,j<m→(cs.getD j []).length≤9223372036854775807
end Prp
namespace Prp
open Go.RowKit
def ErrIs (B:Nat)(x at':Int)(er:Value)(w:World):Prop:=
 (at'<0→er=codeV x)∧(0≤at'→∃g,er= .iface 76 (.pointer (some ⟨g,0,none⟩))∧B≤g∧g<w.heap.size∧w.cell? ⟨g,0,none⟩=some (.int .i64 at')∧w.cell? ⟨g,1,none⟩=some (codeV x))
end Prp
namespace Prp
open Go.RowKit Go.Extern.Stop Go.Stop Go.Extern
theorem as_hit (e t:Addr)(old:Value)(w:World)(hg:w.cell? ⟨0,0,none⟩=some (.iface 162 (.agg #[.pointer (some ⟨4,26,none⟩)])))(ht0:w.cell? t=some old)(hf0:w.frozen? t=false):
 Calls Tryz.prog 43 #[.iface 76 (.pointer (some e)),.iface 94 (.pointer (some t))] w fun ev w'=>ev= .returned (.bool true)∧w'=((((w.alloc (.cells #[.pointer (some t)] 94)).alloc (.cells #[.pointer (some ⟨4,94,none⟩),.pointer (some ⟨w.heap.size,0,none⟩),.int .u64 150] 135)).alloc (.cells #[.pointer (some ⟨4,94,none⟩),.pointer (some ⟨w.heap.size,0,none⟩),.int .u64 150] 135)).alloc (.cells #[.pointer (some e)] 76)).setCell t (.pointer (some e)):=by
 have h6:= @run_callFunc_extern Tryz.prog 72 _ (fun args=>ReflectliteValue.unpack (args.getD 0 (.tuple #[]))) Tryz.func72 (by kernel_rfl) (by kernel_rfl) (by kernel_rfl) (by kernel_rfl)
 have h7:= @run_callFunc_extern Tryz.prog 73 _ (ReflectliteValue.methodAny (ReflectliteValue.valueError "reflectlite.Value.Type" 0) (fun t _ _ _=>ReflectliteType.toType t)) Tryz.func73 (by kernel_rfl) (by kernel_rfl) (by kernel_rfl) (by kernel_rfl)
 have h8:= @run_callFunc_extern Tryz.prog 74 _ (ReflectliteValue.method (ReflectliteValue.valueError "reflectlite.Value.IsNil" 0) ReflectliteValue.isNil) Tryz.func74 (by kernel_rfl) (by kernel_rfl) (by kernel_rfl) (by kernel_rfl)
 have h27:= @run_callFunc_extern Tryz.prog 203 _ (ReflectliteType.abiMethod fun t=>do pure (.int .u8 (←Rtype.kind t))) Tryz.func203 (by kernel_rfl) (by kernel_rfl) (by kernel_rfl) (by kernel_rfl)
 have h37:= @run_callFunc_extern Tryz.prog 215 _ (ReflectliteType.method ReflectliteType.elem) Tryz.func215 (by kernel_rfl) (by kernel_rfl) (by kernel_rfl) (by kernel_rfl)
 have h38:= @run_callFunc_extern Tryz.prog 216 _ (ReflectliteType.relation "Implements" ReflectliteType.implements_) Tryz.func216 (by kernel_rfl) (by kernel_rfl) (by kernel_rfl) (by kernel_rfl)
 have h10:= @run_callFunc_extern Tryz.prog 76 _ ReflectliteType.typeOf Tryz.func76 (by kernel_rfl) (by kernel_rfl) (by kernel_rfl) (by kernel_rfl)
 have h35:= @run_callFunc_extern Tryz.prog 213 _ (ReflectliteType.relation "AssignableTo" ReflectliteType.assignableTo) Tryz.func213 (by kernel_rfl) (by kernel_rfl) (by kernel_rfl) (by kernel_rfl)
 have h11:= @run_callFunc_extern Tryz.prog 104 _ (ReflectliteValue.method (ReflectliteValue.valueError "reflectlite.Value.Elem" 0) ReflectliteValue.elem) Tryz.func104 (by kernel_rfl) (by kernel_rfl) (by kernel_rfl) (by kernel_rfl)
 have h12:= @run_callFunc_extern Tryz.prog 105 _ ReflectliteValue.set Tryz.func105 (by kernel_rfl) (by kernel_rfl) (by kernel_rfl) (by kernel_rfl)
 have tO:=Tryz.typeOfP
 have mA:=Tryz.methodAssignableTo
 have a25:=Tryz.assignableP
 have v25:=Tryz.valueOfP
 have f6:=Tryz.valueOfPP
 have f7:=Tryz.typePP
 have mK:=Tryz.methodKind
 have mE:=Tryz.methodElem
 have mI:=Tryz.methodImplements
 have k27:=Tryz.kindPP
 have k25:=Tryz.kindP
 have e27:=Tryz.elemPP
 have i25:=Tryz.implementsP
 have n8:=Tryz.isNilPP ⟨w.heap.size,0,none⟩ t ((w.alloc (.cells #[.pointer (some t)] 94)).alloc (.cells #[.pointer (some ⟨4,94,none⟩),.pointer (some ⟨w.heap.size,0,none⟩),.int .u64 150] 135)) (by simp)
 have hlt:0<w.heap.size:=by
  rcases Nat.eq_zero_or_pos w.heap.size with h0 | h
  ·simp[World.cell?,h0]at hg
  ·exact h
 have hg2:((w.alloc (.cells #[.pointer (some t)] 94)).alloc (.cells #[.pointer (some ⟨4,94,none⟩),.pointer (some ⟨w.heap.size,0,none⟩),.int .u64 150] 135)).cell? ⟨0,0,none⟩=some (.iface 162 (.agg #[.pointer (some ⟨4,26,none⟩)])):=by
  rw[World.cell?_alloc_lt _ _ ⟨0,0,none⟩ (by simp),World.cell?_alloc_lt _ _ ⟨0,0,none⟩ hlt];exact hg
 have htl:t.block<w.heap.size:=by
  rcases Nat.lt_or_ge t.block w.heap.size with h | h
  ·exact h
  ·simp[World.cell?,Array.getElem?_eq_none h]at ht0
 have el:=Tryz.elemVPP ⟨w.heap.size,0,none⟩ t (((w.alloc (.cells #[.pointer (some t)] 94)).alloc (.cells #[.pointer (some ⟨4,94,none⟩),.pointer (some ⟨w.heap.size,0,none⟩),.int .u64 150] 135)).alloc (.cells #[.pointer (some ⟨4,94,none⟩),.pointer (some ⟨w.heap.size,0,none⟩),.int .u64 150] 135)) (by rw[World.cell?_alloc_lt _ _ ⟨w.heap.size,0,none⟩ (by simp;omega)];simp)
 have st:=Tryz.setP t ⟨w.heap.size+1+1+1,0,none⟩ e old ((((w.alloc (.cells #[.pointer (some t)] 94)).alloc (.cells #[.pointer (some ⟨4,94,none⟩),.pointer (some ⟨w.heap.size,0,none⟩),.int .u64 150] 135)).alloc (.cells #[.pointer (some ⟨4,94,none⟩),.pointer (some ⟨w.heap.size,0,none⟩),.int .u64 150] 135)).alloc (.cells #[.pointer (some e)] 76))
  (by rw[World.cell?_alloc_at _ _ _ _ (by simp)];rfl)
  (by rw[World.cell?_alloc_lt _ _ t (by simp;omega),World.cell?_alloc_lt _ _ t (by simp;omega),World.cell?_alloc_lt _ _ t (by simp;omega),World.cell?_alloc_lt _ _ t htl];exact ht0)
  (by rw[World.frozen?_alloc_old _ _ t (by simp;omega),World.frozen?_alloc_old _ _ t (by simp;omega),World.frozen?_alloc_old _ _ t (by simp;omega),World.frozen?_alloc_old _ _ t (Nat.ne_of_lt htl)];exact hf0)
 go_enter Tryz.func43,Tryz.ntmps43
 go_wp2
 refine wp_loop_rounds 1 ?_
 rw[rounds_succ]
 go_wp2
 go_ret
 exact⟨rfl,rfl⟩
theorem as_spot (e:Addr)(b:Nat)(old:Value)(w:World)(hg:w.cell? ⟨0,0,none⟩=some (.iface 162 (.agg #[.pointer (some ⟨4,26,none⟩)])))(ht0:w.cell? ⟨b,0,none⟩=some old)(hf0:w.frozen? ⟨b,0,none⟩=false)(hb:b<w.heap.size):
 Calls Tryz.prog 43 #[.iface 76 (.pointer (some e)),.iface 94 (.pointer (some ⟨b,0,none⟩))] w fun ev w'=>ev= .returned (.bool true)∧w'.cell? ⟨b,0,none⟩=some (.pointer (some e))∧Below b w w'∧b<w'.heap.size:=by
 refine(as_hit e ⟨b,0,none⟩ old w hg ht0 hf0).mono ?_
 rintro ev w' ⟨rfl,rfl⟩
 have hA:Below w.heap.size w ((((w.alloc (.cells #[.pointer (some ⟨b,0,none⟩)] 94)).alloc (.cells #[.pointer (some ⟨4,94,none⟩),.pointer (some ⟨w.heap.size,0,none⟩),.int .u64 150] 135)).alloc (.cells #[.pointer (some ⟨4,94,none⟩),.pointer (some ⟨w.heap.size,0,none⟩),.int .u64 150] 135)).alloc (.cells #[.pointer (some e)] 76)):=by
  refine Below.alloc (Below.alloc (Below.alloc (Below.alloc (Below.refl _ _) ?_ _) ?_ _) ?_ _) ?_ _<;>simp<;>omega
 refine⟨rfl,World.cell?_setCell_same _ _ _ ((hA.cell (p:=⟨b,0,none⟩) hb).trans ht0),(hA.mono (Nat.le_of_lt hb)).setCell (p:=⟨b,0,none⟩) (Nat.le_refl _) _, ?_⟩
 rw[World.size_setCell]
 exact Nat.lt_of_lt_of_le hb hA.size
theorem Tryz.noIsP (v:Value)(xT:TypeId)(w:World):(Instr.typeAssert (.iface 76 v) xT 174 true).run Tryz.prog w= .ok (.tuple #[.nilIface,.bool false]) w:=run_typeAssert_lacksB Tryz.underlying174 (by kernel_rfl) (by kernel_rfl) v xT w
theorem Tryz.hasUnwrapP (v:Value)(xT:TypeId)(w:World):(Instr.typeAssert (.iface 76 v) xT 169 true).run Tryz.prog w= .ok (.tuple #[.iface 76 v,.bool true]) w:=run_typeAssert_hasB Tryz.underlying169 (by kernel_rfl) v xT w
theorem Tryz.methodUnwrapP (v:Value)(w:World):(Go.method 376 76 v "Unwrap").run Tryz.prog w= .ok (208,v) w:=by kernel_rfl
theorem is_spotcode (g:Nat)(k:Int)(w:World)(h1:w.cell? ⟨g,1,none⟩=some (.iface 60 (.int .i64 k))):
 Calls Tryz.prog 44 #[.iface 76 (.pointer (some ⟨g,0,none⟩)),.iface 60 (.int .i64 k)] w fun e w'=>e= .returned (.bool true)∧w'=w:=by
 have h8:= @run_callFunc_extern Tryz.prog 76 _ Extern.ReflectliteType.typeOf Tryz.func76 (by kernel_rfl) (by kernel_rfl) (by kernel_rfl) (by kernel_rfl)
 have h32:= @run_callFunc_extern Tryz.prog 214 _ (Extern.ReflectliteType.method fun t=>do Rtype.noPackHeld "Comparable" t;pure (.bool (←typeInfo t).comparable)) Tryz.func214 (by kernel_rfl) (by kernel_rfl) (by kernel_rfl) (by kernel_rfl)
 have hC:∀W,(callFunc 214 #[.agg #[.pointer (some ⟨4,60,none⟩)]]).run Tryz.prog W= .ok (.value (.bool true)) W:=fun W=>by rw[h32,Tryz.comparableC];rfl
 clear h32
 have tT:=Tryz.typeOfC
 have mR:=Tryz.methodComparable
 have nW:=Tryz.noIsP
 have uW:=Tryz.hasUnwrapP
 have mU:=Tryz.methodUnwrapP
 have heq:=Tryz.eqCode k k w
 have hkk:(k == k)=true:=by simp
 have hty:=run_eql_iface_types (P:=Tryz.prog) 76 60 (.pointer (some ⟨g,0,none⟩)) (.int .i64 k) Tryz.underlying26 (by decide) w
 go_enter Tryz.func44,Tryz.ntmps44
 go_wp2
 refine wp_loop_rounds 2 ?_
 rw[rounds_succ]
 go_wp2
 rw[rounds_succ]
 go_wp2
 go_ret
 exact⟨rfl,rfl⟩
end Prp
namespace Prp
open Go.RowKit
def LiesG (S:Nat→Prop)(w:World)(a:Option Addr)(l:List Int):Prop:=
 ∀i,i<l.length→∃b off,a=some ⟨b,off,none⟩∧S b∧w.cell? ⟨b,off+i,none⟩=some (.int .i64 (l.getD i 0))
theorem LiesG.keep {S S':Nat→Prop}{w w':World}{a:Option Addr}{l:List Int}(hS:∀b,S b→S' b)(hk:∀b o,S b→w'.cell? ⟨b,o,none⟩=w.cell? ⟨b,o,none⟩)(h:LiesG S w a l):LiesG S' w' a l:=fun i hi=>by
 obtain⟨b,off,e,hb,r⟩:=h i hi
 exact⟨b,off,e,hS b hb,(hk _ _ hb).trans r⟩
theorem run_append_copy {P:Program}(w:World)(t ty e:TypeId)(i:TypeInfo)(z:Value)(ht:P.underlying t=some (.slice e))(hi:P.info? e=some i)(hz:i.zero=some z)(hs:i.size=1)(hby:i.bytes=8)(hzs:z.cells.size=1)
 (g:Nat) (a:Option Addr) (n cap:Nat) (zs:List Int) (hn:zs.length=n) (hl:Nums w.heap.size w a zs) (hsz:n*8≤140737488351232):
 ∃a' cap' w',(Builtin.append_ #[t,t] ty #[.slice (some ⟨g,0,none⟩) 0 0,.slice a n cap]).run P w= .ok (.slice a' n cap') w'∧Below w.heap.size w w'∧LiesG (fun b=>w.heap.size≤b∧b<w'.heap.size) w' a' zs:=by
 have h2:maxLen=9223372036854775807:=rfl
 have key:∀(x:Value),Src P i.size t x n (zs.map (Value.int .i64)) w→∃a' cap' w',(Builtin.append_ #[t,t] ty #[.slice (some ⟨g,0,none⟩) 0 0,x]).run P w= .ok (.slice a' n cap') w'∧Below w.heap.size w w'∧LiesG (fun b=>w.heap.size≤b∧b<w'.heap.size) w' a' zs:=fun x hsrc=>by
  by_cases h0:n=0
  ·have hz0:zs=[]:=List.eq_nil_of_length_eq_zero (by omega)
   subst hz0
   subst h0
   have hr:=run_append_room_src (P:=P) w t t ty e i ht hi g 0 0 0 x 0 [] hsrc (Nat.le_refl _) (fun j hj=>absurd hj (Nat.not_lt_zero _)) (fun j hj=>absurd hj (Nat.not_lt_zero _))
   exact⟨_,_,_,hr,Below.refl _ _,fun i hi=>absurd hi (Nat.not_lt_zero _)⟩
  ·have holds:(Builtin.firstCells i.size 0 (.slice (some ⟨g,0,none⟩) 0 0)).run P w.drew= .ok ([]:List Value).toArray w.drew:=run_firstCells_some w.drew i.size 0 ⟨g,0,none⟩ 0 0 [] (by simp) (fun j v h=>by cases h)
   have hr:=run_append_grow_src (P:=P) w t t ty e i z ht hi hz (some ⟨g,0,none⟩) 0 0 [] holds x n (zs.map (Value.int .i64)) hsrc (by omega) (by omega) (by
    have:=nextslicecap_le (need:=0+n) (old:=0) (by omega)
    rw[hby];omega)
   have hnew:=heap_alloc_new w.drew (.cells ((([]:List Value) ++ zs.map (Value.int .i64)).toArray ++ Builtin.zeroCells z.cells (grownCap w (0+n) 0 e - (0+n))) e)
   rw[Nat.zero_add]at hr hnew
   have hcl2:=fun j=>cell_of_row (w.drew.alloc (.cells ((([]:List Value) ++ zs.map (Value.int .i64)).toArray ++ Builtin.zeroCells z.cells (grownCap w n 0 e - n)) e)) w.heap.size j _ e _ hnew
   refine⟨some ⟨w.heap.size,0,none⟩,_,_,hr, ?_, ?_⟩
   ·exact⟨rfl,rfl,rfl,by simp,fun k hk=>heap_alloc_old w.drew _ hk⟩
   ·intro j hj
    refine⟨w.heap.size,0,rfl,⟨Nat.le_refl _,by simp⟩, ?_⟩
    rw[Nat.zero_add,hcl2 j,List.nil_append,Array.getElem?_append_left (by simp;omega),List.getElem?_toArray,List.getElem?_map,List.getElem?_eq_getElem hj]
    simp[List.getD_eq_getElem?_getD,hj]
 cases a with
 | none=>
   have hz0:zs=[]:=by
    cases zs with
    | nil=>rfl
    | cons y r=>obtain⟨_,_,e,_⟩:=hl 0 (by simp);cases e
   subst hz0
   simp only[List.length_nil]at hn
   subst hn
   exact key _ (Src.ofNil w ht cap)
 | some a=>
   refine key _ (Src.ofSlice w ht a n cap _ (by rw[hs,List.length_map,hn];omega) (fun j u hj=> ?_) (fun u hu=> ?_))
   ·have hjl:j<zs.length:=by have:=(List.getElem?_eq_some_iff.1 hj).1;simpa using this
    obtain⟨b,off,e1,hlt,hc⟩:=hl j hjl
    injection e1 with e1
    subst e1
    rw[List.getElem?_map,List.getElem?_eq_getElem hjl]at hj
    obtain rfl:=Option.some.inj hj
    have e2:(⟨b,off,none⟩:Addr).add j=⟨b,off+j,none⟩:=by unfold Addr.add;split<;>simp_all
    rw[e2,hc]
    simp[List.getD_eq_getElem?_getD,hjl]
   ·obtain⟨y,_,rfl⟩:=List.mem_map.1 hu
    rfl
structure GT where
 a:Option Addr
 cap:Nat
 l:List Int
def gcells (xs:List GT):List Value:=xs.map fun x=> .slice x.a x.l.length x.cap
def gforms (xs:List GT):List (List Int):=xs.map fun x=>x.l
end Prp
namespace Prp
open Go.ChangeShapes Go.WideShapes Go.RowKit Go.Deep
theorem list_ofD {α:Type}(d:α)(n:Nat)(p:Nat→α→Prop)(h:∀i,i<n→∃m,p i m):∃l:List α,l.length=n∧∀i,i<n→p i (l.getD i d):=by
 induction n with
 | zero=>exact⟨[],rfl,fun i hi=>absurd hi (Nat.not_lt_zero i)⟩
 | succ n ih=>
   obtain⟨l,hl,hp⟩:=ih (fun i hi=>h i (by omega))
   obtain⟨m,hm⟩:=h n (by omega)
   refine⟨l ++ [m],by simp[hl],fun i hi=> ?_⟩
   by_cases e:i=n
   ·subst e
    rw[List.getD_eq_getElem?_getD,List.getElem?_append_right (by omega),hl]
    simpa using hm
   ·have:=hp i (by omega)
    rw[List.getD_eq_getElem?_getD]at this⊢
    rwa [List.getElem?_append_left (by omega)]
section
variable {H:Type} {enc:TypeId×Value→H} {P:Program} {w:World} {base:Nat} {spare:Nat→Bool} {held:Bool}
end
section
variable {H:Type} {enc:TypeId×Value→H} {w:World} {base:Nat} {spare:Nat→Bool} {held:Bool}
end
end Prp
end Go.Proofs.YtipahfcaplbifaaGreatDoor
