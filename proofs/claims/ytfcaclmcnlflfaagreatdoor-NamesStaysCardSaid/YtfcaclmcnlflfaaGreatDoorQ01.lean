/- Parts of a proof. -/
import Derived.WalkKit
import Derived.Below
import Derived.Lib.Hide
import Derived.Deep.AppendLies
import Derived.Lib.Varint
import Derived.Lib.VarintMem
import Derived.Test.YtfcaclmcnlflfaaGreatDoorProg
import Derived.BigQuiet
import Derived.RegionTactic
import Derived.Deep.QuietTactic
import Derived.Deep.RegionLaw
import Derived.Deep.AppendSrc
import Derived.Lib.Zigzag
import Derived.Lib.AppendZerosOnto
import Derived.Lib.AppendStr
import Derived.Laws.IdiomStrings
import Derived.Lib.AtoiAll
import Derived.Laws.RangeAny
import GoSem.Op.String
import Derived.LaidEql
import Derived.Test.YtfcaclmcnlflfaaGreatDoorChecked
set_option linter.unusedVariables false
set_option linter.unusedSimpArgs false
set_option maxHeartbeats 60000000
set_option maxRecDepth 100000
namespace Go.Proofs.YtfcaclmcnlflfaaGreatDoor
namespace Pak
open Go.RowKit
section
variable {T:Type}
structure Sh (T:Type) where
 k:Nat
 rel:(Nat→Prop)→World→List Value→T→Prop
 len:∀ {S w cs x},rel S w cs x→cs.length=k
 one:∀ {S w cs x},rel S w cs x→∀u∈cs,u.oneCell'=true
 keep:∀ {S S':Nat→Prop} {w w':World} {cs:List Value} {x:T},(∀b,S b→S' b)→(∀b o,S b→w'.cell? ⟨b,o,none⟩=w.cell? ⟨b,o,none⟩)→rel S w cs x→rel S' w' cs x
def Sits (sh:Sh T)(S:Nat→Prop)(w:World)(a:Option Addr)(xs:List T):Prop:=
 xs.length≤9223372036854775807∧∀i (h:i<xs.length),∃b off cs,a=some ⟨b,off,none⟩∧S b∧(∀j u,cs[j]? =some u→w.cell? ⟨b,off+i*sh.k+j,none⟩=some u)∧sh.rel S w cs xs[i]
theorem Sits.keep {sh:Sh T}{S S':Nat→Prop}{w w':World}{a:Option Addr}{xs:List T}(hS:∀b,S b→S' b)(hk:∀b o,S b→w'.cell? ⟨b,o,none⟩=w.cell? ⟨b,o,none⟩)(h:Sits sh S w a xs):Sits sh S' w' a xs:=
 ⟨h.1,fun i hi=>by
   obtain⟨b,off,cs,e,hb,h1,h2⟩:=h.2 i hi
   exact⟨b,off,cs,e,hS b hb,fun j u hu=>(hk _ _ hb).trans (h1 j u hu),sh.keep hS hk h2⟩⟩
theorem Sits.nil (sh:Sh T)(S:Nat→Prop)(w:World)(a:Option Addr):Sits sh S w a []:=⟨Nat.zero_le _,fun i hi=>absurd hi (Nat.not_lt_zero i)⟩
abbrev Lo (B:Nat):Nat→Prop:=fun b=>b<B
theorem Sits.below {sh:Sh T}{B B':Nat}{w w':World}{a:Option Addr}{xs:List T}(h:Sits sh (Lo B) w a xs)(hb:Below B w w')(hB:B≤B'):Sits sh (Lo B') w' a xs:=
 h.keep (fun b (hb:b<B)=>Nat.lt_of_lt_of_le hb hB) (fun b o hb2=>hb.cell (p:=⟨b,o,none⟩) hb2)
def Slot (sh:Sh T)(S:Nat→Prop)(w:World)(v:Value)(xs:List T):Prop:=∃a cap,v= .slice a xs.length cap∧Sits sh S w a xs
theorem Slot.keep {sh:Sh T}{S S':Nat→Prop}{w w':World}{v:Value}{xs:List T}(hS:∀b,S b→S' b)(hk:∀b o,S b→w'.cell? ⟨b,o,none⟩=w.cell? ⟨b,o,none⟩)(h:Slot sh S w v xs):Slot sh S' w' v xs:=by
 obtain⟨a,cap,e,h1⟩:=h
 exact⟨a,cap,e,h1.keep hS hk⟩
theorem Slot.one {sh:Sh T}{S:Nat→Prop}{w:World}{v:Value}{xs:List T}(h:Slot sh S w v xs):v.oneCell'=true:=by
 obtain⟨a,cap,rfl,_⟩:=h
 rfl
theorem flatten_get {k:Nat}:∀ {css:List (List Value)},(∀cs∈css,cs.length=k)→∀(i j:Nat) (hi:i<css.length),j<k→css.flatten[i*k+j]? =css[i][j]?
 | [],_,i,j,hi,_=>absurd hi (Nat.not_lt_zero i)
 | c :: css,h,0,j,_,hj=>by
   rw[List.flatten_cons,Nat.zero_mul,Nat.zero_add,List.getElem?_append_left (by rw[h c List.mem_cons_self];exact hj)]
   rfl
 | c :: css,h,i+1,j,hi,hj=>by
   have:=flatten_get (css:=css) (fun cs hc=>h cs (List.mem_cons_of_mem _ hc)) i j (by simpa using hi) hj
   rw[List.flatten_cons,List.getElem?_append_right (by rw[h c List.mem_cons_self,Nat.succ_mul];omega),h c List.mem_cons_self,show(i+1)*k+j - k=i*k+j by rw[Nat.succ_mul];omega,this]
   rfl
end
end Pak
section
open Go.RowKit
inductive ET where
 | mk (kind n:Int) (name:ByteArray) (ks:List ET)
instance:Inhabited ET:=⟨.mk 0 0 ⟨#[]⟩ []⟩
def ET.kind:ET→Int | .mk k _ _ _=>k
def ET.n:ET→Int | .mk _ n _ _=>n
def ET.name:ET→ByteArray | .mk _ _ s _=>s
def ET.ks:ET→List ET | .mk _ _ _ l=>l
inductive CT where
 | mk (kind:Int) (es:List ET) (ks:List CT)
instance:Inhabited CT:=⟨.mk 0 [] []⟩
def CT.kind:CT→Int | .mk k _ _=>k
def CT.es:CT→List ET | .mk _ l _=>l
def CT.ks:CT→List CT | .mk _ _ l=>l
inductive AT where
 | mk (kind:Int) (c:CT) (e v:ET) (field:ByteArray) (n:Int) (ks:List AT)
instance:Inhabited AT:=⟨.mk 0 default default default ⟨#[]⟩ 0 []⟩
def AT.kind:AT→Int | .mk k _ _ _ _ _ _=>k
def AT.c:AT→CT | .mk _ c _ _ _ _ _=>c
def AT.e:AT→ET | .mk _ _ e _ _ _ _=>e
def AT.v:AT→ET | .mk _ _ _ v _ _ _=>v
def AT.field:AT→ByteArray | .mk _ _ _ _ f _ _=>f
def AT.n:AT→Int | .mk _ _ _ _ _ n _=>n
def AT.ks:AT→List AT | .mk _ _ _ _ _ _ l=>l
structure SP where
 kind:Int
 name:ByteArray
 field:ByteArray
 callee:ByteArray
 e:ET
 v:ET
 c:CT
 a:AT
 args:List ET
 ghosts:List ET
 fields:List ByteArray
inductive ST where
 | mk (p:SP) (body els:List ST)
instance:Inhabited ST:=⟨.mk ⟨0,⟨#[]⟩,⟨#[]⟩,⟨#[]⟩,default,default,default,default,[],[],[]⟩ [] []⟩
def ST.p:ST→SP | .mk p _ _=>p
def ST.body:ST→List ST | .mk _ l _=>l
def ST.els:ST→List ST | .mk _ _ l=>l
structure QT where
 name:ByteArray
 params:List ByteArray
 ghosts:List ByteArray
 pre:AT
 post:AT
 body:List ST
def i64 (x:Int):Prop:= -9223372036854775808≤x∧x≤9223372036854775807
def strSh:Pak.Sh ByteArray where
 k:=1
 rel:=fun _ _ cs x=>cs=[.string x]∧x.size≤maxLen
 len:=fun h=>by rw[h.1];rfl
 one:=fun h u hu=>by rw[h.1]at hu;simp at hu;rw[hu];rfl
 keep:=fun _ _ h=>h
def noSh (T:Type)(k:Nat):Pak.Sh T:=⟨k,fun _ _ _ _=>False,fun h=>h.elim,fun h=>h.elim,fun _ _ h=>h⟩
def exprStep (sh:Pak.Sh ET):Pak.Sh ET:=
 ⟨4,fun S w cs e=>∃v,cs=[.int .i64 e.kind,.int .i64 e.n,.string e.name,v]∧(i64 e.kind∧i64 e.n∧e.name.size≤maxLen)∧Pak.Slot sh S w v e.ks,
   fun⟨v,h,_⟩=>by rw[h];rfl,
   fun⟨v,h,_,h2⟩ u hu=>by rw[h]at hu;simp at hu;rcases hu with rfl | rfl | rfl | rfl<;>first | rfl | exact h2.one,
   fun hS hk ⟨v,h,h1,h2⟩=>⟨v,h,h1,h2.keep hS hk⟩⟩
def exprSh:Nat→Pak.Sh ET
 | 0=>noSh ET 4
 | n+1=>exprStep (exprSh n)
theorem exprSh_k:∀n,(exprSh n).k=4
 | 0=>rfl
 | _+1=>rfl
def condStep (n:Nat)(sh:Pak.Sh CT):Pak.Sh CT:=
 ⟨3,fun S w cs c=>∃u v,cs=[.int .i64 c.kind,u,v]∧i64 c.kind∧Pak.Slot (exprSh n) S w u c.es∧Pak.Slot sh S w v c.ks,
   fun⟨u,v,h,_⟩=>by rw[h];rfl,
   fun⟨u,v,h,_,h2,h3⟩ z hz=>by rw[h]at hz;simp at hz;rcases hz with rfl | rfl | rfl<;>first | rfl | exact h2.one | exact h3.one,
   fun hS hk ⟨u,v,h,h1,h2,h3⟩=>⟨u,v,h,h1,h2.keep hS hk,h3.keep hS hk⟩⟩
def condSh:Nat→Pak.Sh CT
 | 0=>noSh CT 3
 | n+1=>condStep n (condSh n)
theorem condSh_k:∀n,(condSh n).k=3
 | 0=>rfl
 | _+1=>rfl
theorem app_one {l r:List Value}(hl:∀u∈l,u.oneCell'=true)(hr:∀u∈r,u.oneCell'=true):∀u∈l ++ r,u.oneCell'=true:=fun u hu=>by
 rcases List.mem_append.1 hu with h | h
 ·exact hl u h
 ·exact hr u h
def assnStep (n:Nat)(sh:Pak.Sh AT):Pak.Sh AT:=
 ⟨15,fun S w cs a=>∃cc ce cv v,cs=[.int .i64 a.kind] ++ (cc ++ (ce ++ (cv ++ [.string a.field,.int .i64 a.n,v])))∧(i64 a.kind∧i64 a.n∧a.field.size≤maxLen)∧(condSh n).rel S w cc a.c∧(exprSh n).rel S w ce a.e∧(exprSh n).rel S w cv a.v∧Pak.Slot sh S w v a.ks,
   fun⟨cc,ce,cv,v,h,_,h2,h3,h4,_⟩=>by
    have l2:=(condSh n).len h2
    have l3:=(exprSh n).len h3
    have l4:=(exprSh n).len h4
    rw[condSh_k]at l2
    rw[exprSh_k]at l3 l4
    rw[h];simp[l2,l3,l4],
   fun⟨cc,ce,cv,v,h,_,h2,h3,h4,h5⟩=>by
    rw[h]
    refine app_one (fun u hu=>by simp at hu;rw[hu];rfl) (app_one ((condSh n).one h2) (app_one ((exprSh n).one h3) (app_one ((exprSh n).one h4) (fun u hu=>by
     simp at hu;rcases hu with rfl | rfl | rfl<;>first | rfl | exact h5.one))))
    ,
   fun hS hk ⟨cc,ce,cv,v,h,h1,h2,h3,h4,h5⟩=>⟨cc,ce,cv,v,h,h1,(condSh n).keep hS hk h2,(exprSh n).keep hS hk h3,(exprSh n).keep hS hk h4,h5.keep hS hk⟩⟩
def assnSh:Nat→Pak.Sh AT
 | 0=>noSh AT 15
 | n+1=>assnStep n (assnSh n)
theorem assnSh_k:∀n,(assnSh n).k=15
 | 0=>rfl
 | _+1=>rfl
def stmtStep (n:Nat)(sh:Pak.Sh ST):Pak.Sh ST:=
 ⟨35,fun S w cs s=>∃ce cv cc ca v1 v2 v3 v4 v5,cs=[.int .i64 s.p.kind,.string s.p.name,.string s.p.field,.string s.p.callee] ++ (ce ++ (cv ++ (cc ++ (ca ++ [v1,v2,v3,v4,v5]))))∧(i64 s.p.kind∧s.p.name.size≤maxLen∧s.p.field.size≤maxLen∧s.p.callee.size≤maxLen)∧
     ((exprSh n).rel S w ce s.p.e∧(exprSh n).rel S w cv s.p.v∧(condSh n).rel S w cc s.p.c∧(assnSh n).rel S w ca s.p.a)∧(Pak.Slot (exprSh n) S w v1 s.p.args∧Pak.Slot (exprSh n) S w v2 s.p.ghosts∧Pak.Slot strSh S w v3 s.p.fields)∧Pak.Slot sh S w v4 s.body∧Pak.Slot sh S w v5 s.els,
   fun⟨ce,cv,cc,ca,v1,v2,v3,v4,v5,h,_,⟨h1,h2,h3,h4⟩,_⟩=>by
    have l1:=(exprSh n).len h1
    have l2:=(exprSh n).len h2
    have l3:=(condSh n).len h3
    have l4:=(assnSh n).len h4
    rw[exprSh_k]at l1 l2
    rw[condSh_k]at l3
    rw[assnSh_k]at l4
    rw[h];simp[l1,l2,l3,l4],
   fun⟨ce,cv,cc,ca,v1,v2,v3,v4,v5,h,_,⟨h1,h2,h3,h4⟩,⟨h5,h6,h7⟩,h8,h9⟩=>by
    rw[h]
    refine app_one (fun u hu=>by simp at hu;rcases hu with rfl | rfl | rfl | rfl<;>rfl) (app_one ((exprSh n).one h1) (app_one ((exprSh n).one h2) (app_one ((condSh n).one h3) (app_one ((assnSh n).one h4) (fun u hu=>by
     simp at hu;rcases hu with rfl | rfl | rfl | rfl | rfl<;>first | exact h5.one | exact h6.one | exact h7.one | exact h8.one | exact h9.one)))))
    ,
   fun hS hk ⟨ce,cv,cc,ca,v1,v2,v3,v4,v5,h,h0,⟨h1,h2,h3,h4⟩,⟨h5,h6,h7⟩,h8,h9⟩=>⟨ce,cv,cc,ca,v1,v2,v3,v4,v5,h,h0,⟨(exprSh n).keep hS hk h1,(exprSh n).keep hS hk h2,(condSh n).keep hS hk h3,(assnSh n).keep hS hk h4⟩,⟨h5.keep hS hk,h6.keep hS hk,h7.keep hS hk⟩,h8.keep hS hk,h9.keep hS hk⟩⟩
def stmtSh:Nat→Pak.Sh ST
 | 0=>noSh ST 35
 | n+1=>stmtStep n (stmtSh n)
theorem stmtSh_k:∀n,(stmtSh n).k=35
 | 0=>rfl
 | _+1=>rfl
def procSh (n:Nat):Pak.Sh QT:=
 ⟨34,fun S w cs q=>∃v1 v2 ca cb v3,cs=[.string q.name,v1,v2] ++ (ca ++ (cb ++ [v3]))∧q.name.size≤maxLen∧Pak.Slot strSh S w v1 q.params∧Pak.Slot strSh S w v2 q.ghosts∧(assnSh n).rel S w ca q.pre∧(assnSh n).rel S w cb q.post∧Pak.Slot (stmtSh n) S w v3 q.body,
   fun⟨v1,v2,ca,cb,v3,h,_,_,_,h3,h4,_⟩=>by
    have l3:=(assnSh n).len h3
    have l4:=(assnSh n).len h4
    rw[assnSh_k]at l3 l4
    rw[h];simp[l3,l4],
   fun⟨v1,v2,ca,cb,v3,h,_,h1,h2,h3,h4,h5⟩=>by
    rw[h]
    exact app_one (fun u hu=>by simp at hu;rcases hu with rfl | rfl | rfl<;>first | rfl | exact h1.one | exact h2.one) (app_one ((assnSh n).one h3) (app_one ((assnSh n).one h4) (fun u hu=>by simp at hu;rw[hu];exact h5.one))),
   fun hS hk ⟨v1,v2,ca,cb,v3,h,h0,h1,h2,h3,h4,h5⟩=>⟨v1,v2,ca,cb,v3,h,h0,h1.keep hS hk,h2.keep hS hk,(assnSh n).keep hS hk h3,(assnSh n).keep hS hk h4,h5.keep hS hk⟩⟩
theorem procSh_k (n:Nat):(procSh n).k=34:=rfl
end
section
open Go.RowKit
theorem cons_tr {k:Nat}{cs:List Value}(h:cs.length=k+1):∃x t,cs=x :: t∧t.length=k:=by
 cases cs with
 | nil=>cases h
 | cons x t=>exact⟨x,t,rfl,by simpa using h⟩
theorem all_hit {T:Type}{xs:List T}{p:T→Bool}{j:Nat}(h:j<xs.length)(e:p xs[j]=false):xs.all p=false:=
 List.all_eq_false.2 ⟨xs[j],List.getElem_mem h,by rw[e];decide⟩
theorem all_miss {T:Type}{xs:List T}{p:T→Bool}(h:∀j,(h:j<xs.length)→p xs[j]=true):xs.all p=true:=
 List.all_eq_true.2 fun x hx=>by
  obtain⟨i,hi,rfl⟩:=List.getElem_of_mem hx
  exact h i hi
theorem any_hit {T:Type}{xs:List T}{p:T→Bool}{j:Nat}(h:j<xs.length)(e:p xs[j]=true):xs.any p=true:=
 List.any_eq_true.2 ⟨xs[j],List.getElem_mem h,e⟩
theorem any_miss {T:Type}{xs:List T}{p:T→Bool}(h:∀j,(h:j<xs.length)→p xs[j]=false):xs.any p=false:=
 List.any_eq_false.2 fun x hx=>by
  obtain⟨i,hi,rfl⟩:=List.getElem_of_mem hx
  rw[h i hi];decide
theorem allE_any (n:Nat)(g:Nat)(p:ET→Bool)(a:Option Addr)(m cap:Nat)(xs:List ET)(w:World)(eg:∀args w,(callFunc g args).run Tryz.prog w= .ok (.enter g args) w)(hm:xs.length=m)(hs:Pak.Sits (exprSh n) (Pak.Lo w.heap.size) w a xs)
 (hf:∀cs x W,x∈xs→Below w.heap.size w W→(exprSh n).rel (Pak.Lo W.heap.size) W cs x→Calls Tryz.prog g #[.agg cs.toArray] W fun e W'=>e= .returned (.bool (p x))∧Below W.heap.size W W'):
 Calls Tryz.prog 129 #[.slice a m cap,.func (.func g) #[] #[]] w fun e w'=>e= .returned (.bool (xs.all p))∧Below w.heap.size w w':=by
 have HS:=Lib.hid hs
 have HF:=Lib.hid hf
 have HM:=Lib.hid hm
 have hmm:m≤9223372036854775807:=by rw[←hm];exact hs.1
 have HHIT:Hid (∀j,(h:j<xs.length)→p xs[j]=false→xs.all p=false):=fun j h e=>all_hit h e
 have HMISS:Hid ((∀j,(h:j<xs.length)→p xs[j]=true)→xs.all p=true):=fun h=>all_miss h
 clear hs hf hm
 generalize xs.all p=r at HHIT HMISS
 go_enter Tryz.func129,Tryz.ntmps129
 go_wp2_with fail
 go_loopw [9] (fun i wr=>∃j:Nat,j≤m∧i= .int .i64 j∧Hid (∀q,(h:q<xs.length)→q<j→p xs[q]=true)∧Hid (Below w.heap.size w wr)) (fun i _=>m - (intOf i).toNat)
 case atStart=>exact⟨0,Nat.zero_le _,rfl,fun q _ h=>absurd h (Nat.not_lt_zero _),Below.refl _ _⟩
 case round=>
  obtain⟨j,hj,rfl,hno,hb⟩:=hrel
  obtain⟨wo,rfl⟩:∃wo:World,wo=wr:=⟨_,rfl⟩
  by_cases hlt:j<m
  ·have hlx:j<xs.length:=by rw[HM.out];exact hlt
   obtain⟨b,off,cs,rfl,hbl,hc,hr⟩:=(HS.out.below hb.out hb.out.size).2 j hlx
   have hlen:=(exprSh n).len hr
   rw[exprSh_k n]at hlen hc
   obtain⟨x0,t0,rfl,hl0⟩:=cons_tr hlen
   obtain⟨x1,t1,rfl,hl1⟩:=cons_tr hl0
   obtain⟨x2,t2,rfl,hl2⟩:=cons_tr hl1
   obtain⟨x3,t3,rfl,hl3⟩:=cons_tr hl2
   obtain rfl:=List.eq_nil_of_length_eq_zero hl3
   clear hl0 hl1 hl2 hl3
   refine id ?_
   ·skip
    have c0:=hc 0 _ rfl
    have s0:=fun a m W=>run_store Tryz.prog W a x0 m ((exprSh n).one hr x0 (by simp))
    have c1:=hc 1 _ rfl
    have s1:=fun a m W=>run_store Tryz.prog W a x1 m ((exprSh n).one hr x1 (by simp))
    have c2:=hc 2 _ rfl
    have s2:=fun a m W=>run_store Tryz.prog W a x2 m ((exprSh n).one hr x2 (by simp))
    have c3:=hc 3 _ rfl
    have s3:=fun a m W=>run_store Tryz.prog W a x3 m ((exprSh n).one hr x3 (by simp))
    rw[Nat.add_zero]at c0
    have hA:Below wo.heap.size wo (wo.alloc (.cells #[x0,x1,x2,x3] 37)):=(Below.refl _ _).alloc (Nat.le_refl _) _
    have HB:=Lib.hid (hb.out.trans (hA.mono hb.out.size))
    have HC:=Lib.hid (HF.out _ xs[j] _ (List.getElem_mem hlx) HB.out ((exprSh n).keep (fun b (h:b<wo.heap.size)=>Nat.lt_of_lt_of_le h hA.size) (fun b o (h:b<wo.heap.size)=>hA.cell (p:=⟨b,o,none⟩) h) hr))
    have HH:=Lib.hid (HHIT.out j hlx)
    have HN:Hid (p xs[j]=true→∀q,(h:q<xs.length)→q<j+1→p xs[q]=true):=fun h q hq hlq=>by
     by_cases e:q=j
     ·subst e;exact h
     ·exact hno.out q hq (by omega)
    clear hc hr hA
    generalize p xs[j]=z at HC HH HN
    cases z with
    | false=>
      obtain rfl:=HH.out rfl
      clear HH HN
      go_wp2_with fail
      refine HC.out.mono ?_
      rintro e w2 ⟨rfl,hb2⟩
      have HB2:=Lib.hid (HB.out.trans (hb2.mono HB.out.size))
      clear hb2 HC
      go_wp2_with fail
      go_ret
      exact⟨rfl,HB2.out⟩
    | true=>
      have HN2:=Lib.hid (HN.out rfl)
      clear HH HN
      go_wp2_with fail
      refine HC.out.mono ?_
      rintro e w2 ⟨rfl,hb2⟩
      have HB2:=Lib.hid (HB.out.trans (hb2.mono HB.out.size))
      clear hb2 HC
      go_wp2_with fail
      go_roundw
      case rel=>exact⟨j+1,by omega,by go_num,HN2,HB2⟩
      case measure=>simp[intOf];omega
  ·obtain rfl:j=m:=by omega
   obtain rfl:=HMISS.out (fun q hq=>hno.out q hq (by rw[HM.out]at hq;exact hq))
   go_wp2_with fail
   go_ret
   exact⟨rfl,hb.out⟩
theorem someE_any (n:Nat)(g:Nat)(most:Int)(p:ET→Bool)(a:Option Addr)(m cap:Nat)(xs:List ET)(w:World)(eg:∀args w,(callFunc g args).run Tryz.prog w= .ok (.enter g args) w)(hm:xs.length=m)(hs:Pak.Sits (exprSh n) (Pak.Lo w.heap.size) w a xs)
 (hf:∀cs x W,x∈xs→Below w.heap.size w W→(exprSh n).rel (Pak.Lo W.heap.size) W cs x→Calls Tryz.prog g #[.agg cs.toArray,.int .i64 most] W fun e W'=>e= .returned (.bool (p x))∧Below W.heap.size W W'):
 Calls Tryz.prog 68 #[.slice a m cap,.int .i64 most,.func (.func g) #[] #[]] w fun e w'=>e= .returned (.bool (xs.any p))∧Below w.heap.size w w':=by
 have HS:=Lib.hid hs
 have HF:=Lib.hid hf
 have HM:=Lib.hid hm
 have hmm:m≤9223372036854775807:=by rw[←hm];exact hs.1
 have HHIT:Hid (∀j,(h:j<xs.length)→p xs[j]=true→xs.any p=true):=fun j h e=>any_hit h e
 have HMISS:Hid ((∀j,(h:j<xs.length)→p xs[j]=false)→xs.any p=false):=fun h=>any_miss h
 clear hs hf hm
 generalize xs.any p=r at HHIT HMISS
 go_enter Tryz.func68,Tryz.ntmps68
 go_wp2_with fail
 go_loopw [11] (fun i wr=>∃j:Nat,j≤m∧i= .int .i64 j∧Hid (∀q,(h:q<xs.length)→q<j→p xs[q]=false)∧Hid (Below w.heap.size w wr)) (fun i _=>m - (intOf i).toNat)
 case atStart=>exact⟨0,Nat.zero_le _,rfl,fun q _ h=>absurd h (Nat.not_lt_zero _),Below.refl _ _⟩
 case round=>
  obtain⟨j,hj,rfl,hno,hb⟩:=hrel
  obtain⟨wo,rfl⟩:∃wo:World,wo=wr:=⟨_,rfl⟩
  by_cases hlt:j<m
  ·have hlx:j<xs.length:=by rw[HM.out];exact hlt
   obtain⟨b,off,cs,rfl,hbl,hc,hr⟩:=(HS.out.below hb.out hb.out.size).2 j hlx
   have hlen:=(exprSh n).len hr
   rw[exprSh_k n]at hlen hc
   obtain⟨x0,t0,rfl,hl0⟩:=cons_tr hlen
   obtain⟨x1,t1,rfl,hl1⟩:=cons_tr hl0
   obtain⟨x2,t2,rfl,hl2⟩:=cons_tr hl1
   obtain⟨x3,t3,rfl,hl3⟩:=cons_tr hl2
   obtain rfl:=List.eq_nil_of_length_eq_zero hl3
   clear hl0 hl1 hl2 hl3
   refine id ?_
   ·skip
    have c0:=hc 0 _ rfl
    have s0:=fun a m W=>run_store Tryz.prog W a x0 m ((exprSh n).one hr x0 (by simp))
    have c1:=hc 1 _ rfl
    have s1:=fun a m W=>run_store Tryz.prog W a x1 m ((exprSh n).one hr x1 (by simp))
    have c2:=hc 2 _ rfl
    have s2:=fun a m W=>run_store Tryz.prog W a x2 m ((exprSh n).one hr x2 (by simp))
    have c3:=hc 3 _ rfl
    have s3:=fun a m W=>run_store Tryz.prog W a x3 m ((exprSh n).one hr x3 (by simp))
    rw[Nat.add_zero]at c0
    have hA:Below wo.heap.size wo (wo.alloc (.cells #[x0,x1,x2,x3] 37)):=(Below.refl _ _).alloc (Nat.le_refl _) _
    have HB:=Lib.hid (hb.out.trans (hA.mono hb.out.size))
    have HC:=Lib.hid (HF.out _ xs[j] _ (List.getElem_mem hlx) HB.out ((exprSh n).keep (fun b (h:b<wo.heap.size)=>Nat.lt_of_lt_of_le h hA.size) (fun b o (h:b<wo.heap.size)=>hA.cell (p:=⟨b,o,none⟩) h) hr))
    have HH:=Lib.hid (HHIT.out j hlx)
    have HN:Hid (p xs[j]=false→∀q,(h:q<xs.length)→q<j+1→p xs[q]=false):=fun h q hq hlq=>by
     by_cases e:q=j
     ·subst e;exact h
     ·exact hno.out q hq (by omega)
    clear hc hr hA
    generalize p xs[j]=z at HC HH HN
    cases z with
    | true=>
      obtain rfl:=HH.out rfl
      clear HH HN
      go_wp2_with fail
      refine HC.out.mono ?_
      rintro e w2 ⟨rfl,hb2⟩
      have HB2:=Lib.hid (HB.out.trans (hb2.mono HB.out.size))
      clear hb2 HC
      go_wp2_with fail
      go_ret
      exact⟨rfl,HB2.out⟩
    | false=>
      have HN2:=Lib.hid (HN.out rfl)
      clear HH HN
      go_wp2_with fail
      refine HC.out.mono ?_
      rintro e w2 ⟨rfl,hb2⟩
      have HB2:=Lib.hid (HB.out.trans (hb2.mono HB.out.size))
      clear hb2 HC
      go_wp2_with fail
      go_roundw
      case rel=>exact⟨j+1,by omega,by go_num,HN2,HB2⟩
      case measure=>simp[intOf];omega
  ·obtain rfl:j=m:=by omega
   obtain rfl:=HMISS.out (fun q hq=>hno.out q hq (by rw[HM.out]at hq;exact hq))
   go_wp2_with fail
   go_ret
   exact⟨rfl,hb.out⟩
end
section
open Go.RowKit
theorem allA_any (n:Nat)(g:Nat)(p:AT→Bool)(a:Option Addr)(m cap:Nat)(xs:List AT)(w:World)(eg:∀args w,(callFunc g args).run Tryz.prog w= .ok (.enter g args) w)(hm:xs.length=m)(hs:Pak.Sits (assnSh n) (Pak.Lo w.heap.size) w a xs)
 (hf:∀cs x W,x∈xs→Below w.heap.size w W→(assnSh n).rel (Pak.Lo W.heap.size) W cs x→Calls Tryz.prog g #[.agg cs.toArray] W fun e W'=>e= .returned (.bool (p x))∧Below W.heap.size W W'):
 Calls Tryz.prog 101 #[.slice a m cap,.func (.func g) #[] #[]] w fun e w'=>e= .returned (.bool (xs.all p))∧Below w.heap.size w w':=by
 have HS:=Lib.hid hs
 have HF:=Lib.hid hf
 have HM:=Lib.hid hm
 have hmm:m≤9223372036854775807:=by rw[←hm];exact hs.1
 have HHIT:Hid (∀j,(h:j<xs.length)→p xs[j]=false→xs.all p=false):=fun j h e=>all_hit h e
 have HMISS:Hid ((∀j,(h:j<xs.length)→p xs[j]=true)→xs.all p=true):=fun h=>all_miss h
 clear hs hf hm
 generalize xs.all p=r at HHIT HMISS
 go_enter Tryz.func101,Tryz.ntmps101
 go_wp2_with fail
 go_loopw [9] (fun i wr=>∃j:Nat,j≤m∧i= .int .i64 j∧Hid (∀q,(h:q<xs.length)→q<j→p xs[q]=true)∧Hid (Below w.heap.size w wr)) (fun i _=>m - (intOf i).toNat)
 case atStart=>exact⟨0,Nat.zero_le _,rfl,fun q _ h=>absurd h (Nat.not_lt_zero _),Below.refl _ _⟩
 case round=>
  obtain⟨j,hj,rfl,hno,hb⟩:=hrel
  obtain⟨wo,rfl⟩:∃wo:World,wo=wr:=⟨_,rfl⟩
  by_cases hlt:j<m
  ·have hlx:j<xs.length:=by rw[HM.out];exact hlt
   obtain⟨b,off,cs,rfl,hbl,hc,hr⟩:=(HS.out.below hb.out hb.out.size).2 j hlx
   have hlen:=(assnSh n).len hr
   rw[assnSh_k n]at hlen hc
   obtain⟨x0,t0,rfl,hl0⟩:=cons_tr hlen
   obtain⟨x1,t1,rfl,hl1⟩:=cons_tr hl0
   obtain⟨x2,t2,rfl,hl2⟩:=cons_tr hl1
   obtain⟨x3,t3,rfl,hl3⟩:=cons_tr hl2
   obtain⟨x4,t4,rfl,hl4⟩:=cons_tr hl3
   obtain⟨x5,t5,rfl,hl5⟩:=cons_tr hl4
   obtain⟨x6,t6,rfl,hl6⟩:=cons_tr hl5
   obtain⟨x7,t7,rfl,hl7⟩:=cons_tr hl6
   obtain⟨x8,t8,rfl,hl8⟩:=cons_tr hl7
   obtain⟨x9,t9,rfl,hl9⟩:=cons_tr hl8
   obtain⟨x10,t10,rfl,hl10⟩:=cons_tr hl9
   obtain⟨x11,t11,rfl,hl11⟩:=cons_tr hl10
   obtain⟨x12,t12,rfl,hl12⟩:=cons_tr hl11
   obtain⟨x13,t13,rfl,hl13⟩:=cons_tr hl12
   obtain⟨x14,t14,rfl,hl14⟩:=cons_tr hl13
   obtain rfl:=List.eq_nil_of_length_eq_zero hl14
   clear hl0 hl1 hl2 hl3 hl4 hl5 hl6 hl7 hl8 hl9 hl10 hl11 hl12 hl13 hl14
   refine id ?_
   ·skip
    have c0:=hc 0 _ rfl
    have s0:=fun a m W=>run_store Tryz.prog W a x0 m ((assnSh n).one hr x0 (by simp))
    have c1:=hc 1 _ rfl
    have s1:=fun a m W=>run_store Tryz.prog W a x1 m ((assnSh n).one hr x1 (by simp))
    have c2:=hc 2 _ rfl
    have s2:=fun a m W=>run_store Tryz.prog W a x2 m ((assnSh n).one hr x2 (by simp))
    have c3:=hc 3 _ rfl
    have s3:=fun a m W=>run_store Tryz.prog W a x3 m ((assnSh n).one hr x3 (by simp))
    have c4:=hc 4 _ rfl
    have s4:=fun a m W=>run_store Tryz.prog W a x4 m ((assnSh n).one hr x4 (by simp))
    have c5:=hc 5 _ rfl
    have s5:=fun a m W=>run_store Tryz.prog W a x5 m ((assnSh n).one hr x5 (by simp))
    have c6:=hc 6 _ rfl
    have s6:=fun a m W=>run_store Tryz.prog W a x6 m ((assnSh n).one hr x6 (by simp))
    have c7:=hc 7 _ rfl
    have s7:=fun a m W=>run_store Tryz.prog W a x7 m ((assnSh n).one hr x7 (by simp))
    have c8:=hc 8 _ rfl
    have s8:=fun a m W=>run_store Tryz.prog W a x8 m ((assnSh n).one hr x8 (by simp))
    have c9:=hc 9 _ rfl
    have s9:=fun a m W=>run_store Tryz.prog W a x9 m ((assnSh n).one hr x9 (by simp))
    have c10:=hc 10 _ rfl
    have s10:=fun a m W=>run_store Tryz.prog W a x10 m ((assnSh n).one hr x10 (by simp))
    have c11:=hc 11 _ rfl
    have s11:=fun a m W=>run_store Tryz.prog W a x11 m ((assnSh n).one hr x11 (by simp))
    have c12:=hc 12 _ rfl
    have s12:=fun a m W=>run_store Tryz.prog W a x12 m ((assnSh n).one hr x12 (by simp))
    have c13:=hc 13 _ rfl
    have s13:=fun a m W=>run_store Tryz.prog W a x13 m ((assnSh n).one hr x13 (by simp))
    have c14:=hc 14 _ rfl
    have s14:=fun a m W=>run_store Tryz.prog W a x14 m ((assnSh n).one hr x14 (by simp))
    rw[Nat.add_zero]at c0
    have hA:Below wo.heap.size wo (wo.alloc (.cells #[x0,x1,x2,x3,x4,x5,x6,x7,x8,x9,x10,x11,x12,x13,x14] 44)):=(Below.refl _ _).alloc (Nat.le_refl _) _
    have HB:=Lib.hid (hb.out.trans (hA.mono hb.out.size))
    have HC:=Lib.hid (HF.out _ xs[j] _ (List.getElem_mem hlx) HB.out ((assnSh n).keep (fun b (h:b<wo.heap.size)=>Nat.lt_of_lt_of_le h hA.size) (fun b o (h:b<wo.heap.size)=>hA.cell (p:=⟨b,o,none⟩) h) hr))
    have HH:=Lib.hid (HHIT.out j hlx)
    have HN:Hid (p xs[j]=true→∀q,(h:q<xs.length)→q<j+1→p xs[q]=true):=fun h q hq hlq=>by
     by_cases e:q=j
     ·subst e;exact h
     ·exact hno.out q hq (by omega)
    clear hc hr hA
    generalize p xs[j]=z at HC HH HN
    cases z with
    | false=>
      obtain rfl:=HH.out rfl
      clear HH HN
      go_wp2_with fail
      refine HC.out.mono ?_
      rintro e w2 ⟨rfl,hb2⟩
      have HB2:=Lib.hid (HB.out.trans (hb2.mono HB.out.size))
      clear hb2 HC
      go_wp2_with fail
      go_ret
      exact⟨rfl,HB2.out⟩
    | true=>
      have HN2:=Lib.hid (HN.out rfl)
      clear HH HN
      go_wp2_with fail
      refine HC.out.mono ?_
      rintro e w2 ⟨rfl,hb2⟩
      have HB2:=Lib.hid (HB.out.trans (hb2.mono HB.out.size))
      clear hb2 HC
      go_wp2_with fail
      go_roundw
      case rel=>exact⟨j+1,by omega,by go_num,HN2,HB2⟩
      case measure=>simp[intOf];omega
  ·obtain rfl:j=m:=by omega
   obtain rfl:=HMISS.out (fun q hq=>hno.out q hq (by rw[HM.out]at hq;exact hq))
   go_wp2_with fail
   go_ret
   exact⟨rfl,hb.out⟩
theorem someA_any (n:Nat)(g:Nat)(most:Int)(p:AT→Bool)(a:Option Addr)(m cap:Nat)(xs:List AT)(w:World)(eg:∀args w,(callFunc g args).run Tryz.prog w= .ok (.enter g args) w)(hm:xs.length=m)(hs:Pak.Sits (assnSh n) (Pak.Lo w.heap.size) w a xs)
 (hf:∀cs x W,x∈xs→Below w.heap.size w W→(assnSh n).rel (Pak.Lo W.heap.size) W cs x→Calls Tryz.prog g #[.agg cs.toArray,.int .i64 most] W fun e W'=>e= .returned (.bool (p x))∧Below W.heap.size W W'):
 Calls Tryz.prog 67 #[.slice a m cap,.int .i64 most,.func (.func g) #[] #[]] w fun e w'=>e= .returned (.bool (xs.any p))∧Below w.heap.size w w':=by
 have HS:=Lib.hid hs
 have HF:=Lib.hid hf
 have HM:=Lib.hid hm
 have hmm:m≤9223372036854775807:=by rw[←hm];exact hs.1
 have HHIT:Hid (∀j,(h:j<xs.length)→p xs[j]=true→xs.any p=true):=fun j h e=>any_hit h e
 have HMISS:Hid ((∀j,(h:j<xs.length)→p xs[j]=false)→xs.any p=false):=fun h=>any_miss h
 clear hs hf hm
 generalize xs.any p=r at HHIT HMISS
 go_enter Tryz.func67,Tryz.ntmps67
 go_wp2_with fail
 go_loopw [11] (fun i wr=>∃j:Nat,j≤m∧i= .int .i64 j∧Hid (∀q,(h:q<xs.length)→q<j→p xs[q]=false)∧Hid (Below w.heap.size w wr)) (fun i _=>m - (intOf i).toNat)
 case atStart=>exact⟨0,Nat.zero_le _,rfl,fun q _ h=>absurd h (Nat.not_lt_zero _),Below.refl _ _⟩
 case round=>
  obtain⟨j,hj,rfl,hno,hb⟩:=hrel
  obtain⟨wo,rfl⟩:∃wo:World,wo=wr:=⟨_,rfl⟩
  by_cases hlt:j<m
  ·have hlx:j<xs.length:=by rw[HM.out];exact hlt
   obtain⟨b,off,cs,rfl,hbl,hc,hr⟩:=(HS.out.below hb.out hb.out.size).2 j hlx
   have hlen:=(assnSh n).len hr
   rw[assnSh_k n]at hlen hc
   obtain⟨x0,t0,rfl,hl0⟩:=cons_tr hlen
   obtain⟨x1,t1,rfl,hl1⟩:=cons_tr hl0
   obtain⟨x2,t2,rfl,hl2⟩:=cons_tr hl1
   obtain⟨x3,t3,rfl,hl3⟩:=cons_tr hl2
   obtain⟨x4,t4,rfl,hl4⟩:=cons_tr hl3
   obtain⟨x5,t5,rfl,hl5⟩:=cons_tr hl4
   obtain⟨x6,t6,rfl,hl6⟩:=cons_tr hl5
   obtain⟨x7,t7,rfl,hl7⟩:=cons_tr hl6
   obtain⟨x8,t8,rfl,hl8⟩:=cons_tr hl7
   obtain⟨x9,t9,rfl,hl9⟩:=cons_tr hl8
   obtain⟨x10,t10,rfl,hl10⟩:=cons_tr hl9
   obtain⟨x11,t11,rfl,hl11⟩:=cons_tr hl10
   obtain⟨x12,t12,rfl,hl12⟩:=cons_tr hl11
   obtain⟨x13,t13,rfl,hl13⟩:=cons_tr hl12
   obtain⟨x14,t14,rfl,hl14⟩:=cons_tr hl13
   obtain rfl:=List.eq_nil_of_length_eq_zero hl14
   clear hl0 hl1 hl2 hl3 hl4 hl5 hl6 hl7 hl8 hl9 hl10 hl11 hl12 hl13 hl14
   refine id ?_
   ·skip
    have c0:=hc 0 _ rfl
    have s0:=fun a m W=>run_store Tryz.prog W a x0 m ((assnSh n).one hr x0 (by simp))
    have c1:=hc 1 _ rfl
    have s1:=fun a m W=>run_store Tryz.prog W a x1 m ((assnSh n).one hr x1 (by simp))
    have c2:=hc 2 _ rfl
    have s2:=fun a m W=>run_store Tryz.prog W a x2 m ((assnSh n).one hr x2 (by simp))
    have c3:=hc 3 _ rfl
    have s3:=fun a m W=>run_store Tryz.prog W a x3 m ((assnSh n).one hr x3 (by simp))
    have c4:=hc 4 _ rfl
    have s4:=fun a m W=>run_store Tryz.prog W a x4 m ((assnSh n).one hr x4 (by simp))
    have c5:=hc 5 _ rfl
    have s5:=fun a m W=>run_store Tryz.prog W a x5 m ((assnSh n).one hr x5 (by simp))
    have c6:=hc 6 _ rfl
    have s6:=fun a m W=>run_store Tryz.prog W a x6 m ((assnSh n).one hr x6 (by simp))
    have c7:=hc 7 _ rfl
    have s7:=fun a m W=>run_store Tryz.prog W a x7 m ((assnSh n).one hr x7 (by simp))
    have c8:=hc 8 _ rfl
    have s8:=fun a m W=>run_store Tryz.prog W a x8 m ((assnSh n).one hr x8 (by simp))
    have c9:=hc 9 _ rfl
    have s9:=fun a m W=>run_store Tryz.prog W a x9 m ((assnSh n).one hr x9 (by simp))
    have c10:=hc 10 _ rfl
    have s10:=fun a m W=>run_store Tryz.prog W a x10 m ((assnSh n).one hr x10 (by simp))
    have c11:=hc 11 _ rfl
    have s11:=fun a m W=>run_store Tryz.prog W a x11 m ((assnSh n).one hr x11 (by simp))
    have c12:=hc 12 _ rfl
    have s12:=fun a m W=>run_store Tryz.prog W a x12 m ((assnSh n).one hr x12 (by simp))
    have c13:=hc 13 _ rfl
    have s13:=fun a m W=>run_store Tryz.prog W a x13 m ((assnSh n).one hr x13 (by simp))
    have c14:=hc 14 _ rfl
    have s14:=fun a m W=>run_store Tryz.prog W a x14 m ((assnSh n).one hr x14 (by simp))
    rw[Nat.add_zero]at c0
    have hA:Below wo.heap.size wo (wo.alloc (.cells #[x0,x1,x2,x3,x4,x5,x6,x7,x8,x9,x10,x11,x12,x13,x14] 44)):=(Below.refl _ _).alloc (Nat.le_refl _) _
    have HB:=Lib.hid (hb.out.trans (hA.mono hb.out.size))
    have HC:=Lib.hid (HF.out _ xs[j] _ (List.getElem_mem hlx) HB.out ((assnSh n).keep (fun b (h:b<wo.heap.size)=>Nat.lt_of_lt_of_le h hA.size) (fun b o (h:b<wo.heap.size)=>hA.cell (p:=⟨b,o,none⟩) h) hr))
    have HH:=Lib.hid (HHIT.out j hlx)
    have HN:Hid (p xs[j]=false→∀q,(h:q<xs.length)→q<j+1→p xs[q]=false):=fun h q hq hlq=>by
     by_cases e:q=j
     ·subst e;exact h
     ·exact hno.out q hq (by omega)
    clear hc hr hA
    generalize p xs[j]=z at HC HH HN
    cases z with
    | true=>
      obtain rfl:=HH.out rfl
      clear HH HN
      go_wp2_with fail
      refine HC.out.mono ?_
      rintro e w2 ⟨rfl,hb2⟩
      have HB2:=Lib.hid (HB.out.trans (hb2.mono HB.out.size))
      clear hb2 HC
      go_wp2_with fail
      go_ret
      exact⟨rfl,HB2.out⟩
    | false=>
      have HN2:=Lib.hid (HN.out rfl)
      clear HH HN
      go_wp2_with fail
      refine HC.out.mono ?_
      rintro e w2 ⟨rfl,hb2⟩
      have HB2:=Lib.hid (HB.out.trans (hb2.mono HB.out.size))
      clear hb2 HC
      go_wp2_with fail
      go_roundw
      case rel=>exact⟨j+1,by omega,by go_num,HN2,HB2⟩
      case measure=>simp[intOf];omega
  ·obtain rfl:j=m:=by omega
   obtain rfl:=HMISS.out (fun q hq=>hno.out q hq (by rw[HM.out]at hq;exact hq))
   go_wp2_with fail
   go_ret
   exact⟨rfl,hb.out⟩
end
section
open Go.RowKit
theorem allC_any (n:Nat)(g:Nat)(p:CT→Bool)(a:Option Addr)(m cap:Nat)(xs:List CT)(w:World)(eg:∀args w,(callFunc g args).run Tryz.prog w= .ok (.enter g args) w)(hm:xs.length=m)(hs:Pak.Sits (condSh n) (Pak.Lo w.heap.size) w a xs)
 (hf:∀cs x W,x∈xs→Below w.heap.size w W→(condSh n).rel (Pak.Lo W.heap.size) W cs x→Calls Tryz.prog g #[.agg cs.toArray] W fun e W'=>e= .returned (.bool (p x))∧Below W.heap.size W W'):
 Calls Tryz.prog 130 #[.slice a m cap,.func (.func g) #[] #[]] w fun e w'=>e= .returned (.bool (xs.all p))∧Below w.heap.size w w':=by
 have HS:=Lib.hid hs
 have HF:=Lib.hid hf
 have HM:=Lib.hid hm
 have hmm:m≤9223372036854775807:=by rw[←hm];exact hs.1
 have HHIT:Hid (∀j,(h:j<xs.length)→p xs[j]=false→xs.all p=false):=fun j h e=>all_hit h e
 have HMISS:Hid ((∀j,(h:j<xs.length)→p xs[j]=true)→xs.all p=true):=fun h=>all_miss h
 clear hs hf hm
 generalize xs.all p=r at HHIT HMISS
 go_enter Tryz.func130,Tryz.ntmps130
 go_wp2_with fail
 go_loopw [9] (fun i wr=>∃j:Nat,j≤m∧i= .int .i64 j∧Hid (∀q,(h:q<xs.length)→q<j→p xs[q]=true)∧Hid (Below w.heap.size w wr)) (fun i _=>m - (intOf i).toNat)
 case atStart=>exact⟨0,Nat.zero_le _,rfl,fun q _ h=>absurd h (Nat.not_lt_zero _),Below.refl _ _⟩
 case round=>
  obtain⟨j,hj,rfl,hno,hb⟩:=hrel
  obtain⟨wo,rfl⟩:∃wo:World,wo=wr:=⟨_,rfl⟩
  by_cases hlt:j<m
  ·have hlx:j<xs.length:=by rw[HM.out];exact hlt
   obtain⟨b,off,cs,rfl,hbl,hc,hr⟩:=(HS.out.below hb.out hb.out.size).2 j hlx
   have hlen:=(condSh n).len hr
   rw[condSh_k n]at hlen hc
   obtain⟨x0,t0,rfl,hl0⟩:=cons_tr hlen
   obtain⟨x1,t1,rfl,hl1⟩:=cons_tr hl0
   obtain⟨x2,t2,rfl,hl2⟩:=cons_tr hl1
   obtain rfl:=List.eq_nil_of_length_eq_zero hl2
   clear hl0 hl1 hl2
   refine id ?_
   ·skip
    have c0:=hc 0 _ rfl
    have s0:=fun a m W=>run_store Tryz.prog W a x0 m ((condSh n).one hr x0 (by simp))
    have c1:=hc 1 _ rfl
    have s1:=fun a m W=>run_store Tryz.prog W a x1 m ((condSh n).one hr x1 (by simp))
    have c2:=hc 2 _ rfl
    have s2:=fun a m W=>run_store Tryz.prog W a x2 m ((condSh n).one hr x2 (by simp))
    rw[Nat.add_zero]at c0
    have hA:Below wo.heap.size wo (wo.alloc (.cells #[x0,x1,x2] 41)):=(Below.refl _ _).alloc (Nat.le_refl _) _
    have HB:=Lib.hid (hb.out.trans (hA.mono hb.out.size))
    have HC:=Lib.hid (HF.out _ xs[j] _ (List.getElem_mem hlx) HB.out ((condSh n).keep (fun b (h:b<wo.heap.size)=>Nat.lt_of_lt_of_le h hA.size) (fun b o (h:b<wo.heap.size)=>hA.cell (p:=⟨b,o,none⟩) h) hr))
    have HH:=Lib.hid (HHIT.out j hlx)
    have HN:Hid (p xs[j]=true→∀q,(h:q<xs.length)→q<j+1→p xs[q]=true):=fun h q hq hlq=>by
     by_cases e:q=j
     ·subst e;exact h
     ·exact hno.out q hq (by omega)
    clear hc hr hA
    generalize p xs[j]=z at HC HH HN
    cases z with
    | false=>
      obtain rfl:=HH.out rfl
      clear HH HN
      go_wp2_with fail
      refine HC.out.mono ?_
      rintro e w2 ⟨rfl,hb2⟩
      have HB2:=Lib.hid (HB.out.trans (hb2.mono HB.out.size))
      clear hb2 HC
      go_wp2_with fail
      go_ret
      exact⟨rfl,HB2.out⟩
    | true=>
      have HN2:=Lib.hid (HN.out rfl)
      clear HH HN
      go_wp2_with fail
      refine HC.out.mono ?_
      rintro e w2 ⟨rfl,hb2⟩
      have HB2:=Lib.hid (HB.out.trans (hb2.mono HB.out.size))
      clear hb2 HC
      go_wp2_with fail
      go_roundw
      case rel=>exact⟨j+1,by omega,by go_num,HN2,HB2⟩
      case measure=>simp[intOf];omega
  ·obtain rfl:j=m:=by omega
   obtain rfl:=HMISS.out (fun q hq=>hno.out q hq (by rw[HM.out]at hq;exact hq))
   go_wp2_with fail
   go_ret
   exact⟨rfl,hb.out⟩
theorem someC_any (n:Nat)(g:Nat)(most:Int)(p:CT→Bool)(a:Option Addr)(m cap:Nat)(xs:List CT)(w:World)(eg:∀args w,(callFunc g args).run Tryz.prog w= .ok (.enter g args) w)(hm:xs.length=m)(hs:Pak.Sits (condSh n) (Pak.Lo w.heap.size) w a xs)
 (hf:∀cs x W,x∈xs→Below w.heap.size w W→(condSh n).rel (Pak.Lo W.heap.size) W cs x→Calls Tryz.prog g #[.agg cs.toArray,.int .i64 most] W fun e W'=>e= .returned (.bool (p x))∧Below W.heap.size W W'):
 Calls Tryz.prog 98 #[.slice a m cap,.int .i64 most,.func (.func g) #[] #[]] w fun e w'=>e= .returned (.bool (xs.any p))∧Below w.heap.size w w':=by
 have HS:=Lib.hid hs
 have HF:=Lib.hid hf
 have HM:=Lib.hid hm
 have hmm:m≤9223372036854775807:=by rw[←hm];exact hs.1
 have HHIT:Hid (∀j,(h:j<xs.length)→p xs[j]=true→xs.any p=true):=fun j h e=>any_hit h e
 have HMISS:Hid ((∀j,(h:j<xs.length)→p xs[j]=false)→xs.any p=false):=fun h=>any_miss h
 clear hs hf hm
 generalize xs.any p=r at HHIT HMISS
 go_enter Tryz.func98,Tryz.ntmps98
 go_wp2_with fail
 go_loopw [11] (fun i wr=>∃j:Nat,j≤m∧i= .int .i64 j∧Hid (∀q,(h:q<xs.length)→q<j→p xs[q]=false)∧Hid (Below w.heap.size w wr)) (fun i _=>m - (intOf i).toNat)
 case atStart=>exact⟨0,Nat.zero_le _,rfl,fun q _ h=>absurd h (Nat.not_lt_zero _),Below.refl _ _⟩
 case round=>
  obtain⟨j,hj,rfl,hno,hb⟩:=hrel
  obtain⟨wo,rfl⟩:∃wo:World,wo=wr:=⟨_,rfl⟩
  by_cases hlt:j<m
  ·have hlx:j<xs.length:=by rw[HM.out];exact hlt
   obtain⟨b,off,cs,rfl,hbl,hc,hr⟩:=(HS.out.below hb.out hb.out.size).2 j hlx
   have hlen:=(condSh n).len hr
   rw[condSh_k n]at hlen hc
   obtain⟨x0,t0,rfl,hl0⟩:=cons_tr hlen
   obtain⟨x1,t1,rfl,hl1⟩:=cons_tr hl0
   obtain⟨x2,t2,rfl,hl2⟩:=cons_tr hl1
   obtain rfl:=List.eq_nil_of_length_eq_zero hl2
   clear hl0 hl1 hl2
   refine id ?_
   ·skip
    have c0:=hc 0 _ rfl
    have s0:=fun a m W=>run_store Tryz.prog W a x0 m ((condSh n).one hr x0 (by simp))
    have c1:=hc 1 _ rfl
    have s1:=fun a m W=>run_store Tryz.prog W a x1 m ((condSh n).one hr x1 (by simp))
    have c2:=hc 2 _ rfl
    have s2:=fun a m W=>run_store Tryz.prog W a x2 m ((condSh n).one hr x2 (by simp))
    rw[Nat.add_zero]at c0
    have hA:Below wo.heap.size wo (wo.alloc (.cells #[x0,x1,x2] 41)):=(Below.refl _ _).alloc (Nat.le_refl _) _
    have HB:=Lib.hid (hb.out.trans (hA.mono hb.out.size))
    have HC:=Lib.hid (HF.out _ xs[j] _ (List.getElem_mem hlx) HB.out ((condSh n).keep (fun b (h:b<wo.heap.size)=>Nat.lt_of_lt_of_le h hA.size) (fun b o (h:b<wo.heap.size)=>hA.cell (p:=⟨b,o,none⟩) h) hr))
    have HH:=Lib.hid (HHIT.out j hlx)
    have HN:Hid (p xs[j]=false→∀q,(h:q<xs.length)→q<j+1→p xs[q]=false):=fun h q hq hlq=>by
     by_cases e:q=j
     ·subst e;exact h
     ·exact hno.out q hq (by omega)
    clear hc hr hA
    generalize p xs[j]=z at HC HH HN
    cases z with
    | true=>
      obtain rfl:=HH.out rfl
      clear HH HN
      go_wp2_with fail
      refine HC.out.mono ?_
      rintro e w2 ⟨rfl,hb2⟩
      have HB2:=Lib.hid (HB.out.trans (hb2.mono HB.out.size))
      clear hb2 HC
      go_wp2_with fail
      go_ret
      exact⟨rfl,HB2.out⟩
    | false=>
      have HN2:=Lib.hid (HN.out rfl)
      clear HH HN
      go_wp2_with fail
      refine HC.out.mono ?_
      rintro e w2 ⟨rfl,hb2⟩
      have HB2:=Lib.hid (HB.out.trans (hb2.mono HB.out.size))
      clear hb2 HC
      go_wp2_with fail
      go_roundw
      case rel=>exact⟨j+1,by omega,by go_num,HN2,HB2⟩
      case measure=>simp[intOf];omega
  ·obtain rfl:j=m:=by omega
   obtain rfl:=HMISS.out (fun q hq=>hno.out q hq (by rw[HM.out]at hq;exact hq))
   go_wp2_with fail
   go_ret
   exact⟨rfl,hb.out⟩
end
section
open Go.RowKit
def dpE:Nat→ET→Bool
 | 0,_=>true
 | m+1,e=>e.ks.any (dpE m)
def dpC:Nat→CT→Bool
 | 0,_=>true
 | m+1,c=>c.es.any (dpE m) || c.ks.any (dpC m)
def dpA:Nat→AT→Bool
 | 0,_=>true
 | m+1,a=>dpC m a.c || dpE m a.e || dpE m a.v || a.ks.any (dpA m)
theorem box_low {w:World}{cs:Array Value}{t:TypeId}:Below w.heap.size w (w.alloc (.cells cs t)):=(Below.refl _ w).alloc (Nat.le_refl _) _
theorem deepE_any:∀(n m:Nat) (e:ET) (cs:List Value) (w:World),m≤1000000→(exprSh n).rel (Pak.Lo w.heap.size) w cs e→
 Calls Tryz.prog 66 #[.agg cs.toArray,.int .i64 m] w fun r w'=>r= .returned (.bool (dpE m e))∧Below w.heap.size w w'
 | 0,_,_,_,_,_,h=>h.elim
 | n+1,m,e,cs,w,hm,h=>by
   have IH:=deepE_any n
   obtain⟨v,rfl,_,a,cap,rfl,hs⟩:=h
   have hA:Below w.heap.size w (w.alloc (.cells #[.int .i64 e.kind,.int .i64 e.n,.string e.name,.slice a e.ks.length cap] 37)):=box_low
   have HA:=Lib.hid hA
   cases m with
   | zero=>
     have hd:dpE 0 e=true:=rfl
     rw[hd]
     clear hs IH hd hA
     go_enter Tryz.func66,Tryz.ntmps66
     go_wp2_with fail
     go_ret
     exact⟨rfl,HA.out⟩
   | succ k=>
     have HS:=Lib.hid (someE_any n 66 k (dpE k) a e.ks.length cap e.ks _ (fun args w=>by kernel_rfl) rfl (hs.below hA hA.size) (fun cs x W hx hb hr=>IH k x cs W (by omega) hr))
     have hd:dpE (k+1) e=e.ks.any (dpE k):=rfl
     rw[hd]
     have hk0:((k:Int)+1 == 0)=false:=by simp;omega
     generalize e.ks.any (dpE k)=z at HS
     clear hs IH hd hA
     go_enter Tryz.func66,Tryz.ntmps66
     go_wp2_with fail
     refine HS.out.mono ?_
     rintro r w2 ⟨rfl,hb⟩
     have HB:=Lib.hid (HA.out.trans (hb.mono HA.out.size))
     clear hb HS
     go_wp2_with fail
     go_ret
     exact⟨rfl,HB.out⟩
theorem deepC_any:∀(n m:Nat) (c:CT) (cs:List Value) (w:World),m≤1000000→(condSh n).rel (Pak.Lo w.heap.size) w cs c→
 Calls Tryz.prog 65 #[.agg cs.toArray,.int .i64 m] w fun r w'=>r= .returned (.bool (dpC m c))∧Below w.heap.size w w'
 | 0,_,_,_,_,_,h=>h.elim
 | n+1,m,c,cs,w,hm,h=>by
   have IH:=deepC_any n
   obtain⟨u,v,rfl,_,⟨a1,c1,rfl,hs1⟩,⟨a2,c2,rfl,hs2⟩⟩:=h
   have hA:Below w.heap.size w (w.alloc (.cells #[.int .i64 c.kind,.slice a1 c.es.length c1,.slice a2 c.ks.length c2] 41)):=box_low
   have HA:=Lib.hid hA
   cases m with
   | zero=>
     have hd:dpC 0 c=true:=rfl
     rw[hd]
     clear hs1 hs2 IH hd hA
     go_enter Tryz.func65,Tryz.ntmps65
     go_wp2_with fail
     go_ret
     exact⟨rfl,HA.out⟩
   | succ k=>
     have HS1:=Lib.hid (someE_any n 66 k (dpE k) a1 c.es.length c1 c.es _ (fun args w=>by kernel_rfl) rfl (hs1.below hA hA.size) (fun cs x W hx hb hr=>deepE_any n k x cs W (by omega) hr))
     have HS2:=Lib.hid (fun W (hb:Below w.heap.size w W)=>someC_any n 65 k (dpC k) a2 c.ks.length c2 c.ks W (fun args w=>by kernel_rfl) rfl (hs2.below hb hb.size) (fun cs x W hx hb hr=>IH k x cs W (by omega) hr))
     have hd:dpC (k+1) c=(c.es.any (dpE k) || c.ks.any (dpC k)):=rfl
     rw[hd]
     have hk0:((k:Int)+1 == 0)=false:=by simp;omega
     have hcell:∀W,Below (w.alloc (.cells #[.int .i64 c.kind,.slice a1 c.es.length c1,.slice a2 c.ks.length c2] 41)).heap.size (w.alloc (.cells #[.int .i64 c.kind,.slice a1 c.es.length c1,.slice a2 c.ks.length c2] 41)) W→W.cell? ⟨w.heap.size,2,none⟩=some (.slice a2 c.ks.length c2):=fun W hb=>
      (hb.cell (p:=⟨w.heap.size,2,none⟩) (by simp)).trans ((cell_of_row _ _ _ _ _ _ (heap_alloc_new w _)).trans rfl)
     have HCL:=Lib.hid hcell
     generalize c.es.any (dpE k)=z1 at HS1
     generalize c.ks.any (dpC k)=z2 at HS2
     clear hs1 hs2 IH hd hA hcell
     go_enter Tryz.func65,Tryz.ntmps65
     cases z1 with
     | true=>
       go_wp2_with fail
       refine HS1.out.mono ?_
       rintro r w2 ⟨rfl,hb⟩
       have HB:=Lib.hid (HA.out.trans (hb.mono HA.out.size))
       clear hb HS1 HS2 HCL
       go_wp2_with fail
       go_ret
       exact⟨rfl,HB.out⟩
     | false=>
       go_wp2_with fail
       refine HS1.out.mono ?_
       rintro r w2 ⟨rfl,hb⟩
       have q2:=HCL.out _ hb
       have HB:=Lib.hid (HA.out.trans (hb.mono HA.out.size))
       have HS3:=Lib.hid (HS2.out _ HB.out)
       clear hb HS1 HS2 HCL
       go_wp2_with fail
       refine HS3.out.mono ?_
       rintro r w3 ⟨rfl,hb3⟩
       have HB3:=Lib.hid (HB.out.trans (hb3.mono HB.out.size))
       clear hb3 HS3 q2
       go_wp2_with fail
       go_ret
       exact⟨rfl,HB3.out⟩
end
section
def isDig (c:UInt8):Bool:=decide (48≤c.toNat) && decide (c.toNat≤57)
def isLet (c:UInt8):Bool:=decide (c.toNat=95) || (decide (97≤c.toNat) && decide (c.toNat≤122)) || (decide (65≤c.toNat) && decide (c.toNat≤90))
def isIn (c:UInt8):Bool:=isLet c || isDig c
def runN (p:UInt8→Bool)(l:List UInt8):Nat:=(l.takeWhile p).length
theorem runN_nil (p:UInt8→Bool):runN p []=0:=rfl
theorem runN_cons (p:UInt8→Bool)(c:UInt8)(l:List UInt8):runN p (c :: l)=if p c then runN p l+1 else 0:=by
 unfold runN
 rw[List.takeWhile_cons]
 split<;>simp
theorem runN_le (p:UInt8→Bool)(l:List UInt8):runN p l≤l.length:=by
 induction l with
 | nil=>exact Nat.le_refl _
 | cons c l ih=>rw[runN_cons,List.length_cons];split<;>omega
theorem runN_lt {p:UInt8→Bool}{l:List UInt8}{k:Nat}(h:k<runN p l):∃hk:k<l.length,p l[k]=true:=by
 induction l generalizing k with
 | nil=>rw[runN_nil]at h;omega
 | cons c l ih=>
   rw[runN_cons]at h
   split at h
   ·next hc=>
    cases k with
    | zero=>exact⟨by simp,hc⟩
    | succ k=>obtain⟨h1,h2⟩:=ih (k:=k) (by omega);exact⟨by simp;omega,by simpa using h2⟩
   ·omega
theorem runN_at {p:UInt8→Bool}{l:List UInt8}(h:runN p l<l.length):p (l[runN p l])=false:=by
 induction l with
 | nil=>simp at h
 | cons c l ih=>
   have e:=runN_cons p c l
   by_cases hc:p c=true
   ·rw[if_pos hc]at e
    have h2:runN p l<l.length:=by rw[e]at h;simp at h;omega
    have:=ih h2
    simp only[e,List.getElem_cons_succ]
    exact this
   ·rw[if_neg hc]at e
    simp only[e,List.getElem_cons_zero]
    simpa using hc
theorem runN_is {p:UInt8→Bool}{l:List UInt8}{k:Nat}(hk:k≤l.length)(h1:∀j (h:j<l.length),j<k→p l[j]=true)(h2:∀h:k<l.length,p l[k]=false):runN p l=k:=by
 rcases Nat.lt_trichotomy (runN p l) k with h | h | h
 ·have:=runN_at (p:=p) (l:=l) (by omega)
  rw[h1 _ _ h]at this;cases this
 ·exact h
 ·obtain⟨a,b⟩:=runN_lt h
  rw[h2 a]at b;cases b
def wordN (l:List UInt8):Nat:=if runN isDig l > 0 then 0 else runN isIn l
theorem dig_pos {c:UInt8}{l:List UInt8}:0<runN isDig (c :: l)↔isDig c=true:=by
 rw[runN_cons];split<;>simp_all
theorem wordN_nil:wordN []=0:=rfl
theorem wordN_cons (c:UInt8)(l:List UInt8):wordN (c :: l)=if isLet c then runN isIn l+1 else 0:=by
 unfold wordN
 by_cases hd:isDig c=true
 ·rw[if_pos (dig_pos.2 hd)]
  have:isLet c=false:=by
   simp only[isDig,isLet,Bool.and_eq_true,decide_eq_true_eq]at hd⊢
   simp only[Bool.or_eq_false_iff,Bool.and_eq_false_iff,decide_eq_false_iff_not]
   omega
  rw[this];rfl
 ·rw[if_neg (fun h=>hd (dig_pos.1 h)),runN_cons]
  have:isIn c=isLet c:=by unfold isIn;simp only[Bool.not_eq_true]at hd;rw[hd,Bool.or_false]
  rw[this]
theorem wordN_le (l:List UInt8):wordN l≤l.length:=by
 unfold wordN;split
 ·omega
 ·exact runN_le _ _
def nameAt (k:Nat)(c:UInt8):Bool:=isLet c || (decide (0<k) && isDig c)
theorem wordN_lt {l:List UInt8}{k:Nat}(h:k<wordN l):∃hk:k<l.length,nameAt k l[k]=true:=by
 cases l with
 | nil=>rw[wordN_nil]at h;omega
 | cons c l=>
   rw[wordN_cons]at h
   split at h
   ·next hc=>
    cases k with
    | zero=>exact⟨by simp,by simp[nameAt,hc]⟩
    | succ k=>
      obtain⟨h1,h2⟩:=runN_lt (p:=isIn) (l:=l) (k:=k) (by omega)
      exact⟨by simp;omega,by simpa [nameAt,isIn]using h2⟩
   ·omega
theorem wordN_at {l:List UInt8}(h:wordN l<l.length):nameAt (wordN l) (l[wordN l])=false:=by
 cases l with
 | nil=>simp at h
 | cons c l=>
   have e:=wordN_cons c l
   by_cases hc:isLet c=true
   ·rw[if_pos hc]at e
    have h2:runN isIn l<l.length:=by rw[e]at h;simp at h;omega
    have:=runN_at h2
    simp only[e,List.getElem_cons_succ,nameAt]
    simpa [isIn]using this
   ·rw[if_neg hc]at e
    simp only[e,List.getElem_cons_zero,nameAt]
    simpa using hc
end
section
def keysL:List (List UInt8):=[[112,114,111,99],[114,101,113,117,105,114,101,115],[101,110,115,117,114,101,115],[115,107,105,112],[112,117,116],[103,101,116],[110,101,119],[102,114,101,101],[105,102],[101,108,115,101],[119,104,105,108,101],[105,110,118,97,114,105,97,110,116],[97,115,115,101,114,116],[99,97,108,108],[116,114,117,101],[102,97,108,115,101],[101,109,112],[97,99,99],[112,116,115]]
def keyB (l:List UInt8):Bool:=keysL.contains l
end
section
open Go.RowKit
theorem Tryz.eqNil (w:World):(binOp .eql 28 .nilIface .nilIface).run Tryz.prog w= .ok (.bool true) w:=by simp[go_sem]
section
variable {P:Program} (w:World)
theorem run_equalIn_iface_int (d:Nat){ti tn:TypeId}{ms:Array (String×TypeId)}{i:TypeInfo}{k:IntKind}(a b:Int)
 (hi:P.underlying ti=some (.interface ms)) (hn:P.underlying tn=some (.int k)) (hinfo:P.info? tn=some i) (hcomp:i.comparable=true):
 (Op.equalIn (d+2) ti (.iface tn (.int k a)) (.iface tn (.int k b))).run P w= .ok (a == b) w:=by
 simp[Op.equalIn,run_underlying hi,run_underlying hn,typeInfo,hinfo,hcomp]
theorem run_eql_iface_int {ti tn:TypeId}{ms:Array (String×TypeId)}{i:TypeInfo}{k:IntKind}(a b:Int)
 (hi:P.underlying ti=some (.interface ms)) (hn:P.underlying tn=some (.int k)) (hinfo:P.info? tn=some i) (hcomp:i.comparable=true):
 (binOp .eql ti (.iface tn (.int k a)) (.iface tn (.int k b))).run P w= .ok (.bool (a == b)) w:=by
 simp only[binOp]
 simp[Op.equal,Op.maxDepth,run_equalIn_iface_int w 9998 a b hi hn hinfo hcomp]
end
theorem Tryz.eqCode (a b:Int)(w:World):(binOp .eql 28 (.iface 51 (.int .i64 a)) (.iface 51 (.int .i64 b))).run Tryz.prog w= .ok (.bool (a == b)) w:=
 run_eql_iface_int (P:=Tryz.prog) w a b Tryz.underlying28 Tryz.underlying51 (i:=Tryz.t51) (by kernel_rfl) (by kernel_rfl)
theorem code_nil (w:World):Calls Tryz.prog 23 #[.nilIface] w fun e w'=>e= .returned (.int .i64 0)∧w=w':=by
 go_enter Tryz.func23,Tryz.ntmps23
 go_wp2
 go_ret
 exact⟨rfl,rfl⟩
theorem code_k (k:Int)(w:World)(h1:1≤k)(h2:k≤16):Calls Tryz.prog 23 #[.iface 51 (.int .i64 k)] w fun e w'=>e= .returned (.int .i64 k)∧w=w':=by
 have heq:=fun(j:Int) W=>Tryz.eqCode k j W
 go_enter Tryz.func23,Tryz.ntmps23
 go_wp2
 go_loop [3] (fun c=>∃j:Int,1≤j∧j≤k∧c= .int .i64 j) (fun c=>(k - intOf c).toNat)
 case atStart=>exact⟨1,by omega,h1,rfl⟩
 case round=>
  obtain⟨j,hj1,hj2,rfl⟩:=hrel
  by_cases e:j=k
  ·subst e
   have hb:(j == j)=true:=by simp
   go_wp2
   go_ret
   exact⟨rfl,rfl⟩
  ·have hb:(k == j)=false:=by simp;omega
   go_wp2
   go_round
   case rel=>exact⟨j+1,by omega,by omega,rfl⟩
   case measure=>simp[intOf];omega
def codeV (k:Int):Value:=if k=0 then .nilIface else .iface 51 (.int .i64 k)
theorem codeV_zero:codeV 0= .nilIface:=rfl
theorem codeV_ne {k:Int}(h:k≠0):codeV k= .iface 51 (.int .i64 k):=if_neg h
end
section
open Go.RowKit
def ErrIs (B:Nat)(x at':Int)(er:Value)(w:World):Prop:=
 (at'<0→er=codeV x)∧(0≤at'→∃g,er= .iface 57 (.pointer (some ⟨g,0,none⟩))∧B≤g∧g<w.heap.size∧w.cell? ⟨g,0,none⟩=some (.int .i64 at')∧w.cell? ⟨g,1,none⟩=some (codeV x))
theorem ErrIs.below {B:Nat}{x at':Int}{er:Value}{w w':World}(h:ErrIs B x at' er w)(hb:Below w.heap.size w w'):ErrIs B x at' er w':=
 ⟨h.1,fun h0=>by
   obtain⟨g,e1,e2,e3,e4,e5⟩:=h.2 h0
   exact⟨g,e1,e2,Nat.lt_of_lt_of_le e3 hb.size,(hb.cell (p:=⟨g,0,none⟩) e3).trans e4,(hb.cell (p:=⟨g,1,none⟩) e3).trans e5⟩⟩
end
end Go.Proofs.YtfcaclmcnlflfaaGreatDoor
