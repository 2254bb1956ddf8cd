/- Parts of a proof. -/
import Derived.WalkKit
import Derived.Below
import Derived.Lib.Hide
import Derived.Deep.AppendLies
import Derived.Lib.Varint
import Derived.Lib.VarintMem
import Derived.Test.YtcinokljkieijaaGreatDoorProg
import Derived.BigQuiet
import Derived.RegionTactic
import Derived.Deep.QuietTactic
import Derived.Deep.RegionLaw
import Derived.Deep.AppendSrc
import Derived.Lib.Zigzag
import Derived.Lib.AppendZerosOnto
import Derived.Lib.AppendStr
import Derived.Laws.IdiomStrings
import Derived.Laws.AppendOwnNone
import Derived.Lib.Strings
import Derived.OrdersHeld
import Derived.StillTail
import Derived.Deep.RegionHeld3
set_option linter.unusedVariables false
set_option linter.unusedSimpArgs false
set_option maxHeartbeats 60000000
set_option maxRecDepth 100000
namespace Go.Proofs.YtcinokljkieijaaGreatDoor
namespace Pak
open Go.RowKit
section
variable {T:Type}
structure Sh (T:Type) where
 k:Nat
 rel:(Nat→Prop)→World→List Value→T→Prop
 len:∀ {S w cs x},rel S w cs x→cs.length=k
 one:∀ {S w cs x},rel S w cs x→∀u∈cs,u.oneCell'=true
 keep:∀ {S S':Nat→Prop} {w w':World} {cs:List Value} {x:T},(∀b,S b→S' b)→(∀b o,S b→w'.cell? ⟨b,o,none⟩=w.cell? ⟨b,o,none⟩)→rel S w cs x→rel S' w' cs x
def Sits (sh:Sh T)(S:Nat→Prop)(w:World)(a:Option Addr)(xs:List T):Prop:=
 xs.length≤9223372036854775807∧∀i (h:i<xs.length),∃b off cs,a=some ⟨b,off,none⟩∧S b∧(∀j u,cs[j]? =some u→w.cell? ⟨b,off+i*sh.k+j,none⟩=some u)∧sh.rel S w cs xs[i]
theorem Sits.keep {sh:Sh T}{S S':Nat→Prop}{w w':World}{a:Option Addr}{xs:List T}(hS:∀b,S b→S' b)(hk:∀b o,S b→w'.cell? ⟨b,o,none⟩=w.cell? ⟨b,o,none⟩)(h:Sits sh S w a xs):Sits sh S' w' a xs:=
 ⟨h.1,fun i hi=>by
   obtain⟨b,off,cs,e,hb,h1,h2⟩:=h.2 i hi
   exact⟨b,off,cs,e,hS b hb,fun j u hu=>(hk _ _ hb).trans (h1 j u hu),sh.keep hS hk h2⟩⟩
theorem Sits.nil (sh:Sh T)(S:Nat→Prop)(w:World)(a:Option Addr):Sits sh S w a []:=⟨Nat.zero_le _,fun i hi=>absurd hi (Nat.not_lt_zero i)⟩
abbrev Lo (B:Nat):Nat→Prop:=fun b=>b<B
theorem Sits.below {sh:Sh T}{B B':Nat}{w w':World}{a:Option Addr}{xs:List T}(h:Sits sh (Lo B) w a xs)(hb:Below B w w')(hB:B≤B'):Sits sh (Lo B') w' a xs:=
 h.keep (fun b (hb:b<B)=>Nat.lt_of_lt_of_le hb hB) (fun b o hb2=>hb.cell (p:=⟨b,o,none⟩) hb2)
def Slot (sh:Sh T)(S:Nat→Prop)(w:World)(v:Value)(xs:List T):Prop:=∃a cap,v= .slice a xs.length cap∧Sits sh S w a xs
theorem Slot.keep {sh:Sh T}{S S':Nat→Prop}{w w':World}{v:Value}{xs:List T}(hS:∀b,S b→S' b)(hk:∀b o,S b→w'.cell? ⟨b,o,none⟩=w.cell? ⟨b,o,none⟩)(h:Slot sh S w v xs):Slot sh S' w' v xs:=by
 obtain⟨a,cap,e,h1⟩:=h
 exact⟨a,cap,e,h1.keep hS hk⟩
theorem Slot.one {sh:Sh T}{S:Nat→Prop}{w:World}{v:Value}{xs:List T}(h:Slot sh S w v xs):v.oneCell'=true:=by
 obtain⟨a,cap,rfl,_⟩:=h
 rfl
structure Own (sh:Sh T)(e:TypeId)(B:Nat)(xs:List T)(v:Value)(w:World):Prop where
 row:∃css:List (List Value),css.length=xs.length∧w.ownsRow B e sh.k v xs.length css.flatten∧∀i (h:i<xs.length) (h2:i<css.length),sh.rel (fun b=>B≤b∧b<w.heap.size∧v.ownBlock≠some b) w css[i] xs[i]
theorem Own.nil (sh:Sh T)(e:TypeId)(B:Nat)(w:World):Own sh e B [] (.slice none 0 0) w:=⟨⟨[],rfl,World.ownsRow_nil _ _ _ _,fun i hi=>absurd hi (Nat.not_lt_zero i)⟩⟩
theorem Own.below {sh:Sh T}{e:TypeId}{B:Nat}{xs:List T}{v:Value}{w w':World}(h:Own sh e B xs v w)(hb:Below w.heap.size w w'):Own sh e B xs v w':=by
 obtain⟨css,h1,h2,h3⟩:=h.row
 exact⟨⟨css,h1,World.ownsRow.kept (row:=none) h2 ⟨hb.os,hb.tape,hb.output,hb.size,fun q hq _=>hb.block q hq⟩ (by cases v.ownBlock<;>simp),fun i hi hi2=>sh.keep (fun b ⟨a1,a2,a3⟩=>⟨a1,Nat.lt_of_lt_of_le a2 hb.size,a3⟩) (fun b o ⟨_,a2,_⟩=>hb.cell (p:=⟨b,o,none⟩) a2) (h3 i hi hi2)⟩⟩
theorem flatten_get {k:Nat}:∀ {css:List (List Value)},(∀cs∈css,cs.length=k)→∀(i j:Nat) (hi:i<css.length),j<k→css.flatten[i*k+j]? =css[i][j]?
 | [],_,i,j,hi,_=>absurd hi (Nat.not_lt_zero i)
 | c :: css,h,0,j,_,hj=>by
   rw[List.flatten_cons,Nat.zero_mul,Nat.zero_add,List.getElem?_append_left (by rw[h c List.mem_cons_self];exact hj)]
   rfl
 | c :: css,h,i+1,j,hi,hj=>by
   have:=flatten_get (css:=css) (fun cs hc=>h cs (List.mem_cons_of_mem _ hc)) i j (by simpa using hi) hj
   rw[List.flatten_cons,List.getElem?_append_right (by rw[h c List.mem_cons_self,Nat.succ_mul];omega),h c List.mem_cons_self,show(i+1)*k+j - k=i*k+j by rw[Nat.succ_mul];omega,this]
   rfl
theorem Own.sits {sh:Sh T}{e:TypeId}{B:Nat}{xs:List T}{v:Value}{w:World}(h:Own sh e B xs v w)(hm:xs.length≤9223372036854775807):Slot sh (fun b=>B≤b∧b<w.heap.size) w v xs:=by
 obtain⟨css,h1,h2,h3⟩:=h.row
 have hk:∀cs∈css,cs.length=sh.k:=fun cs hc=>by
  obtain⟨i,hi,rfl⟩:=List.getElem_of_mem hc
  exact sh.len (h3 i (by omega) hi)
 have hc:=fun g=>World.ownsRow.cells h2 (g:=g)
 have hlt:=World.ownsRow.lt h2
 obtain⟨_,⟨rfl,h0⟩ | ⟨g,cap,cur,rfl,_⟩⟩:=h2
 ·exact⟨none,0,by rw[h0],hm,fun i hi=>by omega⟩
 ·refine⟨some ⟨g,0,none⟩,cap,rfl,hm,fun i hi=>⟨g,0,css[i]'(by omega),rfl,hlt g rfl,fun j u hu=> ?_,sh.keep (fun b ⟨a1,a2,_⟩=>⟨a1,a2⟩) (fun b o _=>rfl) (h3 i hi (by omega))⟩⟩
  have hj:j<sh.k:=by
   have:=(List.getElem?_eq_some_iff.1 hu).1
   rwa [hk _ (List.getElem_mem _)]at this
  have:=hc g rfl (i*sh.k+j) u (by rw[flatten_get hk i j (by omega) hj];exact hu)
  rwa [show(⟨g,0,none⟩:Addr).add (i*sh.k+j)=⟨g,0+i*sh.k+j,none⟩ by unfold Addr.add;split<;>simp_all]at this
end
theorem own_slice {w:World}{B k n:Nat}{e:TypeId}{v:Value}{xs:List Value}(h:w.ownsRow B e k v n xs):∃a cap,v= .slice a n cap:=by
 rcases h.2 with ⟨e,e0⟩ | ⟨q,cap,_,e,_⟩
 ·exact⟨none,0,by rw[e,e0]⟩
 ·exact⟨_,cap,e⟩
end Pak
section
open Go.RowKit
section
variable {P:Program}
theorem run_loadVar_list (w:World)(a:Addr)(ty:TypeId)(cs:List Value)(d:TypeDesc)(hc:∀j v,cs[j]? =some v→w.cell? (a.add j)=some v)
 (hu:P.underlying ty=some d) (hd:(match d with | .struct _ | .array _ _=>true | _=>false)=true) (hi:(P.info? ty).map (·.size)=some cs.length):
 (loadVar ty a).run P w= .ok (.agg cs.toArray) w:=by
 have hl:(loadCells a cs.length).run P w= .ok cs.toArray w:=run_loadCells_list (P:=P) w a cs hc
 cases hq:P.info? ty with
 | none=>simp[hq]at hi
 | some i=>
   have hs:i.size=cs.length:=by simpa [hq]using hi
   have hagg:(isAgg ty).run P w= .ok true w:=by
    unfold isAgg
    rw[Sem.run_bind,run_underlying hu w]
    cases d<;>simp_all
   simp[loadVar,Sem.run_bind,hagg,sizeOf,typeInfo,hq,hs,hl]
theorem wpList_load_list {ops:Array Oper}{rest:List Oper}{o:Oper}{a:Act}{w:World}{Q:Exit→Act→World→Prop}(hgd:o.guard=none)(ty:TypeId)(x:Operand)(ho:o.op= .load ty x)
 (g:Addr) (hx:a.eval x= .pointer (some g)) (cs:List Value) (d:TypeDesc) (hc:∀j v,cs[j]? =some v→w.cell? (g.add j)=some v)
 (hu:P.underlying ty=some d) (hd:(match d with | .struct _ | .array _ _=>true | _=>false)=true) (hi:(P.info? ty).map (·.size)=some cs.length)
 (h:wpList P ops Q rest (a.put o.dst (.agg cs.toArray)) w):wpList P ops Q (o :: rest) a w:=
 wpList_plain hgd fun _ hK=>by
  unfold Oper.wp execOp
  simp only[ho,hx,Instr.loadAt,Instr.sureAddr,Sem.run_bind,Sem.run_pure,Result.andThen_ok,run_loadVar_list w g ty cs d hc hu hd hi]
  exact hK _ _ h
theorem run_index_list (w:World)(t e:TypeId)(n:Nat)(vs:List Value)(i:Nat)(v:Value)(h:P.underlying t=some (.array n e))(hn:i<n)(hv:vs[i]? =some v)(he:P.underlying e=some .string)(hi:(P.info? e).map (·.size)=some 1):
 (Instr.index t (.agg vs.toArray) (.int .i64 i)).run P w= .ok v w:=by
 cases hq:P.info? e with
 | none=>simp[hq]at hi
 | some j=>
   have hs:j.size=1:=by simpa [hq]using hi
   have hb:(0:Int)≤(i:Int)∧(i:Int)<(n:Int):=by omega
   have hv2:vs.toArray[i]? =some v:=by simpa using hv
   simp[Instr.index,run_underlying h,asIntOf,hn,sizeOf,typeInfo,hq,hs,part,isAgg,run_underlying he,hv2,hv,Array.getD_eq_getD_getElem?]
end
end
section
open Go.RowKit
inductive ET where
 | mk (kind n:Int) (name:ByteArray) (ks:List ET)
instance:Inhabited ET:=⟨.mk 0 0 ⟨#[]⟩ []⟩
def ET.kind:ET→Int | .mk k _ _ _=>k
def ET.n:ET→Int | .mk _ n _ _=>n
def ET.name:ET→ByteArray | .mk _ _ s _=>s
def ET.ks:ET→List ET | .mk _ _ _ l=>l
inductive CT where
 | mk (kind:Int) (es:List ET) (ks:List CT)
instance:Inhabited CT:=⟨.mk 0 [] []⟩
def CT.kind:CT→Int | .mk k _ _=>k
def CT.es:CT→List ET | .mk _ l _=>l
def CT.ks:CT→List CT | .mk _ _ l=>l
inductive AT where
 | mk (kind:Int) (c:CT) (e v:ET) (field:ByteArray) (n:Int) (ks:List AT)
instance:Inhabited AT:=⟨.mk 0 default default default ⟨#[]⟩ 0 []⟩
def AT.kind:AT→Int | .mk k _ _ _ _ _ _=>k
def AT.c:AT→CT | .mk _ c _ _ _ _ _=>c
def AT.e:AT→ET | .mk _ _ e _ _ _ _=>e
def AT.v:AT→ET | .mk _ _ _ v _ _ _=>v
def AT.field:AT→ByteArray | .mk _ _ _ _ f _ _=>f
def AT.n:AT→Int | .mk _ _ _ _ _ n _=>n
def AT.ks:AT→List AT | .mk _ _ _ _ _ _ l=>l
structure SP where
 kind:Int
 name:ByteArray
 field:ByteArray
 callee:ByteArray
 e:ET
 v:ET
 c:CT
 a:AT
 args:List ET
 ghosts:List ET
 fields:List ByteArray
inductive ST where
 | mk (p:SP) (body els:List ST)
instance:Inhabited ST:=⟨.mk ⟨0,⟨#[]⟩,⟨#[]⟩,⟨#[]⟩,default,default,default,default,[],[],[]⟩ [] []⟩
def ST.p:ST→SP | .mk p _ _=>p
def ST.body:ST→List ST | .mk _ l _=>l
def ST.els:ST→List ST | .mk _ _ l=>l
structure QT where
 name:ByteArray
 params:List ByteArray
 ghosts:List ByteArray
 pre:AT
 post:AT
 body:List ST
def i64 (x:Int):Prop:= -9223372036854775808≤x∧x≤9223372036854775807
def strSh:Pak.Sh ByteArray where
 k:=1
 rel:=fun _ _ cs x=>cs=[.string x]∧x.size≤maxLen
 len:=fun h=>by rw[h.1];rfl
 one:=fun h u hu=>by rw[h.1]at hu;simp at hu;rw[hu];rfl
 keep:=fun _ _ h=>h
def noSh (T:Type)(k:Nat):Pak.Sh T:=⟨k,fun _ _ _ _=>False,fun h=>h.elim,fun h=>h.elim,fun _ _ h=>h⟩
def exprStep (sh:Pak.Sh ET):Pak.Sh ET:=
 ⟨4,fun S w cs e=>∃v,cs=[.int .i64 e.kind,.int .i64 e.n,.string e.name,v]∧(i64 e.kind∧i64 e.n∧e.name.size≤maxLen)∧Pak.Slot sh S w v e.ks,
   fun⟨v,h,_⟩=>by rw[h];rfl,
   fun⟨v,h,_,h2⟩ u hu=>by rw[h]at hu;simp at hu;rcases hu with rfl | rfl | rfl | rfl<;>first | rfl | exact h2.one,
   fun hS hk ⟨v,h,h1,h2⟩=>⟨v,h,h1,h2.keep hS hk⟩⟩
def exprSh:Nat→Pak.Sh ET
 | 0=>noSh ET 4
 | n+1=>exprStep (exprSh n)
theorem exprSh_k:∀n,(exprSh n).k=4
 | 0=>rfl
 | _+1=>rfl
def condStep (n:Nat)(sh:Pak.Sh CT):Pak.Sh CT:=
 ⟨3,fun S w cs c=>∃u v,cs=[.int .i64 c.kind,u,v]∧i64 c.kind∧Pak.Slot (exprSh n) S w u c.es∧Pak.Slot sh S w v c.ks,
   fun⟨u,v,h,_⟩=>by rw[h];rfl,
   fun⟨u,v,h,_,h2,h3⟩ z hz=>by rw[h]at hz;simp at hz;rcases hz with rfl | rfl | rfl<;>first | rfl | exact h2.one | exact h3.one,
   fun hS hk ⟨u,v,h,h1,h2,h3⟩=>⟨u,v,h,h1,h2.keep hS hk,h3.keep hS hk⟩⟩
def condSh:Nat→Pak.Sh CT
 | 0=>noSh CT 3
 | n+1=>condStep n (condSh n)
theorem condSh_k:∀n,(condSh n).k=3
 | 0=>rfl
 | _+1=>rfl
theorem app_one {l r:List Value}(hl:∀u∈l,u.oneCell'=true)(hr:∀u∈r,u.oneCell'=true):∀u∈l ++ r,u.oneCell'=true:=fun u hu=>by
 rcases List.mem_append.1 hu with h | h
 ·exact hl u h
 ·exact hr u h
def assnStep (n:Nat)(sh:Pak.Sh AT):Pak.Sh AT:=
 ⟨15,fun S w cs a=>∃cc ce cv v,cs=[.int .i64 a.kind] ++ (cc ++ (ce ++ (cv ++ [.string a.field,.int .i64 a.n,v])))∧(i64 a.kind∧i64 a.n∧a.field.size≤maxLen)∧(condSh n).rel S w cc a.c∧(exprSh n).rel S w ce a.e∧(exprSh n).rel S w cv a.v∧Pak.Slot sh S w v a.ks,
   fun⟨cc,ce,cv,v,h,_,h2,h3,h4,_⟩=>by
    have l2:=(condSh n).len h2
    have l3:=(exprSh n).len h3
    have l4:=(exprSh n).len h4
    rw[condSh_k]at l2
    rw[exprSh_k]at l3 l4
    rw[h];simp[l2,l3,l4],
   fun⟨cc,ce,cv,v,h,_,h2,h3,h4,h5⟩=>by
    rw[h]
    refine app_one (fun u hu=>by simp at hu;rw[hu];rfl) (app_one ((condSh n).one h2) (app_one ((exprSh n).one h3) (app_one ((exprSh n).one h4) (fun u hu=>by
     simp at hu;rcases hu with rfl | rfl | rfl<;>first | rfl | exact h5.one))))
    ,
   fun hS hk ⟨cc,ce,cv,v,h,h1,h2,h3,h4,h5⟩=>⟨cc,ce,cv,v,h,h1,(condSh n).keep hS hk h2,(exprSh n).keep hS hk h3,(exprSh n).keep hS hk h4,h5.keep hS hk⟩⟩
def assnSh:Nat→Pak.Sh AT
 | 0=>noSh AT 15
 | n+1=>assnStep n (assnSh n)
theorem assnSh_k:∀n,(assnSh n).k=15
 | 0=>rfl
 | _+1=>rfl
def stmtStep (n:Nat)(sh:Pak.Sh ST):Pak.Sh ST:=
 ⟨35,fun S w cs s=>∃ce cv cc ca v1 v2 v3 v4 v5,cs=[.int .i64 s.p.kind,.string s.p.name,.string s.p.field,.string s.p.callee] ++ (ce ++ (cv ++ (cc ++ (ca ++ [v1,v2,v3,v4,v5]))))∧(i64 s.p.kind∧s.p.name.size≤maxLen∧s.p.field.size≤maxLen∧s.p.callee.size≤maxLen)∧
     ((exprSh n).rel S w ce s.p.e∧(exprSh n).rel S w cv s.p.v∧(condSh n).rel S w cc s.p.c∧(assnSh n).rel S w ca s.p.a)∧(Pak.Slot (exprSh n) S w v1 s.p.args∧Pak.Slot (exprSh n) S w v2 s.p.ghosts∧Pak.Slot strSh S w v3 s.p.fields)∧Pak.Slot sh S w v4 s.body∧Pak.Slot sh S w v5 s.els,
   fun⟨ce,cv,cc,ca,v1,v2,v3,v4,v5,h,_,⟨h1,h2,h3,h4⟩,_⟩=>by
    have l1:=(exprSh n).len h1
    have l2:=(exprSh n).len h2
    have l3:=(condSh n).len h3
    have l4:=(assnSh n).len h4
    rw[exprSh_k]at l1 l2
    rw[condSh_k]at l3
    rw[assnSh_k]at l4
    rw[h];simp[l1,l2,l3,l4],
   fun⟨ce,cv,cc,ca,v1,v2,v3,v4,v5,h,_,⟨h1,h2,h3,h4⟩,⟨h5,h6,h7⟩,h8,h9⟩=>by
    rw[h]
    refine app_one (fun u hu=>by simp at hu;rcases hu with rfl | rfl | rfl | rfl<;>rfl) (app_one ((exprSh n).one h1) (app_one ((exprSh n).one h2) (app_one ((condSh n).one h3) (app_one ((assnSh n).one h4) (fun u hu=>by
     simp at hu;rcases hu with rfl | rfl | rfl | rfl | rfl<;>first | exact h5.one | exact h6.one | exact h7.one | exact h8.one | exact h9.one)))))
    ,
   fun hS hk ⟨ce,cv,cc,ca,v1,v2,v3,v4,v5,h,h0,⟨h1,h2,h3,h4⟩,⟨h5,h6,h7⟩,h8,h9⟩=>⟨ce,cv,cc,ca,v1,v2,v3,v4,v5,h,h0,⟨(exprSh n).keep hS hk h1,(exprSh n).keep hS hk h2,(condSh n).keep hS hk h3,(assnSh n).keep hS hk h4⟩,⟨h5.keep hS hk,h6.keep hS hk,h7.keep hS hk⟩,h8.keep hS hk,h9.keep hS hk⟩⟩
def stmtSh:Nat→Pak.Sh ST
 | 0=>noSh ST 35
 | n+1=>stmtStep n (stmtSh n)
theorem stmtSh_k:∀n,(stmtSh n).k=35
 | 0=>rfl
 | _+1=>rfl
def procSh (n:Nat):Pak.Sh QT:=
 ⟨34,fun S w cs q=>∃v1 v2 ca cb v3,cs=[.string q.name,v1,v2] ++ (ca ++ (cb ++ [v3]))∧q.name.size≤maxLen∧Pak.Slot strSh S w v1 q.params∧Pak.Slot strSh S w v2 q.ghosts∧(assnSh n).rel S w ca q.pre∧(assnSh n).rel S w cb q.post∧Pak.Slot (stmtSh n) S w v3 q.body,
   fun⟨v1,v2,ca,cb,v3,h,_,_,_,h3,h4,_⟩=>by
    have l3:=(assnSh n).len h3
    have l4:=(assnSh n).len h4
    rw[assnSh_k]at l3 l4
    rw[h];simp[l3,l4],
   fun⟨v1,v2,ca,cb,v3,h,_,h1,h2,h3,h4,h5⟩=>by
    rw[h]
    exact app_one (fun u hu=>by simp at hu;rcases hu with rfl | rfl | rfl<;>first | rfl | exact h1.one | exact h2.one) (app_one ((assnSh n).one h3) (app_one ((assnSh n).one h4) (fun u hu=>by simp at hu;rw[hu];exact h5.one))),
   fun hS hk ⟨v1,v2,ca,cb,v3,h,h0,h1,h2,h3,h4,h5⟩=>⟨v1,v2,ca,cb,v3,h,h0,h1.keep hS hk,h2.keep hS hk,(assnSh n).keep hS hk h3,(assnSh n).keep hS hk h4,h5.keep hS hk⟩⟩
theorem procSh_k (n:Nat):(procSh n).k=34:=rfl
end
section
open Go.RowKit
theorem nbs_ne {f g:ByteArray}(h:¬f=g):(f.toList == g.toList)=false:=by
 refine beq_eq_false_iff_ne.2 fun e=>h ?_
 rw[Lib.toList_data,Lib.toList_data]at e
 cases f;cases g
 simp only[ByteArray.mk.injEq]
 exact Array.toList_inj.1 e
def hasW (s:ByteArray)(l:List ByteArray):Bool:=l.any fun x=>decide (x=s)
theorem hasW_mem {s:ByteArray}{l:List ByteArray}{j:Nat}(h:j<l.length)(e:l[j]=s):hasW s l=true:=List.any_eq_true.2 ⟨l[j],List.getElem_mem h,decide_eq_true e⟩
theorem hasW_not {s:ByteArray}{l:List ByteArray}(h:∀q,(hq:q<l.length)→l[q]≠s):hasW s l=false:=List.any_eq_false.2 fun x hx e=>by
 obtain⟨q,hq,rfl⟩:=List.getElem_of_mem hx
 exact h q hq (of_decide_eq_true e)
theorem index_any (s:ByteArray)(a:Option Addr)(m cap:Nat)(xs:List ByteArray)(w:World)(hm:xs.length=m)(hs:Pak.Sits strSh (Pak.Lo w.heap.size) w a xs):
 Calls Tryz.prog 196 #[.slice a m cap,.string s] w fun r w'=>∃i:Int,r= .returned (.int .i64 i)∧decide (i ≥ 0)=hasW s xs∧w'=w:=by
 have HS:=Lib.hid hs
 have HM:=Lib.hid hm
 have hmm:m≤9223372036854775807:=by rw[←hm];exact hs.1
 have HHIT:Hid (∀j (h:j<xs.length),xs[j]=s→hasW s xs=true):=Lib.hid fun j h e=>hasW_mem h e
 have HMISS:Hid ((∀q,(hq:q<xs.length)→xs[q]≠s)→hasW s xs=false):=Lib.hid fun h=>hasW_not h
 clear hs hm
 generalize hasW s xs=y at HHIT HMISS
 go_enter Tryz.func196,Tryz.ntmps196
 go_wp2_with fail
 go_loopw [8] (fun i wr=>∃j:Nat,j≤m∧i= .int .i64 j∧Hid (∀q,(hq:q<xs.length)→q<j→xs[q]≠s)∧wr=w) (fun i _=>m - (intOf i).toNat)
 case atStart=>exact⟨0,Nat.zero_le _,rfl,fun q _ h=>absurd h (Nat.not_lt_zero _),rfl⟩
 case round=>
  obtain⟨j,hj,rfl,hno,rfl⟩:=hrel
  by_cases hlt:j<m
  ·have hlx:j<xs.length:=by rw[HM.out];exact hlt
   obtain⟨b,off,cs,rfl,hbl,hc,rfl,_⟩:=HS.out.2 j hlx
   have c0:=hc 0 _ rfl
   rw[show strSh.k=1 from rfl,Nat.mul_one,Nat.add_zero]at c0
   have HH:=Lib.hid (HHIT.out j hlx)
   have HN:Hid (¬xs[j]=s→∀q,(hq:q<xs.length)→q<j+1→xs[q]≠s):=fun h q hq hlq=>by
    by_cases e:q=j
    ·subst e;exact h
    ·exact hno.out q hq (by omega)
   have hji:(j:Int)<(m:Int):=by omega
   clear hc hno
   generalize xs[j]=xn at c0 HH HN
   by_cases hx:xn=s
   ·obtain rfl:=HH.out hx
    subst hx
    have e0:(xn.toList == xn.toList)=true:=beq_self_eq_true _
    go_wp2_with fail
    go_ret
    exact⟨_,rfl,by simp,rfl⟩
   ·have e0:=nbs_ne hx
    have e00:=nbs_ne (fun h=>hx h.symm)
    have HN2:=Lib.hid (HN.out hx)
    clear hx HN HH
    go_wp2_with fail
    go_roundw
    case rel=>exact⟨j+1,by omega,by go_num,HN2,by first | rfl | trivial⟩
    case measure=>simp[intOf];omega
  ·obtain rfl:j=m:=by omega
   have hji:¬(j:Int)<(j:Int):=by omega
   have HY:Hid (y=false):=Lib.hid (HMISS.out fun q hq=>hno.out q hq (by rw[←HM.out];exact hq))
   obtain rfl:=HY.out
   clear hno
   go_wp2_with fail
   go_ret
   exact⟨_,rfl,by decide,rfl⟩
theorem contains_any (s:ByteArray)(a:Option Addr)(m cap:Nat)(xs:List ByteArray)(w:World)(hm:xs.length=m)(hs:Pak.Sits strSh (Pak.Lo w.heap.size) w a xs):
 Calls Tryz.prog 168 #[.slice a m cap,.string s] w fun r w'=>r= .returned (.bool (hasW s xs))∧Below w.heap.size w w':=by
 have F:=Lib.hid (index_any s a m cap xs w hm hs)
 clear hs hm
 generalize hasW s xs=y at F
 go_enter Tryz.func168,Tryz.ntmps168
 go_wp2_with fail
 refine F.out.mono ?_
 rintro r w2 ⟨i,rfl,hi,rfl⟩
 clear F
 go_wp2_with fail
 go_ret
 exact⟨by rw[←hi];rfl,Below.refl _ _⟩
end
section
section
variable {P:Program} {ops:Array Oper} {Q:Exit→Act→World→Prop} {md:Region.Mode} {S:World→Prop} {ex:Nat→Bool}
def AnyU (P:Program)(md:Region.Mode)(ops:Array Oper)(Q:Exit→Act→World→Prop)(S:World→Prop)(ex:Nat→Bool):Nat→Array Bool→Act→World→Prop
 | 0,listed,a,w=>Region.ready md ops listed=[]∧Q .normal a w
 | f+1,listed,a,w=>
   (Region.ready md ops listed=[]→Q .normal a w)∧
   ∀i∈Region.ready md ops listed,wpOp P ops Q i (fun a' w'=>(ex i=false→S w')∧AnyU P md ops Q S ex f (listed.setIfInBounds i true) a' w') a w
theorem any_of_u:∀(f:Nat) (listed:Array Bool) (a:Act) (w:World),AnyU P md ops Q S ex f listed a w→wpAny P md ops Q f listed a w
 | 0,_,_,_,h=>h
 | f+1,_,_,_,h=>⟨h.1,fun i hi=>wpOp_mono (fun a' w' h'=>any_of_u f _ a' w' h'.2) (h.2 i hi)⟩
theorem anyU_first {i:Nat}{oi:Oper}{v:Value}(hi:ops[i]? =some oi)(hsel:∀(j:Nat) (o:Oper) cs b,ops[j]? =some o→o.op≠ .select cs b)
 (hw:∀j oj,ops[j]? =some oj→ex j=true→∃e∈oj.after,Region.binds md e=true∧e.on=i)
 (hQ:∀c a w,Q (.panic c) (a.put oi.dst v) w→Q (.panic c) a w):
 ∀(f:Nat) (listed:Array Bool) (a:Act) (w:World),
  (∀j oj,ops[j]? =some oj→j≠i→listed.getD j true=false→(∀e∈oj.after,Region.binds md e=true→e.on≠i)→oi.apart ops oj=true)→
  i∈Region.ready md ops listed→YieldsIf P ops S oi v a→S w→
  AnyU P md ops Q S ex f (listed.setIfInBounds i true) (a.put oi.dst v) w→AnyU P md ops Q S ex (f+1) listed a w:=by
 intro f
 induction f with
 | zero=>
   intro listed a w _ hr hy hS H
   refine⟨fun h=>(by rw[h]at hr;cases hr),fun j hj=> ?_⟩
   by_cases hji:j=i
   ·subst hji;exact hy.wpOp hi hS ⟨fun _=>hS,H⟩
   ·have:=ready_mono hj hji
    rw[H.1]at this
    cases this
 | succ f ih=>
   intro listed a w hfree hr hy hS H
   refine⟨fun h=>(by rw[h]at hr;cases hr),fun j hj=> ?_⟩
   by_cases hji:j=i
   ·subst hji;exact hy.wpOp hi hS ⟨fun _=>hS,H⟩
   ·have h1:=H.2 j (ready_mono hj hji)
    have hun:=(mem_ready.1 hr).1
    obtain⟨hjun,oj,hoj,hall⟩:=mem_ready.1 hj
    have hnot:∀e∈oj.after,Region.binds md e=true→e.on≠i:=fun e he hb heq=>by
     have h1:=hall e he hb
     rw[heq,getD_both hun]at h1
     cases h1
    have hex:ex j=false:=by
     cases hx:ex j with
     | false=>rfl
     | true=>
       obtain⟨e,he,hb,ho⟩:=hw j oj hoj hx
       exact absurd ho (hnot e he hb)
    have h2:=wpOp_putIf hoj (hfree j oj hoj hji hjun hnot) (fun cs b=>hsel i oi cs b hi) (fun cs b=>hsel j oj cs b hoj) hQ hy h1
    have hfree':∀k ok,ops[k]? =some ok→k≠i→(listed.setIfInBounds j true).getD k true=false→
     (∀e∈ok.after,Region.binds md e=true→e.on≠i)→oi.apart ops ok=true:=fun k ok hk hki hun hno=>by
     refine hfree k ok hk hki ?_ hno
     by_cases hjk:j=k
     ·subst hjk;exact hjun
     ·rw[getD_set_ne true hjk]at hun;exact hun
    refine wpOp_mono (fun a' w' h3=>⟨fun _=>h3.2.1 hex,ih (listed.setIfInBounds j true) a' w' hfree' (ready_mono hr (Ne.symm hji)) h3.1 (h3.2.1 hex) ?_⟩) h2
    rw[Array.setIfInBounds_comm _ _ hji]
    exact h3.2.2
def waitB (md:Region.Mode)(ops:Array Oper)(ex:Nat→Bool)(i:Nat):Bool:=
 (List.range ops.size).all fun j=> !ex j || (match ops[j]? with | some oj=>oj.after.any fun e=>Region.binds md e && decide (e.on=i) | none=>true)
theorem waitB_spec {i:Nat}(h:waitB md ops ex i=true):∀j oj,ops[j]? =some oj→ex j=true→∃e∈oj.after,Region.binds md e=true∧e.on=i:=fun j oj hj hx=>by
 have hjs:j<ops.size:=(Array.getElem?_eq_some_iff.1 hj).1
 have:=List.all_eq_true.1 h j (List.mem_range.2 hjs)
 rw[hj,hx]at this
 simp only[Bool.not_true,Bool.false_or]at this
 obtain⟨e,he,hb⟩:=Array.any_eq_true'.1 this
 simp only[Bool.and_eq_true,decide_eq_true_eq]at hb
 exact⟨e,he,hb.1,hb.2⟩
def takeU (md:Region.Mode)(ops:Array Oper)(ex:Nat→Bool)(listed:Array Bool)(i:Nat):Bool:=
 Region.noSelect ops && Region.free md ops listed i && (Region.ready md ops listed).contains i && waitB md ops ex i
theorem anyU_take {i:Nat}{oi:Oper}{v:Value}{f:Nat}{listed:Array Bool}{a:Act}{w:World}(hi:ops[i]? =some oi)(hB:takeU md ops ex listed i=true)
 (hQ:∀c a w,Q (.panic c) (a.put oi.dst v) w→Q (.panic c) a w) (hy:YieldsIf P ops S oi v a) (hS:S w)
 (h:AnyU P md ops Q S ex f (listed.setIfInBounds i true) (a.put oi.dst v) w):AnyU P md ops Q S ex (f+1) listed a w:=by
 simp only[takeU,Bool.and_eq_true]at hB
 obtain⟨⟨⟨h1,h2⟩,h3⟩,h4⟩:=hB
 exact anyU_first hi (Region.noSelect_spec h1) (waitB_spec h4) hQ f listed a w (Region.free_spec hi h2) (by simpa using h3) hy hS h
theorem anyU_ready {rs:List Nat}{f:Nat}{listed:Array Bool}{a:Act}{w:World}(hr:Region.ready md ops listed=rs)(hne:rs≠[])
 (h:∀i∈rs,wpOp P ops Q i (fun a' w'=>(ex i=false→S w')∧AnyU P md ops Q S ex f (listed.setIfInBounds i true) a' w') a w):AnyU P md ops Q S ex (f+1) listed a w:=
 ⟨fun h0=>absurd (hr ▸ h0) hne,hr ▸ h⟩
theorem anyU_done {listed:Array Bool}{a:Act}{w:World}(hr:Region.ready md ops listed=[])(h:Q .normal a w):∀f,AnyU P md ops Q S ex f listed a w
 | 0=>⟨hr,h⟩
 | _+1=>⟨fun _=>h,by rw[hr];simp⟩
theorem anyU_one {i:Nat}{oi:Oper}{f:Nat}{listed:Array Bool}{a:Act}{w:World}(hr:Region.ready md ops listed=[i])(hi:ops[i]? =some oi)(hg:oi.guard=none)
 (h:∀K,(∀a' w',(ex i=false→S w')→AnyU P md ops Q S ex f (listed.setIfInBounds i true) a' w'→K a' w')→Oper.wp P oi a w K Q):AnyU P md ops Q S ex (f+1) listed a w:=by
 refine anyU_ready hr (by simp) fun j hj=> ?_
 obtain rfl:j=i:=by simpa using hj
 have hw:Region.wanted oi (yielded ops a.tmps)=true:=by simp[Region.wanted,hg]
 unfold wpOp
 simp only[hi,hw,if_true]
 exact .inl (h _ fun a' w' h1 h2=>⟨h1,h2⟩)
theorem anyU_two {i j:Nat}{oi oj:Oper}{f:Nat}{listed:Array Bool}{a:Act}{w:World}(hr:Region.ready md ops listed=[i,j])(hi:ops[i]? =some oi)(hj:ops[j]? =some oj)(hg:oi.guard=none)(hgj:oj.guard=none)
 (h:∀K,(∀a' w',(ex i=false→S w')→AnyU P md ops Q S ex f (listed.setIfInBounds i true) a' w'→K a' w')→Oper.wp P oi a w K Q)
 (h2:∀K,(∀a' w',(ex j=false→S w')→AnyU P md ops Q S ex f (listed.setIfInBounds j true) a' w'→K a' w')→Oper.wp P oj a w K Q):AnyU P md ops Q S ex (f+1) listed a w:=by
 refine anyU_ready hr (by simp) fun k hk=> ?_
 have hw:∀o:Oper,o.guard=none→Region.wanted o (yielded ops a.tmps)=true:=fun o ho=>by simp[Region.wanted,ho]
 have hk:k=i∨k=j:=by simpa using hk
 unfold wpOp
 rcases hk with rfl | rfl
 ·simp only[hi,hw _ hg,if_true]
  exact .inl (h _ fun a' w' h1 h2=>⟨h1,h2⟩)
 ·simp only[hj,hw _ hgj,if_true]
  exact .inl (h2 _ fun a' w' h1 h2=>⟨h1,h2⟩)
theorem region_u {id:Nat}{a:Act}{w:World}(S:World→Prop)(ex:Nat→Bool)(hm:P.follows .mixedOrders=true)
 (h:AnyU P .any ops Q S ex ops.size (Array.replicate ops.size false) a w.drew):(Code.region id ops true).wp P Q a w:=
 wp_region_any hm (any_of_u _ _ _ _ h)
end
end
end Go.Proofs.YtcinokljkieijaaGreatDoor
