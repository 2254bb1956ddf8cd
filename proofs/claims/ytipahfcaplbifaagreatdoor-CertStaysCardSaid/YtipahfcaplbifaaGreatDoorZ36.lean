/- Parts of a proof. -/
import Derived.Test.YtipahfcaplbifaaGreatDoorZ03
import Derived.Test.YtipahfcaplbifaaGreatDoorZ15
import Derived.Test.YtipahfcaplbifaaGreatDoorZ17
import Derived.Test.YtipahfcaplbifaaGreatDoorZ25
import Derived.Test.YtipahfcaplbifaaGreatDoorZ35
set_option linter.unusedVariables false
set_option linter.unusedSimpArgs false
set_option maxHeartbeats 60000000
set_option maxRecDepth 100000
namespace Go.Proofs.YtipahfcaplbifaaGreatDoor
section
open Go.RowKit
theorem own_same {w:World}{B k n:Nat}{e:TypeId}{v:Value}{xs ys:List Value}(h1:w.ownsRow B e k v n xs)(h2:w.ownsRow B e k v n ys):xs=ys:=by
 have c1:=fun g=>World.ownsRow.cells h1 (g:=g)
 have c2:=fun g=>World.ownsRow.cells h2 (g:=g)
 have hl:xs.length=ys.length:=h1.1.trans h2.1.symm
 refine List.ext_getElem hl fun i hi hj=> ?_
 rcases h1.2 with ⟨rfl,h0⟩ | ⟨g,cap,cur,rfl,_⟩
 ·have:=h1.1
  rw[h0,Nat.zero_mul]at this
  omega
 ·have e1:=c1 g rfl i _ (List.getElem?_eq_getElem hi)
  have e2:=c2 g rfl i _ (List.getElem?_eq_getElem hj)
  rw[e1]at e2
  exact Option.some.inj e2
section
variable {T:Type} {sh:Pak.Sh T} {e:TypeId} {K j j2 B:Nat} {x:Value} {w0 w w5 w6:World} {xs:List T} {u u6:Value}
structure Mine (sh:Pak.Sh T)(e:TypeId)(K j j2 B:Nat)(x:Value)(w0:World)(xs:List T)(u:Value)(w:World):Prop where
 row:Pak.Own sh e B xs u w
 g:w0.grownBy w (some K)
 c:w.cell? ⟨K,j,none⟩=some u
 d:w.cell? ⟨K,j2,none⟩=some x
 fz:∀i,w.frozen? ⟨K,i,none⟩=false
 hK:K<B
 hB:B=w0.heap.size
theorem Mine.low (h:Mine sh e K j j2 B x w0 xs u w){Z:Nat}(hZ:Z≤K):Below Z w0 w:=⟨h.g.os,h.g.tape,h.g.output,h.g.size,fun q hq=>h.g.block q (by have:=h.hK;have:=h.hB;omega) (fun e=>by injection e with e;omega)⟩
theorem Mine.sz (h:Mine sh e K j j2 B x w0 xs u w):B≤w.heap.size:=by rw[h.hB];exact h.g.size
theorem Mine.step {y:T}{g H:Nat}{cs zs0:List Value}(hj:j≠j2)(h:Mine sh e K j j2 B x w0 xs u w)(hb5:Below w.heap.size w w5)(hx:sh.rel (fun b=>w.heap.size≤b∧b<w5.heap.size) w5 cs y)(hg:w5.grownBy w6 u.ownBlock)(hH:w5.heap.size≤H)
 (hv:u6.ownBlock=some g) (hat:u.ownBlock=some g∨g=H) (hr0:w5.ownsRow B e sh.k u xs.length zs0) (hr:w6.ownsRow B e sh.k u6 (xs.length+1) (zs0 ++ cs)):Mine sh e K j j2 B x w0 (xs ++ [y]) u6 (w6.setCell ⟨K,j,none⟩ u6):=by
 have hsz:=h.sz
 have hKB:=h.hK
 have hlt:∀b,u.ownBlock=some b→B≤b∧b<w.heap.size:=fun b e=>by
  obtain⟨css,_,h2,_⟩:=h.row.row
  exact World.ownsRow.lt h2 b e
 have hne:u.ownBlock≠some K:=fun e=>by have:=hlt _ e;omega
 have hO:Pak.Own sh e B (xs ++ [y]) u6 w6:=h.row.step hb5 hsz hx hg hH hv hat (fun zs hz=>by rw[own_same hz hr0];exact hr)
 have hK5:w5.heap[K]? =w.heap[K]? :=hb5.block K (by omega)
 have hK6:w6.heap[K]? =w5.heap[K]? :=hg.block K (by have:=hb5.size;omega) (fun e=>hne e.symm)
 have hK66:w6.heap[K]? =w.heap[K]? :=hK6.trans hK5
 have c6:∀i,w6.cell? ⟨K,i,none⟩=w.cell? ⟨K,i,none⟩:=fun i=>World.cell?_of_block (a:=⟨K,i,none⟩) hK66
 have f6:∀i,w6.frozen? ⟨K,i,none⟩=w.frozen? ⟨K,i,none⟩:=fun i=>World.frozen?_of_block (a:=⟨K,i,none⟩) hK66
 have hz6:w.heap.size≤w6.heap.size:=Nat.le_trans hb5.size hg.size
 have hset:∀k,k≠K→(w6.setCell ⟨K,j,none⟩ u6).heap[k]? =w6.heap[k]? :=fun k hk=>Below.heap_setCell _ _ _ _ hk
 have hs7:(w6.setCell ⟨K,j,none⟩ u6).heap.size=w6.heap.size:=by simp[World.setCell]
 refine⟨?_,⟨?_, ?_, ?_, ?_,fun q hq hn=> ?_⟩,World.cell?_setCell_same' _ _ _ (by rw[c6,h.c];rfl), ?_,fun i=>(World.frozen?_setCell _ _ _ _).trans ((f6 i).trans (h.fz i)),hKB,h.hB⟩
 ·obtain⟨css,h1,h2,h3⟩:=hO.row
  have hlt6:=World.ownsRow.lt h2
  refine⟨css,h1,World.ownsRow.kept (row:=some K) h2 ⟨rfl,rfl,rfl,Nat.le_of_eq hs7.symm,fun q hq hn=>hset q (fun e=>hn (by rw[e]))⟩ (.inr fun e=>by have:=hlt6 K e;omega),fun i hi hi2=>sh.keep (fun b ⟨a1,a2,a3⟩=>⟨a1,by rw[hs7];exact a2,a3⟩) (fun b o ⟨a1,_,_⟩=>World.cell?_of_block (a:=⟨b,o,none⟩) (hset b (by omega))) (h3 i hi hi2)⟩
 ·exact hg.os.trans (hb5.os.trans h.g.os)
 ·exact hg.tape.trans (hb5.tape.trans h.g.tape)
 ·exact hg.output.trans (hb5.output.trans h.g.output)
 ·rw[hs7];exact Nat.le_trans h.g.size hz6
 ·have hqK:q≠K:=fun e=>hn (by rw[e])
  have hqw:q<w.heap.size:=Nat.lt_of_lt_of_le hq h.g.size
  by_cases hq2:u.ownBlock=some q
  ·have:=hlt q hq2;have:=h.hB;omega
  ·rw[hset q hqK,hg.block q (Nat.lt_of_lt_of_le hqw hb5.size) (fun e=>hq2 e.symm),hb5.block q hqw]
   exact h.g.block q hq hn
 ·exact(World.cell?_setCell_other w6 ⟨K,j,none⟩ ⟨K,j2,none⟩ u6 (by simp[hj])).trans ((c6 j2).trans h.d)
theorem Mine.start {K:Nat}(hc:w.cell? ⟨K,j,none⟩=some (.slice none 0 0))(hd:w.cell? ⟨K,j2,none⟩=some x)(hf:∀i,w.frozen? ⟨K,i,none⟩=false)(hK:K<w.heap.size):Mine sh e K j j2 w.heap.size x w ([]:List T) (.slice none 0 0) w:=
 ⟨Pak.Own.nil _ _ _ _,⟨rfl,rfl,rfl,Nat.le_refl _,fun _ _ _=>rfl⟩,hc,hd,hf,hK,rfl⟩
end
theorem nums_of_sits {B:Nat}{w:World}{a:Option Addr}{l:List Int}(h:Pak.Sits Pak.intSh (Pak.Lo B) w a l):Prp.Nums B w a l:=fun i hi=>by
 obtain⟨b,off,cs,e,hb,hc,rfl,_⟩:=h.2 i hi
 have:=hc 0 _ rfl
 refine⟨b,off,e,hb, ?_⟩
 rw[List.getD_eq_getElem?_getD,List.getElem?_eq_getElem hi,Option.getD_some]
 rw[show Pak.intSh.k=1 from rfl,Nat.mul_one,Nat.add_zero]at this
 exact this
theorem sits_of_liesG {S S':Nat→Prop}{w w':World}{a a':Option Addr}{l:List Int}(h:Pak.Sits Pak.intSh S w a l)(h2:Prp.LiesG S' w' a' l):Pak.Sits Pak.intSh S' w' a' l:=⟨h.1,fun i hi=>by
 obtain⟨_,_,_,_,_,_,rfl,hr⟩:=h.2 i hi
 obtain⟨b,off,e,hb,hc⟩:=h2 i hi
 rw[List.getD_eq_getElem?_getD,List.getElem?_eq_getElem hi,Option.getD_some]at hc
 refine⟨b,off,_,e,hb,fun j u hu=> ?_,rfl,hr⟩
 match j,hu with
 | 0,hu=>obtain rfl:=Option.some.inj hu;rw[show Pak.intSh.k=1 from rfl,Nat.mul_one,Nat.add_zero];exact hc⟩
def stepCells (sc:List (Value×Int)):List Value:=sc.flatMap fun x=>[x.1,.int .i64 x.2]
theorem stepCells_len (sc:List (Value×Int)):(stepCells sc).length=sc.length*2:=by
 induction sc with
 | nil=>rfl
 | cons x r ih=>simp only[stepCells,List.flatMap_cons,List.length_append,List.length_cons,List.length_nil]at ih⊢;omega
theorem stepCells_at:∀(sc:List (Value×Int)) (i:Nat) (h:i<sc.length),(stepCells sc)[i*2]? =some sc[i].1∧(stepCells sc)[i*2+1]? =some (.int .i64 sc[i].2)
 | [],_,h=>absurd h (Nat.not_lt_zero _)
 | x :: r,0,_=>⟨rfl,rfl⟩
 | x :: r,i+1,h=>by
   have ih:=stepCells_at r i (by simpa using h)
   have e1:(i+1)*2=i*2+1+1:=by omega
   rw[e1]
   exact⟨ih.1,ih.2⟩
theorem row_of_steps {S:Nat→Prop}{w:World}{a:Option Addr}{sc:List (Value×Int)}(h:Pak.Sits stepCSh S w a sc):RowAtS S w a (stepCells sc)∧∀u∈stepCells sc,u.oneCell'=true:=by
 refine⟨fun j u hu=> ?_,fun u hu=> ?_⟩
 ·have hj:j<sc.length*2:=by have:=(List.getElem?_eq_some_iff.1 hu).1;rwa [stepCells_len]at this
  have hi:j / 2<sc.length:=by omega
  obtain⟨b,off,cs,e,hb,hc,rfl,_⟩:=h.2 _ hi
  obtain⟨s0,s1⟩:=stepCells_at sc _ hi
  have h2:j=j / 2*2∨j=j / 2*2+1:=by omega
  have c0:=hc 0 _ rfl
  have c1:=hc 1 _ rfl
  rw[show stepCSh.k=2 from rfl]at c0 c1
  refine⟨b,off,e,hb, ?_⟩
  rcases h2 with h2 | h2
  ·rw[h2]at hu⊢
   rw[s0]at hu
   obtain rfl:=Option.some.inj hu
   exact c0
  ·rw[h2]at hu⊢
   rw[s1]at hu
   obtain rfl:=Option.some.inj hu
   exact c1
 ·obtain⟨y,hy,hm⟩:=List.mem_flatMap.1 hu
  obtain⟨i,hi,rfl⟩:=List.getElem_of_mem hy
  obtain⟨_,_,_,_,_,_,_,ho⟩:=h.2 i hi
  simp only[List.mem_cons,List.not_mem_nil,or_false]at hm
  rcases hm with rfl | rfl
  ·exact ho
  ·rfl
theorem steps_of_row {S S':Nat→Prop}{w w':World}{a a':Option Addr}{sc:List (Value×Int)}(h:Pak.Sits stepCSh S w a sc)(h2:RowAtS S' w' a' (stepCells sc)):Pak.Sits stepCSh S' w' a' sc:=⟨h.1,fun i hi=>by
 obtain⟨_,_,_,_,_,_,_,ho⟩:=h.2 i hi
 obtain⟨s0,s1⟩:=stepCells_at sc i hi
 obtain⟨b,off,e,hb,c0⟩:=h2 _ _ s0
 obtain⟨b2,off2,e2,_,c1⟩:=h2 _ _ s1
 rw[e]at e2
 injection e2 with e2
 injection e2 with e3 e4
 subst e3 e4
 refine⟨b,off,[sc[i].1,.int .i64 sc[i].2],e,hb,fun j u hu=> ?_,rfl,ho⟩
 rw[show stepCSh.k=2 from rfl]
 match j,hu with
 | 0,hu=>obtain rfl:=Option.some.inj hu;exact c0
 | 1,hu=>obtain rfl:=Option.some.inj hu;exact c1⟩
theorem RowAtS.keep {S S':Nat→Prop}{w w':World}{a:Option Addr}{vs:List Value}(hS:∀b,S b→S' b)(hk:∀b o,S b→w'.cell? ⟨b,o,none⟩=w.cell? ⟨b,o,none⟩)(h:RowAtS S w a vs):RowAtS S' w' a vs:=fun j u hu=>by
 obtain⟨b,off,e,hb,hc⟩:=h j u hu
 exact⟨b,off,e,hS b hb,(hk _ _ hb).trans hc⟩
theorem wp_copy_int {P:Program}{w:World}{o:Oper}{a0:Act}{K:Act→World→Prop}{Q:Exit→Act→World→Prop}(s x:Operand)(t:TypeId)
 (ho:o.op= .call { callee:= .builtin .append,args:= #[s,x],argTypes:= #[t,t] }) (e:TypeId) (i:TypeInfo) (z:Value) (ht:P.underlying t=some (.slice e)) (hi:P.info? e=some i) (hz:i.zero=some z) (hs:i.size=1) (hby:i.bytes=8) (hzs:z.cells.size=1)
 (g:Nat) (hv:a0.eval s= .slice (some ⟨g,0,none⟩) 0 0) (a:Option Addr) (n cap:Nat) (hx:a0.eval x= .slice a n cap) (zs:List Int) (hn:zs.length=n) (hl:Prp.Nums w.heap.size w a zs) (hsz:n*8≤140737488351232)
 (hK:∀a' cap' w',Below w.heap.size w w'→Prp.LiesG (fun b=>w.heap.size≤b∧b<w'.heap.size) w' a' zs→K (a0.put o.dst (.slice a' n cap')) w'):Oper.wp P o a0 w K Q:=by
 obtain⟨a',cap',w',hrun,h1,h2⟩:=Prp.run_append_copy (P:=P) w t o.type e i z ht hi hz hs hby hzs g a n cap zs hn hl hsz
 unfold Oper.wp
 simp[execOp,ho,resolve,invoke,builtin,hv,hx,hrun,Result.andThen]
 exact hK a' cap' w' h1 h2
theorem wp_copy_two {P:Program}{w:World}{o:Oper}{a0:Act}{K:Act→World→Prop}{Q:Exit→Act→World→Prop}(s x:Operand)(t:TypeId)
 (ho:o.op= .call { callee:= .builtin .append,args:= #[s,x],argTypes:= #[t,t] }) (e:TypeId) (i:TypeInfo) (z:Value) (ht:P.underlying t=some (.slice e)) (hi:P.info? e=some i) (hz:i.zero=some z) (hs:i.size=2) (hby:i.bytes=32) (hzs:z.cells.size=2)
 (g:Nat) (hv:a0.eval s= .slice (some ⟨g,0,none⟩) 0 0) (a:Option Addr) (n cap:Nat) (hx:a0.eval x= .slice a n cap) (vs:List Value) (hn:vs.length=n*2) (hone:∀u∈vs,u.oneCell'=true) (hl:RowAtS (fun b=>b<w.heap.size) w a vs) (hsz:n*32≤140737488351232)
 (hK:∀a' cap' w',Below w.heap.size w w'→RowAtS (fun b=>w.heap.size≤b∧b<w'.heap.size) w' a' vs→K (a0.put o.dst (.slice a' n cap')) w'):Oper.wp P o a0 w K Q:=by
 obtain⟨a',cap',w',hrun,h1,h2⟩:=run_copy_two (P:=P) w t o.type e i z ht hi hz hs hby hzs g a n cap vs hn hone hl hsz
 unfold Oper.wp
 simp[execOp,ho,resolve,invoke,builtin,hv,hx,hrun,Result.andThen]
 exact hK a' cap' w' h1 h2
theorem Tryz.copyInt:(Tryz.prog.info? 3).map (fun i=>(i.zero,i.size,i.bytes))=some (some (.int .i64 0),1,8):=by kernel_rfl
theorem Tryz.copyStep:(Tryz.prog.info? 104).map (fun i=>(i.zero.map fun z=>z.cells.size,i.size,i.bytes))=some (some 2,2,32):=by kernel_rfl
theorem Tryz.copyLem:(Tryz.prog.info? 57).map (fun i=>(i.zero.map fun z=>z.cells.size,i.size,i.bytes))=some (some 2,2,48):=by kernel_rfl
theorem Tryz.copyRow:(Tryz.prog.info? 23).map (fun i=>(i.zero.map fun z=>z.cells.size,i.size,i.bytes))=some (some 1,1,24):=by kernel_rfl
theorem info_sizes {p:Option TypeInfo}{a b c:Nat}(h:p.map (fun i=>(i.zero.map fun z=>z.cells.size,i.size,i.bytes))=some (some a,b,c)):∃i z,p=some i∧i.zero=some z∧z.cells.size=a∧i.size=b∧i.bytes=c:=by
 cases p with
 | none=>cases h
 | some i=>
   simp only[Option.map_some,Option.some.injEq,Prod.mk.injEq]at h
   obtain⟨h1,h2,h3⟩:=h
   cases hz:i.zero with
   | none=>rw[hz]at h1;cases h1
   | some z=>rw[hz]at h1;exact⟨i,z,rfl,hz,Option.some.inj h1,h2,h3⟩
end
section
open Go.RowKit
theorem smallC_any (n:Nat)(f:FT)(cs:List Value)(la:Option Addr)(ln lcap:Nat)(lms:List (List Int×List (List (Int×Int)×Int)))(ra:Option Addr)(rn rcap:Nat)(ss:List (List Int))(w:World)(h:FLies w.heap.size w (n+1) f cs)(hln:lms.length=ln)(hL:LmLies w.heap.size w la lms)(hrn:ss.length=rn)(hR:Prp.CLies w.heap.size w ra ss)(hl63:ln≤9223372036854775807)(hr63:rn≤9223372036854775807)(hcl:∀i,i<rn→(ss.getD i []).length≤9223372036854775807):
 Calls Tryz.prog 13 #[.agg cs.toArray,.agg #[.slice la ln lcap,.slice ra rn rcap]] w fun e w'=>∃b,e= .returned (.bool b)∧Below w.heap.size w w'∧(b=true→EasyC lms ss∧litF (n+1) f):=by
 have hh:=h
 obtain⟨ta,tcap,ka,kcap,rfl, -⟩:=h
 have HLI:=Lib.hid (fun W (hb:Below w.heap.size w W)=>litn_any (n+1) f _ 400 200 W (by omega) (by omega) (by omega) (by omega) ((hh.below hb).mono hb.size))
 have HRL:=Lib.hid (fun W (hb:Below w.heap.size w W)=>rlight_any la ln lcap lms ra rn rcap ss W hln (hL.below hb hb.size) hrn ((hR.below hb).mono hb.size) hl63 hr63 hcl)
 have hb0:=box_start w f.kind f.c ta ka f.t.length tcap f.ks.length kcap
 generalize litF (n+1) f=L at*
 generalize f.kind=fk at*
 generalize f.c=fc at*
 generalize f.t.length=ft at*
 generalize f.ks.length=fl at*
 have hA2:Below (w.alloc (.cells #[.int .i64 fk,.int .i64 fc,.slice ta ft tcap,.slice ka fl kcap] 39)).heap.size (w.alloc (.cells #[.int .i64 fk,.int .i64 fc,.slice ta ft tcap,.slice ka fl kcap] 39)) ((w.alloc (.cells #[.int .i64 fk,.int .i64 fc,.slice ta ft tcap,.slice ka fl kcap] 39)).alloc (.cells #[.slice la ln lcap,.slice ra rn rcap] 43)):=(Below.refl _ _).alloc (Nat.le_refl _) _
 have hz1:(w.alloc (.cells #[.int .i64 fk,.int .i64 fc,.slice ta ft tcap,.slice ka fl kcap] 39)).heap.size=w.heap.size+1:=by simp
 have hn2:=heap_alloc_new (w.alloc (.cells #[.int .i64 fk,.int .i64 fc,.slice ta ft tcap,.slice ka fl kcap] 39)) (.cells #[.slice la ln lcap,.slice ra rn rcap] 43)
 rw[hz1]at hn2
 have T1:=Lib.hid (hb0.below hA2 hb0.lt)
 have D0:((w.alloc (.cells #[.int .i64 fk,.int .i64 fc,.slice ta ft tcap,.slice ka fl kcap] 39)).alloc (.cells #[.slice la ln lcap,.slice ra rn rcap] 43)).cell? ⟨w.heap.size+1,0,none⟩=some (.slice la ln lcap):=(cell_of_row _ _ _ _ _ _ hn2).trans rfl
 have D1:((w.alloc (.cells #[.int .i64 fk,.int .i64 fc,.slice ta ft tcap,.slice ka fl kcap] 39)).alloc (.cells #[.slice la ln lcap,.slice ra rn rcap] 43)).cell? ⟨w.heap.size+1,1,none⟩=some (.slice ra rn rcap):=(cell_of_row _ _ _ _ _ _ hn2).trans rfl
 clear hh hL hR hb0 hA2 hz1 hn2 hcl
 go_enter Tryz.func13,Tryz.ntmps13
 go_wp2_with fail
 generalize (w.alloc (.cells #[.int .i64 fk,.int .i64 fc,.slice ta ft tcap,.slice ka fl kcap] 39)).alloc (.cells #[.slice la ln lcap,.slice ra rn rcap] 43)=W2 at*
 refine(HRL.out _ T1.out.bel).mono ?_
 rintro e w3 ⟨b,rfl,hb3,he⟩
 have T3:=Lib.hid (T1.out.below hb3 T1.out.lt)
 have HE:=Lib.hid he
 clear hb3 he HRL D0 D1
 cases b with
 | false=>
   go_wp2_with fail
   go_ret
   exact⟨false,rfl,T3.out.bel,fun h=>by cases h⟩
 | true=>
   obtain⟨_,p0,p1,p2,p3,_⟩:=T3.out
   go_wp2_with fail
   refine(HLI.out _ T3.out.bel).mono ?_
   rintro e w4 ⟨v,rfl,hv1,hv2,hvL,hb4⟩
   have HB4:=Lib.hid (T3.out.bel.trans (hb4.mono T3.out.bel.size))
   have HVL:=Lib.hid hvL
   clear hb4 HLI p0 p1 p2 p3 hvL
   go_wp2_with fail
   go_ret
   exact⟨_,rfl,HB4.out,fun h=>⟨by first | exact HE.out rfl | exact HE.out trivial,HVL.out (by simpa using h)⟩⟩
theorem cert_neg {nk mk:Int}{ks:Nat→Int}{nl:Nat}{N:Int}{cs ss:List (List Int)}{at':Int}(hc:CertIs nk mk ks nl N cs ss 0 at'):at'<0:=by
 refine Classical.byContradiction fun hn=> ?_
 generalize hx:(0:Int)=x at hc
 cases hc with
 | norm h=>exact absurd hx.symm h
 | cnf _ h=>exact absurd hx.symm h
 | lem j _ _ _ _ h=>exact absurd hx.symm h
 | rup _ _ _ _ _ hr=>exact hr.in.2.1 (by omega) hx.symm
theorem cert_both {nk mk:Int}{ks:Nat→Int}{nl:Nat}{N:Int}{cs ss:List (List Int)}{x at':Int}{B1 B2:Nat}{w1 w2:World}{er er2:Value}(hc:CertIs nk mk ks nl N cs ss x at')(h1:Prp.ErrIs B1 x at' er w1)(h2:Prp.ErrIs B2 x at' er2 w2):
 (er= .nilIface∧er2= .nilIface)∨∃t v t2 v2,er= .iface t v∧er2= .iface t2 v2:=by
 by_cases hx:x=0
 ·subst hx
  exact .inl ⟨h1.1 (cert_neg hc),h2.1 (cert_neg hc)⟩
 ·obtain⟨t,v,e1⟩:=errIs_iface h1 hx
  obtain⟨t2,v2,e2⟩:=errIs_iface h2 hx
  exact .inr ⟨t,v,t2,v2,e1,e2⟩
end
end Go.Proofs.YtipahfcaplbifaaGreatDoor
