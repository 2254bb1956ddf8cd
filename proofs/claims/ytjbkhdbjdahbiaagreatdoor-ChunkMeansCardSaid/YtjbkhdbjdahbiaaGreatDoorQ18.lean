/- Parts of a proof. -/
import Derived.Test.YtjbkhdbjdahbiaaGreatDoorQ09
import Derived.Test.YtjbkhdbjdahbiaaGreatDoorQ14
import Derived.SizedLaws
set_option linter.unusedVariables false
set_option linter.unusedSimpArgs false
set_option maxHeartbeats 60000000
set_option maxRecDepth 100000
namespace Go.Proofs.YtjbkhdbjdahbiaaGreatDoor
section
open Go.ChangeShapes Go.WideShapes Go.RowKit Go.Deep
theorem i64_wf' {x:Int}(h:(Lit.int .i64 x).wf=true):i64 x:=by
 have h2:=h
 unfold Lit.wf at h2
 rw[Bool.and_eq_true,decide_eq_true_eq,decide_eq_true_eq]at h2
 exact h2
section
variable {H:Type} {enc:TypeId×Value→H} {w:World} {base:Nat} {spare:Nat→Bool} {held:Bool}
def Lgt (t:TypeId)(d:DataW H):Prop:=∀k∈d.weights Tryz.prog t,k≤reachBytes
theorem lgt_struct {t:TypeId}{fs:Array Field}{ys:List (DataW H×List MemPlace)}(ht:Tryz.prog.underlying t=some (.struct fs))(h:Lgt t (DataW.agg (ys.map (·.1))))(j:Nat)(f:Field)(d:DataW H×List MemPlace)(hf:fs[j]? =some f)(hd:ys[j]? =some d):Lgt f.type d.1:=fun k hk=>by
 refine h k ?_
 simp only[DataW.weights,ht]
 exact DataW.weights_mem_each (j:=j) (t:=f.type) (d:=d.1) (by simp[hf]) (by simp[hd]) k hk
theorem mem_all {e:TypeId}:∀ {l:List (DataW H)} {d:DataW H},d∈l→∀k∈d.weights Tryz.prog e,k∈DataW.weightsAll Tryz.prog e l
 | x :: l,d,h,k,hk=>by
   rw[DataW.weightsAll,List.mem_append]
   rcases List.mem_cons.1 h with rfl | h
   ·exact .inl hk
   ·exact .inr (mem_all h k hk)
theorem lgt_elem {t e:TypeId}{es sp:List (DataW H)}(ht:Tryz.prog.underlying t=some (.slice e))(h:Lgt t (DataW.slice es sp)){d:DataW H}(hd:d∈es):Lgt e d:=fun k hk=>by
 refine h k ?_
 simp only[DataW.weights,ht]
 exact List.mem_cons_of_mem _ (List.mem_append_left _ (mem_all hd k hk))
theorem lgt_len {t e:TypeId}{es sp:List (DataW H)}(ht:Tryz.prog.underlying t=some (.slice e))(h:Lgt t (DataW.slice es sp)):(es.length+sp.length)*Tryz.prog.bytesOf e≤reachBytes:=h _ (by
 simp only[DataW.weights,ht]
 exact List.mem_cons_self)
theorem open_row_w {T:Type}{sh:Pak.Sh T}{Pb:T→Prop}{t e:TypeId}{fuel:Nat}(ht:Tryz.prog.underlying t=some (.slice e))(hk:Tryz.prog.cellsOf e=sh.k)(hpos:0<sh.k)(ho:∀n,n+1=fuel→∀ {cs:List Value} {x:DataW H×List MemPlace},DataW.trod enc Tryz.prog w base spare held n e cs=some x→Lgt e x.1→∃y:T,sh.rel (Pak.Lo w.heap.size) w cs y∧Pb y){c:Value}{x:DataW H×List MemPlace}(h:DataW.trod enc Tryz.prog w base spare held fuel t [c]=some x)(hw:Lgt t x.1):
 ∃xs,Pak.Slot sh (Pak.Lo w.heap.size) w c xs∧∀x∈xs,Pb x:=by
 have hf:∃n,fuel=n+1:=by
  cases fuel with
  | zero=>simp[DataW.trod]at h
  | succ n=>exact⟨n,rfl⟩
 obtain⟨n0,rfl⟩:=hf
 rcases DataW.trod_slice ht h with ⟨h0,_⟩ | ⟨a,len,cap,elems,rest,n,hn,hx,hxe,hb,hl,hm,hlen,hel,hrest⟩
 ·injection h0 with h0
  exact⟨[],⟨none,0,h0,Pak.Sits.nil _ _ _ _⟩,fun _ h=>absurd h (by simp)⟩
 ·injection hx with hx
  obtain rfl:n0=n:=by omega
  have hw2:Lgt t (DataW.slice (elems.map (·.1)) (rest.map (·.1))):=by rw[hxe]at hw;exact hw
  have hp:∀i,i<len→∃y:T,(∃cs',(∀j u,cs'[j]? =some u→w.cell? (a.add (i*sh.k+j))=some u)∧sh.rel (Pak.Lo w.heap.size) w cs' y)∧Pb y:=fun i hil=>by
   have he:=hel i hil
   rw[List.getElem?_eq_getElem (by omega)]at he
   obtain⟨cs',hc,ht'⟩:=Option.bind_eq_some_iff.1 he
   obtain⟨y,hy,hpy⟩:=ho _ rfl ht' (lgt_elem ht hw2 (List.mem_map.2 ⟨_,List.getElem_mem _,rfl⟩))
   rw[hk]at hc
   obtain⟨_,hcl,hat⟩:=World.cells?_some hc
   refine⟨y,⟨cs',fun j u hu=> ?_,hy⟩,hpy⟩
   obtain⟨hj,rfl⟩:=List.getElem?_eq_some_iff.1 hu
   have:=hat j (by omega)
   rw[←Go.Deep.add_add]
   simpa [List.getElem?_eq_getElem hj]using this
  obtain⟨l,hll,hlp⟩:=list_ofC len _ hp
  obtain⟨b,off,sp⟩:=a
  have h63:maxLen=9223372036854775807:=rfl
  refine⟨l,⟨some ⟨b,off,sp⟩,cap,by rw[hll];exact hx,⟨by omega,fun i hil=> ?_⟩⟩,fun x hx=> ?_⟩
  ·obtain⟨⟨cs',h1,h2⟩,_⟩:=hlp i hil
   have hlen:=sh.len h2
   have hc0:=h1 0 _ (List.getElem?_eq_getElem (by omega))
   have hsp:sp=none:=by
    obtain⟨⟨cs0,h10,h20⟩,_⟩:=hlp 0 (by omega)
    have hc00:=h10 0 _ (List.getElem?_eq_getElem (by have:=sh.len h20;omega))
    have:=World.cell?_spot hc00
    simpa [Addr.add]using this
   subst hsp
   rw[Go.WideShapes.add_plain]at hc0
   refine⟨b,off,cs',rfl,by simpa using block_lt_of_cell hc0,fun j u hu=> ?_,h2⟩
   have:=h1 j u hu
   rw[Go.WideShapes.add_plain]at this
   rwa [Nat.add_assoc]
  ·obtain⟨q,hq,rfl⟩:=List.getElem_of_mem hx
   exact(hlp q hq).2
theorem opnMono (f:Nat):OpnAt enc w base spare held f monoSh 84:=by
 intro cs x h
 obtain⟨ys,n,rfl,_,hl,hyl,hf⟩:=DataW.trod_struct Tryz.underlying84 h
 have hk:Tryz.prog.cellsOf 84=2:=by kernel_rfl
 rw[hk]at hl
 match cs,hl with
 | [c0,c1],_=>
   have hy:ys.length=2:=hyl
   have a0:DataW.trod enc Tryz.prog w base spare held n 3 [c0]=ys[0]? :=hf 0 _ rfl
   have a1:DataW.trod enc Tryz.prog w base spare held n 3 [c1]=ys[1]? :=hf 1 _ rfl
   rw[List.getElem?_eq_getElem (by omega)]at a0 a1
   obtain⟨z0,e0,_,w0⟩:=DataW.trod_int Tryz.underlying3 a0
   obtain⟨z1,e1,_,w1⟩:=DataW.trod_int Tryz.underlying3 a1
   injection e0 with e0
   injection e1 with e1
   subst e0 e1
   exact⟨(z0,z1),rfl⟩
theorem Tryz.bytesMonoC:Tryz.prog.bytesOf 84=16:=by kernel_rfl
def LtB (y:LT):Prop:=y.2.length*16≤140737488355328
theorem opnLin {n:Nat}{c0 c1:Value}{x:DataW H×List MemPlace}(h:DataW.trod enc Tryz.prog w base spare held n 25 [c0,c1]=some x)(hw:Lgt 25 x.1):∃y:LT,LinRel (Pak.Lo w.heap.size) w c0 c1 y∧LtB y:=by
 obtain⟨ys,n,rfl,rfl,hl,hyl,hf⟩:=DataW.trod_struct Tryz.underlying25 h
 have hy:ys.length=2:=hyl
 have a0:DataW.trod enc Tryz.prog w base spare held n 3 [c0]=ys[0]? :=hf 0 _ rfl
 have a1:DataW.trod enc Tryz.prog w base spare held n 23 [c1]=ys[1]? :=hf 1 _ rfl
 have hw1:Lgt 23 (ys[1]'(by omega)).1:=lgt_struct Tryz.underlying25 hw 1 _ _ rfl (List.getElem?_eq_getElem (by omega))
 rw[List.getElem?_eq_getElem (by omega)]at a0 a1
 obtain⟨z0,e0,_,w0⟩:=DataW.trod_int Tryz.underlying3 a0
 injection e0 with e0
 subst e0
 obtain⟨l,a,cap,e,hs⟩:=open_row_at (sh:=monoSh) Tryz.underlying23 (by kernel_rfl) (by decide) (fun m _=>opnMono m) a1
 subst e
 rcases DataW.trod_slice Tryz.underlying23 a1 with ⟨h0,_⟩ | ⟨b,len,cap',elems,rest,m,_,hcs,hx,_,_,_,hel,_⟩
 ·injection h0 with h0
  injection h0 with q1 q2 q3
  exact⟨(z0,l),⟨rfl,a,cap,rfl,fun _=>q3,hs⟩,by unfold LtB;show l.length*16≤_;omega⟩
 ·injection hcs with hcs
  injection hcs with q1 q2 q3
  refine⟨(z0,l),⟨rfl,a,cap,rfl,fun h=>(by rw[h]at q1;cases q1),hs⟩, ?_⟩
  rw[hx]at hw1
  have:=lgt_len Tryz.underlying23 hw1
  rw[Tryz.bytesMonoC]at this
  simp only[List.length_map,reachBytes]at this
  unfold LtB
  show l.length*16≤_
  omega
def CkB (x:CK):Prop:=x.a.2.length*16≤140737488355328∧x.v.2.length*16≤140737488355328
theorem opnChunk {n:Nat}{cs:List Value}{x:DataW H×List MemPlace}(h:DataW.trod enc Tryz.prog w base spare held n 27 cs=some x)(hw:Lgt 27 x.1):∃y:CK,ckSh.rel (Pak.Lo w.heap.size) w cs y∧CkB y:=by
 obtain⟨ys,n,rfl,rfl,hl,hyl,hf⟩:=DataW.trod_struct Tryz.underlying27 h
 have hk:Tryz.prog.cellsOf 27=6:=by kernel_rfl
 rw[hk]at hl
 match cs,hl with
 | [c0,c1,c2,c3,c4,c5],_=>
   have hy:ys.length=4:=hyl
   have a0:DataW.trod enc Tryz.prog w base spare held n 25 [c0,c1]=ys[0]? :=hf 0 _ rfl
   have a1:DataW.trod enc Tryz.prog w base spare held n 9 [c2]=ys[1]? :=hf 1 _ rfl
   have a2:DataW.trod enc Tryz.prog w base spare held n 3 [c3]=ys[2]? :=hf 2 _ rfl
   have a3:DataW.trod enc Tryz.prog w base spare held n 25 [c4,c5]=ys[3]? :=hf 3 _ rfl
   have hw0:Lgt 25 (ys[0]'(by omega)).1:=lgt_struct Tryz.underlying27 hw 0 _ _ rfl (List.getElem?_eq_getElem (by omega))
   have hw3:Lgt 25 (ys[3]'(by omega)).1:=lgt_struct Tryz.underlying27 hw 3 _ _ rfl (List.getElem?_eq_getElem (by omega))
   rw[List.getElem?_eq_getElem (by omega)]at a0 a1 a2 a3
   obtain⟨s1,e1,_,w1⟩:=DataW.trod_string Tryz.underlying9 a1
   obtain⟨z2,e2,_,w2⟩:=DataW.trod_int Tryz.underlying3 a2
   injection e1 with e1
   injection e2 with e2
   subst e1 e2
   obtain⟨y0,r0,b0⟩:=opnLin a0 hw0
   obtain⟨y3,r3,b3⟩:=opnLin a3 hw3
   exact⟨⟨y0,s1,z2,y3⟩,⟨_,_,_,_,rfl,w1,i64_wf' w2,r0,r3⟩,b0,b3⟩
theorem open_chunks {ts:List TypeId}{ds:List (DataW H)}{j:Nat}{r:Reach}{b0:Nat}{v:Value}{d:DataW H}{p:List MemPlace}(hsz:(DataW.weightsEach Tryz.prog ts ds).all (·≤reachBytes)=true)(ht:ts[j]? =some 22)(hd:ds[j]? =some d)(hv:Value.okWide Tryz.prog w r b0 22 v)(h:DataW.Trod enc Tryz.prog w base spare held 22 v d p):
 ∃a m cap xs,v= .slice a m cap∧xs.length=m∧Pak.Sits ckSh (Pak.Lo w.heap.size) w a xs∧∀x∈xs,CkB x:=by
 obtain⟨a,len,cap,rfl⟩:=okWide_slice Tryz.underlying22 hv
 obtain⟨fuel,hf⟩:=h
 have hw:Lgt 22 d:=fun k hk=>by
  have:=List.all_eq_true.1 hsz _ (DataW.weights_mem_each ht hd k hk)
  simpa using this
 obtain⟨xs,⟨a2,cap2,e,hs⟩,hb⟩:=open_row_w (sh:=ckSh) (Pb:=CkB) (c:= .slice a len cap) Tryz.underlying22 (by kernel_rfl) (by decide) (fun m _ _ _ h1 h2=>opnChunk h1 h2) hf hw
 injection e with e1 e2 e3
 subst e1 e2 e3
 exact⟨a,_,cap,xs,rfl,rfl,hs,hb⟩
end
end
end Go.Proofs.YtjbkhdbjdahbiaaGreatDoor
