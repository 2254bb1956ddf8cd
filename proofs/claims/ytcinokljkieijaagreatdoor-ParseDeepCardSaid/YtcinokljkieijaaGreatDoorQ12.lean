/- Parts of a proof. -/
import Derived.Test.YtcinokljkieijaaGreatDoorQ11
import Derived.Laws.AppendOwn
import Derived.Deep.AppendLies
set_option linter.unusedVariables false
set_option linter.unusedSimpArgs false
set_option maxHeartbeats 60000000
set_option maxRecDepth 100000
namespace Go.Proofs.YtcinokljkieijaaGreatDoor
section
open Go.RowKit
section
variable {T:Type}
theorem Pak.Own.keptG {sh:Pak.Sh T}{e:TypeId}{B g:Nat}{xs:List T}{v:Value}{w w5:World}(h:Pak.Own sh e B xs v w)(k:KeptG g w w5)(hg:g<B):Pak.Own sh e B xs v w5:=by
 obtain⟨css,h1,h2,h3⟩:=h.row
 refine⟨⟨css,h1,World.ownsRow.kept (row:=some g) h2 ⟨k.os,k.tape,k.output,k.size,fun q hq hne=>k.block q hq (fun e=>hne (by rw[e]))⟩ (.inr fun e1=>by have:=(World.ownsRow.lt h2 g e1).1;omega),fun i hi hi2=>sh.keep (fun b ⟨a1,a2,a3⟩=>⟨a1,Nat.lt_of_lt_of_le a2 k.size,a3⟩) (fun b o ⟨a1,a2,_⟩=>World.cell?_of_block (k.block b a2 (by omega))) (h3 i hi hi2)⟩⟩
theorem Pak.Own.lt {sh:Pak.Sh T}{e:TypeId}{B:Nat}{xs:List T}{v:Value}{w:World}(h:Pak.Own sh e B xs v w):∀q,v.ownBlock=some q→q<w.heap.size:=fun q hq=>by
 obtain⟨css,h1,h2,h3⟩:=h.row
 exact(World.ownsRow.lt h2 q hq).2
theorem Pak.Own.snoc {P:Program}{sh:Pak.Sh T}{t e:TypeId}{B:Nat}{xs:List T}{x:T}{v:Value}{w:World}{cs:List Value}(ht:P.underlying t=some (.slice e)){by':Nat}(hin:(P.info? e).map (fun i=>(i.zero.map fun z=>z.cells.size,i.size,i.bytes))=some (some sh.k,sh.k,by'))(hk:0<sh.k)(hby:by'≤6000)
 (h:Pak.Own sh e B xs v w) (hn:xs.length≤70000) (hB:B≤w.heap.size) (hx:sh.rel (fun b=>B≤b∧b<w.heap.size∧v.ownBlock≠some b) w cs x):
 ∃v6 w6,(∀ty,(Builtin.append_ #[t,t] ty #[v,.slice (some ⟨w.heap.size,0,none⟩) 1 1]).run P (w.alloc (.cells cs.toArray e))= .ok v6 w6)∧Pak.Own sh e B (xs ++ [x]) v6 w6∧Below B w w6∧(w.alloc (.cells cs.toArray e)).grownBy w6 v.ownBlock:=by
 have hA:Below w.heap.size w (w.alloc (.cells cs.toArray e)):=(Below.refl _ w).alloc (Nat.le_refl _) _
 obtain⟨css,h1,h2,h3⟩:=(h.below hA).row
 obtain⟨i0,hi,hz,hs,hb⟩:∃i0,P.info? e=some i0∧(∃z,i0.zero=some z∧z.cells.size=sh.k)∧i0.size=sh.k∧i0.bytes=by':=by
  cases hp:P.info? e with
  | none=>rw[hp]at hin;cases hin
  | some i=>
    rw[hp]at hin
    simp at hin
    obtain⟨⟨z,a1,a2⟩,a3,a4⟩:=hin
    exact⟨i,rfl,⟨z,a1,a2⟩,a3,a4⟩
 obtain⟨z,hz1,hz2⟩:=hz
 have hlen:=sh.len hx
 have hrun:=fun ty=>run_append_own_at (P:=P) (w.alloc (.cells cs.toArray e)) B t ty e i0 z sh.k by' ht hi hz1 hs hb hz2 hk v xs.length css.flatten h2 ⟨w.heap.size,0,none⟩ 1 1 cs (by rw[hlen];omega) (by
  have:=World.news_of_block (heap_alloc_new w (.cells cs.toArray e))
  simpa using this) (sh.one hx) (by unfold maxLen;omega) (by
  have:(xs.length+1)*by'≤(70000+1)*6000:=Nat.mul_le_mul (by omega) hby
  omega) (Nat.le_trans hB hA.size)
 obtain⟨v6,w6,hr,k2,k3,_,k5⟩:=hrun t
 have hvb:∀q,v.ownBlock=some q→q<w.heap.size:=h.lt
 have hvB:∀q,v.ownBlock=some q→B≤q:=fun q hq=>(World.ownsRow.lt h2 q hq).1
 have hkeep:∀b o,b<w.heap.size→v.ownBlock≠some b→w6.cell? ⟨b,o,none⟩=w.cell? ⟨b,o,none⟩:=fun b o hb hne=>(World.cell?_of_block (k3.block b (Nat.lt_of_lt_of_le hb hA.size) (fun e=>hne e.symm))).trans (hA.cell (p:=⟨b,o,none⟩) hb)
 have hsz:w.heap.size≤w6.heap.size:=Nat.le_trans hA.size k3.size
 have hne6:∀b,b<w.heap.size→v.ownBlock≠some b→v6.ownBlock≠some b:=fun b hb hne e=>by
  rcases k5 with k5 | k5
  ·exact hne (k5.symm.trans e)
  ·rw[k5]at e
   injection e with e
   simp at e
   omega
 obtain⟨css0,g1,g2,g3⟩:=h.row
 refine⟨v6,w6,fun ty=>hr,⟨⟨css ++ [cs],by simp[h1], ?_,fun i hi hi2=> ?_⟩⟩,(hA.mono hB).trans (Below.grown (Below.refl B _) k3 (Nat.le_trans hB hA.size) hvB),k3⟩
 ·rw[List.length_append,List.flatten_append]
  simpa using k2
 ·by_cases hlt:i<xs.length
  ·rw[List.getElem_append_left hlt,List.getElem_append_left (by omega)]
   have h3':=h3 i hlt (by omega)
   have hvb2:∀q,v.ownBlock=some q→q<(w.alloc (.cells cs.toArray e)).heap.size:=fun q hq=>Nat.lt_of_lt_of_le (hvb q hq) hA.size
   refine sh.keep (fun b ⟨a1,a2,a3⟩=>⟨a1,Nat.lt_of_lt_of_le a2 k3.size,fun e=> ?_⟩) (fun b o ⟨a1,a2,a3⟩=>World.cell?_of_block (k3.block b a2 (fun e=>a3 e.symm))) h3'
   rcases k5 with k5 | k5
   ·exact a3 (k5.symm.trans e)
   ·rw[k5]at e
    injection e with e
    omega
  ·have hi':i=xs.length:=by simp at hi;omega
   subst hi'
   simp only[List.getElem_concat_length]
   have e2:(css ++ [cs])[xs.length]'hi2=cs:=by simp only[←h1,List.getElem_concat_length]
   rw[e2]
   exact sh.keep (fun b ⟨a1,a2,a3⟩=>⟨a1,Nat.lt_of_lt_of_le a2 hsz,hne6 b a2 a3⟩) (fun b o ⟨a1,a2,a3⟩=>hkeep b o a2 a3) hx
end
theorem PSt.grown {C:PC}{s:PS}{w w':World}{ob:Option Nat}(h:PSt C s w)(hg:w.grownBy w' ob)(hob:∀q,ob=some q→C.g<q∧((∃v,w.cell? ⟨q,0,none⟩=some v∧∀n,v≠ .int .i64 n)∨(∃v,w.cell? ⟨q,1,none⟩=some v∧∀t u,v≠ .iface t u))):PSt C s w':=by
 have hgl:=h.lt
 have hn:∀q,q≤C.g→some q≠ob:=fun q hq e=>by have:=(hob q e.symm).1;omega
 have hc:∀q j,q≤C.g→w'.cell? ⟨q,j,none⟩=w.cell? ⟨q,j,none⟩:=fun q j hq=>World.cell?_of_block (hg.block q (by omega) (hn q hq))
 have hlo:Below (C.g+1) w w':=⟨hg.os,hg.tape,hg.output,hg.size,fun q hq=>hg.block q (by omega) (hn q (by omega))⟩
 obtain⟨v,c4,hv⟩:=h.c4
 refine⟨(hc _ 0 (Nat.le_refl _)).trans h.c0,(hc _ 1 (Nat.le_refl _)).trans h.c1,(hc _ 2 (Nat.le_refl _)).trans h.c2,(hc _ 3 (Nat.le_refl _)).trans h.c3,⟨v,(hc _ 4 (Nat.le_refl _)).trans c4, ?_⟩,fun j=>(World.frozen?_of_block (hg.block C.g hgl (hn _ (Nat.le_refl _)))).trans (h.fr j),h.tl.below (hlo.mono (Nat.le_succ _)),h.len,h.inv,h.small,h.laid.below hlo (by have:=h.g5;omega),h.g5⟩
 cases he:s.er with
 | none=>rw[he]at hv;exact hv
 | some p=>
   obtain⟨c,a⟩:=p
   rw[he]at hv
   obtain⟨b,e,h1,h2,h3,h4⟩:=hv
   have hb:some b≠ob:=fun e2=>by
    rcases(hob b e2.symm).2 with ⟨x,hx,hx2⟩ | ⟨x,hx,hx2⟩
    ·rw[h3]at hx;injection hx with hx;exact hx2 _ hx.symm
    ·rw[h4]at hx;injection hx with hx;exact hx2 _ _ hx.symm
   exact⟨b,e,h1,Nat.lt_of_lt_of_le h2 hg.size,(World.cell?_of_block (hg.block b h2 hb)).trans h3,(World.cell?_of_block (hg.block b h2 hb)).trans h4⟩
def Tell (cs:List Value):Prop:=(∃v,cs[0]? =some v∧∀n,v≠ .int .i64 n)∨(∃v,cs[1]? =some v∧∀t u,v≠ .iface t u)
section
variable {T:Type} {sh:Pak.Sh T} {e:TypeId}
structure RP (sh:Pak.Sh T)(e:TypeId)(C:PC)(w:World)(s:PS)(xs:List T)(v:Value)(wr:World):Prop where
 ps:PSt C s wr
 gl:C.g<w.heap.size
 kept:KeptG C.g w wr
 own:Pak.Own sh e w.heap.size xs v wr
 few:xs.length≤s.nx+1
 nil:xs=[]→v= .slice none 0 0
theorem RP.start {C:PC}{w:World}{s:PS}(h:PSt C s w):RP sh e C w s [] (.slice none 0 0) w:=⟨h,h.lt,KeptG.refl _ _,Pak.Own.nil _ _ _ _,Nat.zero_le _,fun _=>rfl⟩
theorem RP.step {C:PC}{w wr w':World}{s s':PS}{xs:List T}{v:Value}(h:RP sh e C w s xs v wr)(k:KeptG C.g wr w')(hp:PSt C s' w')(hf:xs.length≤s'.nx+1):RP sh e C w s' xs v w':=⟨hp,h.gl,h.kept.trans k,h.own.keptG k h.gl,hf,h.nil⟩
theorem RP.push {C:PC}{w wr W5:World}{s s':PS}{xs:List T}{x:T}{v:Value}{cs:List Value}{t:TypeId}{by':Nat}(ht:Tryz.prog.underlying t=some (.slice e))(hin:(Tryz.prog.info? e).map (fun i=>(i.zero.map fun z=>z.cells.size,i.size,i.bytes))=some (some sh.k,sh.k,by'))(hk0:0<sh.k)(hby:by'≤6000)
 (h:RP sh e C w s xs v wr) (hk:KeptG C.g wr W5) (hp:PSt C s' W5) (hx:sh.rel (InS wr.heap.size W5) W5 cs x) (hf:xs.length≤s'.nx) (htell:∀ {S:Nat→Prop} {W:World} {cs:List Value} {x:T},sh.rel S W cs x→Tell cs):
 ∃v6 w6,(∀ty,(Builtin.append_ #[t,t] ty #[v,.slice (some ⟨W5.heap.size,0,none⟩) 1 1]).run Tryz.prog (W5.alloc (.cells cs.toArray e))= .ok v6 w6)∧RP sh e C w s' (xs ++ [x]) v6 w6:=by
 have hks:=h.kept.size
 have h5:=hk.size
 have ho5:=h.own.keptG hk h.gl
 have hlt:=h.own.lt
 have hl:=hp.inv.nx
 have hlen:=hp.len.1
 obtain⟨v6,w6,hr,ho,hb,hg⟩:=Pak.Own.snoc (P:=Tryz.prog) ht hin hk0 hby ho5 (by omega) (by omega) (x:=x) (cs:=cs) (sh.keep (fun b ⟨a1,a2⟩=>⟨by omega,a2,fun e=>by have:=hlt b e;omega⟩) (fun _ _ _=>rfl) hx)
 have hB:∀q,v.ownBlock=some q→w.heap.size≤q:=fun q hq=>by
  obtain⟨css,h1,h2,h3⟩:=h.own.row
  exact(World.ownsRow.lt h2 q hq).1
 refine⟨v6,w6,hr,(hp.alloc _).grown hg (fun q hq=> ?_),h.gl, ?_,ho,by rw[List.length_append];simp;omega,fun e=>by simp at e⟩
 ·have hgl:=h.gl
  have hq1:=hB q hq
  refine⟨by omega, ?_⟩
  obtain⟨css,h1,h2,h3⟩:=ho5.row
  have hqs:=(World.ownsRow.lt h2 q hq).2
  have hne:xs≠[]:=fun e=>by
   rw[h.nil e]at hq
   cases hq
  have hx0:0<xs.length:=List.length_pos_iff.2 hne
  have hc0:0<css.length:=by omega
  have hrel:=h3 0 hx0 hc0
  have hkk:∀cs∈css,cs.length=sh.k:=fun cs hc=>by
   obtain⟨i,hi,rfl⟩:=List.getElem_of_mem hc
   exact sh.len (h3 i (by omega) hi)
  have hcell:∀j u,css[0][j]? =some u→(W5.alloc (.cells cs.toArray e)).cell? ⟨q,j,none⟩=some u:=fun j u hu=>by
   rw[World.cell?_alloc_lt _ _ _ (by show q<_;exact hqs)]
   have hj:j<sh.k:=by
    have:=(List.getElem?_eq_some_iff.1 hu).1
    rwa [hkk _ (List.getElem_mem _)]at this
   have:=World.ownsRow.cells h2 hq (0*sh.k+j) u (by rw[Pak.flatten_get hkk 0 j hc0 hj];exact hu)
   rwa [show(⟨q,0,none⟩:Addr).add (0*sh.k+j)=⟨q,j,none⟩ by unfold Addr.add;split<;>simp_all]at this
  rcases htell hrel with ⟨u,hu,hu2⟩ | ⟨u,hu,hu2⟩
  ·exact .inl ⟨u,hcell 0 u hu,hu2⟩
  ·exact .inr ⟨u,hcell 1 u hu,hu2⟩
 ·have k:=h.kept.trans hk
  exact⟨hb.os.trans k.os,hb.tape.trans k.tape,hb.output.trans k.output,by have:=hg.size;simp at this;omega,fun q h1 h2=>(hb.block q h1).trans (k.block q h1 h2)⟩
theorem RP.fin {C:PC}{w wr:World}{s0 s:PS}{xs:List T}{v:Value}{F:PS→List T×PS}(h:RP sh e C w s xs v wr)(hF:F s0=(xs,s)):PE (Vs sh) F C s0 w (.returned v) wr:=by
 have hl:=h.ps.inv.nx
 have hlen:=h.ps.len.1
 have hf:=h.few
 refine⟨v,rfl, ?_,by rw[hF];exact h.ps,h.kept⟩
 rw[hF]
 exact h.own.sits (by show xs.length≤_;omega)
end
end
section
open Go.RowKit
theorem ex_tell {S:Nat→Prop}{W:World}{cs:List Value}{x:ET}(h:exX.rel S W cs x):Tell cs:= .inr (ex_ni h)
theorem str_tell {S:Nat→Prop}{W:World}{cs:List Value}{x:ByteArray}(h:strSh.rel S W cs x):Tell cs:=by
 obtain⟨rfl,_⟩:=h
 exact .inl ⟨_,rfl,fun n e=>by cases e⟩
theorem Tryz.rowExpr:(Tryz.prog.info? 57).map (fun i=>(i.zero.map fun z=>z.cells.size,i.size,i.bytes))=some (some 4,4,56):=by kernel_rfl
theorem Tryz.rowStr:(Tryz.prog.info? 9).map (fun i=>(i.zero.map fun z=>z.cells.size,i.size,i.bytes))=some (some 1,1,16):=by kernel_rfl
theorem exprs_any (C:PC)(s:PS)(ws:List ByteArray)(a:Option Addr)(m cap:Nat)(w:World)(h:PSt C s w)(hw:Ws ws a m w):
 Calls Tryz.prog 216 #[C.p,.slice a m cap] w (PE (Vs exX) (pexprs C.tk C.en ws) C s w):=by
 have HI:=Lib.hid (is_any C s ws a m cap w h hw)
 by_cases hp:pis C.tk ws s=true
 ·have e:pexprs C.tk C.en ws s=([],s):=by
   show prow C.tk ws (pex C.tk C.en) s=_
   unfold prow;rw[if_pos hp]
  have HE:Hid (∀W,Below w.heap.size w W→PE (Vs exX) (pexprs C.tk C.en ws) C s w (.returned (.slice none 0 0)) W):=fun W hb=>((RP.start (sh:=exX) (e:=57) h).step (KeptG.of_below hb) (h.up hb) (Nat.zero_le _)).fin e
  rw[hp]at HI
  generalize PE (Vs exX) (pexprs C.tk C.en ws) C s w=Q at*
  clear h hw hp e
  go_enter Tryz.func216,Tryz.ntmps216
  go_wp2_with fail
  refine HI.out.mono ?_
  rintro e w1 ⟨rfl,hb⟩
  have HQ:=Lib.hid (HE.out w1 hb)
  clear hb HI HE
  go_wp2_with fail
  try go_ret
  exact HQ.out
 ·have hp:=Bool.eq_false_iff.2 hp
  obtain⟨T,hT⟩:∃T,T=pexprs C.tk C.en ws s:=⟨_,rfl⟩
  have e:pexprs C.tk C.en ws s=pcom C.tk (pex C.tk C.en) (C.tk.length+1) [(pex C.tk C.en s).1] (pex C.tk C.en s).2:=by
   show prow C.tk ws (pex C.tk C.en) s=_
   unfold prow;rw[hp];rfl
  have HF:=Lib.hid (fun(s2:PS) W (hW:PSt C s2 W)=>ex_any C s2 W hW)
  have XF:Hid (∀s1 s2 W e1 W1 xs v,RP exX 57 C w s1 xs v W→(∃s0,s2=s0∧PSt C s0 W∧xs.length≤s0.nx)→PE (Vx exX) (pex C.tk C.en) C s2 W e1 W1→∃k n nm u,e1= .returned (.agg #[.int .i64 k,.int .i64 n,.string nm,u])∧u.oneCell'=true∧∃v6 w6,(∀ty,(Builtin.append_ #[52,52] ty #[v,.slice (some ⟨W1.heap.size,0,none⟩) 1 1]).run Tryz.prog (W1.alloc (.cells #[.int .i64 k,.int .i64 n,.string nm,u] 57))= .ok v6 w6)∧RP exX 57 C w (pex C.tk C.en s2).2 (xs ++ [(pex C.tk C.en s2).1]) v6 w6):=fun s1 s2 W e1 W1 xs v hr ⟨s0,e0,hp0,hx0⟩ hq=>by
   subst e0
   obtain⟨cs,b1,_,_,b3,b4,b5⟩:=pe_x hq
   obtain⟨u,rfl,_,hu⟩:=ex_form b3
   have hnx:=(mv_ex (tk:=C.tk) (en:=C.en) s2).nx
   obtain⟨v6,w6,r1,r2⟩:=hr.push (t:=52) (x:=(pex C.tk C.en s2).1) Tryz.underlying52 Tryz.rowExpr (by decide) (by decide) b5 b4 b3 (by omega) ex_tell
   exact⟨_,_,_,u,b1,hu,v6,w6,r1,r2⟩
  have HK:Hid (∀k s2 xs v wr,RP exX 57 C w s2 xs v wr→pcom C.tk (pex C.tk C.en) k xs s2=T→(k=0→False)→pis C.tk [(⟨#[44]⟩:ByteArray)] s2=false→PE (Vs exX) (pexprs C.tk C.en ws) C s w (.returned v) wr):=fun k s2 xs v wr hr hk h0 hc=>by
   refine hr.fin ?_
   cases k with
   | zero=>exact(h0 rfl).elim
   | succ k=>
     unfold pcom at hk
     rw[hc]at hk
     rw[←hT,←hk];rfl
  have HT0:Hid (pcom C.tk (pex C.tk C.en) (C.tk.length+1) ([] ++ [(pex C.tk C.en s).1]) (pex C.tk C.en s).2=T):=by rw[hT,e];rfl
  have HR0:=Lib.hid (RP.start (sh:=exX) (e:=57) h)
  have HMV:=Lib.hid (fun s2=>mv_ex (tk:=C.tk) (en:=C.en) s2)
  have HP:=Lib.hid h
  have HX0:Hid (∃s0,s=s0∧PSt C s0 w∧([]:List ET).length≤s0.nx):=⟨s,rfl,h,Nat.zero_le _⟩
  rw[hp]at HI
  generalize PE (Vs exX) (pexprs C.tk C.en ws) C s w=Q at*
  clear h hw hp e hT
  go_enter Tryz.func216,Tryz.ntmps216
  go_wp2_with fail
  refine HI.out.mono ?_
  rintro e w1 ⟨rfl,hb⟩
  have HR1:=Lib.hid (HR0.out.step (KeptG.of_below hb) (HP.out.up hb) (Nat.zero_le _))
  have HF1:=Lib.hid (HF.out s w1 (HP.out.up hb))
  clear hb HI HR0
  go_wp2_with fail
  refine HF1.out.mono ?_
  rintro e w2 hq
  obtain⟨ek,en,enm,eu,rfl,heu,v6,w6,hrun,hR6⟩:=XF.out s s w1 _ _ _ _ HR1.out ⟨s,rfl,HR1.out.ps,Nat.zero_le _⟩ hq
  have HR6:=Lib.hid hR6
  clear hq HF1 HR1 hR6 HP HX0
  go_wp2_with (at_builtin;refine Lib.wpList_append_run _ rfl _ _ _ _ rfl _ _ rfl rfl _ _ (hrun _) ?_)
  go_loopw [5] (fun l wr=>∃(k:Nat) (s2:PS) (xs:List ET),Hid (RP exX 57 C w s2 xs l wr)∧Hid (pcom C.tk (pex C.tk C.en) k xs s2=T)∧Hid (C.tk.length+1≤k+s2.nx)) (fun _ wr=>mz C wr)
  case atStart=>exact⟨_,_,_,HR6,HT0,Lib.hid (Nat.le_add_right _ _)⟩
  case round=>
   clear hrun HR6 HT0
   obtain⟨k,s2,xs,hr,hk,hfu⟩:=hrel
   obtain⟨wo,rfl⟩:∃wo:World,wo=wr:=⟨_,rfl⟩
   have HM:=Lib.hid (may1_any C s2 (⟨#[44]⟩:ByteArray) wo hr.out.ps (by decide))
   by_cases hc:pis C.tk [(⟨#[44]⟩:ByteArray)] s2=true
   ·have hnx:s2.nx<C.tk.length:=(pis_inv hc).2
    have HY:Hid (∀e1 W1,PE Vt (pmay C.tk [(⟨#[44]⟩:ByteArray)]) C s2 wo e1 W1→e1= .returned (.string (ptx C.tk s2 0))∧RP exX 57 C w (pgo s2) xs _ W1):=fun e1 W1 ⟨v,a1,a2,a3,a4⟩=>by
     have a2:v= .string (pmay C.tk [(⟨#[44]⟩:ByteArray)] s2).1:=a2
     rw[pmay_yes hc]at a2 a3
     exact⟨by rw[a1,a2],hr.out.step a4 a3 (by have:=hr.out.few;show xs.length≤s2.nx+1+1;omega)⟩
    obtain⟨hx1,hx2⟩:=str_empty (pis_ne hc)
    have HL:Hid (∀v6 w6,RP exX 57 C w (pex C.tk C.en (pgo s2)).2 (xs ++ [(pex C.tk C.en (pgo s2)).1]) v6 w6→(∃(k:Nat) (s2:PS) (xs:List ET),Hid (RP exX 57 C w s2 xs v6 w6)∧Hid (pcom C.tk (pex C.tk C.en) k xs s2=T)∧Hid (C.tk.length+1≤k+s2.nx))∧mz C w6<mz C wo):=fun v6 w6 h6=>by
     have hm:=(HMV.out (pgo s2)).nx
     have hm:s2.nx+1≤(pex C.tk C.en (pgo s2)).2.nx:=hm
     have hfu:=hfu.out
     obtain⟨k,rfl⟩:∃k',k=k'+1:=⟨k - 1,by omega⟩
     refine⟨⟨k,_,_,h6, ?_, ?_⟩, ?_⟩
     ·have:=hk.out
      unfold pcom at this
      rw[if_pos hc]at this
      exact this
     ·show C.tk.length+1≤k+(pex C.tk C.en (pgo s2)).2.nx
      omega
     ·rw[mz_eq h6.ps,mz_eq hr.out.ps]
      omega
    have hx0:xs.length≤(pgo s2).nx:=hr.out.few
    generalize ptx C.tk s2 0=tx at*
    clear hc hr hk hfu hnx
    go_wp2_with fail
    refine HM.out.mono ?_
    rintro e w3 hq
    obtain⟨rfl,hr3⟩:=HY.out _ _ hq
    have HR3:=Lib.hid hr3
    have HF3:=Lib.hid (HF.out _ w3 hr3.ps)
    clear hq HM HY hr3
    go_wp2_with fail
    refine HF3.out.mono ?_
    rintro e w4 hq
    obtain⟨ek,en,enm,eu,rfl,heu,v6,w6,hrun,hR6⟩:=XF.out _ _ w3 _ _ _ _ HR3.out ⟨_,rfl,HR3.out.ps,hx0⟩ hq
    have HL6:=Lib.hid (HL.out _ _ hR6)
    clear hq HF3 HR3 hR6 HL hx0
    go_wp2_with (at_builtin;refine Lib.wpList_append_run _ rfl _ _ _ _ rfl _ _ rfl rfl _ _ (hrun _) ?_)
    go_roundw
    case rel=>first | exact HL6.out.1 | exact⟨_,_,_,_,_,_,_,_,_,HL6.out.1,rfl⟩ | (trace_state;exact HL6.out.1)
    case measure=>exact HL6.out.2
   ·have hc:=Bool.eq_false_iff.2 hc
    have HY:Hid (∀e1 W1,PE Vt (pmay C.tk [(⟨#[44]⟩:ByteArray)]) C s2 wo e1 W1→e1= .returned (.string ⟨#[]⟩)∧Q (.returned _) W1):=fun e1 W1 ⟨v,a1,a2,a3,a4⟩=>by
     have a2:v= .string (pmay C.tk [(⟨#[44]⟩:ByteArray)] s2).1:=a2
     rw[pmay_no hc]at a2 a3
     refine⟨by rw[a1,a2],HK.out k s2 xs _ W1 (hr.out.step a4 a3 hr.out.few) hk.out (fun e=> ?_) hc⟩
     have:=hfu.out
     have:=hr.out.ps.inv.nx
     omega
    clear hc hr hk hfu
    go_wp2_with fail
    refine HM.out.mono ?_
    rintro e w3 hq
    obtain⟨rfl,hq3⟩:=HY.out _ _ hq
    have HQ:=Lib.hid hq3
    clear hq HM HY hq3
    go_wp2_with fail
    try go_ret
    exact HQ.out
theorem names_any (C:PC)(s:PS)(ws:List ByteArray)(a:Option Addr)(m cap:Nat)(w:World)(h:PSt C s w)(hw:Ws ws a m w):
 Calls Tryz.prog 56 #[C.p,.slice a m cap] w (PE (Vs strSh) (pnames C.tk C.en ws) C s w):=by
 have HI:=Lib.hid (is_any C s ws a m cap w h hw)
 by_cases hp:pis C.tk ws s=true
 ·have e:pnames C.tk C.en ws s=([],s):=by
   show prow C.tk ws (pof C.tk C.en 1) s=_
   unfold prow;rw[if_pos hp]
  have HE:Hid (∀W,Below w.heap.size w W→PE (Vs strSh) (pnames C.tk C.en ws) C s w (.returned (.slice none 0 0)) W):=fun W hb=>((RP.start (sh:=strSh) (e:=9) h).step (KeptG.of_below hb) (h.up hb) (Nat.zero_le _)).fin e
  rw[hp]at HI
  generalize PE (Vs strSh) (pnames C.tk C.en ws) C s w=Q at*
  clear h hw hp e
  go_enter Tryz.func56,Tryz.ntmps56
  go_wp2_with fail
  refine HI.out.mono ?_
  rintro e w1 ⟨rfl,hb⟩
  have HQ:=Lib.hid (HE.out w1 hb)
  clear hb HI HE
  go_wp2_with fail
  try go_ret
  exact HQ.out
 ·have hp:=Bool.eq_false_iff.2 hp
  obtain⟨T,hT⟩:∃T,T=pnames C.tk C.en ws s:=⟨_,rfl⟩
  have e:pnames C.tk C.en ws s=pcom C.tk (pof C.tk C.en 1) (C.tk.length+1) [(pof C.tk C.en 1 s).1] (pof C.tk C.en 1 s).2:=by
   show prow C.tk ws (pof C.tk C.en 1) s=_
   unfold prow;rw[hp];rfl
  have HF:=Lib.hid (fun(s2:PS) W (hW:PSt C s2 W)=>pname_any C s2 W hW)
  have XF:Hid (∀s1 s2 W e1 W1 xs v,RP strSh 9 C w s1 xs v W→(∃s0,s2=s0∧PSt C s0 W∧xs.length≤s0.nx)→PE Vt (pof C.tk C.en 1) C s2 W e1 W1→∃x,e1= .returned (.string x)∧∃v6 w6,(∀ty,(Builtin.append_ #[35,35] ty #[v,.slice (some ⟨W1.heap.size,0,none⟩) 1 1]).run Tryz.prog (W1.alloc (.cells #[.string x] 9))= .ok v6 w6)∧RP strSh 9 C w (pof C.tk C.en 1 s2).2 (xs ++ [(pof C.tk C.en 1 s2).1]) v6 w6):=fun s1 s2 W e1 W1 xs v hr ⟨s0,e0,hp0,hx0⟩ hq=>by
   subst e0
   obtain⟨a1,b4,b5⟩:=pe_v hq
   have b3:strSh.rel (InS W.heap.size W1) W1 [.string (pof C.tk C.en 1 s2).1] (pof C.tk C.en 1 s2).1:=⟨rfl,by have:=pof_size 1 hp0;unfold maxLen;omega⟩
   have hnx:=(mv_of (tk:=C.tk) (en:=C.en) (k:=1) (by decide) s2).nx
   obtain⟨v6,w6,r1,r2⟩:=hr.push (t:=35) (x:=(pof C.tk C.en 1 s2).1) Tryz.underlying35 Tryz.rowStr (by decide) (by decide) b5 b4 b3 (by omega) str_tell
   exact⟨_,a1,v6,w6,r1,r2⟩
  have HK:Hid (∀k s2 xs v wr,RP strSh 9 C w s2 xs v wr→pcom C.tk (pof C.tk C.en 1) k xs s2=T→(k=0→False)→pis C.tk [(⟨#[44]⟩:ByteArray)] s2=false→PE (Vs strSh) (pnames C.tk C.en ws) C s w (.returned v) wr):=fun k s2 xs v wr hr hk h0 hc=>by
   refine hr.fin ?_
   cases k with
   | zero=>exact(h0 rfl).elim
   | succ k=>
     unfold pcom at hk
     rw[hc]at hk
     rw[←hT,←hk];rfl
  have HT0:Hid (pcom C.tk (pof C.tk C.en 1) (C.tk.length+1) ([] ++ [(pof C.tk C.en 1 s).1]) (pof C.tk C.en 1 s).2=T):=by rw[hT,e];rfl
  have HR0:=Lib.hid (RP.start (sh:=strSh) (e:=9) h)
  have HMV:=Lib.hid (fun s2=>mv_of (tk:=C.tk) (en:=C.en) (k:=1) (by decide) s2)
  have HP:=Lib.hid h
  have HX0:Hid (∃s0,s=s0∧PSt C s0 w∧([]:List ByteArray).length≤s0.nx):=⟨s,rfl,h,Nat.zero_le _⟩
  rw[hp]at HI
  generalize PE (Vs strSh) (pnames C.tk C.en ws) C s w=Q at*
  clear h hw hp e hT
  go_enter Tryz.func56,Tryz.ntmps56
  go_wp2_with fail
  refine HI.out.mono ?_
  rintro e w1 ⟨rfl,hb⟩
  have HR1:=Lib.hid (HR0.out.step (KeptG.of_below hb) (HP.out.up hb) (Nat.zero_le _))
  have HF1:=Lib.hid (HF.out s w1 (HP.out.up hb))
  clear hb HI HR0
  go_wp2_with fail
  refine HF1.out.mono ?_
  rintro e w2 hq
  obtain⟨tn,rfl,v6,w6,hrun,hR6⟩:=XF.out s s w1 _ _ _ _ HR1.out ⟨s,rfl,HR1.out.ps,Nat.zero_le _⟩ hq
  have HR6:=Lib.hid hR6
  clear hq HF1 HR1 hR6 HP HX0
  go_wp2_with (at_builtin;refine Lib.wpList_append_run _ rfl _ _ _ _ rfl _ _ rfl rfl _ _ (hrun _) ?_)
  go_loopw [5] (fun l wr=>∃(k:Nat) (s2:PS) (xs:List ByteArray),Hid (RP strSh 9 C w s2 xs l wr)∧Hid (pcom C.tk (pof C.tk C.en 1) k xs s2=T)∧Hid (C.tk.length+1≤k+s2.nx)) (fun _ wr=>mz C wr)
  case atStart=>exact⟨_,_,_,HR6,HT0,Lib.hid (Nat.le_add_right _ _)⟩
  case round=>
   clear hrun HR6 HT0
   obtain⟨k,s2,xs,hr,hk,hfu⟩:=hrel
   obtain⟨wo,rfl⟩:∃wo:World,wo=wr:=⟨_,rfl⟩
   have HM:=Lib.hid (may1_any C s2 (⟨#[44]⟩:ByteArray) wo hr.out.ps (by decide))
   by_cases hc:pis C.tk [(⟨#[44]⟩:ByteArray)] s2=true
   ·have hnx:s2.nx<C.tk.length:=(pis_inv hc).2
    have HY:Hid (∀e1 W1,PE Vt (pmay C.tk [(⟨#[44]⟩:ByteArray)]) C s2 wo e1 W1→e1= .returned (.string (ptx C.tk s2 0))∧RP strSh 9 C w (pgo s2) xs _ W1):=fun e1 W1 ⟨v,a1,a2,a3,a4⟩=>by
     have a2:v= .string (pmay C.tk [(⟨#[44]⟩:ByteArray)] s2).1:=a2
     rw[pmay_yes hc]at a2 a3
     exact⟨by rw[a1,a2],hr.out.step a4 a3 (by have:=hr.out.few;show xs.length≤s2.nx+1+1;omega)⟩
    obtain⟨hx1,hx2⟩:=str_empty (pis_ne hc)
    have HL:Hid (∀v6 w6,RP strSh 9 C w (pof C.tk C.en 1 (pgo s2)).2 (xs ++ [(pof C.tk C.en 1 (pgo s2)).1]) v6 w6→(∃(k:Nat) (s2:PS) (xs:List ByteArray),Hid (RP strSh 9 C w s2 xs v6 w6)∧Hid (pcom C.tk (pof C.tk C.en 1) k xs s2=T)∧Hid (C.tk.length+1≤k+s2.nx))∧mz C w6<mz C wo):=fun v6 w6 h6=>by
     have hm:=(HMV.out (pgo s2)).nx
     have hm:s2.nx+1≤(pof C.tk C.en 1 (pgo s2)).2.nx:=hm
     have hfu:=hfu.out
     obtain⟨k,rfl⟩:∃k',k=k'+1:=⟨k - 1,by omega⟩
     refine⟨⟨k,_,_,h6, ?_, ?_⟩, ?_⟩
     ·have:=hk.out
      unfold pcom at this
      rw[if_pos hc]at this
      exact this
     ·show C.tk.length+1≤k+(pof C.tk C.en 1 (pgo s2)).2.nx
      omega
     ·rw[mz_eq h6.ps,mz_eq hr.out.ps]
      omega
    have hx0:xs.length≤(pgo s2).nx:=hr.out.few
    generalize ptx C.tk s2 0=tx at*
    clear hc hr hk hfu hnx
    go_wp2_with fail
    refine HM.out.mono ?_
    rintro e w3 hq
    obtain⟨rfl,hr3⟩:=HY.out _ _ hq
    have HR3:=Lib.hid hr3
    have HF3:=Lib.hid (HF.out _ w3 hr3.ps)
    clear hq HM HY hr3
    go_wp2_with fail
    refine HF3.out.mono ?_
    rintro e w4 hq
    obtain⟨tn,rfl,v6,w6,hrun,hR6⟩:=XF.out _ _ w3 _ _ _ _ HR3.out ⟨_,rfl,HR3.out.ps,hx0⟩ hq
    have HL6:=Lib.hid (HL.out _ _ hR6)
    clear hq HF3 HR3 hR6 HL hx0
    go_wp2_with (at_builtin;refine Lib.wpList_append_run _ rfl _ _ _ _ rfl _ _ rfl rfl _ _ (hrun _) ?_)
    go_roundw
    case rel=>first | exact HL6.out.1 | exact⟨_,_,_,_,_,_,_,_,_,HL6.out.1,rfl⟩ | (trace_state;exact HL6.out.1)
    case measure=>exact HL6.out.2
   ·have hc:=Bool.eq_false_iff.2 hc
    have HY:Hid (∀e1 W1,PE Vt (pmay C.tk [(⟨#[44]⟩:ByteArray)]) C s2 wo e1 W1→e1= .returned (.string ⟨#[]⟩)∧Q (.returned _) W1):=fun e1 W1 ⟨v,a1,a2,a3,a4⟩=>by
     have a2:v= .string (pmay C.tk [(⟨#[44]⟩:ByteArray)] s2).1:=a2
     rw[pmay_no hc]at a2 a3
     refine⟨by rw[a1,a2],HK.out k s2 xs _ W1 (hr.out.step a4 a3 hr.out.few) hk.out (fun e=> ?_) hc⟩
     have:=hfu.out
     have:=hr.out.ps.inv.nx
     omega
    clear hc hr hk hfu
    go_wp2_with fail
    refine HM.out.mono ?_
    rintro e w3 hq
    obtain⟨rfl,hq3⟩:=HY.out _ _ hq
    have HQ:=Lib.hid hq3
    clear hq HM HY hq3
    go_wp2_with fail
    try go_ret
    exact HQ.out
theorem vs_lo {T:Type}{sh:Pak.Sh T}{f:PS→List T×PS}{C:PC}{s:PS}{w w1 w':World}{e:Ending}(h:PE (Vs sh) f C s w1 e w')(hb:Below w.heap.size w w1):PE (Vs sh) f C s w e w':=
 h.low hb fun v x hv=>hv.keep (fun b ⟨a1,a2⟩=>⟨Nat.le_trans hb.size a1,a2⟩) (fun _ _ _=>rfl)
theorem ws_one (x:ByteArray)(w:World)(hx:x.size≤100):Ws [x] (some ⟨w.heap.size,0,none⟩) 1 (w.alloc (.cells #[.string x] 9)):=ws_list [x] w (fun y hy=>by rw[List.mem_singleton.1 hy];unfold maxLen;omega) (by simp)
theorem exprs_at (C:PC)(s:PS)(x:ByteArray)(w:World)(G:Nat)(hG:w.heap.size=G)(h:PSt C s w)(hx:x.size≤100):
 Calls Tryz.prog 216 #[C.p,.slice (some ⟨G,0,none⟩) 1 1] (w.alloc (.cells #[.string x] 9)) (PE (Vs exX) (pexprs C.tk C.en [x]) C s w):=by
 subst hG
 exact(exprs_any C s [x] _ 1 1 _ (h.alloc _) (ws_one x w hx)).mono fun e w' h=>vs_lo h (alloc_low _ _)
theorem names_at (C:PC)(s:PS)(x:ByteArray)(w:World)(G:Nat)(hG:w.heap.size=G)(h:PSt C s w)(hx:x.size≤100):
 Calls Tryz.prog 56 #[C.p,.slice (some ⟨G,0,none⟩) 1 1] (w.alloc (.cells #[.string x] 9)) (PE (Vs strSh) (pnames C.tk C.en [x]) C s w):=by
 subst hG
 exact(names_any C s [x] _ 1 1 _ (h.alloc _) (ws_one x w hx)).mono fun e w' h=>vs_lo h (alloc_low _ _)
theorem names_no (C:PC)(s:PS)(w:World)(h:PSt C s w):
 Calls Tryz.prog 56 #[C.p,.slice none 0 0] w (PE (Vs strSh) (pnames C.tk C.en []) C s w):=
 names_any C s [] none 0 0 w h ⟨rfl,Pak.Sits.nil _ _ _ _⟩
end
section
open Go.RowKit
theorem share_any (C:PC)(s:PS)(w wr:World)(M:Nat)(x:AT)(cs:List Value)(h:LP asX C w M s x cs wr):
 Calls Tryz.prog 172 #[C.p,.pointer (some ⟨M,0,none⟩)] wr fun e W'=>e= .returned (.tuple #[])∧∃cs',LP asX C w M (pshare C.tk C.en s).2 (.mk x.kind x.c (pshare C.tk C.en s).1.1 x.v (pshare C.tk C.en s).1.2.1 (pshare C.tk C.en s).1.2.2 x.ks) cs' W':=by
 obtain⟨s1,hs1⟩:∃s',s'=pm1 C.tk C.en (⟨#[40]⟩:ByteArray) s:=⟨_,rfl⟩
 have H0:=Lib.hid (fun(W:World) (G:Nat) (hG:W.heap.size=G) (hW:PSt C s W)=>must1_at C s (⟨#[40]⟩:ByteArray) W G hG hW (by decide))
 have X0:Hid (∀W e1 W1,PE Vt (pmust C.tk C.en [(⟨#[40]⟩:ByteArray)]) C s W e1 W1→(∃x,e1= .returned (.string x))∧PSt C s1 W1∧KeptG C.g W W1):=fun W e1 W1 hq=>by rw[hs1];exact pe_t hq
 obtain⟨eq1,heq1⟩:∃x',x'=(pex C.tk C.en s1).1:=⟨_,rfl⟩
 obtain⟨s2,hs2⟩:∃s',s'=(pex C.tk C.en s1).2:=⟨_,rfl⟩
 have H1:=Lib.hid (fun W (hW:PSt C s1 W)=>ex_any C s1 W hW)
 have X1:Hid (∀W e1 W1 cs,LP asX C (w) (M) s1 x cs W→PE (Vx exX) (pex C.tk C.en) C s1 W e1 W1→∃cs2:List Value,e1= .returned (.agg cs2.toArray)∧cs2.length=4∧(∀u∈cs2,u.oneCell'=true)∧W1.there (M) 4 cs2.length∧∀W9,Stored (M) 4 cs2 W1 W9→LP asX C (w) (M) s2 (AT.mk x.kind x.c eq1 x.v x.field x.n x.ks) (spl cs 4 cs2) W9):=fun W e1 W1 cs hl hq=>by
  obtain⟨cs2,a1,a2,a3,a4,a5,a6⟩:=pe_x hq
  have a2:cs2.length=4:=a2
  rw[←hs2]at a5
  rw[←heq1]at a4
  exact⟨cs2,a1,a2,a3,by rw[a2];exact hl.part a6 a5 (by show 4+4≤15;omega),fun W9 hst=>hl.setP a6 a5 a4 (by show 4+4≤15;omega) (as_ni hl.tree) hst (fun S W hx hy=>as_e hy hx)⟩
 obtain⟨s3,hs3⟩:∃s',s'=pm1 C.tk C.en (⟨#[46]⟩:ByteArray) s2:=⟨_,rfl⟩
 have H2:=Lib.hid (fun(W:World) (G:Nat) (hG:W.heap.size=G) (hW:PSt C s2 W)=>must1_at C s2 (⟨#[46]⟩:ByteArray) W G hG hW (by decide))
 have X2:Hid (∀W e1 W1,PE Vt (pmust C.tk C.en [(⟨#[46]⟩:ByteArray)]) C s2 W e1 W1→(∃x,e1= .returned (.string x))∧PSt C s3 W1∧KeptG C.g W W1):=fun W e1 W1 hq=>by rw[hs3];exact pe_t hq
 obtain⟨fq3,hfq3⟩:∃x',x'=(pof C.tk C.en 1 s3).1:=⟨_,rfl⟩
 obtain⟨s4,hs4⟩:∃s',s'=(pof C.tk C.en 1 s3).2:=⟨_,rfl⟩
 have H3:=Lib.hid (fun W (hW:PSt C s3 W)=>pname_any C s3 W hW)
 have X3:Hid (∀W e1 W1,PSt C s3 W→PE Vt (pof C.tk C.en 1) C s3 W e1 W1→e1= .returned (.string fq3)∧fq3.size≤maxLen∧PSt C s4 W1∧KeptG C.g W W1):=fun W e1 W1 hS hq=>by rw[hs4,hfq3];exact⟨(pe_v hq).1,by have:=pof_size 1 hS;unfold maxLen;omega,(pe_v hq).2⟩
 obtain⟨s5,hs5⟩:∃s',s'=pm1 C.tk C.en (⟨#[44]⟩:ByteArray) s4:=⟨_,rfl⟩
 have H4:=Lib.hid (fun(W:World) (G:Nat) (hG:W.heap.size=G) (hW:PSt C s4 W)=>must1_at C s4 (⟨#[44]⟩:ByteArray) W G hG hW (by decide))
 have X4:Hid (∀W e1 W1,PE Vt (pmust C.tk C.en [(⟨#[44]⟩:ByteArray)]) C s4 W e1 W1→(∃x,e1= .returned (.string x))∧PSt C s5 W1∧KeptG C.g W W1):=fun W e1 W1 hq=>by rw[hs5];exact pe_t hq
 obtain⟨nq5,hnq5⟩:∃x',x'=(pnum C.tk C.en s5).1:=⟨_,rfl⟩
 obtain⟨s6,hs6⟩:∃s',s'=(pnum C.tk C.en s5).2:=⟨_,rfl⟩
 have H5:=Lib.hid (fun W (hW:PSt C s5 W)=>pnumber_any C s5 W hW)
 have X5:Hid (∀W e1 W1,PSt C s5 W→PE Vi (pnum C.tk C.en) C s5 W e1 W1→e1= .returned (.int .i64 nq5)∧i64 nq5∧PSt C s6 W1∧KeptG C.g W W1):=fun W e1 W1 hS hq=>by rw[hs6,hnq5];exact⟨(pe_i hq).1,by have:=pnum_le (C:=C) hS;unfold i64;omega,(pe_i hq).2⟩
 have e:pshare C.tk C.en s=((eq1,fq3,nq5),s6):=by subst_vars;rfl
 rw[e]
 have HQ:Hid (∀W cs',LP asX C (w) (M) s6 (AT.mk x.kind x.c eq1 x.v fq3 nq5 x.ks) cs' W→(fun(e:Ending) (W':World)=>e= .returned (.tuple #[])∧∃cs',LP asX C w M s6 (.mk x.kind x.c eq1 x.v fq3 nq5 x.ks) cs' W') (.returned (.tuple #[])) W):=fun W cs' hl=>⟨rfl,cs',hl⟩
 have HL0:=Lib.hid h
 generalize (fun(e:Ending) (W':World)=>e= .returned (.tuple #[])∧∃cs',LP asX C w M s6 (.mk x.kind x.c eq1 x.v fq3 nq5 x.ks) cs' W')=Q at*
 clear e h hs1 heq1 hs2 hs3 hfq3 hs4 hs5 hnq5 hs6
 go_enter Tryz.func172,Tryz.ntmps172
 go_wp2_with fail
 refine(H0.out wr (wr.heap.size) (by simp[World.setCell]) HL0.out.ps).mono ?_
 rintro e w1 hq
 obtain⟨⟨y0,rfl⟩,hp,hk⟩:=X0.out _ _ _ hq
 have HL1:=Lib.hid (HL0.out.step hk hp)
 clear hq hp hk H0 X0
 clear HL0
 go_wp2_with fail
 refine(H1.out w1 HL1.out.ps).mono ?_
 rintro e w2 hq
 obtain⟨c2,rfl,l2,o2,t2,fin⟩:=X1.out _ _ _ _ HL1.out hq
 have HF2:=Lib.hid fin
 clear hq fin H1 X1 HL1
 go_wp2_with (first | (refine gateS 57 11 rfl ?_;refine wpList_store_there rfl 57 _ _ rfl (M) 4 rfl _ rfl (by rw[l2];kernel_rfl) o2 t2 ?_;intro w29 hst;have HL2:=Lib.hid (HF2.out _ hst);clear hst HF2))
 clear l2 o2 t2
 refine(H2.out w29 (w29.heap.size) (by simp[World.setCell]) HL2.out.ps).mono ?_
 rintro e w3 hq
 obtain⟨⟨y2,rfl⟩,hp,hk⟩:=X2.out _ _ _ hq
 have HL3:=Lib.hid (HL2.out.step hk hp)
 clear hq hp hk H2 X2
 clear HL2
 go_wp2_with fail
 refine(H3.out w3 HL3.out.ps).mono ?_
 rintro e w4 hq
 obtain⟨rfl,hb,hp,hk⟩:=X3.out _ _ _ HL3.out.ps hq
 have HM4:=Lib.hid (HL3.out.step hk hp)
 obtain⟨⟨v4,_,y4c⟩,f4c⟩:=HM4.out.cell (j:=12) (by show 12<15;omega)
 have HL4:Hid (LP asX C (w) (M) s4 (AT.mk x.kind x.c eq1 x.v fq3 x.n x.ks) _ (w4.setCell ⟨M,12,none⟩ (.string fq3))):=Lib.hid (HM4.out.set1 (o:=12) (v:= .string fq3) (by show 12<15;omega) (as_ni HM4.out.tree) (fun S W h=>(as_field fq3 hb) h))
 clear hq hp hk hb H3 X3 HL3 HM4
 go_wp2_with fail
 clear y4c f4c
 refine(H4.out (w4.setCell ⟨M,12,none⟩ (.string fq3)) (w4.heap.size) (by simp[World.setCell]) HL4.out.ps).mono ?_
 rintro e w5 hq
 obtain⟨⟨y4,rfl⟩,hp,hk⟩:=X4.out _ _ _ hq
 have HL5:=Lib.hid (HL4.out.step hk hp)
 clear hq hp hk H4 X4
 clear HL4
 go_wp2_with fail
 refine(H5.out w5 HL5.out.ps).mono ?_
 rintro e w6 hq
 obtain⟨rfl,hb,hp,hk⟩:=X5.out _ _ _ HL5.out.ps hq
 have HM6:=Lib.hid (HL5.out.step hk hp)
 obtain⟨⟨v6,_,y6c⟩,f6c⟩:=HM6.out.cell (j:=13) (by show 13<15;omega)
 have HL6:Hid (LP asX C (w) (M) s6 (AT.mk x.kind x.c eq1 x.v fq3 nq5 x.ks) _ (w6.setCell ⟨M,13,none⟩ (.int .i64 nq5))):=Lib.hid (HM6.out.set1 (o:=13) (v:= .int .i64 nq5) (by show 13<15;omega) (as_ni HM6.out.tree) (fun S W h=>(as_n nq5 hb) h))
 clear hq hp hk hb H5 X5 HL5 HM6
 go_wp2_with fail
 try go_end0
 exact HQ.out _ _ HL6.out
end
section
open Go.RowKit
section
variable {F:PS→AT×PS}
theorem bracedc_any (C:PC)(s:PS)(W:World)(hp he B:Nat)(x0:AT)(h:PSt C s W)(hC:∀W,PSt C s W→Calls Tryz.prog 57 #[C.p] W (PE (Vx asX) F C s W))(hcp:W.cell? ⟨hp,0,none⟩=some C.p)(h0:BX asX B he W x0)(hg:C.g<B)(hge:C.g<he)(hBW:B≤W.heap.size):
 Calls Tryz.prog 200 #[.pointer (some ⟨hp,0,none⟩),.pointer (some ⟨he,0,none⟩)] W (PW (BX asX B he) F C he s W):=by
 have HC:=Lib.hid (hC W h)
 have HE:Hid (∀e1 W1,PE (Vx asX) F C s W e1 W1→∃cs:List Value,e1= .returned (.agg cs.toArray)∧cs.length=15∧(∀u∈cs,u.oneCell'=true)∧W1.there he 0 cs.length∧∀W9,Stored he 0 cs W1 W9→PW (BX asX B he) F C he s W (.returned (.tuple #[])) W9):=fun e1 W1 ⟨v,a1,⟨cs,a2,a3⟩,a4,a5⟩=>by
  have h0':=h0
  obtain⟨_,_,b2,b3,_⟩:=h0'
  have hlen:cs.length=15:=(asX).len a3
  exact⟨cs,by rw[a1,a2],hlen,(asX).one a3,by rw[hlen];exact a5.there b3 (by omega) b2,fun W9 hst=>bx_end h0 as_ni hg hge hBW a3 a4 a5 hst⟩
 generalize PW (BX asX B he) F C he s W=Q at*
 unfold PC.p at*
 clear h hC h0
 go_enter Tryz.func200,Tryz.ntmps200
 go_wp2_with fail
 refine HC.out.mono ?_
 rintro e w1 hq
 obtain⟨cs,rfl,hl,h1,ht,hfin⟩:=HE.out _ _ hq
 have HF:=Lib.hid hfin
 clear hq HC HE hfin
 go_wp2_with (refine gateS 60 1 rfl ?_;refine wpList_store_there rfl 60 _ _ rfl he 0 rfl cs rfl (by rw[hl];kernel_rfl) h1 ht ?_;intro w9 hst)
 have HG:=HF.out _ hst
 try go_end0
 exact HG
theorem itemc_any (C:PC)(s:PS)(W:World)(hp he B:Nat)(x0:AT)(h:PSt C s W)(hC:∀W,PSt C s W→Calls Tryz.prog 57 #[C.p] W (PE (Vx asX) F C s W))(hcp:W.cell? ⟨hp,0,none⟩=some C.p)(h0:BX asX B he W x0)(hg:C.g<B)(hge:C.g<he)(hBW:B≤W.heap.size):
 Calls Tryz.prog 175 #[.pointer (some ⟨hp,0,none⟩),.pointer (some ⟨he,0,none⟩)] W (PW (BX asX B he) F C he s W):=by
 have HC:=Lib.hid (hC W h)
 have HE:Hid (∀e1 W1,PE (Vx asX) F C s W e1 W1→∃cs:List Value,e1= .returned (.agg cs.toArray)∧cs.length=15∧(∀u∈cs,u.oneCell'=true)∧W1.there he 0 cs.length∧∀W9,Stored he 0 cs W1 W9→PW (BX asX B he) F C he s W (.returned (.tuple #[])) W9):=fun e1 W1 ⟨v,a1,⟨cs,a2,a3⟩,a4,a5⟩=>by
  have h0':=h0
  obtain⟨_,_,b2,b3,_⟩:=h0'
  have hlen:cs.length=15:=(asX).len a3
  exact⟨cs,by rw[a1,a2],hlen,(asX).one a3,by rw[hlen];exact a5.there b3 (by omega) b2,fun W9 hst=>bx_end h0 as_ni hg hge hBW a3 a4 a5 hst⟩
 generalize PW (BX asX B he) F C he s W=Q at*
 unfold PC.p at*
 clear h hC h0
 go_enter Tryz.func175,Tryz.ntmps175
 go_wp2_with fail
 refine HC.out.mono ?_
 rintro e w1 hq
 obtain⟨cs,rfl,hl,h1,ht,hfin⟩:=HE.out _ _ hq
 have HF:=Lib.hid hfin
 clear hq HC HE hfin
 go_wp2_with (refine gateS 60 1 rfl ?_;refine wpList_store_there rfl 60 _ _ rfl he 0 rfl cs rfl (by rw[hl];kernel_rfl) h1 ht ?_;intro w9 hst)
 have HG:=HF.out _ hst
 try go_end0
 exact HG
end
theorem bx_part {T T2:Type}{sh:Pak.Sh T}{sh2:Pak.Sh T2}{f:PS→T2×PS}{C:PC}{s:PS}{B he o:Nat}{W W1 W9:World}{x0:T}{g:T2→T}{cs2:List Value}(h0:BX sh B he W x0)(hni:∀ {S:Nat→Prop} {w:World} {cs:List Value} {x:T},sh.rel S w cs x→∃v,cs[1]? =some v∧∀t u,v≠ .iface t u)(hg:C.g<B)(hge:C.g<he)(hBW:B≤W.heap.size)
 (hx:sh2.rel (InS W.heap.size W1) W1 cs2 (f s).1) (hp:PSt C (f s).2 W1) (hk:KeptG C.g W W1) (hst:Stored he o cs2 W1 W9) (ho:o+sh2.k≤sh.k) (hr:∀S W cs,sh.rel S W cs x0→sh2.rel S W cs2 (f s).1→sh.rel S W (spl cs o cs2) (g (f s).1)):PW (fun W y=>BX sh B he W (g y)) f C he s W (.returned (.tuple #[])) W9:=by
 obtain⟨cs0,h1,h2,h3,h4⟩:=h0
 obtain⟨v,hv,hvn⟩:=hni h4
 have hn:he≠C.g:=by omega
 have hlt:he<W1.heap.size:=Nat.lt_of_lt_of_le h3 hk.size
 have hl2:=sh2.len hx
 have hl0:=sh.len h4
 have hr1:=hk.range h3 hn h1
 refine⟨rfl,hp.far hst.far hge (fun t u e=> ?_) hp.g5,(hk.kh he).trans hst.far.kh,spl cs0 o cs2,stored_range hr1 (by omega) hst,fun j hj=> ?_,by rw[hst.far.size];exact hlt, ?_⟩
 ·have:=hr1 1 v hv
  rw[Nat.zero_add]at this
  rw[this]at e
  injection e with e
  exact hvn _ _ e
 ·rw[hst.fr]
  exact⟨(stored_range hr1 (by omega) hst).isSome j (by rw[spl_len (by omega)];omega),(hk.there h3 hn h2 j hj).2⟩
 ·exact hr _ _ _ (inN_far (inN_kept h4 hk hg) hst.far) (inN_far (inN_of (M:=he) hx hBW (.inl h3)) hst.far)
theorem purec_any (C:PC)(s:PS)(W:World)(hp he B:Nat)(c0:CT)(h:PSt C s W)(hcp:W.cell? ⟨hp,0,none⟩=some C.p)(h0:BX asX B he W (.mk 1 c0 default default (⟨#[]⟩:ByteArray) 0 []))(hg:C.g<B)(hge:C.g<he)(hBW:B≤W.heap.size):
 Calls Tryz.prog 170 #[.pointer (some ⟨hp,0,none⟩),.pointer (some ⟨he,0,none⟩)] W (PW (fun W y=>BX asX B he W (.mk 1 y default default (⟨#[]⟩:ByteArray) 0 [])) (pco C.tk C.en) C he s W):=by
 have HC:=Lib.hid (co_any C s W h)
 have HE:Hid (∀e1 W1,PE (Vx cnX) (pco C.tk C.en) C s W e1 W1→∃cs:List Value,e1= .returned (.agg cs.toArray)∧cs.length=3∧(∀u∈cs,u.oneCell'=true)∧W1.there he 1 cs.length∧∀W9,Stored he 1 cs W1 W9→PW (fun W y=>BX asX B he W (.mk 1 y default default (⟨#[]⟩:ByteArray) 0 [])) (pco C.tk C.en) C he s W (.returned (.tuple #[])) W9):=fun e1 W1 hq=>by
  have h0':=h0
  obtain⟨_,_,b2,b3,_⟩:=h0'
  obtain⟨cs,a1,a2,a3,a4,a5,a6⟩:=pe_x hq
  have a2:cs.length=3:=a2
  refine⟨cs,a1,a2,a3,fun j hj=> ?_,fun W9 hst=>bx_part (g:=fun y=>AT.mk 1 y default default (⟨#[]⟩:ByteArray) 0 []) h0 as_ni hg hge hBW a4 a5 a6 hst (by show 1+3≤15;omega) (fun S W cs hx hy=>as_c hy hx)⟩
  have:=a6.there b3 (by omega) b2 (1+j) (by show 1+j<15;omega)
  rw[Nat.zero_add]at this
  exact this
 generalize PW (fun W y=>BX asX B he W (.mk 1 y default default (⟨#[]⟩:ByteArray) 0 [])) (pco C.tk C.en) C he s W=Q at*
 clear h h0
 go_enter Tryz.func170,Tryz.ntmps170
 go_wp2_with fail
 refine HC.out.mono ?_
 rintro e w1 hq
 obtain⟨cs,rfl,hl,h1,ht,hfin⟩:=HE.out _ _ hq
 have HF:=Lib.hid hfin
 clear hq HC HE hfin
 go_wp2_with (refine gateS 55 4 rfl ?_;refine wpList_store_there rfl 55 _ _ rfl he 1 rfl cs rfl (by rw[hl];kernel_rfl) h1 ht ?_;intro w9 hst)
 have HG:=HF.out _ hst
 try go_end0
 exact HG
theorem braced_any (n:Nat)(IH:AssnSaid 121 (fun tk en=>pitem tk en n) (Fu n))(C:PC)(s:PS)(w:World)(h:PSt C s w)(hf:Fu (n+1) s):
 Calls Tryz.prog 174 #[C.p] w (PE (Vx asX) (pbraced C.tk C.en (pitem C.tk C.en n)) C s w):=by
 have hg:=h.lt
 have hs1:(w.alloc (.cells #[C.p] 67)).heap.size=w.heap.size+1:=by simp
 have hl0:=LP.fresh (sh:=asX) (t:=60) (h.alloc (.cells #[C.p] 67)) rfl zAs_ni zAs_rel
 rw[hs1]at hl0
 have hw3:(((w.alloc (.cells #[C.p] 67)).alloc (.cells zAs.toArray 60)).alloc (.cells zAs.toArray 60)).heap.size=w.heap.size+3:=by simp
 have HW:=Lib.hid (within_any C s (⟨#[123]⟩:ByteArray) (⟨#[125]⟩:ByteArray) default (passn C.tk (pitem C.tk C.en n)) (BX asX ((w.alloc (.cells #[C.p] 67)).heap.size+1) (w.heap.size+1+1)) 200 (w.heap.size+1+1) (.pointer (some ⟨w.heap.size,0,none⟩)) (.pointer (some ⟨w.heap.size+1+1,0,none⟩)) _ (fun _ _=>rfl) hl0.ps (by decide) (by decide) (mv_assn (mv_item n)) hl0.bx (fun W1 W2 x _ hx k=>hx.kept k (by rw[hs1];omega) (by omega)) (fun W1 hP1 he0 h00 k1=>by
  obtain⟨hfu,hin⟩:=hf.deep (en:=C.en) h.inv h00
  have hl1:=hl0.step k1 hP1
  exact bracedc_any C _ W1 w.heap.size (w.heap.size+1+1) _ default hP1 (fun W3 hW3=>assn_loop n IH C _ W3 hW3 (hfu.mv hin (mv_m1 _ _))) (hl1.pc hg) hl1.bx (by rw[hs1];omega) (by omega) (by rw[hs1];have:=hl1.ml;omega)))
 have HY:Hid (∀e1 W1,PW (BX asX ((w.alloc (.cells #[C.p] 67)).heap.size+1) (w.heap.size+1+1)) (pwithin C.tk C.en (⟨#[123]⟩:ByteArray) (⟨#[125]⟩:ByteArray) default (passn C.tk (pitem C.tk C.en n))) C (w.heap.size+1+1) s (((w.alloc (.cells #[C.p] 67)).alloc (.cells zAs.toArray 60)).alloc (.cells zAs.toArray 60)) e1 W1→e1= .returned (.tuple #[])∧∃cs:List Value,cs.length=15∧(∀u∈cs,u.oneCell'=true)∧W1.rangeAt (w.heap.size+1+1) 0 cs∧W1.there (w.heap.size+1) 0 cs.length∧∀w9,Stored (w.heap.size+1) 0 cs W1 w9→PE (Vx asX) (pbraced C.tk C.en (pitem C.tk C.en n)) C s w (.returned (.agg cs.toArray)) w9):=fun e1 W1 hq=>by
  obtain⟨a1,cs,hl2⟩:=hl0.after hq
  exact⟨a1,cs,hl2.out (f:=pbraced C.tk C.en (pitem C.tk C.en n)) rfl⟩
 have pc0:=hl0.pc hg
 generalize PE (Vx asX) (pbraced C.tk C.en (pitem C.tk C.en n)) C s w=Q at*
 generalize pwithin C.tk C.en (⟨#[123]⟩:ByteArray) (⟨#[125]⟩:ByteArray) default (passn C.tk (pitem C.tk C.en n))=FW at*
 clear h hf hl0 hs1 hw3
 unfold zAs at*
 go_enter Tryz.func174,Tryz.ntmps174
 go_wp2_with fail
 refine HW.out.mono ?_
 rintro e w2 hq
 obtain⟨rfl,cs9,hl9,h19,hr9,ht9,hf9⟩:=HY.out _ _ hq
 have HF9:=Lib.hid hf9
 clear hq HW HY hf9
 go_wp2_with (first | (refine gateL 60 3 rfl ?_;refine wpList_load_mid rfl 60 _ rfl (w.heap.size+1+1) 0 rfl _ _ hr9 Tryz.underlying60 rfl (by rw[hl9];kernel_rfl) ?_) | (refine gateS 60 2 rfl ?_;refine wpList_store_there rfl 60 _ _ rfl (w.heap.size+1) 0 rfl _ rfl (by rw[hl9];kernel_rfl) h19 ht9 ?_;intro w9 hst))
 exact bodyPost_ret (v:=_) (results_one rfl _ _ _ _ _ rfl (Tryz.asLoad hst.at' hl9)) rfl (HF9.out _ hst)
end
end Go.Proofs.YtcinokljkieijaaGreatDoor
