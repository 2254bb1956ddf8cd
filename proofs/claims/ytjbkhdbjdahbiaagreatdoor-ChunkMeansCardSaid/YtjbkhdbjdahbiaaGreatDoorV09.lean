/- Parts of a proof. -/
import Derived.Test.YtjbkhdbjdahbiaaGreatDoorV01
import Derived.Test.YtjbkhdbjdahbiaaGreatDoorV02
import Derived.Test.YtjbkhdbjdahbiaaGreatDoorV03
import Derived.Test.YtjbkhdbjdahbiaaGreatDoorV04
import Derived.Test.YtjbkhdbjdahbiaaGreatDoorV05
import Derived.Test.YtjbkhdbjdahbiaaGreatDoorV06
import Derived.Test.YtjbkhdbjdahbiaaGreatDoorV07
import Derived.Test.YtjbkhdbjdahbiaaGreatDoorV08
import Derived.Test.YtjbkhdbjdahbiaaGreatDoorQ19
set_option linter.unusedVariables false
set_option linter.unusedSimpArgs false
set_option maxHeartbeats 60000000
set_option maxRecDepth 100000
namespace Go.Proofs.YtjbkhdbjdahbiaaGreatDoor
section
open Go.RowKit
def frmShB (B n:Nat):Pak.Sh Lf.FT where
 k:=4
 rel:=fun S w cs f=>Lf.FLiesS (fun b=>S b∧B≤b) w n f cs
 len:=fun h=>by obtain⟨_,_,_,_,rfl⟩:=h.four;rfl
 one:=fun h u hu=>(frmSh n).one h u hu
 keep:=fun hS hk h=>h.keep (fun b hb=>⟨hS b hb.1,hb.2⟩) (fun b o hb=>hk b o hb.1)
theorem run_push_fb {w:World}(n B:Nat)(xs:List Lf.FT)(x:Lf.FT)(v c0 c1 c2 c3:Value)(h:OwnL (frmShB B n) 38 B xs v w)(hB:B≤w.heap.size)(hx:Lf.FLiesS (fun b=>(b<w.heap.size∧v.ownBlock≠some b)∧B≤b) w n x [c0,c1,c2,c3])(hsz:xs.length≤1000000):
 ∃v' w',(∀ty,(Builtin.append_ #[30,30] ty #[v,.slice (some ⟨w.heap.size,0,none⟩) 1 1]).run Tryz.prog (w.alloc (.cells #[c0,c1,c2,c3] 38))= .ok v' w')∧OwnL (frmShB B n) 38 B (xs ++ [x]) v' w'∧Below B w w':=by
 obtain⟨i0,hi,hz0,hz1,hz2⟩:=info_parts Tryz.infoFormQ
 obtain⟨v',w',h1,h2,h3,_,h5⟩:=run_push_l (P:=Tryz.prog) (sh:=frmShB B n) 30 38 i0 _ 64 Tryz.underlying30 hi hz0 hz1 hz2 (by decide) rfl (Nat.zero_lt_succ 3) B xs x v [c0,c1,c2,c3] h hB hx hsz
 exact⟨v',w',h1,h2,h3⟩
theorem fl_node {B n:Nat}{W:World}{fs:List Lf.FT}{v:Value}(k:Int)(h:OwnL (frmShB B n) 38 B fs v W)(hl:fs.length≤9223372036854775807):∃a c,v= .slice a fs.length c∧Lf.FLiesS (InS B W) W (n+1) (.mk k 0 [] fs) [.int .i64 k,.int .i64 0,.slice none 0 0,.slice a fs.length c]:=by
 obtain⟨a,c,e,hs⟩:=h.sits hl
 obtain⟨css,_,h2,_⟩:=h.row
 have hlt:=World.ownsRow.lt h2
 refine⟨a,c,e,none,0,a,c,rfl,fun i hi=>absurd hi (Nat.not_lt_zero i),Nat.zero_le _,hl,fun i hi=> ?_⟩
 obtain⟨b,off,cs,ea,hb,hc,hr⟩:=hs.2 i hi
 have hr':Lf.FLiesS (fun b=>Pak.Lo W.heap.size b∧B≤b) W n fs[i] cs:=hr
 obtain⟨c0,c1,c2,c3,rfl⟩:=hr'.four
 have hBb:B≤b:=(hlt b (by rw[e,ea];rfl)).1
 refine⟨b,off,c0,c1,c2,c3,ea,⟨hBb,hb⟩,hc 0 _ rfl,hc 1 _ rfl,hc 2 _ rfl,hc 3 _ rfl, ?_⟩
 have e2:(Lf.FT.mk k 0 [] fs).ks.getD i default=fs[i]:=by
  show fs.getD i default=fs[i]
  rw[List.getD_eq_getElem?_getD,List.getElem?_eq_getElem (show i<fs.length from hi)]
  rfl
 rw[e2]
 exact hr'.keep (fun b h=>⟨h.2,h.1⟩) (fun _ _ _=>rfl)
theorem mapM_all {T U:Type}{f:T→Option U}:∀ {l:List T} {r:List U},r.length=l.length→(∀q (h:q<l.length) (h2:q<r.length),f l[q]=some r[q])→l.mapM f=some r
 | [],[],_,_=>rfl
 | x :: l,y :: r,hl,h=>by
   have h0:=h 0 (by simp) (by simp)
   have ih:=mapM_all (l:=l) (r:=r) (by simpa using hl) (fun q h1 h2=>h (q+1) (by simpa using h1) (by simpa using h2))
   simp only[List.getElem_cons_zero]at h0
   rw[List.mapM_cons,h0,ih]
   rfl
theorem mapM_no {T U:Type}{f:T→Option U}:∀ {l:List T} {j:Nat} (h:j<l.length),f l[j]=none→l.mapM f=none
 | x :: l,0,_,h=>by
   simp only[List.getElem_cons_zero]at h
   rw[List.mapM_cons,h]
   rfl
 | x :: l,j+1,hj,h=>by
   have ih:=mapM_no (l:=l) (j:=j) (by simpa using hj) (by simpa using h)
   rw[List.mapM_cons,ih]
   cases f x<;>rfl
theorem cond_form2 {n:Nat}{S:Nat→Prop}{w:World}{cs:List Value}{c:CT}(h:(condSh n).rel S w cs c):∃u1 d1 u2 d2,cs=[.int .i64 c.kind,.slice u1 c.es.length d1,.slice u2 c.ks.length d2]:=by
 cases n with
 | zero=>exact h.elim
 | succ k=>
   obtain⟨v1,v2,rfl,_,⟨u1,d1,rfl,_⟩,⟨u2,d2,rfl,_⟩⟩:=h
   exact⟨u1,d1,u2,d2,rfl⟩
structure RBx (w V:World)(k:Int)(ua:Option Addr)(un ud:Nat)(va:Option Addr)(vn vd:Nat):Prop where
 c0:V.cell? ⟨w.heap.size,0,none⟩=some (.int .i64 k)
 c1:V.cell? ⟨w.heap.size,1,none⟩=some (.slice ua un ud)
 c2:V.cell? ⟨w.heap.size,2,none⟩=some (.slice va vn vd)
 r0:V.cell? ⟨w.heap.size+1,0,none⟩=some (.int .i64 0)
 r1:V.cell? ⟨w.heap.size+1,1,none⟩=some (.int .i64 0)
 r2:V.cell? ⟨w.heap.size+1,2,none⟩=some (.slice none 0 0)
 r3:V.cell? ⟨w.heap.size+1,3,none⟩=some (.slice none 0 0)
 rf:∀i,V.frozen? ⟨w.heap.size+1,i,none⟩=false
 bel:Below w.heap.size w V
 lt:w.heap.size+1<V.heap.size
theorem RBx.below {w V V':World}{k:Int}{ua:Option Addr}{un ud:Nat}{va:Option Addr}{vn vd:Nat}{B:Nat}(h:RBx w V k ua un ud va vn vd)(hb:Below B V V')(hB:w.heap.size+1<B):RBx w V' k ua un ud va vn vd:=
 have lt0:w.heap.size<B:=by omega
 ⟨(hb.cell (p:=⟨_,_,none⟩) lt0).trans h.c0,(hb.cell (p:=⟨_,_,none⟩) lt0).trans h.c1,(hb.cell (p:=⟨_,_,none⟩) lt0).trans h.c2,(hb.cell (p:=⟨_,_,none⟩) hB).trans h.r0,(hb.cell (p:=⟨_,_,none⟩) hB).trans h.r1,(hb.cell (p:=⟨_,_,none⟩) hB).trans h.r2,(hb.cell (p:=⟨_,_,none⟩) hB).trans h.r3,fun i=>(hb.frozen (p:=⟨_,i,none⟩) hB).trans (h.rf i),h.bel.trans (hb.mono (by omega)),Nat.lt_of_lt_of_le h.lt hb.size⟩
theorem rbx_new {w:World}{k:Int}{ua:Option Addr}{un ud:Nat}{va:Option Addr}{vn vd:Nat}:RBx w ((w.alloc (.cells #[.int .i64 k,.slice ua un ud,.slice va vn vd] 52)).alloc (.cells #[.int .i64 0,.int .i64 0,.slice none 0 0,.slice none 0 0] 38)) k ua un ud va vn vd:=by
 have s1:(w.alloc (.cells #[.int .i64 k,.slice ua un ud,.slice va vn vd] 52)).heap.size=w.heap.size+1:=by simp
 have h1:((w.alloc (.cells #[.int .i64 k,.slice ua un ud,.slice va vn vd] 52)).alloc (.cells #[.int .i64 0,.int .i64 0,.slice none 0 0,.slice none 0 0] 38)).heap[w.heap.size]? =some (.cells #[.int .i64 k,.slice ua un ud,.slice va vn vd] 52):=by
  rw[heap_alloc_old _ _ (by rw[s1];omega)]
  exact heap_alloc_new _ _
 have h2:((w.alloc (.cells #[.int .i64 k,.slice ua un ud,.slice va vn vd] 52)).alloc (.cells #[.int .i64 0,.int .i64 0,.slice none 0 0,.slice none 0 0] 38)).heap[w.heap.size+1]? =some (.cells #[.int .i64 0,.int .i64 0,.slice none 0 0,.slice none 0 0] 38):=by
  rw[←s1]
  exact heap_alloc_new _ _
 exact⟨(cell_of_row _ _ _ _ _ _ h1).trans rfl,(cell_of_row _ _ _ _ _ _ h1).trans rfl,(cell_of_row _ _ _ _ _ _ h1).trans rfl,(cell_of_row _ _ _ _ _ _ h2).trans rfl,(cell_of_row _ _ _ _ _ _ h2).trans rfl,(cell_of_row _ _ _ _ _ _ h2).trans rfl,(cell_of_row _ _ _ _ _ _ h2).trans rfl,fun i=>by rw[←s1];exact Lf.frozen_new _ _ _ _,below_two,by simp⟩
theorem RBx.put {w V:World}{k:Int}{ua:Option Addr}{un ud:Nat}{va:Option Addr}{vn vd:Nat}{v0 v1 v2 v3:Value}{n:Nat}{f:Lf.FT}(h:RBx w V k ua un ud va vn vd)(hf:Lf.FLiesS (InS (w.heap.size+2) V) V n f [v0,v1,v2,v3]):
 (((((V.setCell ⟨w.heap.size+1,0,none⟩ v0).setCell ⟨w.heap.size+1,1,none⟩ v1).setCell ⟨w.heap.size+1,2,none⟩ v2).setCell ⟨w.heap.size+1,3,none⟩ v3).cell? ⟨w.heap.size+1,0,none⟩=some v0∧((((V.setCell ⟨w.heap.size+1,0,none⟩ v0).setCell ⟨w.heap.size+1,1,none⟩ v1).setCell ⟨w.heap.size+1,2,none⟩ v2).setCell ⟨w.heap.size+1,3,none⟩ v3).cell? ⟨w.heap.size+1,1,none⟩=some v1∧((((V.setCell ⟨w.heap.size+1,0,none⟩ v0).setCell ⟨w.heap.size+1,1,none⟩ v1).setCell ⟨w.heap.size+1,2,none⟩ v2).setCell ⟨w.heap.size+1,3,none⟩ v3).cell? ⟨w.heap.size+1,2,none⟩=some v2∧((((V.setCell ⟨w.heap.size+1,0,none⟩ v0).setCell ⟨w.heap.size+1,1,none⟩ v1).setCell ⟨w.heap.size+1,2,none⟩ v2).setCell ⟨w.heap.size+1,3,none⟩ v3).cell? ⟨w.heap.size+1,3,none⟩=some v3)∧Lf.FLiesS (InS w.heap.size ((((V.setCell ⟨w.heap.size+1,0,none⟩ v0).setCell ⟨w.heap.size+1,1,none⟩ v1).setCell ⟨w.heap.size+1,2,none⟩ v2).setCell ⟨w.heap.size+1,3,none⟩ v3)) ((((V.setCell ⟨w.heap.size+1,0,none⟩ v0).setCell ⟨w.heap.size+1,1,none⟩ v1).setCell ⟨w.heap.size+1,2,none⟩ v2).setCell ⟨w.heap.size+1,3,none⟩ v3) n f [v0,v1,v2,v3]∧Below w.heap.size w ((((V.setCell ⟨w.heap.size+1,0,none⟩ v0).setCell ⟨w.heap.size+1,1,none⟩ v1).setCell ⟨w.heap.size+1,2,none⟩ v2).setCell ⟨w.heap.size+1,3,none⟩ v3):=by
 obtain⟨e0,e1,e2,e3,hb⟩:=store4 (v0:=v0) (v1:=v1) (v2:=v2) (v3:=v3) h.bel (show w.heap.size≤w.heap.size+1 by omega) h.r0 h.r1 h.r2 h.r3
 exact⟨⟨e0,e1,e2,e3⟩,fl_store4 hf (Nat.lt_succ_self _) (by omega),hb⟩
theorem ccond_two (n:Nat)(k:Int)(ua:Option Addr)(ud:Nat)(va:Option Addr)(vn vd:Nat)(la:Option Addr)(ln lcap:Nat)(x:Option Lf.FT)(w:World)
 (hc:∀W,Below w.heap.size w W→Calls Tryz.prog 68 #[.agg #[.int .i64 k,.slice ua 2 ud,.slice va vn vd],.slice la ln lcap] W (CmEnd 2 x W)):
 Calls Tryz.prog 44 #[.agg #[.int .i64 k,.slice ua 2 ud,.slice va vn vd],.slice la ln lcap] w (CmEnd (n+2) x w):=by
 have X0:Hid (RBx w ((w.alloc (.cells #[.int .i64 k,.slice ua 2 ud,.slice va vn vd] 52)).alloc (.cells #[.int .i64 0,.int .i64 0,.slice none 0 0,.slice none 0 0] 38)) k ua 2 ud va vn vd):=Lib.hid rbx_new
 have F:=Lib.hid (hc _ X0.out.bel)
 clear hc
 have k0:=X0.out.c0
 have k1:=X0.out.c1
 have k2:=X0.out.c2
 go_enter Tryz.func44,Tryz.ntmps44
 go_wp2_with fail
 refine F.out.mono ?_
 rintro r w2 ⟨y,cs,nb,rfl,hf,hb,hx⟩
 obtain⟨x0,x1,x2,x3,rfl⟩:=hf.four
 obtain⟨sk,sc,sta,stn,stc,ska,skn,skc,rfl,rfl,rfl,rfl⟩:=(hf.lies (B:=w2.heap.size) (fun b hb=>hb.2)).form
 have X2:=Lib.hid (X0.out.below hb X0.out.lt)
 have HF2:Hid (Lf.FLiesS (InS (w.heap.size+2) w2) w2 (n+2) y [.int .i64 sk,.int .i64 sc,.slice sta stn stc,.slice ska skn skc]):=Lib.hid (fl_raise (by omega) (hf.keep (fun b h=>⟨Nat.le_trans X0.out.lt h.1,h.2⟩) (fun _ _ _=>rfl)))
 have HX:=Lib.hid hx
 clear hf hb hx F k0 k1 k2 X0
 obtain⟨E4,FLF,BLF⟩:=X2.out.put (HF2.out)
 have E:=Lib.hid E4
 have RES:=Lib.hid (And.intro FLF BLF)
 clear E4 FLF BLF
 have rr0:=X2.out.r0
 have rr1:=X2.out.r1
 have rr2:=X2.out.r2
 have rr3:=X2.out.r3
 have z0:=X2.out.rf 0
 have z1:=X2.out.rf 1
 have z2:=X2.out.rf 2
 have z3:=X2.out.rf 3
 have kk1:=X2.out.c0
 go_wp2_with fail
 obtain⟨e0,e1,e2,e3⟩:=E.out
 refine bodyPost_ret (v:= .tuple #[.agg #[.int .i64 sk,.int .i64 sc,.slice sta stn stc,.slice ska skn skc],.bool nb]) ?_ rfl ⟨y,[.int .i64 sk,.int .i64 sc,.slice sta stn stc,.slice ska skn skc],nb,rfl,RES.out.1,RES.out.2,HX.out⟩
 simp[results,Tryz.results44,go_sem,e0,e1,e2,e3]
theorem ccond_any {nm:ByteArray→Bool}(la:Option Addr)(lcap:Nat)(xs:List (ByteArray×LT))(hsd:∀x∈xs,Sd x.2):∀(n:Nat) (c:CT) (cs:List Value) (w:World),snC nm n c=true→(condSh n).rel (Pak.Lo w.heap.size) w cs c→Pak.Sits symSh (Pak.Lo w.heap.size) w la xs→
 Calls Tryz.prog 44 #[.agg cs.toArray,.slice la xs.length lcap] w (CmEnd (n+1) (condF (fun s=>symOf s xs) n c) w)
 | 0,_,_,_,h,_,_=>by simp[snC]at h
 | n+1,.mk k es ks,cs,w,h,hr,hx=>by
   obtain⟨hk,hes,hks⟩:=snC_parts h
   obtain⟨u,v,rfl,_,⟨ua,ud,rfl,hs1⟩,⟨va,vd,rfl,hs2⟩⟩:=hr
   have IH:=ccond_any (nm:=nm) la lcap xs hsd n
   have hσ:∀s a,(fun s=>symOf s xs) s=some a→Sd a:=fun s a h=>symOf_sd hsd h
   have hk':(es.length=2∧2≤k∧k≤5)∨(es.length=0∧((k=0∨k=1)∧ks.length=0∨k=6∧ks.length=1∨k=7∧ks.length=2∨k=8∧ks.length=2)):=hk
   rcases hk' with ⟨he,_⟩ | ⟨he,hkk⟩
   ·have hn0:∃n',n=n'+1:=by
     cases n with
     | zero=>exact absurd (hes _ (List.getElem_mem (show 0<es.length by omega))) (by simp[snE])
     | succ n'=>exact⟨n',rfl⟩
    obtain⟨n',rfl⟩:=hn0
    have h0l:0<es.length:=by omega
    have h1l:1<es.length:=by omega
    obtain⟨be,oe,ce,rfl,hbe,hc0,hr0⟩:=hs1.2 0 h0l
    obtain⟨be',oe',ce',e2,_,hc1,hr1⟩:=hs1.2 1 h1l
    injection e2 with e2
    injection e2 with e3 e4
    subst e3 e4
    obtain⟨a0,c0,rfl⟩:=expr_form2 hr0
    obtain⟨a1,c1,rfl⟩:=expr_form2 hr1
    rw[exprSh_k]at hc0 hc1
    have e0:es.getD 0 default=es[0]:=by rw[List.getD_eq_getElem?_getD,List.getElem?_eq_getElem h0l];rfl
    have e1:es.getD 1 default=es[1]:=by rw[List.getD_eq_getElem?_getD,List.getElem?_eq_getElem h1l];rfl
    have hP:condF (fun s=>symOf s xs) (n'+1+1) (.mk k es ks)=(linE (fun s=>symOf s xs) (n'+1) es[0]).bind fun a=>(linE (fun s=>symOf s xs) (n'+1) es[1]).bind fun b=>cmpF k a b:=by
     unfold condF
     show(if es.length=2 then _ else _)=_
     rw[if_pos he]
     show((linE _ _ (es.getD 0 default)).bind _)=_
     rw[e0]
     congr 1
     funext a
     show((linE _ _ (es.getD 1 default)).bind _)=_
     rw[e1]
     rfl
    rw[hP]
    show Calls Tryz.prog 44 #[.agg #[.int .i64 k,.slice (some ⟨be,oe,none⟩) es.length ud,.slice va ks.length vd],.slice la xs.length lcap] w _
    rw[he]
    refine ccond_two (n'+1) k _ ud va ks.length vd la xs.length lcap _ w (fun W hW=> ?_)
    have hxW:=hx.below hW hW.size
    refine ccompare_any k be oe ud va ks.length vd la xs.length lcap _ _ _ a0 _ c0 _ _ _ a1 _ c1 _ _ W (Nat.lt_of_lt_of_le hbe hW.size) ?_ (fun V hV=>cexpr_any la lcap xs hsd (n'+1) es[0] _ V (hes _ (List.getElem_mem h0l)) (rel_low (rel_low hr0 hW) hV) (hxW.below hV hV.size)) (fun V hV=>cexpr_any la lcap xs hsd (n'+1) es[1] _ V (hes _ (List.getElem_mem h1l)) (rel_low (rel_low hr1 hW) hV) (hxW.below hV hV.size)) (fun a h=>linE_sd hσ (hes _ (List.getElem_mem h0l)) h) (fun a h=>linE_sd hσ (hes _ (List.getElem_mem h1l)) h)
    intro j v hj
    have hcell:w.cell? ⟨be,oe+j,none⟩=some v:=by
     unfold eAt at hj
     match j,hj with
     | 0,hj=>exact hc0 0 v hj
     | 1,hj=>exact hc0 1 v hj
     | 2,hj=>exact hc0 2 v hj
     | 3,hj=>exact hc0 3 v hj
     | 4,hj=>exact hc1 0 v hj
     | 5,hj=>exact hc1 1 v hj
     | 6,hj=>exact hc1 2 v hj
     | 7,hj=>exact hc1 3 v hj
    exact(hW.cell (p:=⟨be,_,none⟩) hbe).trans hcell
   ·have hk2:ks.length≤2:=by omega
    have HKK:=Lib.hid hkk
    have hP:condF (fun s=>symOf s xs) (n+1) (.mk k es ks)=(ks.mapM (condF (fun s=>symOf s xs) n)).map fun fs=> .mk (kindF k) 0 [] fs:=by
     unfold condF
     show(if es.length=2 then _ else _)=_
     rw[if_neg (by omega)]
     rfl
    rw[hP]
    show Calls Tryz.prog 44 #[.agg #[.int .i64 k,.slice ua es.length ud,.slice va ks.length vd],.slice la xs.length lcap] w _
    rw[he]
    have X0:Hid (RBx w ((w.alloc (.cells #[.int .i64 k,.slice ua 0 ud,.slice va ks.length vd] 52)).alloc (.cells #[.int .i64 0,.int .i64 0,.slice none 0 0,.slice none 0 0] 38)) k ua 0 ud va ks.length vd):=Lib.hid rbx_new
    have H2:=Lib.hid hs2
    have HI:=Lib.hid (fun j (h:j<ks.length) cs W (hW:Below w.heap.size w W) (hr:(condSh n).rel (Pak.Lo W.heap.size) W cs ks[j])=>IH ks[j] cs W (hks _ (List.getElem_mem h)) hr (hx.below hW hW.size))
    clear IH hes hks hs1 hs2 hx h hP hk hkk hσ
    have k0:=X0.out.c0
    have k1:=X0.out.c1
    have k2:=X0.out.c2
    go_enter Tryz.func44,Tryz.ntmps44
    go_wp2_with fail
    clear k0 k1 k2
    go_loopw [6,24] (fun v i wr=>∃(j:Nat) (fs:List Lf.FT),i= .int .i64 j∧j≤ks.length∧Hid (fs.length=j∧∀q (h:q<ks.length) (h2:q<fs.length),condF (fun s=>symOf s xs) n ks[q]=some fs[q])∧Hid (OwnL (frmShB (w.heap.size+2) (n+1)) 38 (w.heap.size+2) fs v wr)∧Hid (RBx w wr k ua 0 ud va ks.length vd)) (fun _ i _=>ks.length - (intOf i).toNat)
    case atStart=>exact⟨0,[],rfl,Nat.zero_le _,⟨rfl,fun q _ h2=>absurd h2 (Nat.not_lt_zero q)⟩,OwnL.nil _ _ _ _,X0⟩
    case round=>
     obtain⟨j,fs,rfl,hj,hfs,hown,hX⟩:=hrel
     clear X0
     by_cases hlt:j<ks.length
     ·have hji:(j:Int)<(ks.length:Int):=by omega
      obtain⟨bv,ov,cv,rfl,hbv,hcv,hrv⟩:=H2.out.2 j hlt
      obtain⟨u1,d1,u2,d2,rfl⟩:=cond_form2 hrv
      rw[condSh_k]at hcv
      have hup:=fun o v e=>(hX.out.bel.cell (p:=⟨bv,ov+j*3+o,none⟩) hbv).trans (hcv o v e)
      have g0:wr.cell? ⟨bv,ov+j*3,none⟩=_:=hup 0 _ rfl
      have g1:=hup 1 _ rfl
      have g2:=hup 2 _ rfl
      have XB:=Lib.hid (hX.out.below (box_low (cs:= #[.int .i64 ks[j].kind,.slice u1 ks[j].es.length d1,.slice u2 ks[j].ks.length d2]) (t:=52)) hX.out.lt)
      have F:=Lib.hid (HI.out j hlt _ _ XB.out.bel (rel_low hrv XB.out.bel))
      have HOW:=Lib.hid (hown.out.below (box_low (cs:= #[.int .i64 ks[j].kind,.slice u1 ks[j].es.length d1,.slice u2 ks[j].ks.length d2]) (t:=52)))
      have HOB:Hid (∀b,u6.ownBlock=some b→b<wr.heap.size):=Lib.hid fun b e=>by
       obtain⟨css,_,h2,_⟩:=hown.out.row
       exact(World.ownsRow.lt h2 b e).2
      have HFS:=Lib.hid hfs.out
      have HWR:Hid (w.heap.size+1<wr.heap.size):=Lib.hid hX.out.lt
      clear hup hcv hrv hX hown hfs hbv
      go_wp2_with fail
      refine F.out.mono ?_
      rintro r w2 ⟨y,cs,nb,rfl,hf,hb,hx⟩
      obtain⟨x0,x1,x2,x3,rfl⟩:=hf.four
      obtain⟨sk,sc,sta,stn,stc,ska,skn,skc,rfl,rfl,rfl,rfl⟩:=(hf.lies (B:=w2.heap.size) (fun b hb=>hb.2)).form
      have X2:=Lib.hid ((XB.out.below hb XB.out.lt).below (box_low (cs:= #[.int .i64 sk,.int .i64 sc,.slice sta stn stc,.slice ska skn skc]) (t:=38)) (by have:=XB.out.lt;have:=hb.size;omega))
      have HX:=Lib.hid hx
      cases nb with
      | true=>
        have hcf:condF (fun s=>symOf s xs) n ks[j]=some y:=by
         rcases hx with ⟨_,h⟩ | ⟨h,_⟩
         ·exact h
         ·cases h
        have HNF:Hid ((fs ++ [y]).length=j+1∧∀q (h:q<ks.length) (h2:q<(fs ++ [y]).length),condF (fun s=>symOf s xs) n ks[q]=some (fs ++ [y])[q]):=Lib.hid ⟨by rw[List.length_append,HFS.out.1,List.length_singleton],fun q h h2=>by
         by_cases e:q<fs.length
         ·rw[List.getElem_append_left e]
          exact HFS.out.2 q h e
         ·have e2:q=j:=by rw[List.length_append,HFS.out.1,List.length_singleton]at h2;rw[HFS.out.1]at e;omega
          subst e2
          rw[hcf,List.getElem_append_right (by omega)]
          simp[HFS.out.1]⟩
        have hA:Below w2.heap.size w2 (w2.alloc (.cells #[.int .i64 sk,.int .i64 sc,.slice sta stn stc,.slice ska skn skc] 38)):=box_low
        have hBB:wr.heap.size≤(wr.alloc (.cells #[.int .i64 ks[j].kind,.slice u1 ks[j].es.length d1,.slice u2 ks[j].ks.length d2] 52)).heap.size:=by simp
        obtain⟨v8,w8,hrun,hrow8,hb8⟩:=run_push_fb (w:=w2.alloc (.cells #[.int .i64 sk,.int .i64 sc,.slice sta stn stc,.slice ska skn skc] 38)) (n+1) (w.heap.size+2) fs y u6 _ _ _ _ ((HOW.out.below hb).below hA) (by have:=X2.out.lt;omega) (hf.keep (fun b h=>⟨⟨Nat.lt_of_lt_of_le h.2 hA.size,fun e=>by have:=HOB.out b e;have:=h.1;omega⟩,by have:=h.1;have:=HWR.out;omega⟩) (fun b o h=>hA.cell (p:=⟨b,o,none⟩) h.2)) (by rw[HFS.out.1];omega)
        rw[show(w2.alloc (.cells #[.int .i64 sk,.int .i64 sc,.slice sta stn stc,.slice ska skn skc] 38)).heap.size=w2.heap.size+1 from by simp]at hrun
        have HROW:=Lib.hid hrow8
        have X8:=Lib.hid (X2.out.below hb8 (Nat.lt_succ_self _))
        clear hrow8 hb8 hA hf hb hx hcf HX F HOW XB X2 g0 g1 g2
        go_wp2_with (at_builtin;refine Lib.wpList_append_run _ rfl _ _ _ _ rfl _ _ rfl rfl _ _ (hrun _) ?_)
        clear hrun
        go_roundw
        case rel=>exact⟨j+1,_,by go_num,by omega,HNF,HROW,X8⟩
        case measure=>simp[intOf];omega
      | false=>
        have HR:Hid (((ks.mapM (condF (fun s=>symOf s xs) n)).map fun fs=>Lf.FT.mk (kindF k) 0 [] fs)=none):=Lib.hid (by
         rcases hx with ⟨h,_⟩ | ⟨_,h⟩
         ·cases h
         ·rw[mapM_no hlt h];rfl)
        clear hf hb hx HX F HOW XB g0 g1 g2
        obtain⟨E4,FLF,BLF⟩:=X2.out.put (f0_lies)
        have E:=Lib.hid E4
        have RES:=Lib.hid (And.intro FLF BLF)
        clear E4 FLF BLF
        have rr0:=X2.out.r0
        have rr1:=X2.out.r1
        have rr2:=X2.out.r2
        have rr3:=X2.out.r3
        have z0:=X2.out.rf 0
        have z1:=X2.out.rf 1
        have z2:=X2.out.rf 2
        have z3:=X2.out.rf 3
        have kk1:=X2.out.c0
        go_wp2_with fail
        obtain⟨e0,e1,e2,e3⟩:=E.out
        refine bodyPost_ret (v:= .tuple #[.agg #[.int .i64 0,.int .i64 0,.slice none 0 0,.slice none 0 0],.bool false]) ?_ rfl ⟨f0,[.int .i64 0,.int .i64 0,.slice none 0 0,.slice none 0 0],false,rfl,RES.out.1,RES.out.2,.inr ⟨rfl,HR.out⟩⟩
        simp[results,Tryz.results44,go_sem,e0,e1,e2,e3]
     ·obtain rfl:j=ks.length:=by omega
      have hlti:¬(ks.length:Int)<(ks.length:Int):=by omega
      have XE:=Lib.hid hX.out
      have HCF:Hid (((ks.mapM (condF (fun s=>symOf s xs) n)).map fun fs=>Lf.FT.mk (kindF k) 0 [] fs)=some (.mk (kindF k) 0 [] fs)):=Lib.hid (by rw[mapM_all hfs.out.1 hfs.out.2];rfl)
      clear hX
      have hkv:k=0∨k=1∨k=6∨k=7∨k=8:=by have:=HKK.out;omega
      rcases hkv with rfl | rfl | rfl | rfl | rfl
      ·obtain⟨fa,fc,rfl,HND⟩:=fl_node 0 hown.out (by rw[hfs.out.1];omega)
       have HN:=Lib.hid HND
       clear HND
       obtain⟨E4,FLF,BLF⟩:=XE.out.put (HN.out)
       have E:=Lib.hid E4
       have RES:=Lib.hid (And.intro FLF BLF)
       clear E4 FLF BLF
       have rr0:=XE.out.r0
       have rr1:=XE.out.r1
       have rr2:=XE.out.r2
       have rr3:=XE.out.r3
       have z0:=XE.out.rf 0
       have z1:=XE.out.rf 1
       have z2:=XE.out.rf 2
       have z3:=XE.out.rf 3
       have kk1:=XE.out.c0
       go_wp2_with fail
       obtain⟨e0,e1,e2,e3⟩:=E.out
       refine bodyPost_ret (v:= .tuple #[.agg #[.int .i64 0,.int .i64 0,.slice none 0 0,.slice fa fs.length fc],.bool true]) ?_ rfl ⟨.mk 0 0 [] fs,[.int .i64 0,.int .i64 0,.slice none 0 0,.slice fa fs.length fc],true,rfl,RES.out.1,RES.out.2,.inl ⟨rfl,by rw[HCF.out];rfl⟩⟩
       simp[results,Tryz.results44,go_sem,e0,e1,e2,e3]
      ·obtain⟨fa,fc,rfl,HND⟩:=fl_node 1 hown.out (by rw[hfs.out.1];omega)
       have HN:=Lib.hid HND
       clear HND
       obtain⟨E4,FLF,BLF⟩:=XE.out.put (HN.out)
       have E:=Lib.hid E4
       have RES:=Lib.hid (And.intro FLF BLF)
       clear E4 FLF BLF
       have rr0:=XE.out.r0
       have rr1:=XE.out.r1
       have rr2:=XE.out.r2
       have rr3:=XE.out.r3
       have z0:=XE.out.rf 0
       have z1:=XE.out.rf 1
       have z2:=XE.out.rf 2
       have z3:=XE.out.rf 3
       have kk1:=XE.out.c0
       go_wp2_with fail
       obtain⟨e0,e1,e2,e3⟩:=E.out
       refine bodyPost_ret (v:= .tuple #[.agg #[.int .i64 1,.int .i64 0,.slice none 0 0,.slice fa fs.length fc],.bool true]) ?_ rfl ⟨.mk 1 0 [] fs,[.int .i64 1,.int .i64 0,.slice none 0 0,.slice fa fs.length fc],true,rfl,RES.out.1,RES.out.2,.inl ⟨rfl,by rw[HCF.out];rfl⟩⟩
       simp[results,Tryz.results44,go_sem,e0,e1,e2,e3]
      ·obtain⟨fa,fc,rfl,HND⟩:=fl_node 4 hown.out (by rw[hfs.out.1];omega)
       have HN:=Lib.hid HND
       clear HND
       obtain⟨E4,FLF,BLF⟩:=XE.out.put (HN.out)
       have E:=Lib.hid E4
       have RES:=Lib.hid (And.intro FLF BLF)
       clear E4 FLF BLF
       have rr0:=XE.out.r0
       have rr1:=XE.out.r1
       have rr2:=XE.out.r2
       have rr3:=XE.out.r3
       have z0:=XE.out.rf 0
       have z1:=XE.out.rf 1
       have z2:=XE.out.rf 2
       have z3:=XE.out.rf 3
       have kk1:=XE.out.c0
       go_wp2_with fail
       obtain⟨e0,e1,e2,e3⟩:=E.out
       refine bodyPost_ret (v:= .tuple #[.agg #[.int .i64 4,.int .i64 0,.slice none 0 0,.slice fa fs.length fc],.bool true]) ?_ rfl ⟨.mk 4 0 [] fs,[.int .i64 4,.int .i64 0,.slice none 0 0,.slice fa fs.length fc],true,rfl,RES.out.1,RES.out.2,.inl ⟨rfl,by rw[HCF.out];rfl⟩⟩
       simp[results,Tryz.results44,go_sem,e0,e1,e2,e3]
      ·obtain⟨fa,fc,rfl,HND⟩:=fl_node 5 hown.out (by rw[hfs.out.1];omega)
       have HN:=Lib.hid HND
       clear HND
       obtain⟨E4,FLF,BLF⟩:=XE.out.put (HN.out)
       have E:=Lib.hid E4
       have RES:=Lib.hid (And.intro FLF BLF)
       clear E4 FLF BLF
       have rr0:=XE.out.r0
       have rr1:=XE.out.r1
       have rr2:=XE.out.r2
       have rr3:=XE.out.r3
       have z0:=XE.out.rf 0
       have z1:=XE.out.rf 1
       have z2:=XE.out.rf 2
       have z3:=XE.out.rf 3
       have kk1:=XE.out.c0
       go_wp2_with fail
       obtain⟨e0,e1,e2,e3⟩:=E.out
       refine bodyPost_ret (v:= .tuple #[.agg #[.int .i64 5,.int .i64 0,.slice none 0 0,.slice fa fs.length fc],.bool true]) ?_ rfl ⟨.mk 5 0 [] fs,[.int .i64 5,.int .i64 0,.slice none 0 0,.slice fa fs.length fc],true,rfl,RES.out.1,RES.out.2,.inl ⟨rfl,by rw[HCF.out];rfl⟩⟩
       simp[results,Tryz.results44,go_sem,e0,e1,e2,e3]
      ·obtain⟨fa,fc,rfl,HND⟩:=fl_node 6 hown.out (by rw[hfs.out.1];omega)
       have HN:=Lib.hid HND
       clear HND
       obtain⟨E4,FLF,BLF⟩:=XE.out.put (HN.out)
       have E:=Lib.hid E4
       have RES:=Lib.hid (And.intro FLF BLF)
       clear E4 FLF BLF
       have rr0:=XE.out.r0
       have rr1:=XE.out.r1
       have rr2:=XE.out.r2
       have rr3:=XE.out.r3
       have z0:=XE.out.rf 0
       have z1:=XE.out.rf 1
       have z2:=XE.out.rf 2
       have z3:=XE.out.rf 3
       have kk1:=XE.out.c0
       go_wp2_with fail
       obtain⟨e0,e1,e2,e3⟩:=E.out
       refine bodyPost_ret (v:= .tuple #[.agg #[.int .i64 6,.int .i64 0,.slice none 0 0,.slice fa fs.length fc],.bool true]) ?_ rfl ⟨.mk 6 0 [] fs,[.int .i64 6,.int .i64 0,.slice none 0 0,.slice fa fs.length fc],true,rfl,RES.out.1,RES.out.2,.inl ⟨rfl,by rw[HCF.out];rfl⟩⟩
       simp[results,Tryz.results44,go_sem,e0,e1,e2,e3]
end
section
open Go.RowKit
def cfR (k:Int)(sd:Bool)(x:Option Lf.FT):Lf.FT×Int:=if k=0∧sd=true then(match x with | some y=>(y,0) | none=>(f0,3)) else(f0,5)
theorem RBx.putA {w V:World}{k:Int}{ua:Option Addr}{un ud:Nat}{va:Option Addr}{vn vd:Nat}{v0 v1 v2 v3:Value}{n:Nat}{f:Lf.FT}{c:Array Value}{t:TypeId}(h:RBx w V k ua un ud va vn vd)(hf:Lf.FLiesS (InS (w.heap.size+2) V) V n f [v0,v1,v2,v3]):
 ((((((V.setCell ⟨w.heap.size+1,0,none⟩ v0).setCell ⟨w.heap.size+1,1,none⟩ v1).setCell ⟨w.heap.size+1,2,none⟩ v2).setCell ⟨w.heap.size+1,3,none⟩ v3).alloc (.cells c t)).cell? ⟨w.heap.size+1,0,none⟩=some v0∧(((((V.setCell ⟨w.heap.size+1,0,none⟩ v0).setCell ⟨w.heap.size+1,1,none⟩ v1).setCell ⟨w.heap.size+1,2,none⟩ v2).setCell ⟨w.heap.size+1,3,none⟩ v3).alloc (.cells c t)).cell? ⟨w.heap.size+1,1,none⟩=some v1∧(((((V.setCell ⟨w.heap.size+1,0,none⟩ v0).setCell ⟨w.heap.size+1,1,none⟩ v1).setCell ⟨w.heap.size+1,2,none⟩ v2).setCell ⟨w.heap.size+1,3,none⟩ v3).alloc (.cells c t)).cell? ⟨w.heap.size+1,2,none⟩=some v2∧(((((V.setCell ⟨w.heap.size+1,0,none⟩ v0).setCell ⟨w.heap.size+1,1,none⟩ v1).setCell ⟨w.heap.size+1,2,none⟩ v2).setCell ⟨w.heap.size+1,3,none⟩ v3).alloc (.cells c t)).cell? ⟨w.heap.size+1,3,none⟩=some v3)∧Lf.FLiesS (InS w.heap.size (((((V.setCell ⟨w.heap.size+1,0,none⟩ v0).setCell ⟨w.heap.size+1,1,none⟩ v1).setCell ⟨w.heap.size+1,2,none⟩ v2).setCell ⟨w.heap.size+1,3,none⟩ v3).alloc (.cells c t))) (((((V.setCell ⟨w.heap.size+1,0,none⟩ v0).setCell ⟨w.heap.size+1,1,none⟩ v1).setCell ⟨w.heap.size+1,2,none⟩ v2).setCell ⟨w.heap.size+1,3,none⟩ v3).alloc (.cells c t)) n f [v0,v1,v2,v3]∧Below w.heap.size w (((((V.setCell ⟨w.heap.size+1,0,none⟩ v0).setCell ⟨w.heap.size+1,1,none⟩ v1).setCell ⟨w.heap.size+1,2,none⟩ v2).setCell ⟨w.heap.size+1,3,none⟩ v3).alloc (.cells c t)):=by
 obtain⟨⟨e0,e1,e2,e3⟩,F,B⟩:=h.put hf
 have hs:((((V.setCell ⟨w.heap.size+1,0,none⟩ v0).setCell ⟨w.heap.size+1,1,none⟩ v1).setCell ⟨w.heap.size+1,2,none⟩ v2).setCell ⟨w.heap.size+1,3,none⟩ v3).heap.size=V.heap.size:=by simp
 have hk:Below ((((V.setCell ⟨w.heap.size+1,0,none⟩ v0).setCell ⟨w.heap.size+1,1,none⟩ v1).setCell ⟨w.heap.size+1,2,none⟩ v2).setCell ⟨w.heap.size+1,3,none⟩ v3).heap.size ((((V.setCell ⟨w.heap.size+1,0,none⟩ v0).setCell ⟨w.heap.size+1,1,none⟩ v1).setCell ⟨w.heap.size+1,2,none⟩ v2).setCell ⟨w.heap.size+1,3,none⟩ v3) (((((V.setCell ⟨w.heap.size+1,0,none⟩ v0).setCell ⟨w.heap.size+1,1,none⟩ v1).setCell ⟨w.heap.size+1,2,none⟩ v2).setCell ⟨w.heap.size+1,3,none⟩ v3).alloc (.cells c t)):=box_low
 have hl:w.heap.size+1<((((V.setCell ⟨w.heap.size+1,0,none⟩ v0).setCell ⟨w.heap.size+1,1,none⟩ v1).setCell ⟨w.heap.size+1,2,none⟩ v2).setCell ⟨w.heap.size+1,3,none⟩ v3).heap.size:=by rw[hs];exact h.lt
 exact⟨⟨(hk.cell (p:=⟨_,_,none⟩) hl).trans e0,(hk.cell (p:=⟨_,_,none⟩) hl).trans e1,(hk.cell (p:=⟨_,_,none⟩) hl).trans e2,(hk.cell (p:=⟨_,_,none⟩) hl).trans e3⟩,F.keep (fun b hb=>⟨hb.1,Nat.lt_of_lt_of_le hb.2 hk.size⟩) (fun b o hb=>hk.cell (p:=⟨b,o,none⟩) hb.2),B.alloc (by have:=h.lt;rw[hs];omega) _⟩
theorem cCond_box (n:Nat)(k:Int)(ua:Option Addr)(un ud:Nat)(va:Option Addr)(vn vd:Nat)(la:Option Addr)(ln lcap:Nat)(kk:Int)(sd:Bool)(x:Option Lf.FT)(w:World)
 (hr:Calls Tryz.prog 38 #[.agg #[.int .i64 8,.string ⟨#[]⟩,.string ⟨#[]⟩,.string ⟨#[]⟩,.int .i64 0,.int .i64 0,.string ⟨#[]⟩,.slice none 0 0,.int .i64 0,.int .i64 0,.string ⟨#[]⟩,.slice none 0 0,.int .i64 k,.slice ua un ud,.slice va vn vd,.int .i64 0,.int .i64 0,.slice none 0 0,.slice none 0 0,.int .i64 0,.int .i64 0,.string ⟨#[]⟩,.slice none 0 0,.int .i64 0,.int .i64 0,.string ⟨#[]⟩,.slice none 0 0,.string ⟨#[]⟩,.int .i64 0,.slice none 0 0,.slice none 0 0,.slice none 0 0,.slice none 0 0,.slice none 0 0,.slice none 0 0]] ((w.alloc (.cells #[.int .i64 k,.slice ua un ud,.slice va vn vd] 52)).alloc (.cells #[.int .i64 0,.int .i64 0,.slice none 0 0,.slice none 0 0] 38)) (SoundEnd (!(kk == 0)) ((w.alloc (.cells #[.int .i64 k,.slice ua un ud,.slice va vn vd] 52)).alloc (.cells #[.int .i64 0,.int .i64 0,.slice none 0 0,.slice none 0 0] 38))))
 (hs:∀W,Below w.heap.size w W→Calls Tryz.prog 39 #[.slice la ln lcap] W (SoundEnd sd W))
 (hx:kk=0→sd=true→∀W,Below w.heap.size w W→Calls Tryz.prog 44 #[.agg #[.int .i64 k,.slice ua un ud,.slice va vn vd],.slice la ln lcap] W (CmEnd (n+1) x W)):
 Calls Tryz.prog 21 #[.agg #[.int .i64 k,.slice ua un ud,.slice va vn vd],.slice la ln lcap] w (FmEnd (n+1) (cfR kk sd x) w):=by
 have X0:Hid (RBx w ((w.alloc (.cells #[.int .i64 k,.slice ua un ud,.slice va vn vd] 52)).alloc (.cells #[.int .i64 0,.int .i64 0,.slice none 0 0,.slice none 0 0] 38)) k ua un ud va vn vd):=Lib.hid rbx_new
 have HR:=Lib.hid hr
 have HS:=Lib.hid hs
 have HX:=Lib.hid hx
 clear hr hs hx
 have k0:=X0.out.c0
 have k1:=X0.out.c1
 have k2:=X0.out.c2
 go_enter Tryz.func21,Tryz.ntmps21
 go_wp2_with fail
 refine HR.out.mono ?_
 rintro r w2 ⟨rfl,hb⟩
 have X2:=Lib.hid (X0.out.below hb X0.out.lt)
 clear hb HR X0 k0 k1 k2
 by_cases hk:kk=0
 ·have hz:(!(kk == 0))=false:=by rw[hk];rfl
  rw[hz]
  have HK:=Lib.hid hk
  clear hz hk
  have HS2:=Lib.hid (HS.out _ X2.out.bel)
  clear HS
  go_wp2_with fail
  refine HS2.out.mono ?_
  rintro r w3 ⟨rfl,hb⟩
  have X3:=Lib.hid (X2.out.below hb X2.out.lt)
  clear hb HS2 X2
  cases sd with
  | false=>
    have HRS:Hid (cfR kk false x=(f0,5)):=Lib.hid (by unfold cfR;rw[if_neg (by simp)])
    have X9:=X3
    clear HX X3
    obtain⟨E4,FLF,BLF⟩:=X9.out.put f0_lies
    have E:=Lib.hid E4
    have RES:=Lib.hid (And.intro FLF BLF)
    clear E4 FLF BLF
    have rr0:=X9.out.r0
    have rr1:=X9.out.r1
    have rr2:=X9.out.r2
    have rr3:=X9.out.r3
    have z0:=X9.out.rf 0
    have z1:=X9.out.rf 1
    have z2:=X9.out.rf 2
    have z3:=X9.out.rf 3
    have lt9:=X9.out.lt
    go_wp2_with fail
    obtain⟨e0,e1,e2,e3⟩:=E.out
    refine bodyPost_ret (v:= .tuple #[.agg #[.int .i64 0,.int .i64 0,.slice none 0 0,.slice none 0 0],.iface 89 (.int .i64 5)]) ?_ rfl (by rw[HRS.out];exact⟨[.int .i64 0,.int .i64 0,.slice none 0 0,.slice none 0 0],by rw[show erV (5:Int)= .iface 89 (.int .i64 5) from if_neg (by decide)],RES.out.1,RES.out.2⟩)
    simp[results,Tryz.results21,go_sem,e0,e1,e2,e3]
  | true=>
    have HX2:=Lib.hid (HX.out HK.out rfl _ X3.out.bel)
    clear HX
    have k0:=X3.out.c0
    have k1:=X3.out.c1
    have k2:=X3.out.c2
    go_wp2_with fail
    refine HX2.out.mono ?_
    rintro r w4 ⟨y,cs,nb,rfl,hf,hb,hx⟩
    obtain⟨x0,x1,x2,x3,rfl⟩:=hf.four
    obtain⟨sk,sc,sta,stn,stc,ska,skn,skc,rfl,rfl,rfl,rfl⟩:=(hf.lies (B:=w4.heap.size) (fun b hb=>hb.2)).form
    have X9:=Lib.hid (X3.out.below hb X3.out.lt)
    have HF2:Hid (Lf.FLiesS (InS (w.heap.size+2) w4) w4 (n+1) y [.int .i64 sk,.int .i64 sc,.slice sta stn stc,.slice ska skn skc]):=Lib.hid (hf.keep (fun b h=>⟨Nat.le_trans X3.out.lt h.1,h.2⟩) (fun _ _ _=>rfl))
    cases nb with
    | true=>
      have HRS:Hid (cfR kk true x=(y,0)):=Lib.hid (by
       rcases hx with ⟨_,h⟩ | ⟨h,_⟩
       ·unfold cfR;rw[if_pos ⟨HK.out,rfl⟩,h]
       ·cases h)
      clear hf hb hx HX2 k0 k1 k2 X3
      obtain⟨E4,FLF,BLF⟩:=X9.out.putA HF2.out (c:= #[.int .i64 sk,.int .i64 sc,.slice sta stn stc,.slice ska skn skc]) (t:=38)
      have E:=Lib.hid E4
      have RES:=Lib.hid (And.intro FLF BLF)
      clear E4 FLF BLF
      have rr0:=X9.out.r0
      have rr1:=X9.out.r1
      have rr2:=X9.out.r2
      have rr3:=X9.out.r3
      have z0:=X9.out.rf 0
      have z1:=X9.out.rf 1
      have z2:=X9.out.rf 2
      have z3:=X9.out.rf 3
      have lt9:=X9.out.lt
      go_wp2_with fail
      obtain⟨e0,e1,e2,e3⟩:=E.out
      refine bodyPost_ret (v:= .tuple #[.agg #[.int .i64 sk,.int .i64 sc,.slice sta stn stc,.slice ska skn skc],.nilIface]) ?_ rfl (by rw[HRS.out];exact⟨[.int .i64 sk,.int .i64 sc,.slice sta stn stc,.slice ska skn skc],by rw[show erV (0:Int)= .nilIface from if_pos rfl],RES.out.1,RES.out.2⟩)
      simp[results,Tryz.results21,go_sem,e0,e1,e2,e3]
    | false=>
      have HRS:Hid (cfR kk true x=(f0,3)):=Lib.hid (by
       rcases hx with ⟨h,_⟩ | ⟨_,h⟩
       ·cases h
       ·unfold cfR;rw[if_pos ⟨HK.out,rfl⟩,h])
      clear hf hb hx HX2 k0 k1 k2 X3
      obtain⟨E4,FLF,BLF⟩:=X9.out.putA f0_lies (c:= #[.int .i64 sk,.int .i64 sc,.slice sta stn stc,.slice ska skn skc]) (t:=38)
      have E:=Lib.hid E4
      have RES:=Lib.hid (And.intro FLF BLF)
      clear E4 FLF BLF
      have rr0:=X9.out.r0
      have rr1:=X9.out.r1
      have rr2:=X9.out.r2
      have rr3:=X9.out.r3
      have z0:=X9.out.rf 0
      have z1:=X9.out.rf 1
      have z2:=X9.out.rf 2
      have z3:=X9.out.rf 3
      have lt9:=X9.out.lt
      go_wp2_with fail
      obtain⟨e0,e1,e2,e3⟩:=E.out
      refine bodyPost_ret (v:= .tuple #[.agg #[.int .i64 0,.int .i64 0,.slice none 0 0,.slice none 0 0],.iface 89 (.int .i64 3)]) ?_ rfl (by rw[HRS.out];exact⟨[.int .i64 0,.int .i64 0,.slice none 0 0,.slice none 0 0],by rw[show erV (3:Int)= .iface 89 (.int .i64 3) from if_neg (by decide)],RES.out.1,RES.out.2⟩)
      simp[results,Tryz.results21,go_sem,e0,e1,e2,e3]
 ·have hz:(!(kk == 0))=true:=by rw[beq_eq_false_iff_ne.2 hk];rfl
  rw[hz]
  have HRS:Hid (cfR kk sd x=(f0,5)):=Lib.hid (by unfold cfR;rw[if_neg (fun h=>hk h.1)])
  have X9:=X2
  clear HX HS hz hk X2
  obtain⟨E4,FLF,BLF⟩:=X9.out.put f0_lies
  have E:=Lib.hid E4
  have RES:=Lib.hid (And.intro FLF BLF)
  clear E4 FLF BLF
  have rr0:=X9.out.r0
  have rr1:=X9.out.r1
  have rr2:=X9.out.r2
  have rr3:=X9.out.r3
  have z0:=X9.out.rf 0
  have z1:=X9.out.rf 1
  have z2:=X9.out.rf 2
  have z3:=X9.out.rf 3
  have lt9:=X9.out.lt
  go_wp2_with fail
  obtain⟨e0,e1,e2,e3⟩:=E.out
  refine bodyPost_ret (v:= .tuple #[.agg #[.int .i64 0,.int .i64 0,.slice none 0 0,.slice none 0 0],.iface 89 (.int .i64 5)]) ?_ rfl (by rw[HRS.out];exact⟨[.int .i64 0,.int .i64 0,.slice none 0 0,.slice none 0 0],by rw[show erV (5:Int)= .iface 89 (.int .i64 5) from if_neg (by decide)],RES.out.1,RES.out.2⟩)
  simp[results,Tryz.results21,go_sem,e0,e1,e2,e3]
theorem cCond_any (n:Nat)(c:CT)(cc:List Value)(xs:List (ByteArray×LT))(la:Option Addr)(lcap:Nat)(w:World)(h:(condSh (n+2)).rel (Pak.Lo w.heap.size) w cc c)(hx:Pak.Sits symSh (Pak.Lo w.heap.size) w la xs)(hL:Laid w):
 Calls Tryz.prog 21 #[.agg cc.toArray,.slice la xs.length lcap] w (FmEnd (n+3) (cfR (ckC n c) (sdB xs) (condF (fun s=>symOf s xs) (n+2) c)) w):=by
 have h0:=h
 obtain⟨ua,ud,va,vd,rfl⟩:=cond_form2 h
 have hW:Below w.heap.size w ((w.alloc (.cells #[.int .i64 c.kind,.slice ua c.es.length ud,.slice va c.ks.length vd] 52)).alloc (.cells #[.int .i64 0,.int .i64 0,.slice none 0 0,.slice none 0 0] 38)):=below_two
 refine cCond_box (n+2) _ ua _ ud va _ vd la _ lcap (ckC n c) (sdB xs) _ w ?_ (fun W hb=>csound_any la lcap _ xs W rfl (hx.below hb hb.size)) (fun hk hsd W hb=> ?_)
 ·exact crefused_any n (sAst c) _ _ (sAst_rel (rel_low h0 hW)) (hL.up hW)
 ·exact ccond_any (nm:=nmB) la lcap xs (fun x hx2=>by have:=List.all_eq_true.1 hsd x hx2;exact this) (n+2) c _ W (chk_ast hk) (rel_low h0 hb) (hx.below hb hb.size)
end
section
open Go.RowKit
def sBoth (e:ET)(c:CT):ST:= .mk ⟨0,⟨#[]⟩,⟨#[]⟩,⟨#[]⟩,e,zE,c,zA,[],[],[]⟩ [] []
theorem sBoth_rel {n:Nat}{S:Nat→Prop}{w:World}{ce cc:List Value}{e:ET}{c:CT}(h:(exprSh (n+2)).rel S w ce e)(hc:(condSh (n+2)).rel S w cc c):(stmtSh (n+3)).rel S w ([.int .i64 0,.string ⟨#[]⟩,.string ⟨#[]⟩,.string ⟨#[]⟩] ++ (ce ++ (zEc ++ (cc ++ (zAc ++ [.slice none 0 0,.slice none 0 0,.slice none 0 0,.slice none 0 0,.slice none 0 0]))))) (sBoth e c):=
 ⟨ce,zEc,cc,zAc,_,_,_,_,_,rfl,⟨i64_0,Nat.zero_le _,Nat.zero_le _,Nat.zero_le _⟩,⟨h,zE_rel (n+1) S w,hc,zA_rel n S w⟩,⟨slot_nil _ _ _,slot_nil _ _ _,slot_nil _ _ _⟩,slot_nil _ _ _,slot_nil _ _ _⟩
theorem small_box (k0 m0:Int)(s0:ByteArray)(a0:Option Addr)(l0 c0:Nat)(k:Int)(ua:Option Addr)(un ud:Nat)(va:Option Addr)(vn vd:Nat)(la:Option Addr)(ln lcap:Nat)(t:Nat)(w:World)
 (hc:Calls Tryz.prog 37 #[.slice (some ⟨w.heap.size+2,0,none⟩) 1 1,.int .i64 300,.int .i64 300] (((w.alloc (.cells #[.int .i64 k0,.int .i64 m0,.string s0,.slice a0 l0 c0] 49)).alloc (.cells #[.int .i64 k,.slice ua un ud,.slice va vn vd] 52)).alloc (.cells #[.int .i64 0,.string ⟨#[]⟩,.string ⟨#[]⟩,.string ⟨#[]⟩,.int .i64 k0,.int .i64 m0,.string s0,.slice a0 l0 c0,.int .i64 0,.int .i64 0,.string ⟨#[]⟩,.slice none 0 0,.int .i64 k,.slice ua un ud,.slice va vn vd,.int .i64 0,.int .i64 0,.slice none 0 0,.slice none 0 0,.int .i64 0,.int .i64 0,.string ⟨#[]⟩,.slice none 0 0,.int .i64 0,.int .i64 0,.string ⟨#[]⟩,.slice none 0 0,.string ⟨#[]⟩,.int .i64 0,.slice none 0 0,.slice none 0 0,.slice none 0 0,.slice none 0 0,.slice none 0 0,.slice none 0 0] 104)) (SzEnd t 300 (((w.alloc (.cells #[.int .i64 k0,.int .i64 m0,.string s0,.slice a0 l0 c0] 49)).alloc (.cells #[.int .i64 k,.slice ua un ud,.slice va vn vd] 52)).alloc (.cells #[.int .i64 0,.string ⟨#[]⟩,.string ⟨#[]⟩,.string ⟨#[]⟩,.int .i64 k0,.int .i64 m0,.string s0,.slice a0 l0 c0,.int .i64 0,.int .i64 0,.string ⟨#[]⟩,.slice none 0 0,.int .i64 k,.slice ua un ud,.slice va vn vd,.int .i64 0,.int .i64 0,.slice none 0 0,.slice none 0 0,.int .i64 0,.int .i64 0,.string ⟨#[]⟩,.slice none 0 0,.int .i64 0,.int .i64 0,.string ⟨#[]⟩,.slice none 0 0,.string ⟨#[]⟩,.int .i64 0,.slice none 0 0,.slice none 0 0,.slice none 0 0,.slice none 0 0,.slice none 0 0,.slice none 0 0] 104)))):
 Calls Tryz.prog 16 #[.agg #[.int .i64 k0,.int .i64 m0,.string s0,.slice a0 l0 c0],.agg #[.int .i64 k,.slice ua un ud,.slice va vn vd],.slice la ln lcap] w (SmEnd (ln<50) w):=by
 have HB:Hid (Below w.heap.size w ((w.alloc (.cells #[.int .i64 k0,.int .i64 m0,.string s0,.slice a0 l0 c0] 49)).alloc (.cells #[.int .i64 k,.slice ua un ud,.slice va vn vd] 52))):=below_two
 have HB3:Hid (Below w.heap.size w (((w.alloc (.cells #[.int .i64 k0,.int .i64 m0,.string s0,.slice a0 l0 c0] 49)).alloc (.cells #[.int .i64 k,.slice ua un ud,.slice va vn vd] 52)).alloc (.cells #[.int .i64 0,.string ⟨#[]⟩,.string ⟨#[]⟩,.string ⟨#[]⟩,.int .i64 k0,.int .i64 m0,.string s0,.slice a0 l0 c0,.int .i64 0,.int .i64 0,.string ⟨#[]⟩,.slice none 0 0,.int .i64 k,.slice ua un ud,.slice va vn vd,.int .i64 0,.int .i64 0,.slice none 0 0,.slice none 0 0,.int .i64 0,.int .i64 0,.string ⟨#[]⟩,.slice none 0 0,.int .i64 0,.int .i64 0,.string ⟨#[]⟩,.slice none 0 0,.string ⟨#[]⟩,.int .i64 0,.slice none 0 0,.slice none 0 0,.slice none 0 0,.slice none 0 0,.slice none 0 0,.slice none 0 0] 104))):=Lib.hid (HB.out.alloc HB.out.size _)
 have HC:=Lib.hid hc
 clear hc
 by_cases hlt:ln<50
 ·have hi:(ln:Int)<50:=by omega
  have HL:=Lib.hid hlt
  clear hlt
  go_enter Tryz.func16,Tryz.ntmps16
  go_wp2_with fail
  refine HC.out.mono ?_
  rintro r w2 ⟨x,rfl,h1,h2,h3,hb⟩
  have HB2:=Lib.hid (HB3.out.trans (hb.mono HB3.out.size))
  clear h1 h2 h3 hb HC
  by_cases hx:0≤x
  ·have g1:decide (x ≥ 0)=true:=decide_eq_true hx
   have g2:decide (0≤x)=true:=decide_eq_true hx
   clear hx
   go_wp2_with fail
   go_ret
   exact⟨true,rfl,fun _=>HL.out,HB2.out⟩
  ·have g1:decide (x ≥ 0)=false:=decide_eq_false hx
   have g2:decide (0≤x)=false:=decide_eq_false hx
   clear hx
   go_wp2_with fail
   go_ret
   exact⟨false,rfl,fun h=>(by cases h),HB2.out⟩
 ·have hi:¬(ln:Int)<50:=by omega
  clear hlt HC
  go_enter Tryz.func16,Tryz.ntmps16
  go_wp2_with fail
  go_ret
  exact⟨false,rfl,fun h=>(by cases h),HB.out⟩
theorem small_any (n:Nat)(e:ET)(c:CT)(ce cc:List Value)(la:Option Addr)(ln lcap:Nat)(w:World)(he:(exprSh (n+2)).rel (Pak.Lo w.heap.size) w ce e)(hc:(condSh (n+2)).rel (Pak.Lo w.heap.size) w cc c):
 Calls Tryz.prog 16 #[.agg ce.toArray,.agg cc.toArray,.slice la ln lcap] w (SmEnd (ln<50) w):=by
 have he0:=he
 have hc0:=hc
 obtain⟨a0,c0,rfl⟩:=expr_form2 he
 obtain⟨ua,ud,va,vd,rfl⟩:=cond_form2 hc
 refine small_box _ _ _ a0 _ c0 _ ua _ ud va _ vd la ln lcap (ndTS (n+3) [sBoth e c]) w ?_
 have h2:Below w.heap.size w ((w.alloc (.cells #[.int .i64 e.kind,.int .i64 e.n,.string e.name,.slice a0 e.ks.length c0] 49)).alloc (.cells #[.int .i64 c.kind,.slice ua c.es.length ud,.slice va c.ks.length vd] 52)):=below_two
 have hA:=h2.alloc h2.size (.cells #[.int .i64 0,.string ⟨#[]⟩,.string ⟨#[]⟩,.string ⟨#[]⟩,.int .i64 e.kind,.int .i64 e.n,.string e.name,.slice a0 e.ks.length c0,.int .i64 0,.int .i64 0,.string ⟨#[]⟩,.slice none 0 0,.int .i64 c.kind,.slice ua c.es.length ud,.slice va c.ks.length vd,.int .i64 0,.int .i64 0,.slice none 0 0,.slice none 0 0,.int .i64 0,.int .i64 0,.string ⟨#[]⟩,.slice none 0 0,.int .i64 0,.int .i64 0,.string ⟨#[]⟩,.slice none 0 0,.string ⟨#[]⟩,.int .i64 0,.slice none 0 0,.slice none 0 0,.slice none 0 0,.slice none 0 0,.slice none 0 0,.slice none 0 0] 104)
 have hg:=heap_alloc_new ((w.alloc (.cells #[.int .i64 e.kind,.int .i64 e.n,.string e.name,.slice a0 e.ks.length c0] 49)).alloc (.cells #[.int .i64 c.kind,.slice ua c.es.length ud,.slice va c.ks.length vd] 52)) (.cells #[.int .i64 0,.string ⟨#[]⟩,.string ⟨#[]⟩,.string ⟨#[]⟩,.int .i64 e.kind,.int .i64 e.n,.string e.name,.slice a0 e.ks.length c0,.int .i64 0,.int .i64 0,.string ⟨#[]⟩,.slice none 0 0,.int .i64 c.kind,.slice ua c.es.length ud,.slice va c.ks.length vd,.int .i64 0,.int .i64 0,.slice none 0 0,.slice none 0 0,.int .i64 0,.int .i64 0,.string ⟨#[]⟩,.slice none 0 0,.int .i64 0,.int .i64 0,.string ⟨#[]⟩,.slice none 0 0,.string ⟨#[]⟩,.int .i64 0,.slice none 0 0,.slice none 0 0,.slice none 0 0,.slice none 0 0,.slice none 0 0,.slice none 0 0] 104)
 rw[show((w.alloc (.cells #[.int .i64 e.kind,.int .i64 e.n,.string e.name,.slice a0 e.ks.length c0] 49)).alloc (.cells #[.int .i64 c.kind,.slice ua c.es.length ud,.slice va c.ks.length vd] 52)).heap.size=w.heap.size+2 from by simp]at hg
 have key:∀V:World,Below w.heap.size w V→V.heap[w.heap.size+2]? =some (.cells ([.int .i64 0,.string ⟨#[]⟩,.string ⟨#[]⟩,.string ⟨#[]⟩] ++ ([.int .i64 e.kind,.int .i64 e.n,.string e.name,.slice a0 e.ks.length c0] ++ (zEc ++ ([.int .i64 c.kind,.slice ua c.es.length ud,.slice va c.ks.length vd] ++ (zAc ++ [.slice none 0 0,.slice none 0 0,.slice none 0 0,.slice none 0 0,.slice none 0 0])))):List Value).toArray 104 (0,0))→Pak.Sits (stmtSh (n+3)) (Pak.Lo V.heap.size) V (some ⟨w.heap.size+2,0,none⟩) [sBoth e c]:=fun V hV hg=>sits_block (sh:=stmtSh (n+3)) (S:=Pak.Lo V.heap.size) hg (Array.getElem?_eq_some_iff.1 hg).1 (sBoth_rel (rel_low he0 hV) (rel_low hc0 hV))
 exact sizeS_any (n+3) [sBoth e c] (some ⟨w.heap.size+2,0,none⟩) 1 300 300 _ (by omega) (by omega) (by omega) (by omega) (key _ hA hg)
end
section
open Go.RowKit
theorem Tryz.infoVarM:(Tryz.prog.info? 106).map (fun i=>(i.zero,i.size,i.bytes))=some (some (.agg #[.string ⟨#[]⟩,.int .i64 0]),2,24):=by kernel_rfl
theorem run_push_var {w:World}(B:Nat)(xs:List (ByteArray×Int))(s:ByteArray)(z:Int)(v:Value)(h:OwnL varSh 106 B xs v w)(hB:B≤w.heap.size)(hs:s.size≤maxLen)(hz:i64 z)(hsz:xs.length≤1000000):
 ∃v' w',(∀ty,(Builtin.append_ #[56,56] ty #[v,.slice (some ⟨w.heap.size,0,none⟩) 1 1]).run Tryz.prog (w.alloc (.cells #[.string s,.int .i64 z] 106))= .ok v' w')∧OwnL varSh 106 B (xs ++ [(s,z)]) v' w'∧Below B w w':=by
 obtain⟨i0,hi,hz0,hz1,hz2⟩:=info_parts Tryz.infoVarM
 obtain⟨v',w',h1,h2,h3,_,h5⟩:=run_push_l (P:=Tryz.prog) (sh:=varSh) 56 106 i0 _ 24 Tryz.underlying56 hi hz0 hz1 hz2 (by decide) rfl (by decide) B xs (s,z) v [.string s,.int .i64 z] h hB ⟨rfl,hs,hz⟩ hsz
 exact⟨v',w',h1,h2,h3⟩
theorem varsX_snoc (zs:List Int){xs:List (ByteArray×LT)}{j:Nat}(h:j<xs.length):varsX zs (xs.take (j+1))=varsX zs (xs.take j) ++ [(xs[j].1,evL zs xs[j].2)]:=by
 unfold varsX
 rw[List.take_succ_eq_append_getElem h,List.map_append]
 rfl
def VsEnd (zs:List Int)(xs:List (ByteArray×LT))(w:World)(e:Ending)(w':World):Prop:=∃v b,e= .returned (.tuple #[v,.bool b])∧(b=true→Pak.Slot varSh (Pak.Lo w'.heap.size) w' v (varsX zs xs))∧Below w.heap.size w w'
theorem values_any (la:Option Addr)(ln lcap:Nat)(xs:List (ByteArray×LT))(ua:Option Addr)(un ucap:Nat)(zs:List Int)(w:World)(hm:xs.length=ln)(h50:ln<50)(hx:Pak.Sits symSh (Pak.Lo w.heap.size) w la xs)(hun:zs.length=un)(hum:un≤9223372036854775807)(hz:Lf.Nums w.heap.size w ua zs):
 Calls Tryz.prog 17 #[.slice la ln lcap,.slice ua un ucap] w (VsEnd zs xs w):=by
 have HVL:=Lib.hid (fun(x:LT) (a:Option Addr) (k:Nat) W (hW:Below w.heap.size w W) (hlen:x.2.length≤9223372036854775807) (hl:Lf.Lies W.heap.size W a x.2)=>rval_fn zs x a k ua un ucap W hlen hun hum hl ((hz.below hW).mono hW.size))
 have HX:=Lib.hid hx
 have HM:=Lib.hid hm
 clear hx hun hz hm
 go_enter Tryz.func17,Tryz.ntmps17
 go_wp2_with fail
 go_loopw [6,7] (fun v i wr=>∃(j:Nat),i= .int .i64 j∧j≤ln∧Hid (OwnL varSh 106 w.heap.size (varsX zs (xs.take j)) v wr)∧Hid (Below w.heap.size w wr)) (fun _ i _=>ln - (intOf i).toNat)
 case atStart=>exact⟨0,rfl,Nat.zero_le _,OwnL.nil _ _ _ _,Below.refl _ _⟩
 case round=>
  obtain⟨j,rfl,hj,hown,hbel⟩:=hrel
  by_cases hlt:j<ln
  ·have hji:(j:Int)<(ln:Int):=by omega
   have hjx:j<xs.length:=by rw[HM.out];exact hlt
   obtain⟨bl,ol,cs,rfl,hbl,hcl,hrl⟩:=HX.out.2 j hjx
   obtain⟨c1,v1,rfl,hnm,hlr⟩:=hrl
   obtain⟨a,cap,rfl,rfl,hlen,hli,_⟩:=hlr.form
   have HUP:=Lib.hid (fun V (hV:Below w.heap.size w V) o v e=>(hV.cell (p:=⟨bl,ol+j*3+o,none⟩) hbl).trans (hcl o v e))
   have HW:=Lib.hid hbel.out
   have HO:=Lib.hid hown.out
   have HNM:=Lib.hid hnm
   have F:=Lib.hid (HVL.out xs[j].2 a cap wr HW.out hlen ((hli.below HW.out).mono HW.out.size))
   have HSN:=Lib.hid (varsX_snoc zs hjx)
   have g1:=HUP.out wr HW.out 1 _ rfl
   have g2:=HUP.out wr HW.out 2 _ rfl
   have HLE:Hid ((varsX zs (xs.take j)).length≤1000000):=Lib.hid (by unfold varsX;rw[List.length_map,List.length_take];omega)
   clear hcl hlr hli hown hbel hbl hnm HVL
   go_wp2_with fail
   refine F.out.mono ?_
   rintro r w2 ⟨rfl,hb2⟩
   have W2:=Lib.hid (HW.out.trans (hb2.mono HW.out.size))
   have O2:=Lib.hid (HO.out.below hb2)
   clear hb2 F HW HO g1 g2
   have g0:w2.cell? ⟨bl,ol+j*3,none⟩=_:=HUP.out w2 W2.out 0 _ rfl
   by_cases hra:(valL zs xs[j].2).2=0
   case neg=>
    have e1:((valL zs xs[j].2).2 != 0)=true:=by simpa using hra
    go_wp2_with fail
    go_ret2
    exact⟨_,false,rfl,fun h=>(by cases h),W2.out⟩
   have e1:((valL zs xs[j].2).2 != 0)=false:=by simp[hra]
   by_cases hgt:4294967296<(valL zs xs[j].2).1
   ·go_wp2_with fail
    go_ret2
    exact⟨_,false,rfl,fun h=>(by cases h),W2.out⟩
   by_cases hls:(valL zs xs[j].2).1< -4294967296
   ·go_wp2_with fail
    go_ret2
    exact⟨_,false,rfl,fun h=>(by cases h),W2.out⟩
   rw[←valL_ok hra]at HSN
   have h64:i64 (valL zs xs[j].2).1:=⟨by omega,by omega⟩
   obtain⟨v8,w8,hrun,hrow8,hb8⟩:=run_push_var (w:=w2) w.heap.size (varsX zs (xs.take j)) xs[j].1 (valL zs xs[j].2).1 _ O2.out W2.out.size HNM.out h64 HLE.out
   rw[←HSN.out]at hrow8
   have HROW:=Lib.hid hrow8
   have W8:=Lib.hid (W2.out.trans hb8)
   clear hrow8 hb8 h64
   go_wp2_with (at_builtin;refine Lib.wpList_append_run _ rfl _ _ _ _ rfl _ _ rfl rfl _ _ (hrun _) ?_)
   clear hrun
   go_roundw
   case rel=>exact⟨j+1,by go_num,by omega,HROW,W8⟩
   case measure=>simp[intOf];omega
  ·obtain rfl:j=ln:=by omega
   have hlti:¬(j:Int)<(j:Int):=by omega
   have HE:Hid (Pak.Slot varSh (Pak.Lo wr.heap.size) wr u6 (varsX zs xs)):=Lib.hid (by
    have h:=hown.out.sits (by unfold varsX;rw[List.length_map,List.length_take];omega)
    rwa [←HM.out,List.take_length]at h)
   have HB:=Lib.hid hbel.out
   clear hown hbel
   go_wp2_with fail
   go_ret2
   exact⟨_,true,rfl,fun _=>HE.out,HB.out⟩
end
end Go.Proofs.YtjbkhdbjdahbiaaGreatDoor
