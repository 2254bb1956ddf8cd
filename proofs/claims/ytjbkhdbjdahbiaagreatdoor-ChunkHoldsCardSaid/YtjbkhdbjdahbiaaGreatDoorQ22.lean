/- Parts of a proof. -/
import Derived.Test.YtjbkhdbjdahbiaaGreatDoorQ20
import Derived.Laws.OwnMore
set_option linter.unusedVariables false
set_option linter.unusedSimpArgs false
set_option maxHeartbeats 60000000
set_option maxRecDepth 100000
namespace Go.Proofs.YtjbkhdbjdahbiaaGreatDoor
section
open Go.RowKit
theorem copy_mono (W:World)(p:Option Addr)(k:Nat)(l:List (Int×Int))(hl:Lf.Lies W.heap.size W p l)(hn:p=none→l.length=0∧k=0)(hlen:l.length*16≤140737488355328):
 ∃a' k' w',(∀ty,(Builtin.append_ #[23,23] ty #[.slice (some ⟨W.heap.size,0,none⟩) 0 0,.slice p l.length k]).run Tryz.prog (W.alloc (.cells #[] 84))= .ok (.slice a' l.length k') w')∧Lf.Row W.heap.size l (.slice a' l.length k') w'∧Below W.heap.size W w':=by
 obtain⟨i0,hi,hz0,hz1,hz2⟩:=info_parts Lf.Tryz.infoMono
 have hA:Below W.heap.size W (W.alloc (.cells #[] 84)):=box_low
 have hown:(W.alloc (.cells #[] 84)).ownsRow W.heap.size 84 2 (.slice (some ⟨W.heap.size,0,none⟩) 0 0) 0 []:=World.ownsRow_made W #[] 0 (Nat.le_refl _) (by decide) rfl
 cases p with
 | none=>
   obtain⟨h0,rfl⟩:=hn rfl
   have hr:l=[]:=List.eq_nil_of_length_eq_zero h0
   subst hr
   exact⟨some ⟨W.heap.size,0,none⟩,0,_,fun ty=>run_append_owned_none _ W.heap.size _ ty _ i0 2 Tryz.underlying23 hi _ _ _ hown,hown,hA⟩
 | some ad=>
   obtain⟨v',w',hr,h3,h4,_⟩:=run_append_own (W.alloc (.cells #[] 84)) W.heap.size 23 23 84 i0 _ 2 16 Tryz.underlying23 hi hz0 hz1 hz2 rfl (by decide) _ 0 [] hown ad l.length k (Lf.flat l) (Lf.flat_len l) (hl.below hA).news (Lf.flat_cells l) (by unfold maxLen;omega) (by omega) hA.size
   have hrow:Lf.Row W.heap.size l v' w':=by
    unfold Lf.Row
    simpa using h3
   obtain⟨a',k',rfl,_,_⟩:=hrow.lies
   exact⟨a',k',w',fun ty=>hr,hrow,hA.grown h4 hA.size (fun b hb=>(World.ownsRow.lt hown b hb).1)⟩
structure CpBox (wr W:World)(o:CK)(v5 v6:Value):Prop where
 cells:W.cell? ⟨wr.heap.size,0,none⟩=some (.int .i64 o.a.1)∧W.cell? ⟨wr.heap.size,1,none⟩=some v5∧W.cell? ⟨wr.heap.size,2,none⟩=some (.string o.f)∧W.cell? ⟨wr.heap.size,3,none⟩=some (.int .i64 o.n)∧W.cell? ⟨wr.heap.size,4,none⟩=some (.int .i64 o.v.1)∧W.cell? ⟨wr.heap.size,5,none⟩=some v6
 fr:∀i,W.frozen? ⟨wr.heap.size,i,none⟩=false
 bel:Below wr.heap.size wr W
 lt:wr.heap.size<W.heap.size
theorem CpBox.below {wr W W':World}{o:CK}{v5 v6:Value}(h:CpBox wr W o v5 v6)(hb:Below W.heap.size W W'):CpBox wr W' o v5 v6:=by
 obtain⟨⟨c0,c1,c2,c3,c4,c5⟩,fr,bel,lt⟩:=h
 exact⟨⟨(hb.cell (p:=⟨_,_,none⟩) lt).trans c0,(hb.cell (p:=⟨_,_,none⟩) lt).trans c1,(hb.cell (p:=⟨_,_,none⟩) lt).trans c2,(hb.cell (p:=⟨_,_,none⟩) lt).trans c3,(hb.cell (p:=⟨_,_,none⟩) lt).trans c4,(hb.cell (p:=⟨_,_,none⟩) lt).trans c5⟩,fun i=>(hb.frozen (p:=⟨_,i,none⟩) lt).trans (fr i),bel.trans (hb.mono bel.size),Nat.lt_of_lt_of_le lt hb.size⟩
theorem CpBox.put1 {wr W:World}{o:CK}{v5 v6 v:Value}(h:CpBox wr W o v5 v6):CpBox wr (W.setCell ⟨wr.heap.size,1,none⟩ v) o v v6:=by
 obtain⟨⟨c0,c1,c2,c3,c4,c5⟩,fr,bel,lt⟩:=h
 refine⟨⟨?_,World.cell?_setCell_same _ _ _ c1, ?_, ?_, ?_, ?_⟩,fun i=>by rw[World.frozen?_setCell];exact fr i,bel.setCell (p:=⟨wr.heap.size,1,none⟩) (Nat.le_refl _) v,by simpa using lt⟩
 all_goals rw[World.cell?_setCell_other _ _ _ _ (by simp)];assumption
theorem CpBox.put5 {wr W:World}{o:CK}{v5 v6 v:Value}(h:CpBox wr W o v5 v6):CpBox wr (W.setCell ⟨wr.heap.size,5,none⟩ v) o v5 v:=by
 obtain⟨⟨c0,c1,c2,c3,c4,c5⟩,fr,bel,lt⟩:=h
 refine⟨⟨?_, ?_, ?_, ?_, ?_,World.cell?_setCell_same _ _ _ c5⟩,fun i=>by rw[World.frozen?_setCell];exact fr i,bel.setCell (p:=⟨wr.heap.size,5,none⟩) (Nat.le_refl _) v,by simpa using lt⟩
 all_goals rw[World.cell?_setCell_other _ _ _ _ (by simp)];assumption
theorem cp_new {wr:World}{o:CK}{a1 a2:Option Addr}{k1 k2:Nat}{t:TypeId}:CpBox wr (wr.alloc (.cells #[.int .i64 o.a.1,.slice a1 o.a.2.length k1,.string o.f,.int .i64 o.n,.int .i64 o.v.1,.slice a2 o.v.2.length k2] t)) o (.slice a1 o.a.2.length k1) (.slice a2 o.v.2.length k2):=
 ⟨c6_new.cells,fun i=>Lf.frozen_new _ _ _ _,box_low,c6_new.lt⟩
theorem copy_ck (B:Nat)(ys:List CK)(o:CK)(v:Value)(a1 a2:Option Addr)(k1 k2:Nat)(b off:Nat)(wr:World)(hown:OwnL ckSh 27 B ys v wr)(hB:B≤wr.heap.size)(hc:CkAt wr.heap.size wr b off o a1 k1 a2 k2)(hb:b<wr.heap.size)(sa:o.a.2.length*16≤140737488355328)(sv:o.v.2.length*16≤140737488355328)(hsz:ys.length≤1000000):
 ∃a5 k5 w5 a6 k6 w6 v8 w8,
  ((∀ty,(Builtin.append_ #[23,23] ty #[.slice (some ⟨wr.heap.size+1,0,none⟩) 0 0,.slice a1 o.a.2.length k1]).run Tryz.prog ((wr.alloc (.cells #[.int .i64 o.a.1,.slice a1 o.a.2.length k1,.string o.f,.int .i64 o.n,.int .i64 o.v.1,.slice a2 o.v.2.length k2] 27)).alloc (.cells #[] 84))= .ok (.slice a5 o.a.2.length k5) w5)∧((wr.alloc (.cells #[.int .i64 o.a.1,.slice a1 o.a.2.length k1,.string o.f,.int .i64 o.n,.int .i64 o.v.1,.slice a2 o.v.2.length k2] 27)).alloc (.cells #[] 84)).cell? ⟨b,off+1,none⟩=some (.slice a1 o.a.2.length k1)∧((wr.alloc (.cells #[.int .i64 o.a.1,.slice a1 o.a.2.length k1,.string o.f,.int .i64 o.n,.int .i64 o.v.1,.slice a2 o.v.2.length k2] 27)).alloc (.cells #[] 84)).cell? ⟨b,off,none⟩=some (.int .i64 o.a.1))∧
  CpBox wr w5 o (.slice a1 o.a.2.length k1) (.slice a2 o.v.2.length k2)∧
  ((∀ty,(Builtin.append_ #[23,23] ty #[.slice (some ⟨w5.heap.size,0,none⟩) 0 0,.slice a2 o.v.2.length k2]).run Tryz.prog ((w5.setCell ⟨wr.heap.size,1,none⟩ (.slice a5 o.a.2.length k5)).alloc (.cells #[] 84))= .ok (.slice a6 o.v.2.length k6) w6)∧((w5.setCell ⟨wr.heap.size,1,none⟩ (.slice a5 o.a.2.length k5)).alloc (.cells #[] 84)).cell? ⟨b,off+5,none⟩=some (.slice a2 o.v.2.length k2)∧((w5.setCell ⟨wr.heap.size,1,none⟩ (.slice a5 o.a.2.length k5)).alloc (.cells #[] 84)).cell? ⟨b,off+4,none⟩=some (.int .i64 o.v.1))∧
  CpBox wr w6 o (.slice a5 o.a.2.length k5) (.slice a2 o.v.2.length k2)∧
  CpBox wr (w6.setCell ⟨wr.heap.size,5,none⟩ (.slice a6 o.v.2.length k6)) o (.slice a5 o.a.2.length k5) (.slice a6 o.v.2.length k6)∧
  ((∀ty,(Builtin.append_ #[22,22] ty #[v,.slice (some ⟨w6.heap.size,0,none⟩) 1 1]).run Tryz.prog ((w6.setCell ⟨wr.heap.size,5,none⟩ (.slice a6 o.v.2.length k6)).alloc (.cells #[.int .i64 o.a.1,.slice a5 o.a.2.length k5,.string o.f,.int .i64 o.n,.int .i64 o.v.1,.slice a6 o.v.2.length k6] 27))= .ok v8 w8)∧OwnL ckSh 27 B (ys ++ [o]) v8 w8∧Below B wr w8):=by
 have hvo:∀g,v.ownBlock=some g→g<wr.heap.size:=fun g e=>by
  obtain⟨css,_,h2,_⟩:=hown.row
  exact(World.ownsRow.lt h2 g e).2
 have hWb:Below wr.heap.size wr (wr.alloc (.cells #[.int .i64 o.a.1,.slice a1 o.a.2.length k1,.string o.f,.int .i64 o.n,.int .i64 o.v.1,.slice a2 o.v.2.length k2] 27)):=box_low
 have hsb:(wr.alloc (.cells #[.int .i64 o.a.1,.slice a1 o.a.2.length k1,.string o.f,.int .i64 o.n,.int .i64 o.v.1,.slice a2 o.v.2.length k2] 27)).heap.size=wr.heap.size+1:=by simp
 have hbb:wr.heap.size<(wr.alloc (.cells #[.int .i64 o.a.1,.slice a1 o.a.2.length k1,.string o.f,.int .i64 o.n,.int .i64 o.v.1,.slice a2 o.v.2.length k2] 27)).heap.size:=by rw[hsb];exact Nat.lt_succ_self _
 obtain⟨a5,k5,w5,hr5,row5,bel5⟩:=copy_mono (wr.alloc (.cells #[.int .i64 o.a.1,.slice a1 o.a.2.length k1,.string o.f,.int .i64 o.n,.int .i64 o.v.1,.slice a2 o.v.2.length k2] 27)) a1 k1 o.a.2 ((hc.la.below hWb).mono hWb.size) hc.na sa
 have cp0:CpBox wr (wr.alloc (.cells #[.int .i64 o.a.1,.slice a1 o.a.2.length k1,.string o.f,.int .i64 o.n,.int .i64 o.v.1,.slice a2 o.v.2.length k2] 27)) o (.slice a1 o.a.2.length k1) (.slice a2 o.v.2.length k2):=cp_new
 have cp5:=cp0.below bel5
 have hcA:CkAt wr.heap.size ((wr.alloc (.cells #[.int .i64 o.a.1,.slice a1 o.a.2.length k1,.string o.f,.int .i64 o.n,.int .i64 o.v.1,.slice a2 o.v.2.length k2] 27)).alloc (.cells #[] 84)) b off o a1 k1 a2 k2:=hc.below (hWb.alloc hWb.size _) hb (Nat.le_refl _)
 have cp5':=cp5.put1 (v:= .slice a5 o.a.2.length k5)
 have s5:(w5.setCell ⟨wr.heap.size,1,none⟩ (.slice a5 o.a.2.length k5)).heap.size=w5.heap.size:=by simp
 have row5':Lf.Row (wr.alloc (.cells #[.int .i64 o.a.1,.slice a1 o.a.2.length k1,.string o.f,.int .i64 o.n,.int .i64 o.v.1,.slice a2 o.v.2.length k2] 27)).heap.size o.a.2 (.slice a5 o.a.2.length k5) (w5.setCell ⟨wr.heap.size,1,none⟩ (.slice a5 o.a.2.length k5)):=ownsRow_setCell_below row5 hbb _
 have hc5:CkAt wr.heap.size (w5.setCell ⟨wr.heap.size,1,none⟩ (.slice a5 o.a.2.length k5)) b off o a1 k1 a2 k2:=hc.below cp5'.bel hb (Nat.le_refl _)
 obtain⟨a6,k6,w6,hr6,row6,bel6⟩:=copy_mono (w5.setCell ⟨wr.heap.size,1,none⟩ (.slice a5 o.a.2.length k5)) a2 k2 o.v.2 (hc5.lv.mono cp5'.bel.size) hc5.nv sv
 have hc6:CkAt wr.heap.size ((w5.setCell ⟨wr.heap.size,1,none⟩ (.slice a5 o.a.2.length k5)).alloc (.cells #[] 84)) b off o a1 k1 a2 k2:=hc5.below (box_low.mono cp5'.bel.size) hb (Nat.le_refl _)
 have cp6:=cp5'.below bel6
 have cp6':=cp6.put5 (v:= .slice a6 o.v.2.length k6)
 have s6:(w6.setCell ⟨wr.heap.size,5,none⟩ (.slice a6 o.v.2.length k6)).heap.size=w6.heap.size:=by simp
 have row56:Lf.Row (wr.alloc (.cells #[.int .i64 o.a.1,.slice a1 o.a.2.length k1,.string o.f,.int .i64 o.n,.int .i64 o.v.1,.slice a2 o.v.2.length k2] 27)).heap.size o.a.2 (.slice a5 o.a.2.length k5) (w6.setCell ⟨wr.heap.size,5,none⟩ (.slice a6 o.v.2.length k6)):=ownsRow_setCell_below (row5'.below bel6) hbb _
 have row66:Lf.Row (w5.setCell ⟨wr.heap.size,1,none⟩ (.slice a5 o.a.2.length k5)).heap.size o.v.2 (.slice a6 o.v.2.length k6) (w6.setCell ⟨wr.heap.size,5,none⟩ (.slice a6 o.v.2.length k6)):=ownsRow_setCell_below row6 cp5'.lt _
 have l5:=(linRel_rowS (kv:=v) (c:=o.a.1) row56 (by omega) (fun g e=>Nat.lt_trans (hvo g e) hbb))
 have l6:=(linRel_rowS (kv:=v) (c:=o.v.1) row66 (by omega) (fun g e=>Nat.lt_of_lt_of_le (hvo g e) cp5'.bel.size))
 obtain⟨v8,w8,hr8,own8,bel8,_⟩:=run_push_ck (w:=(w6.setCell ⟨wr.heap.size,5,none⟩ (.slice a6 o.v.2.length k6))) B ys o v _ _ (hown.below cp6'.bel) (Nat.le_trans hB cp6'.bel.size) hc.hf hc.hn l5 l6 hsz
 rw[hsb]at hr5
 rw[s5]at hr6
 rw[s6]at hr8
 exact⟨a5,k5,w5,a6,k6,w6,v8,w8,⟨hr5,hcA.c1,hcA.c0⟩,cp5,⟨hr6,hc6.c5,hc6.c4⟩,cp6,cp6',hr8,own8,(cp6'.bel.mono hB).trans bel8⟩
structure ZCk (B g n cap:Nat)(w:World):Prop where
 row:∃zs:List Value,zs.length=n*6∧w.ownsRow B 27 6 (.slice (some ⟨g,0,none⟩) n cap) n zs
theorem ZCk.lt {B g n cap:Nat}{w:World}(h:ZCk B g n cap w):B≤g∧g<w.heap.size:=by
 obtain⟨zs,_,h1⟩:=h.row
 exact World.ownsRow.lt h1 g rfl
theorem ZCk.cell {B g n cap:Nat}{w:World}(h:ZCk B g n cap w){i:Nat}(hi:i<n):∃x,w.cell? ⟨g,i*6+3,none⟩=some x:=by
 obtain⟨zs,hl,h1⟩:=h.row
 refine⟨zs[i*6+3]'(by omega), ?_⟩
 rw[World.ownsRow.cellAt h1 _ (by omega),List.getElem?_eq_getElem]
theorem ZCk.frozen {B g n cap:Nat}{w:World}(h:ZCk B g n cap w)(j:Nat):w.frozen? ⟨g,j,none⟩=false:=by
 obtain⟨zs,hl,h1⟩:=h.row
 exact World.ownsRow.frozenAt h1 j
theorem ZCk.put {B g n cap:Nat}{w:World}(h:ZCk B g n cap w)(j:Nat)(v:Value):ZCk B g n cap (w.setCell ⟨g,j,none⟩ v):=by
 obtain⟨zs,hl,h1⟩:=h.row
 have s1:=World.ownsRow.stored h1 j v
 exact⟨⟨_,by simpa using hl,s1.1⟩⟩
theorem zck_of {B:Nat}{ys:List CK}{v:Value}{w:World}(h:OwnL ckSh 27 B ys v w)(h0:0<ys.length):∃g cap,v= .slice (some ⟨g,0,none⟩) ys.length cap∧ZCk B g ys.length cap w:=by
 obtain⟨css,h1,h2,_⟩:=h.row
 obtain⟨g,cap,rfl,_⟩:=World.ownsRow.form h2 h0
 exact⟨g,cap,rfl,⟨_,h2.1,h2⟩⟩
end
end Go.Proofs.YtjbkhdbjdahbiaaGreatDoor
