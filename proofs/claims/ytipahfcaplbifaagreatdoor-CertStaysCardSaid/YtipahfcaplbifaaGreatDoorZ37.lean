/- Parts of a proof. -/
import Derived.Test.YtipahfcaplbifaaGreatDoorZ36
import Derived.BigRegion
import Derived.Deep.QuietTactic
import Derived.Lib.QuietBelow
import Derived.BigQuiet
set_option linter.unusedVariables false
set_option linter.unusedSimpArgs false
set_option maxHeartbeats 60000000
set_option maxRecDepth 100000
namespace Go.Proofs.YtipahfcaplbifaaGreatDoor
section
open Go.RowKit
theorem below_dn {B:Nat}{w0 w:World}(h:Below B w0 w)(n:Nat):Below B w0 (w.drewN n):=⟨h.os,h.tape,h.output,h.size,h.block⟩
theorem certStays_any (hup:UpSaid10)(hbeg:Prp.BeginSaid)(n:Nat)(f:FT)(cs:List Value)(la:Option Addr)(ln lcap:Nat)(lms:List (List Int×List (List (Int×Int)×Int)))(ra:Option Addr)(rn rcap:Nat)(ss:List (List Int))(w:World)(h:GivenK n f cs la ln lms ra rn ss w)
 (hS:Pak.Sits Pak.lemSh (Pak.Lo w.heap.size) w la lms) (hR:Pak.Sits Pak.clauseSh (Pak.Lo w.heap.size) w ra ss) (ht:Tens w.heap.size w) (hg:Prp.Laid0 w):
 Calls Tryz.prog 7 #[.agg cs.toArray,.agg #[.slice la ln lcap,.slice ra rn rcap]] w fun e w'=>e= .returned (.bool true)∧Below w.heap.size w w':=by
 obtain⟨ks,hks⟩:=lems_is (atomsF (n+3) (nrmT (n+1) f)) lms
 obtain⟨lc,hlc,hlcn,hsame⟩:=lems_c hS
 have hK:=fun W (hb:Below w.heap.size w W)=>h.below hb
 have HUP:=Lib.hid (fun W (hb:Below w.heap.size w W)=>hup W (ht.up hb hb.size) (hg.below hb hg.pos))
 have HSM:=Lib.hid (fun W (hb:Below w.heap.size w W)=>smallC_any n f cs la ln lcap lms ra rn rcap ss W (hK W hb).f h.eln (hK W hb).l h.ern (hK W hb).r h.l63 h.r63 h.cl)
 have HCP:=Lib.hid (fun(hl:litF (n+1) f) W (hb:Below w.heap.size w W)=>copy_any (n+1) f cs W (hK W hb).f hl)
 have HCK:=Lib.hid (fun(hE:EasyC lms ss) W (cs':List Value) (la':Option Addr) (lcap':Nat) (ra':Option Addr) (rcap':Nat) (hb:Below w.heap.size w W) (hf:FLies W.heap.size W (n+1) f cs') (hl:LmLies W.heap.size W la' lms) (hr:Prp.CLies W.heap.size W ra' ss)=>check_cert hbeg n f cs' la' ln lcap' lms ra' rn rcap' ss ks W hf (ht.up hb hb.size) (hg.below hb hg.pos) h.eln hl h.ern hr hE hks)
 have HSA:=Lib.hid (fun csa W (hb:Below w.heap.size w W) (ha:FLies W.heap.size W (n+1) f csa)=>same2_any (n+1) f csa cs W ha (hK W hb).f)
 have HLC:=Lib.hid hlc
 have HLN:=Lib.hid hlcn
 have HSE:=Lib.hid hsame
 have HRR:=Lib.hid hR
 have HGL:=Lib.hid h.l
 have HGR:=Lib.hid h.r
 have HELN:=Lib.hid h.eln
 have HERN:=Lib.hid h.ern
 obtain⟨iI,hiI,hzI,hsI,hbI⟩:=Pak.info_parts Tryz.copyInt
 obtain⟨iS,zS,hiS,hzS,hczS,hsS,hbS⟩:=info_sizes Tryz.copyStep
 obtain⟨iL,zL,hiL,hzL,hczL,hsL,hbL⟩:=info_sizes Tryz.copyLem
 obtain⟨iR,zR,hiR,hzR,hczR,hsR,hbR⟩:=info_sizes Tryz.copyRow
 have hh:=h.f
 clear hup hbeg ht hg hK h hks hS hR hlc hlcn hsame
 obtain⟨ta,tcap,ka,kcap,rfl, -⟩:=hh
 have hb0:=box_start w f.kind f.c ta ka f.t.length tcap f.ks.length kcap
 generalize nrmK (n+1) f=nk at*
 generalize nrmT (n+1) f=g at*
 generalize cnfK (n+3) g=mk at*
 generalize f.kind=fk at*
 generalize f.c=fc at*
 generalize f.t.length=ft at*
 generalize f.ks.length=fl at*
 have hA2:Below (w.alloc (.cells #[.int .i64 fk,.int .i64 fc,.slice ta ft tcap,.slice ka fl kcap] 39)).heap.size (w.alloc (.cells #[.int .i64 fk,.int .i64 fc,.slice ta ft tcap,.slice ka fl kcap] 39)) ((w.alloc (.cells #[.int .i64 fk,.int .i64 fc,.slice ta ft tcap,.slice ka fl kcap] 39)).alloc (.cells #[.slice la ln lcap,.slice ra rn rcap] 43)):=(Below.refl _ _).alloc (Nat.le_refl _) _
 have hz1:(w.alloc (.cells #[.int .i64 fk,.int .i64 fc,.slice ta ft tcap,.slice ka fl kcap] 39)).heap.size=w.heap.size+1:=by simp
 have hn2:=heap_alloc_new (w.alloc (.cells #[.int .i64 fk,.int .i64 fc,.slice ta ft tcap,.slice ka fl kcap] 39)) (.cells #[.slice la ln lcap,.slice ra rn rcap] 43)
 rw[hz1]at hn2
 have hz2:((w.alloc (.cells #[.int .i64 fk,.int .i64 fc,.slice ta ft tcap,.slice ka fl kcap] 39)).alloc (.cells #[.slice la ln lcap,.slice ra rn rcap] 43)).heap.size=w.heap.size+2:=by simp
 have T1:=Lib.hid (hb0.below hA2 hb0.lt)
 have D0:((w.alloc (.cells #[.int .i64 fk,.int .i64 fc,.slice ta ft tcap,.slice ka fl kcap] 39)).alloc (.cells #[.slice la ln lcap,.slice ra rn rcap] 43)).cell? ⟨w.heap.size+1,0,none⟩=some (.slice la ln lcap):=(cell_of_row _ _ _ _ _ _ hn2).trans rfl
 have D1:((w.alloc (.cells #[.int .i64 fk,.int .i64 fc,.slice ta ft tcap,.slice ka fl kcap] 39)).alloc (.cells #[.slice la ln lcap,.slice ra rn rcap] 43)).cell? ⟨w.heap.size+1,1,none⟩=some (.slice ra rn rcap):=(cell_of_row _ _ _ _ _ _ hn2).trans rfl
 clear hb0 hA2 hz1 hn2
 generalize hWW:(w.alloc (.cells #[.int .i64 fk,.int .i64 fc,.slice ta ft tcap,.slice ka fl kcap] 39)).alloc (.cells #[.slice la ln lcap,.slice ra rn rcap] 43)=W2 at*
 have HCE:Hid (∀W,Below W2.heap.size W2 W→Below w.heap.size w W∧(W.cell? ⟨w.heap.size,0,none⟩=some (.int .i64 fk)∧W.cell? ⟨w.heap.size,1,none⟩=some (.int .i64 fc)∧W.cell? ⟨w.heap.size,2,none⟩=some (.slice ta ft tcap)∧W.cell? ⟨w.heap.size,3,none⟩=some (.slice ka fl kcap))∧W.cell? ⟨w.heap.size+1,0,none⟩=some (.slice la ln lcap)∧W.cell? ⟨w.heap.size+1,1,none⟩=some (.slice ra rn rcap)):=fun W hb=>by
  obtain⟨t1,t2,t3,t4,t5,t6⟩:=T1.out.below hb T1.out.lt
  exact⟨t6,⟨t2,t3,t4,t5⟩,(hb.cell (p:=⟨w.heap.size+1,0,none⟩) (show w.heap.size+1<_ by omega)).trans D0,(hb.cell (p:=⟨w.heap.size+1,1,none⟩) (show w.heap.size+1<_ by omega)).trans D1⟩
 have HZ2:=Lib.hid hz2
 subst hWW
 clear D0 D1 hz2 T1
 go_enter Tryz.func7,Tryz.ntmps7
 go_wp2_with fail
 generalize (w.alloc (.cells #[.int .i64 fk,.int .i64 fc,.slice ta ft tcap,.slice ka fl kcap] 39)).alloc (.cells #[.slice la ln lcap,.slice ra rn rcap] 43)=W2 at*
 refine(HUP.out _ (HCE.out _ (Below.refl _ _)).1).mono ?_
 rintro e w1 ⟨rfl,hb1⟩
 have B1:=Lib.hid hb1
 obtain⟨_,⟨p0,p1,p2,p3⟩,d0,d1⟩:=HCE.out _ B1.out
 clear hb1 HUP
 go_wp2_with fail
 refine(HSM.out _ (HCE.out _ B1.out).1).mono ?_
 rintro e w2 ⟨b,rfl,hb2,hE⟩
 have B2:=Lib.hid (B1.out.trans (hb2.mono B1.out.size))
 clear hb2 HSM p0 p1 p2 p3 d0 d1
 cases b with
 | false=>
   clear hE
   have HE:=Lib.hid (HCE.out _ B2.out).1
   go_wp2_with fail
   go_ret
   exact⟨rfl,HE.out⟩
 | true=>
   have HEE:Hid (EasyC lms ss):=Lib.hid (by first | exact(hE rfl).1 | exact(hE trivial).1)
   have HLF:Hid (litF (n+1) f):=Lib.hid (by first | exact(hE rfl).2 | exact(hE trivial).2)
   have HC3:=Lib.hid (HCP.out HLF.out _ (HCE.out _ B2.out).1)
   obtain⟨_,⟨p0,p1,p2,p3⟩,d0,d1⟩:=HCE.out _ B2.out
   clear hE HCP
   go_wp2_with fail
   refine HC3.out.mono ?_
   rintro e w3 ⟨cs3,rfl,hf3,hb3⟩
   obtain⟨k3,c3,ta3,tn3,tcap3,ka3,kn3,kcap3,rfl⟩:=hf3.form
   have hfl3:FLies w3.heap.size w3 (n+1) f _:=hf3.lies (fun b hb=>hb.2)
   have B3:=Lib.hid (B2.out.trans (hb3.mono B2.out.size))
   have hA3:Below w3.heap.size w3 (w3.alloc (.cells #[.int .i64 k3,.int .i64 c3,.slice ta3 tn3 tcap3,.slice ka3 kn3 kcap3] 39)):=(Below.refl _ _).alloc (Nat.le_refl _) _
   have HO:=Lib.hid (box_start w3 k3 c3 ta3 ka3 tn3 tcap3 kn3 kcap3)
   have B4:=Lib.hid (B3.out.trans (hA3.mono B3.out.size))
   have HF4:=Lib.hid ((hfl3.below hA3).mono hA3.size)
   clear hf3 hfl3 hb3 hA3 HC3 p0 p1 p2 p3 d0 d1
   obtain⟨_,⟨p0,p1,p2,p3⟩,d0,d1⟩:=HCE.out _ B4.out
   go_wp2_with fail
   have HZ4:Hid ((w3.alloc (.cells #[.int .i64 k3,.int .i64 c3,.slice ta3 tn3 tcap3,.slice ka3 kn3 kcap3] 39)).heap.size=w3.heap.size+1):=by show _=_;simp
   generalize w3.alloc (.cells #[.int .i64 k3,.int .i64 c3,.slice ta3 tn3 tcap3,.slice ka3 kn3 kcap3] 39)=W4 at*
   have HMS:Hid (Mine lemCSh 57 (w3.heap.size+1) 0 1 (W4.alloc (.cells #[.slice none 0 0,.slice none 0 0] 43)).heap.size (.slice none 0 0) (W4.alloc (.cells #[.slice none 0 0,.slice none 0 0] 43)) ([]:List (List Int×List (Value×Int))) (.slice none 0 0) (W4.alloc (.cells #[.slice none 0 0,.slice none 0 0] 43))):=by
    have hn:=heap_alloc_new W4 (.cells #[.slice none 0 0,.slice none 0 0] 43)
    rw[HZ4.out]at hn
    exact Mine.start ((cell_of_row _ _ _ _ _ _ hn).trans rfl) ((cell_of_row _ _ _ _ _ _ hn).trans rfl) (fun i=>by simp[World.frozen?,hn]) (by simp[HZ4.out])
   have hA5:Below W4.heap.size W4 (W4.alloc (.cells #[.slice none 0 0,.slice none 0 0] 43)):=(Below.refl _ _).alloc (Nat.le_refl _) _
   have B5:=Lib.hid (B4.out.trans (hA5.mono B4.out.size))
   have HA5:=Lib.hid hA5
   have HZ5:Hid ((W4.alloc (.cells #[.slice none 0 0,.slice none 0 0] 43)).heap.size=w3.heap.size+2):=by show _=_;simp[HZ4.out]
   clear hA5 p0 p1 p2 p3 d0 d1
   generalize W4.alloc (.cells #[.slice none 0 0,.slice none 0 0] 43)=W5 at*
   go_loopw [9] (fun i wr=>∃(k:Nat) (u:Value),k≤ln∧i= .int .i64 k∧Hid (Mine lemCSh 57 (w3.heap.size+1) 0 1 W5.heap.size (.slice none 0 0) W5 (lc.take k) u wr)) (fun i _=>ln - (intOf i).toNat)
   case atStart=>exact⟨0,_,Nat.zero_le _,rfl,HMS.out⟩
   case round=>
    obtain⟨k,u,hk,rfl,hm⟩:=hrel
    obtain⟨wo,rfl⟩:∃wo:World,wo=wr:=⟨_,rfl⟩
    by_cases hlt:k<ln
    ·have hk2:k<lc.length:=by rw[HLN.out,HELN.out];exact hlt
     obtain⟨b,off,ccs,rfl,hbl,hcc,v4,u4,rfl,hsl1,hsl2⟩:=HLC.out.2 k hk2
     have hbw:Below w.heap.size w wo:=(HCE.out _ B5.out).1.trans (hm.out.low (by have:=HZ2.out;have:=B3.out.size;omega))
     have hw2:=(HCE.out _ (B5.out.trans (hm.out.low (Z:=W2.heap.size) (by have:=B3.out.size;omega)))).2.2.1
     have q0:=hcc 0 _ rfl
     have q1:=hcc 1 _ rfl
     rw[show lemCSh.k=2 from rfl,Nat.add_zero]at q0
     rw[show lemCSh.k=2 from rfl]at q1
     have q0:=(hbw.cell (p:=⟨b,off+k*2,none⟩) hbl).trans q0
     have q1:=(hbw.cell (p:=⟨b,off+k*2+1,none⟩) hbl).trans q1
     have HSL1:=Lib.hid (hsl1.keep (S':=Pak.Lo w.heap.size) (fun b hb=>hb) (fun b o hb=>hbw.cell (p:=⟨b,o,none⟩) hb))
     have HSL2:=Lib.hid (hsl2.keep (S':=Pak.Lo w.heap.size) (fun b hb=>hb) (fun b o hb=>hbw.cell (p:=⟨b,o,none⟩) hb))
     have HW:=Lib.hid hbw
     have hki:(k:Int)<(ln:Int):=by omega
     have hlnm:ln≤40:=by have:=HEE.out.l1;have:=HELN.out;omega
     obtain⟨a1,c1,rfl,hs1⟩:=HSL1.out
     obtain⟨a2,c2,rfl,hs2⟩:=HSL2.out
     have HS1:=Lib.hid hs1
     have HS2:=Lib.hid hs2
     have HTK:Hid (lc.take (k+1)=lc.take k ++ [lc[k]]):=List.take_succ_eq_append_getElem hk2
     have HXL:Hid ((lc.take k).length=k):=by show _=_;rw[List.length_take];omega
     have HL60:Hid (lc[k].1.length≤40∧lc[k].2.length≤60):=by
      obtain⟨e1,e2,_⟩:=HSE.out k (by rw[HELN.out];exact hlt) hk2
      have:=HEE.out.k1 k (by rw[HELN.out];exact hlt)
      rw[List.getD_eq_getElem?_getD,List.getElem?_eq_getElem (by rw[HELN.out];exact hlt),Option.getD_some]at this
      rw[e1,e2];exact this
     generalize lc[k]=lk at*
     have HSW:Hid (∀W,Below wo.heap.size wo W→W.cell? ⟨w3.heap.size+1,0,none⟩=some u∧W.cell? ⟨w.heap.size+1,0,none⟩=some (.slice (some ⟨b,off,none⟩) ln lcap)∧W.cell? ⟨b,off+k*2,none⟩=some (.slice a1 lk.1.length c1)∧W.cell? ⟨b,off+k*2+1,none⟩=some (.slice a2 lk.2.length c2)):=fun W hb=>by
      have hz:=hm.out.sz
      have:=HZ5.out
      have:=HZ2.out
      have:=B3.out.size
      have z1:w3.heap.size+1<wo.heap.size:=by omega
      have z2:w.heap.size+1<wo.heap.size:=by omega
      have z3:b<wo.heap.size:=by have:=hbl;have:=HW.out.size;simp only[Pak.Lo]at hbl;omega
      exact⟨(hb.cell (p:=⟨w3.heap.size+1,0,none⟩) z1).trans hm.out.c,(hb.cell (p:=⟨w.heap.size+1,0,none⟩) z2).trans hw2,(hb.cell (p:=⟨b,off+k*2,none⟩) z3).trans q0,(hb.cell (p:=⟨b,off+k*2+1,none⟩) z3).trans q1⟩
     have HSG:Hid (∀X Y,Below wo.heap.size wo X→X.grownBy Y u.ownBlock→Y.cell? ⟨w3.heap.size+1,0,none⟩=some u∧Y.cell? ⟨w.heap.size+1,0,none⟩=some (.slice (some ⟨b,off,none⟩) ln lcap)∧Y.cell? ⟨b,off+k*2,none⟩=some (.slice a1 lk.1.length c1)∧Y.cell? ⟨b,off+k*2+1,none⟩=some (.slice a2 lk.2.length c2)):=fun X Y hX hY=>by
      obtain⟨r0,r1,r2,r3⟩:=HSW.out X hX
      have hz:=hm.out.sz
      have:=HZ5.out
      have:=HZ2.out
      have:=B3.out.size
      have z0:=hX.size
      have z3:b<w.heap.size:=hbl
      have hlt2:∀q,u.ownBlock=some q→W5.heap.size≤q:=fun q e=>by
       obtain⟨css,_,h2,_⟩:=hm.out.row.row
       exact(World.ownsRow.lt h2 q e).1
      have hk2:∀q o,q<W5.heap.size→Y.cell? ⟨q,o,none⟩=X.cell? ⟨q,o,none⟩:=fun q o hq=>World.cell?_of_block (a:=⟨q,o,none⟩) (hY.block q (by omega) (fun e=>by have:=hlt2 q e.symm;omega))
      have y1:w3.heap.size+1<W5.heap.size:=by omega
      have y2:w.heap.size+1<W5.heap.size:=by omega
      have y3:b<W5.heap.size:=by omega
      exact⟨(hk2 _ _ y1).trans r0,(hk2 _ _ y2).trans r1,(hk2 _ _ y3).trans r2,(hk2 _ _ y3).trans r3⟩
     have HFG:Hid (∀X Y,Below wo.heap.size wo X→X.grownBy Y u.ownBlock→Y.frozen? ⟨w3.heap.size+1,0,none⟩=false):=fun X Y hX hY=>by
      have hz:=hm.out.sz
      have:=HZ5.out
      have z0:=hX.size
      have hlt2:∀q,u.ownBlock=some q→W5.heap.size≤q:=fun q e=>by
       obtain⟨css,_,h2,_⟩:=hm.out.row.row
       exact(World.ownsRow.lt h2 q e).1
      have y1:w3.heap.size+1<X.heap.size:=by omega
      have y2:w3.heap.size+1<wo.heap.size:=by omega
      exact(World.frozen?_of_block (a:=⟨w3.heap.size+1,0,none⟩) (hY.block _ y1 (fun e=>by have:=hlt2 (w3.heap.size+1) e.symm;omega))).trans ((hX.frozen (p:=⟨w3.heap.size+1,0,none⟩) y2).trans (hm.out.fz 0))
     have HNI:Hid (∀X,Below wo.heap.size wo X→Prp.Nums X.heap.size X a1 lk.1):=fun X hX=>nums_of_sits (HS1.out.below (hX.mono HW.out.size) (Nat.le_trans HW.out.size hX.size))
     have HNS:Hid (∀X,Below wo.heap.size wo X→RowAtS (fun b=>b<X.heap.size) X a2 (stepCells lk.2)):=fun X hX=>(row_of_steps (HS2.out.below (hX.mono HW.out.size) (Nat.le_trans HW.out.size hX.size))).1
     have HNO:Hid (∀u∈stepCells lk.2,u.oneCell'=true):=(row_of_steps HS2.out).2
     clear hsl1 hsl2 hcc HSL1 HSL2 hs1 hs2 hbw q0 q1
     go_wp2_with fail
     have hS0:=HSW.out _ (Below.refl _ wo).drew
     have HB0:Hid (Below wo.heap.size wo wo.drew):=(Below.refl _ wo).drew
     clear hw2
     refine region_t (fun W=>W.cell? ⟨w3.heap.size+1,0,none⟩=some u∧W.cell? ⟨w.heap.size+1,0,none⟩=some (.slice (some ⟨b,off,none⟩) ln lcap)∧W.cell? ⟨b,off+k*2,none⟩=some (.slice a1 lk.1.length c1)∧W.cell? ⟨b,off+k*2+1,none⟩=some (.slice a2 lk.2.length c2)) 22 (by kernel_rfl) ?_
     change AnyT _ _ _ _ _ _ 23 (Array.replicate 23 false) _ _
     generalize wo.drew=X0 at*
     refine anyT_take (i:=0) (oi:= ?o1) (v:= ?v1) ?hi1 ?hB1 ?hQ1 ?hy1 (by assumption) ?hk1
     case hi1=>simp only[List.getElem?_toArray,List.getElem?_cons_zero,List.getElem?_cons_succ];rfl
     case hB1=>kernel_rfl
     case hQ1=>exact fun _ _ _ h=>h
     case hy1=>exact Or.inl ⟨by rfl,fun W hSW=>by(obtain⟨q1,q2,q3,q4⟩:=hSW;go_simp;try with_reducible rfl)⟩
     simp only[Act.put,List.setIfInBounds_toArray,List.set_cons_zero,List.set_cons_succ]
     refine anyT_take (i:=1) (oi:= ?o2) (v:= ?v2) ?hi2 ?hB2 ?hQ2 ?hy2 (by assumption) ?hk2
     case hi2=>simp only[List.getElem?_toArray,List.getElem?_cons_zero,List.getElem?_cons_succ];rfl
     case hB2=>kernel_rfl
     case hQ2=>exact fun _ _ _ h=>h
     case hy2=>exact Or.inl ⟨by rfl,fun W hSW=>by(obtain⟨q1,q2,q3,q4⟩:=hSW;go_simp;try with_reducible rfl)⟩
     simp only[Act.put,List.setIfInBounds_toArray,List.set_cons_zero,List.set_cons_succ]
     refine anyT_take (i:=3) (oi:= ?o3) (v:= ?v3) ?hi3 ?hB3 ?hQ3 ?hy3 (by assumption) ?hk3
     case hi3=>simp only[List.getElem?_toArray,List.getElem?_cons_zero,List.getElem?_cons_succ];rfl
     case hB3=>kernel_rfl
     case hQ3=>exact fun _ _ _ h=>h
     case hy3=>exact Or.inl ⟨by rfl,fun W hSW=>by(obtain⟨q1,q2,q3,q4⟩:=hSW;go_simp;try with_reducible rfl)⟩
     simp only[Act.put,List.setIfInBounds_toArray,List.set_cons_zero,List.set_cons_succ]
     refine anyT_take (i:=4) (oi:= ?o4) (v:= ?v4) ?hi4 ?hB4 ?hQ4 ?hy4 (by assumption) ?hk4
     case hi4=>simp only[List.getElem?_toArray,List.getElem?_cons_zero,List.getElem?_cons_succ];rfl
     case hB4=>kernel_rfl
     case hQ4=>exact fun _ _ _ h=>h
     case hy4=>exact Or.inl ⟨by rfl,fun W hSW=>by(obtain⟨q1,q2,q3,q4⟩:=hSW;go_simp;try with_reducible rfl)⟩
     simp only[Act.put,List.setIfInBounds_toArray,List.set_cons_zero,List.set_cons_succ]
     refine anyT_take (i:=5) (oi:= ?o5) (v:= ?v5) ?hi5 ?hB5 ?hQ5 ?hy5 (by assumption) ?hk5
     case hi5=>simp only[List.getElem?_toArray,List.getElem?_cons_zero,List.getElem?_cons_succ];rfl
     case hB5=>kernel_rfl
     case hQ5=>exact fun _ _ _ h=>h
     case hy5=>exact Or.inl ⟨by rfl,fun W hSW=>by(obtain⟨q1,q2,q3,q4⟩:=hSW;go_simp;try with_reducible rfl)⟩
     simp only[Act.put,List.setIfInBounds_toArray,List.set_cons_zero,List.set_cons_succ]
     refine anyT_take (i:=6) (oi:= ?o6) (v:= ?v6) ?hi6 ?hB6 ?hQ6 ?hy6 (by assumption) ?hk6
     case hi6=>simp only[List.getElem?_toArray,List.getElem?_cons_zero,List.getElem?_cons_succ];rfl
     case hB6=>kernel_rfl
     case hQ6=>exact fun _ _ _ h=>h
     case hy6=>exact Or.inl ⟨by rfl,fun W hSW=>by(obtain⟨q1,q2,q3,q4⟩:=hSW;go_simp;try with_reducible rfl)⟩
     simp only[Act.put,List.setIfInBounds_toArray,List.set_cons_zero,List.set_cons_succ]
     refine anyT_take (i:=7) (oi:= ?o7) (v:= ?v7) ?hi7 ?hB7 ?hQ7 ?hy7 (by assumption) ?hk7
     case hi7=>simp only[List.getElem?_toArray,List.getElem?_cons_zero,List.getElem?_cons_succ];rfl
     case hB7=>kernel_rfl
     case hQ7=>exact fun _ _ _ h=>h
     case hy7=>exact Or.inl ⟨by rfl,fun W hSW=>by(obtain⟨q1,q2,q3,q4⟩:=hSW;go_simp;try with_reducible rfl)⟩
     simp only[Act.put,List.setIfInBounds_toArray,List.set_cons_zero,List.set_cons_succ]
     refine anyT_take (i:=8) (oi:= ?o8) (v:= ?v8) ?hi8 ?hB8 ?hQ8 ?hy8 (by assumption) ?hk8
     case hi8=>simp only[List.getElem?_toArray,List.getElem?_cons_zero,List.getElem?_cons_succ];rfl
     case hB8=>kernel_rfl
     case hQ8=>exact fun _ _ _ h=>h
     case hy8=>exact Or.inl ⟨by rfl,fun W hSW=>by(obtain⟨q1,q2,q3,q4⟩:=hSW;go_simp;try with_reducible rfl)⟩
     simp only[Act.put,List.setIfInBounds_toArray,List.set_cons_zero,List.set_cons_succ]
     refine anyT_take (i:=11) (oi:= ?o9) (v:= ?v9) ?hi9 ?hB9 ?hQ9 ?hy9 (by assumption) ?hk9
     case hi9=>simp only[List.getElem?_toArray,List.getElem?_cons_zero,List.getElem?_cons_succ];rfl
     case hB9=>kernel_rfl
     case hQ9=>exact fun _ _ _ h=>h
     case hy9=>exact Or.inl ⟨by rfl,fun W hSW=>by(obtain⟨q1,q2,q3,q4⟩:=hSW;go_simp;try with_reducible rfl)⟩
     simp only[Act.put,List.setIfInBounds_toArray,List.set_cons_zero,List.set_cons_succ]
     refine anyT_take (i:=12) (oi:= ?o10) (v:= ?v10) ?hi10 ?hB10 ?hQ10 ?hy10 (by assumption) ?hk10
     case hi10=>simp only[List.getElem?_toArray,List.getElem?_cons_zero,List.getElem?_cons_succ];rfl
     case hB10=>kernel_rfl
     case hQ10=>exact fun _ _ _ h=>h
     case hy10=>exact Or.inl ⟨by rfl,fun W hSW=>by(obtain⟨q1,q2,q3,q4⟩:=hSW;go_simp;try with_reducible rfl)⟩
     simp only[Act.put,List.setIfInBounds_toArray,List.set_cons_zero,List.set_cons_succ]
     refine anyT_take (i:=13) (oi:= ?o11) (v:= ?v11) ?hi11 ?hB11 ?hQ11 ?hy11 (by assumption) ?hk11
     case hi11=>simp only[List.getElem?_toArray,List.getElem?_cons_zero,List.getElem?_cons_succ];rfl
     case hB11=>kernel_rfl
     case hQ11=>exact fun _ _ _ h=>h
     case hy11=>exact Or.inl ⟨by rfl,fun W hSW=>by(obtain⟨q1,q2,q3,q4⟩:=hSW;go_simp;try with_reducible rfl)⟩
     simp only[Act.put,List.setIfInBounds_toArray,List.set_cons_zero,List.set_cons_succ]
     refine anyT_take (i:=14) (oi:= ?o12) (v:= ?v12) ?hi12 ?hB12 ?hQ12 ?hy12 (by assumption) ?hk12
     case hi12=>simp only[List.getElem?_toArray,List.getElem?_cons_zero,List.getElem?_cons_succ];rfl
     case hB12=>kernel_rfl
     case hQ12=>exact fun _ _ _ h=>h
     case hy12=>exact Or.inl ⟨by rfl,fun W hSW=>by(obtain⟨q1,q2,q3,q4⟩:=hSW;go_simp;try with_reducible rfl)⟩
     simp only[Act.put,List.setIfInBounds_toArray,List.set_cons_zero,List.set_cons_succ]
     refine anyT_take (i:=15) (oi:= ?o13) (v:= ?v13) ?hi13 ?hB13 ?hQ13 ?hy13 (by assumption) ?hk13
     case hi13=>simp only[List.getElem?_toArray,List.getElem?_cons_zero,List.getElem?_cons_succ];rfl
     case hB13=>kernel_rfl
     case hQ13=>exact fun _ _ _ h=>h
     case hy13=>exact Or.inl ⟨by rfl,fun W hSW=>by(obtain⟨q1,q2,q3,q4⟩:=hSW;go_simp;try with_reducible rfl)⟩
     simp only[Act.put,List.setIfInBounds_toArray,List.set_cons_zero,List.set_cons_succ]
     refine anyT_take (i:=16) (oi:= ?o14) (v:= ?v14) ?hi14 ?hB14 ?hQ14 ?hy14 (by assumption) ?hk14
     case hi14=>simp only[List.getElem?_toArray,List.getElem?_cons_zero,List.getElem?_cons_succ];rfl
     case hB14=>kernel_rfl
     case hQ14=>exact fun _ _ _ h=>h
     case hy14=>exact Or.inl ⟨by rfl,fun W hSW=>by(obtain⟨q1,q2,q3,q4⟩:=hSW;go_simp;try with_reducible rfl)⟩
     simp only[Act.put,List.setIfInBounds_toArray,List.set_cons_zero,List.set_cons_succ]
     refine anyT_two (i:=2) (j:=10) (by kernel_rfl) (by simp only[List.getElem?_toArray,List.getElem?_cons_zero,List.getElem?_cons_succ];rfl) (by simp only[List.getElem?_toArray,List.getElem?_cons_zero,List.getElem?_cons_succ];rfl) (by rfl) (by rfl) (fun K hK=> ?_) (fun K hK=> ?_)
     ·go_simp
      refine hK _ _ (fun _=>HSW.out _ (HB0.out.alloc HB0.out.size _)) ?_
      have HB1:Hid (Below wo.heap.size wo (X0.alloc (.cells #[] 3))):=HB0.out.alloc HB0.out.size _
      clear hK
      generalize X0.heap.size=g1
      generalize X0.alloc (.cells #[] 3)=X1 at HB1⊢
      have hS1:=HSW.out _ HB1.out
      refine anyT_two (i:=9) (j:=10) (by kernel_rfl) (by simp only[List.getElem?_toArray,List.getElem?_cons_zero,List.getElem?_cons_succ];rfl) (by simp only[List.getElem?_toArray,List.getElem?_cons_zero,List.getElem?_cons_succ];rfl) (by rfl) (by rfl) (fun K hK=> ?_) (fun K hK=> ?_)
      ·refine wp_copy_int _ _ 23 rfl 3 iI _ Tryz.underlying23 hiI hzI hsI hbI rfl g1 rfl a1 lk.1.length c1 rfl lk.1 rfl (HNI.out _ HB1.out) (by have:=HL60.out;omega) ?_
       intro a5 c5 X2 hb hl
       have HB2:=Lib.hid (HB1.out.trans (hb.mono HB1.out.size))
       have HL2:=Lib.hid hl
       have HS2:Hid (X1.heap.size ≥ wo.heap.size):=HB1.out.size
       refine hK _ _ (fun _=>HSW.out _ HB2.out) ?_
       simp only[Act.put,List.setIfInBounds_toArray,List.set_cons_zero,List.set_cons_succ]
       have HI2:Hid (Prp.LiesG (fun b=>wo.heap.size≤b∧b<X2.heap.size) X2 a5 lk.1):=hl.keep (fun b ⟨h1,h2⟩=>⟨Nat.le_trans HB1.out.size h1,h2⟩) (fun _ _ _=>rfl)
       clear hK hb hl HL2 HS2
       have hS2:=HSW.out _ HB2.out
       refine anyT_one (i:=10) (by kernel_rfl) (by simp only[List.getElem?_toArray,List.getElem?_cons_zero,List.getElem?_cons_succ];rfl) (by rfl) (fun K hK=> ?_)
       go_simp
       have hbk:Below X2.heap.size X2 (X2.alloc (.cells #[] 104)):=(Below.refl _ _).alloc (Nat.le_refl _) _
       refine hK _ _ (fun _=>HSW.out _ (HB2.out.alloc HB2.out.size _)) ?_
       have HB3:Hid (Below wo.heap.size wo (X2.alloc (.cells #[] 104))):=HB2.out.alloc HB2.out.size _
       clear hK
       obtain⟨g2,eg2⟩:∃g,g=X2.heap.size:=⟨_,rfl⟩
       rw[←eg2]
       clear eg2
       generalize X2.alloc (.cells #[] 104)=X3 at HB3 hbk⊢
       have HI3:Hid (Prp.LiesG (fun b=>wo.heap.size≤b∧b<X3.heap.size) X3 a5 lk.1):=HI2.out.keep (fun b ⟨h1,h2⟩=>⟨h1,Nat.lt_of_lt_of_le h2 hbk.size⟩) (fun b o ⟨_,h2⟩=>hbk.cell (p:=⟨b,o,none⟩) h2)
       clear hbk
       have hS3:=HSW.out _ HB3.out
       refine anyT_one (i:=17) (by kernel_rfl) (by simp only[List.getElem?_toArray,List.getElem?_cons_zero,List.getElem?_cons_succ];rfl) (by rfl) (fun K hK=> ?_)
       refine wp_copy_two _ _ 55 rfl 104 iS _ Tryz.underlying55 hiS hzS hsS hbS hczS g2 rfl a2 lk.2.length c2 rfl (stepCells lk.2) (stepCells_len _) HNO.out (HNS.out _ HB3.out) (by have:=HL60.out;omega) ?_
       intro a6 c6 X4 hbk hl
       have HB4:=Lib.hid (HB3.out.trans (hbk.mono HB3.out.size))
       refine hK _ _ (fun _=>HSW.out _ HB4.out) ?_
       simp only[Act.put,List.setIfInBounds_toArray,List.set_cons_zero,List.set_cons_succ]
       have HI4:Hid (Prp.LiesG (fun b=>wo.heap.size≤b∧b<X4.heap.size) X4 a5 lk.1):=HI3.out.keep (fun b ⟨h1,h2⟩=>⟨h1,Nat.lt_of_lt_of_le h2 hbk.size⟩) (fun b o ⟨_,h2⟩=>hbk.cell (p:=⟨b,o,none⟩) h2)
       have HT4:Hid (RowAtS (fun b=>wo.heap.size≤b∧b<X4.heap.size) X4 a6 (stepCells lk.2)):=hl.keep (fun b ⟨h1,h2⟩=>⟨Nat.le_trans HB3.out.size h1,h2⟩) (fun _ _ _=>rfl)
       clear hK hbk hl
       have hS4:=HSW.out _ HB4.out
       refine anyT_take (i:=18) (oi:= ?o15) (v:= ?v15) ?hi15 ?hB15 ?hQ15 ?hy15 (by assumption) ?hk15
       case hi15=>simp only[List.getElem?_toArray,List.getElem?_cons_zero,List.getElem?_cons_succ];rfl
       case hB15=>kernel_rfl
       case hQ15=>exact fun _ _ _ h=>h
       case hy15=>exact Or.inl ⟨by rfl,fun W hSW=>by(obtain⟨q1,q2,q3,q4⟩:=hSW;go_simp;try with_reducible rfl)⟩
       simp only[Act.put,List.setIfInBounds_toArray,List.set_cons_zero,List.set_cons_succ]
       refine anyT_one (i:=19) (by kernel_rfl) (by simp only[List.getElem?_toArray,List.getElem?_cons_zero,List.getElem?_cons_succ];rfl) (by rfl) (fun K hK=> ?_)
       go_simp
       have hbk:Below X4.heap.size X4 (X4.alloc (.cells #[.slice a5 lk.1.length c5,.slice a6 lk.2.length c6] 57)):=(Below.refl _ _).alloc (Nat.le_refl _) _
       have HB5:Hid (Below wo.heap.size wo (X4.alloc (.cells #[.slice a5 lk.1.length c5,.slice a6 lk.2.length c6] 57))):=HB4.out.alloc HB4.out.size _
       refine hK _ _ (fun _=>HSW.out _ HB5.out) ?_
       have HNW:=Lib.hid (World.news_of_block (cs:= #[.slice a5 lk.1.length c5,.slice a6 lk.2.length c6]) (t:=57) (fr:=(0,0)) (heap_alloc_new X4 _))
       have HZX:Hid ((X4.alloc (.cells #[.slice a5 lk.1.length c5,.slice a6 lk.2.length c6] 57)).heap.size=X4.heap.size+1):=by show _=_;simp
       generalize X4.alloc (.cells #[.slice a5 lk.1.length c5,.slice a6 lk.2.length c6] 57)=X5 at HB5 hbk HNW HZX⊢
       have HI5:Hid (Prp.LiesG (fun b=>wo.heap.size≤b∧b<X5.heap.size) X5 a5 lk.1):=HI4.out.keep (fun b ⟨h1,h2⟩=>⟨h1,Nat.lt_of_lt_of_le h2 hbk.size⟩) (fun b o ⟨_,h2⟩=>hbk.cell (p:=⟨b,o,none⟩) h2)
       have HT5:Hid (RowAtS (fun b=>wo.heap.size≤b∧b<X5.heap.size) X5 a6 (stepCells lk.2)):=HT4.out.keep (fun b ⟨h1,h2⟩=>⟨h1,Nat.lt_of_lt_of_le h2 hbk.size⟩) (fun b o ⟨_,h2⟩=>hbk.cell (p:=⟨b,o,none⟩) h2)
       clear hK hbk HI4 HT4 HB4 hS4
       generalize X4.heap.size=gX at HNW HZX⊢
       obtain⟨css,hcs1,hrow, -⟩:=(hm.out.row.below HB5.out).row
       rw[HXL.out]at hcs1 hrow
       have HRW:=Lib.hid hrow
       clear hrow hcs1
       refine anyT_one (i:=20) (by kernel_rfl) (by simp only[List.getElem?_toArray,List.getElem?_cons_zero,List.getElem?_cons_succ];rfl) (by rfl) (fun K hK=> ?_)
       refine wp_append_lies _ _ _ 40 rfl W5.heap.size 57 iL _ 2 48 Tryz.underlying40 hiL hzL hsL hbL hczL (by omega) u k css.flatten rfl HRW.out ⟨gX,0,none⟩ 1 1 [.slice a5 lk.1.length c5,.slice a6 lk.2.length c6] rfl rfl HNW.out (by simp[Value.oneCell']) (by omega) (by unfold maxLen;omega) (by omega) (Nat.le_trans hm.out.sz HB5.out.size) _ rfl ?_
       intro gg cap6 w6 hown6 hgrow6 hat6 hlt6
       refine hK _ _ (fun _=>HSG.out _ _ HB5.out hgrow6) ?_
       simp only[Act.put,List.setIfInBounds_toArray,List.set_cons_zero,List.set_cons_succ]
       have hS6:=HSG.out _ _ HB5.out hgrow6
       clear hK
       have hf6:=HFG.out _ _ HB5.out hgrow6
       have hM:=Lib.hid (Mine.step (u6:= .slice (some ⟨gg,0,none⟩) (k+1) cap6) (j:=0) (j2:=1) (y:=lk) (by decide) hm.out HB5.out (cs:=[.slice a5 lk.1.length c5,.slice a6 lk.2.length c6]) ⟨_,_,rfl,⟨a5,c5,rfl,sits_of_liesG HS1.out HI5.out⟩,⟨a6,c6,rfl,steps_of_row HS2.out HT5.out⟩⟩ hgrow6 (Nat.le_refl _) rfl hat6 (zs0:=css.flatten) (by rw[HXL.out];exact HRW.out) (by rw[HXL.out];exact hown6))
       clear hown6 hgrow6 hat6 hlt6 HI5 HT5 HRW HNW HZX HB5
       refine anyT_take (i:=21) (oi:= ?o16) (v:= ?v16) ?hi16 ?hB16 ?hQ16 ?hy16 (by assumption) ?hk16
       case hi16=>simp only[List.getElem?_toArray,List.getElem?_cons_zero,List.getElem?_cons_succ];rfl
       case hB16=>kernel_rfl
       case hQ16=>exact fun _ _ _ h=>h
       case hy16=>exact Or.inl ⟨by rfl,fun W hSW=>by(obtain⟨q1,q2,q3,q4⟩:=hSW;go_simp;try with_reducible rfl)⟩
       simp only[Act.put,List.setIfInBounds_toArray,List.set_cons_zero,List.set_cons_succ]
       obtain⟨q5,q6,q7,q8⟩:=hS6
       refine anyT_one (i:=22) (by kernel_rfl) (by simp only[List.getElem?_toArray,List.getElem?_cons_zero,List.getElem?_cons_succ];rfl) (by rfl) (fun K hK=> ?_)
       go_simp
       refine hK _ _ (fun h=>absurd rfl h) ?_
       clear hK
       refine anyT_done (by kernel_rfl) ?_ _
       clear q5 q6 q7 q8 hf6
       rw[←HTK.out]at hM
       go_wp2_with fail
       go_roundw
       case rel=>exact⟨k+1,_,by omega,by go_num,hM⟩
       case measure=>simp[intOf];omega
      ·go_simp
       refine hK _ _ (fun _=>HSW.out _ (HB1.out.alloc HB1.out.size _)) ?_
       have HB2:Hid (Below wo.heap.size wo (X1.alloc (.cells #[] 104))):=HB1.out.alloc HB1.out.size _
       clear hK
       generalize X1.heap.size=g2
       generalize X1.alloc (.cells #[] 104)=X2 at HB2⊢
       have hS2:=HSW.out _ HB2.out
       refine anyT_one (i:=9) (by kernel_rfl) (by simp only[List.getElem?_toArray,List.getElem?_cons_zero,List.getElem?_cons_succ];rfl) (by rfl) (fun K hK=> ?_)
       refine wp_copy_int _ _ 23 rfl 3 iI _ Tryz.underlying23 hiI hzI hsI hbI rfl g1 rfl a1 lk.1.length c1 rfl lk.1 rfl (HNI.out _ HB2.out) (by have:=HL60.out;omega) ?_
       intro a5 c5 X3 hb hl
       have HB3:=Lib.hid (HB2.out.trans (hb.mono HB2.out.size))
       have HL3:=Lib.hid hl
       have HS3:Hid (X2.heap.size ≥ wo.heap.size):=HB2.out.size
       refine hK _ _ (fun _=>HSW.out _ HB3.out) ?_
       simp only[Act.put,List.setIfInBounds_toArray,List.set_cons_zero,List.set_cons_succ]
       have HI3:Hid (Prp.LiesG (fun b=>wo.heap.size≤b∧b<X3.heap.size) X3 a5 lk.1):=hl.keep (fun b ⟨h1,h2⟩=>⟨Nat.le_trans HB2.out.size h1,h2⟩) (fun _ _ _=>rfl)
       clear hK hb hl HL3 HS3
       have hS3:=HSW.out _ HB3.out
       refine anyT_one (i:=17) (by kernel_rfl) (by simp only[List.getElem?_toArray,List.getElem?_cons_zero,List.getElem?_cons_succ];rfl) (by rfl) (fun K hK=> ?_)
       refine wp_copy_two _ _ 55 rfl 104 iS _ Tryz.underlying55 hiS hzS hsS hbS hczS g2 rfl a2 lk.2.length c2 rfl (stepCells lk.2) (stepCells_len _) HNO.out (HNS.out _ HB3.out) (by have:=HL60.out;omega) ?_
       intro a6 c6 X4 hbk hl
       have HB4:=Lib.hid (HB3.out.trans (hbk.mono HB3.out.size))
       refine hK _ _ (fun _=>HSW.out _ HB4.out) ?_
       simp only[Act.put,List.setIfInBounds_toArray,List.set_cons_zero,List.set_cons_succ]
       have HI4:Hid (Prp.LiesG (fun b=>wo.heap.size≤b∧b<X4.heap.size) X4 a5 lk.1):=HI3.out.keep (fun b ⟨h1,h2⟩=>⟨h1,Nat.lt_of_lt_of_le h2 hbk.size⟩) (fun b o ⟨_,h2⟩=>hbk.cell (p:=⟨b,o,none⟩) h2)
       have HT4:Hid (RowAtS (fun b=>wo.heap.size≤b∧b<X4.heap.size) X4 a6 (stepCells lk.2)):=hl.keep (fun b ⟨h1,h2⟩=>⟨Nat.le_trans HB3.out.size h1,h2⟩) (fun _ _ _=>rfl)
       clear hK hbk hl
       have hS4:=HSW.out _ HB4.out
       refine anyT_take (i:=18) (oi:= ?o17) (v:= ?v17) ?hi17 ?hB17 ?hQ17 ?hy17 (by assumption) ?hk17
       case hi17=>simp only[List.getElem?_toArray,List.getElem?_cons_zero,List.getElem?_cons_succ];rfl
       case hB17=>kernel_rfl
       case hQ17=>exact fun _ _ _ h=>h
       case hy17=>exact Or.inl ⟨by rfl,fun W hSW=>by(obtain⟨q1,q2,q3,q4⟩:=hSW;go_simp;try with_reducible rfl)⟩
       simp only[Act.put,List.setIfInBounds_toArray,List.set_cons_zero,List.set_cons_succ]
       refine anyT_one (i:=19) (by kernel_rfl) (by simp only[List.getElem?_toArray,List.getElem?_cons_zero,List.getElem?_cons_succ];rfl) (by rfl) (fun K hK=> ?_)
       go_simp
       have hbk:Below X4.heap.size X4 (X4.alloc (.cells #[.slice a5 lk.1.length c5,.slice a6 lk.2.length c6] 57)):=(Below.refl _ _).alloc (Nat.le_refl _) _
       have HB5:Hid (Below wo.heap.size wo (X4.alloc (.cells #[.slice a5 lk.1.length c5,.slice a6 lk.2.length c6] 57))):=HB4.out.alloc HB4.out.size _
       refine hK _ _ (fun _=>HSW.out _ HB5.out) ?_
       have HNW:=Lib.hid (World.news_of_block (cs:= #[.slice a5 lk.1.length c5,.slice a6 lk.2.length c6]) (t:=57) (fr:=(0,0)) (heap_alloc_new X4 _))
       have HZX:Hid ((X4.alloc (.cells #[.slice a5 lk.1.length c5,.slice a6 lk.2.length c6] 57)).heap.size=X4.heap.size+1):=by show _=_;simp
       generalize X4.alloc (.cells #[.slice a5 lk.1.length c5,.slice a6 lk.2.length c6] 57)=X5 at HB5 hbk HNW HZX⊢
       have HI5:Hid (Prp.LiesG (fun b=>wo.heap.size≤b∧b<X5.heap.size) X5 a5 lk.1):=HI4.out.keep (fun b ⟨h1,h2⟩=>⟨h1,Nat.lt_of_lt_of_le h2 hbk.size⟩) (fun b o ⟨_,h2⟩=>hbk.cell (p:=⟨b,o,none⟩) h2)
       have HT5:Hid (RowAtS (fun b=>wo.heap.size≤b∧b<X5.heap.size) X5 a6 (stepCells lk.2)):=HT4.out.keep (fun b ⟨h1,h2⟩=>⟨h1,Nat.lt_of_lt_of_le h2 hbk.size⟩) (fun b o ⟨_,h2⟩=>hbk.cell (p:=⟨b,o,none⟩) h2)
       clear hK hbk HI4 HT4 HB4 hS4
       generalize X4.heap.size=gX at HNW HZX⊢
       obtain⟨css,hcs1,hrow, -⟩:=(hm.out.row.below HB5.out).row
       rw[HXL.out]at hcs1 hrow
       have HRW:=Lib.hid hrow
       clear hrow hcs1
       refine anyT_one (i:=20) (by kernel_rfl) (by simp only[List.getElem?_toArray,List.getElem?_cons_zero,List.getElem?_cons_succ];rfl) (by rfl) (fun K hK=> ?_)
       refine wp_append_lies _ _ _ 40 rfl W5.heap.size 57 iL _ 2 48 Tryz.underlying40 hiL hzL hsL hbL hczL (by omega) u k css.flatten rfl HRW.out ⟨gX,0,none⟩ 1 1 [.slice a5 lk.1.length c5,.slice a6 lk.2.length c6] rfl rfl HNW.out (by simp[Value.oneCell']) (by omega) (by unfold maxLen;omega) (by omega) (Nat.le_trans hm.out.sz HB5.out.size) _ rfl ?_
       intro gg cap6 w6 hown6 hgrow6 hat6 hlt6
       refine hK _ _ (fun _=>HSG.out _ _ HB5.out hgrow6) ?_
       simp only[Act.put,List.setIfInBounds_toArray,List.set_cons_zero,List.set_cons_succ]
       have hS6:=HSG.out _ _ HB5.out hgrow6
       clear hK
       have hf6:=HFG.out _ _ HB5.out hgrow6
       have hM:=Lib.hid (Mine.step (u6:= .slice (some ⟨gg,0,none⟩) (k+1) cap6) (j:=0) (j2:=1) (y:=lk) (by decide) hm.out HB5.out (cs:=[.slice a5 lk.1.length c5,.slice a6 lk.2.length c6]) ⟨_,_,rfl,⟨a5,c5,rfl,sits_of_liesG HS1.out HI5.out⟩,⟨a6,c6,rfl,steps_of_row HS2.out HT5.out⟩⟩ hgrow6 (Nat.le_refl _) rfl hat6 (zs0:=css.flatten) (by rw[HXL.out];exact HRW.out) (by rw[HXL.out];exact hown6))
       clear hown6 hgrow6 hat6 hlt6 HI5 HT5 HRW HNW HZX HB5
       refine anyT_take (i:=21) (oi:= ?o18) (v:= ?v18) ?hi18 ?hB18 ?hQ18 ?hy18 (by assumption) ?hk18
       case hi18=>simp only[List.getElem?_toArray,List.getElem?_cons_zero,List.getElem?_cons_succ];rfl
       case hB18=>kernel_rfl
       case hQ18=>exact fun _ _ _ h=>h
       case hy18=>exact Or.inl ⟨by rfl,fun W hSW=>by(obtain⟨q1,q2,q3,q4⟩:=hSW;go_simp;try with_reducible rfl)⟩
       simp only[Act.put,List.setIfInBounds_toArray,List.set_cons_zero,List.set_cons_succ]
       obtain⟨q5,q6,q7,q8⟩:=hS6
       refine anyT_one (i:=22) (by kernel_rfl) (by simp only[List.getElem?_toArray,List.getElem?_cons_zero,List.getElem?_cons_succ];rfl) (by rfl) (fun K hK=> ?_)
       go_simp
       refine hK _ _ (fun h=>absurd rfl h) ?_
       clear hK
       refine anyT_done (by kernel_rfl) ?_ _
       clear q5 q6 q7 q8 hf6
       rw[←HTK.out]at hM
       go_wp2_with fail
       go_roundw
       case rel=>exact⟨k+1,_,by omega,by go_num,hM⟩
       case measure=>simp[intOf];omega
     ·go_simp
      refine hK _ _ (fun _=>HSW.out _ (HB0.out.alloc HB0.out.size _)) ?_
      have HB1:Hid (Below wo.heap.size wo (X0.alloc (.cells #[] 104))):=HB0.out.alloc HB0.out.size _
      clear hK
      generalize X0.heap.size=g2
      generalize X0.alloc (.cells #[] 104)=X1 at HB1⊢
      have hS1:=HSW.out _ HB1.out
      refine anyT_one (i:=2) (by kernel_rfl) (by simp only[List.getElem?_toArray,List.getElem?_cons_zero,List.getElem?_cons_succ];rfl) (by rfl) (fun K hK=> ?_)
      go_simp
      refine hK _ _ (fun _=>HSW.out _ (HB1.out.alloc HB1.out.size _)) ?_
      have HB2:Hid (Below wo.heap.size wo (X1.alloc (.cells #[] 3))):=HB1.out.alloc HB1.out.size _
      clear hK
      generalize X1.heap.size=g1
      generalize X1.alloc (.cells #[] 3)=X2 at HB2⊢
      have hS2:=HSW.out _ HB2.out
      refine anyT_one (i:=9) (by kernel_rfl) (by simp only[List.getElem?_toArray,List.getElem?_cons_zero,List.getElem?_cons_succ];rfl) (by rfl) (fun K hK=> ?_)
      refine wp_copy_int _ _ 23 rfl 3 iI _ Tryz.underlying23 hiI hzI hsI hbI rfl g1 rfl a1 lk.1.length c1 rfl lk.1 rfl (HNI.out _ HB2.out) (by have:=HL60.out;omega) ?_
      intro a5 c5 X3 hb hl
      have HB3:=Lib.hid (HB2.out.trans (hb.mono HB2.out.size))
      have HL3:=Lib.hid hl
      have HS3:Hid (X2.heap.size ≥ wo.heap.size):=HB2.out.size
      refine hK _ _ (fun _=>HSW.out _ HB3.out) ?_
      simp only[Act.put,List.setIfInBounds_toArray,List.set_cons_zero,List.set_cons_succ]
      have HI3:Hid (Prp.LiesG (fun b=>wo.heap.size≤b∧b<X3.heap.size) X3 a5 lk.1):=hl.keep (fun b ⟨h1,h2⟩=>⟨Nat.le_trans HB2.out.size h1,h2⟩) (fun _ _ _=>rfl)
      clear hK hb hl HL3 HS3
      have hS3:=HSW.out _ HB3.out
      refine anyT_one (i:=17) (by kernel_rfl) (by simp only[List.getElem?_toArray,List.getElem?_cons_zero,List.getElem?_cons_succ];rfl) (by rfl) (fun K hK=> ?_)
      refine wp_copy_two _ _ 55 rfl 104 iS _ Tryz.underlying55 hiS hzS hsS hbS hczS g2 rfl a2 lk.2.length c2 rfl (stepCells lk.2) (stepCells_len _) HNO.out (HNS.out _ HB3.out) (by have:=HL60.out;omega) ?_
      intro a6 c6 X4 hbk hl
      have HB4:=Lib.hid (HB3.out.trans (hbk.mono HB3.out.size))
      refine hK _ _ (fun _=>HSW.out _ HB4.out) ?_
      simp only[Act.put,List.setIfInBounds_toArray,List.set_cons_zero,List.set_cons_succ]
      have HI4:Hid (Prp.LiesG (fun b=>wo.heap.size≤b∧b<X4.heap.size) X4 a5 lk.1):=HI3.out.keep (fun b ⟨h1,h2⟩=>⟨h1,Nat.lt_of_lt_of_le h2 hbk.size⟩) (fun b o ⟨_,h2⟩=>hbk.cell (p:=⟨b,o,none⟩) h2)
      have HT4:Hid (RowAtS (fun b=>wo.heap.size≤b∧b<X4.heap.size) X4 a6 (stepCells lk.2)):=hl.keep (fun b ⟨h1,h2⟩=>⟨Nat.le_trans HB3.out.size h1,h2⟩) (fun _ _ _=>rfl)
      clear hK hbk hl
      have hS4:=HSW.out _ HB4.out
      refine anyT_take (i:=18) (oi:= ?o19) (v:= ?v19) ?hi19 ?hB19 ?hQ19 ?hy19 (by assumption) ?hk19
      case hi19=>simp only[List.getElem?_toArray,List.getElem?_cons_zero,List.getElem?_cons_succ];rfl
      case hB19=>kernel_rfl
      case hQ19=>exact fun _ _ _ h=>h
      case hy19=>exact Or.inl ⟨by rfl,fun W hSW=>by(obtain⟨q1,q2,q3,q4⟩:=hSW;go_simp;try with_reducible rfl)⟩
      simp only[Act.put,List.setIfInBounds_toArray,List.set_cons_zero,List.set_cons_succ]
      refine anyT_one (i:=19) (by kernel_rfl) (by simp only[List.getElem?_toArray,List.getElem?_cons_zero,List.getElem?_cons_succ];rfl) (by rfl) (fun K hK=> ?_)
      go_simp
      have hbk:Below X4.heap.size X4 (X4.alloc (.cells #[.slice a5 lk.1.length c5,.slice a6 lk.2.length c6] 57)):=(Below.refl _ _).alloc (Nat.le_refl _) _
      have HB5:Hid (Below wo.heap.size wo (X4.alloc (.cells #[.slice a5 lk.1.length c5,.slice a6 lk.2.length c6] 57))):=HB4.out.alloc HB4.out.size _
      refine hK _ _ (fun _=>HSW.out _ HB5.out) ?_
      have HNW:=Lib.hid (World.news_of_block (cs:= #[.slice a5 lk.1.length c5,.slice a6 lk.2.length c6]) (t:=57) (fr:=(0,0)) (heap_alloc_new X4 _))
      have HZX:Hid ((X4.alloc (.cells #[.slice a5 lk.1.length c5,.slice a6 lk.2.length c6] 57)).heap.size=X4.heap.size+1):=by show _=_;simp
      generalize X4.alloc (.cells #[.slice a5 lk.1.length c5,.slice a6 lk.2.length c6] 57)=X5 at HB5 hbk HNW HZX⊢
      have HI5:Hid (Prp.LiesG (fun b=>wo.heap.size≤b∧b<X5.heap.size) X5 a5 lk.1):=HI4.out.keep (fun b ⟨h1,h2⟩=>⟨h1,Nat.lt_of_lt_of_le h2 hbk.size⟩) (fun b o ⟨_,h2⟩=>hbk.cell (p:=⟨b,o,none⟩) h2)
      have HT5:Hid (RowAtS (fun b=>wo.heap.size≤b∧b<X5.heap.size) X5 a6 (stepCells lk.2)):=HT4.out.keep (fun b ⟨h1,h2⟩=>⟨h1,Nat.lt_of_lt_of_le h2 hbk.size⟩) (fun b o ⟨_,h2⟩=>hbk.cell (p:=⟨b,o,none⟩) h2)
      clear hK hbk HI4 HT4 HB4 hS4
      generalize X4.heap.size=gX at HNW HZX⊢
      obtain⟨css,hcs1,hrow, -⟩:=(hm.out.row.below HB5.out).row
      rw[HXL.out]at hcs1 hrow
      have HRW:=Lib.hid hrow
      clear hrow hcs1
      refine anyT_one (i:=20) (by kernel_rfl) (by simp only[List.getElem?_toArray,List.getElem?_cons_zero,List.getElem?_cons_succ];rfl) (by rfl) (fun K hK=> ?_)
      refine wp_append_lies _ _ _ 40 rfl W5.heap.size 57 iL _ 2 48 Tryz.underlying40 hiL hzL hsL hbL hczL (by omega) u k css.flatten rfl HRW.out ⟨gX,0,none⟩ 1 1 [.slice a5 lk.1.length c5,.slice a6 lk.2.length c6] rfl rfl HNW.out (by simp[Value.oneCell']) (by omega) (by unfold maxLen;omega) (by omega) (Nat.le_trans hm.out.sz HB5.out.size) _ rfl ?_
      intro gg cap6 w6 hown6 hgrow6 hat6 hlt6
      refine hK _ _ (fun _=>HSG.out _ _ HB5.out hgrow6) ?_
      simp only[Act.put,List.setIfInBounds_toArray,List.set_cons_zero,List.set_cons_succ]
      have hS6:=HSG.out _ _ HB5.out hgrow6
      clear hK
      have hf6:=HFG.out _ _ HB5.out hgrow6
      have hM:=Lib.hid (Mine.step (u6:= .slice (some ⟨gg,0,none⟩) (k+1) cap6) (j:=0) (j2:=1) (y:=lk) (by decide) hm.out HB5.out (cs:=[.slice a5 lk.1.length c5,.slice a6 lk.2.length c6]) ⟨_,_,rfl,⟨a5,c5,rfl,sits_of_liesG HS1.out HI5.out⟩,⟨a6,c6,rfl,steps_of_row HS2.out HT5.out⟩⟩ hgrow6 (Nat.le_refl _) rfl hat6 (zs0:=css.flatten) (by rw[HXL.out];exact HRW.out) (by rw[HXL.out];exact hown6))
      clear hown6 hgrow6 hat6 hlt6 HI5 HT5 HRW HNW HZX HB5
      refine anyT_take (i:=21) (oi:= ?o20) (v:= ?v20) ?hi20 ?hB20 ?hQ20 ?hy20 (by assumption) ?hk20
      case hi20=>simp only[List.getElem?_toArray,List.getElem?_cons_zero,List.getElem?_cons_succ];rfl
      case hB20=>kernel_rfl
      case hQ20=>exact fun _ _ _ h=>h
      case hy20=>exact Or.inl ⟨by rfl,fun W hSW=>by(obtain⟨q1,q2,q3,q4⟩:=hSW;go_simp;try with_reducible rfl)⟩
      simp only[Act.put,List.setIfInBounds_toArray,List.set_cons_zero,List.set_cons_succ]
      obtain⟨q5,q6,q7,q8⟩:=hS6
      refine anyT_one (i:=22) (by kernel_rfl) (by simp only[List.getElem?_toArray,List.getElem?_cons_zero,List.getElem?_cons_succ];rfl) (by rfl) (fun K hK=> ?_)
      go_simp
      refine hK _ _ (fun h=>absurd rfl h) ?_
      clear hK
      refine anyT_done (by kernel_rfl) ?_ _
      clear q5 q6 q7 q8 hf6
      rw[←HTK.out]at hM
      go_wp2_with fail
      go_roundw
      case rel=>exact⟨k+1,_,by omega,by go_num,hM⟩
      case measure=>simp[intOf];omega
    ·obtain rfl:k=ln:=by omega
     have HTL:Hid (lc.take k=lc):=List.take_of_length_le (by rw[HLN.out,HELN.out];exact Nat.le_refl _)
     rw[HTL.out]at hm
     have HKN:Hid (lc.length=k):=by show _=_;rw[HLN.out,HELN.out]
     have hl40:k≤40:=by have:=HEE.out.l1;have:=HELN.out;omega
     have hus:=hm.out.row.sits (by rw[HKN.out];omega)
     obtain⟨la5,lcap5,hu5,hst5⟩:=hus
     rw[HKN.out]at hu5
     subst hu5
     have HST:=Lib.hid hst5
     have HM2:Hid (Mine Pak.clauseSh 23 (w3.heap.size+1) 1 0 wo.heap.size (.slice la5 k lcap5) wo ([]:List (List Int)) (.slice none 0 0) wo):=Mine.start hm.out.d hm.out.c hm.out.fz (by have:=hm.out.sz;have:=hm.out.hK;omega)
     have HG5:Hid (Below (w3.heap.size+1) W5 wo):=hm.out.low (Nat.le_refl _)
     have HZO:Hid (w3.heap.size+2≤wo.heap.size):=by have:=hm.out.sz;have:=HZ5.out;show _≤_;omega
     have d0:=(HCE.out _ (B5.out.trans (HG5.out.mono (Nat.le_trans B3.out.size (Nat.le_succ _))))).2.2
     have B6:Hid (Below W2.heap.size W2 wo):=B5.out.trans (HG5.out.mono (Nat.le_trans B3.out.size (Nat.le_succ _)))
     clear hm hst5 HTL HMS
     obtain⟨d0,d1⟩:=d0
     go_wp2_with fail
     clear d0 d1
     go_loopw [10] (fun i wr=>∃(r:Nat) (u:Value),r≤rn∧i= .int .i64 r∧Hid (Mine Pak.clauseSh 23 (w3.heap.size+1) 1 0 wo.heap.size (.slice la5 k lcap5) wo (ss.take r) u wr)) (fun i _=>rn - (intOf i).toNat)
     case atStart=>exact⟨0,_,Nat.zero_le _,rfl,HM2.out⟩
     case round=>
      obtain⟨j,v,hj,rfl,hn⟩:=hrel
      obtain⟨wp,rfl⟩:∃wp:World,wp=wr:=⟨_,rfl⟩
      by_cases hjn:j<rn
      ·have hj2:j<ss.length:=by rw[HERN.out];exact hjn
       obtain⟨b,off,ccs,rfl,hbl,hcc,v4,rfl,hsl1⟩:=HRR.out.2 j hj2
       have hbW:Below W2.heap.size W2 wp:=B6.out.trans (hn.out.low (Z:=W2.heap.size) (by have:=B3.out.size;omega))
       have hw2:=(HCE.out _ hbW).2.2.2
       have hbw:=(HCE.out _ hbW).1
       have q0:=hcc 0 _ rfl
       rw[show Pak.clauseSh.k=1 from rfl,Nat.mul_one,Nat.add_zero]at q0
       have q0:=(hbw.cell (p:=⟨b,off+j,none⟩) hbl).trans q0
       have HSL1:=Lib.hid (hsl1.keep (S':=Pak.Lo w.heap.size) (fun b hb=>hb) (fun b o hb=>hbw.cell (p:=⟨b,o,none⟩) hb))
       have HW:=Lib.hid hbw
       have hji:(j:Int)<(rn:Int):=by omega
       have hrnm:rn≤60:=by have:=HEE.out.l2;have:=HERN.out;omega
       obtain⟨a1,c1,rfl,hs1⟩:=HSL1.out
       have HS1:=Lib.hid hs1
       have HTK:Hid (ss.take (j+1)=ss.take j ++ [ss[j]]):=List.take_succ_eq_append_getElem hj2
       have HXL:Hid ((ss.take j).length=j):=by show _=_;rw[List.length_take];omega
       have HL60:Hid (ss[j].length≤60):=by
        have:=HEE.out.k2 j hj2
        rwa [List.getD_eq_getElem?_getD,List.getElem?_eq_getElem hj2,Option.getD_some]at this
       generalize ss[j]=lk at*
       have HSW:Hid (∀W,Below wp.heap.size wp W→W.cell? ⟨w3.heap.size+1,1,none⟩=some v∧W.cell? ⟨w.heap.size+1,1,none⟩=some (.slice (some ⟨b,off,none⟩) rn rcap)∧W.cell? ⟨b,off+j,none⟩=some (.slice a1 lk.length c1)∧True):=fun W hb=>by
        have hz:=hn.out.sz
        have:=HZO.out
        have:=HZ2.out
        have:=B3.out.size
        have z1:w3.heap.size+1<wp.heap.size:=by omega
        have z2:w.heap.size+1<wp.heap.size:=by omega
        have z3:b<wp.heap.size:=by have:=HW.out.size;simp only[Pak.Lo]at hbl;omega
        exact⟨(hb.cell (p:=⟨w3.heap.size+1,1,none⟩) z1).trans hn.out.c,(hb.cell (p:=⟨w.heap.size+1,1,none⟩) z2).trans hw2,(hb.cell (p:=⟨b,off+j,none⟩) z3).trans q0,trivial⟩
       have HSG:Hid (∀X Y,Below wp.heap.size wp X→X.grownBy Y v.ownBlock→Y.cell? ⟨w3.heap.size+1,1,none⟩=some v∧Y.cell? ⟨w.heap.size+1,1,none⟩=some (.slice (some ⟨b,off,none⟩) rn rcap)∧Y.cell? ⟨b,off+j,none⟩=some (.slice a1 lk.length c1)∧True):=fun X Y hX hY=>by
        obtain⟨r0,r1,r2,r3⟩:=HSW.out X hX
        have hz:=hn.out.sz
        have:=HZO.out
        have:=HZ2.out
        have:=B3.out.size
        have z0:=hX.size
        have z3:b<w.heap.size:=hbl
        have hlt2:∀q,v.ownBlock=some q→wo.heap.size≤q:=fun q e=>by
         obtain⟨css,_,h2,_⟩:=hn.out.row.row
         exact(World.ownsRow.lt h2 q e).1
        have hk2:∀q o,q<wo.heap.size→Y.cell? ⟨q,o,none⟩=X.cell? ⟨q,o,none⟩:=fun q o hq=>World.cell?_of_block (a:=⟨q,o,none⟩) (hY.block q (by omega) (fun e=>by have:=hlt2 q e.symm;omega))
        have y1:w3.heap.size+1<wo.heap.size:=by omega
        have y2:w.heap.size+1<wo.heap.size:=by omega
        have y3:b<wo.heap.size:=by omega
        exact⟨(hk2 _ _ y1).trans r0,(hk2 _ _ y2).trans r1,(hk2 _ _ y3).trans r2,trivial⟩
       have HFG:Hid (∀X Y,Below wp.heap.size wp X→X.grownBy Y v.ownBlock→Y.frozen? ⟨w3.heap.size+1,1,none⟩=false):=fun X Y hX hY=>by
        have hz:=hn.out.sz
        have:=HZO.out
        have z0:=hX.size
        have hlt2:∀q,v.ownBlock=some q→wo.heap.size≤q:=fun q e=>by
         obtain⟨css,_,h2,_⟩:=hn.out.row.row
         exact(World.ownsRow.lt h2 q e).1
        have y1:w3.heap.size+1<X.heap.size:=by omega
        have y2:w3.heap.size+1<wp.heap.size:=by omega
        exact(World.frozen?_of_block (a:=⟨w3.heap.size+1,1,none⟩) (hY.block _ y1 (fun e=>by have:=hlt2 (w3.heap.size+1) e.symm;omega))).trans ((hX.frozen (p:=⟨w3.heap.size+1,1,none⟩) y2).trans (hn.out.fz 1))
       have HNI:Hid (∀X,Below wp.heap.size wp X→Prp.Nums X.heap.size X a1 lk):=fun X hX=>nums_of_sits (HS1.out.below (hX.mono HW.out.size) (Nat.le_trans HW.out.size hX.size))
       clear hsl1 hcc HSL1 hs1 hbw q0 hbW
       go_wp2_with fail
       have hS0:=HSW.out _ (Below.refl _ wp).drew
       have HB0:Hid (Below wp.heap.size wp wp.drew):=(Below.refl _ wp).drew
       clear hw2
       refine region_t (fun W=>W.cell? ⟨w3.heap.size+1,1,none⟩=some v∧W.cell? ⟨w.heap.size+1,1,none⟩=some (.slice (some ⟨b,off,none⟩) rn rcap)∧W.cell? ⟨b,off+j,none⟩=some (.slice a1 lk.length c1)∧True) 12 (by kernel_rfl) ?_
       change AnyT _ _ _ _ _ _ 13 (Array.replicate 13 false) _ _
       generalize wp.drew=X0 at*
       refine anyT_take (i:=0) (oi:= ?o21) (v:= ?v21) ?hi21 ?hB21 ?hQ21 ?hy21 (by assumption) ?hk21
       case hi21=>simp only[List.getElem?_toArray,List.getElem?_cons_zero,List.getElem?_cons_succ];rfl
       case hB21=>kernel_rfl
       case hQ21=>exact fun _ _ _ h=>h
       case hy21=>exact Or.inl ⟨by rfl,fun W hSW=>by(obtain⟨q1,q2,q3,q4⟩:=hSW;go_simp;try with_reducible rfl)⟩
       simp only[Act.put,List.setIfInBounds_toArray,List.set_cons_zero,List.set_cons_succ]
       refine anyT_take (i:=1) (oi:= ?o22) (v:= ?v22) ?hi22 ?hB22 ?hQ22 ?hy22 (by assumption) ?hk22
       case hi22=>simp only[List.getElem?_toArray,List.getElem?_cons_zero,List.getElem?_cons_succ];rfl
       case hB22=>kernel_rfl
       case hQ22=>exact fun _ _ _ h=>h
       case hy22=>exact Or.inl ⟨by rfl,fun W hSW=>by(obtain⟨q1,q2,q3,q4⟩:=hSW;go_simp;try with_reducible rfl)⟩
       simp only[Act.put,List.setIfInBounds_toArray,List.set_cons_zero,List.set_cons_succ]
       refine anyT_take (i:=3) (oi:= ?o23) (v:= ?v23) ?hi23 ?hB23 ?hQ23 ?hy23 (by assumption) ?hk23
       case hi23=>simp only[List.getElem?_toArray,List.getElem?_cons_zero,List.getElem?_cons_succ];rfl
       case hB23=>kernel_rfl
       case hQ23=>exact fun _ _ _ h=>h
       case hy23=>exact Or.inl ⟨by rfl,fun W hSW=>by(obtain⟨q1,q2,q3,q4⟩:=hSW;go_simp;try with_reducible rfl)⟩
       simp only[Act.put,List.setIfInBounds_toArray,List.set_cons_zero,List.set_cons_succ]
       refine anyT_take (i:=4) (oi:= ?o24) (v:= ?v24) ?hi24 ?hB24 ?hQ24 ?hy24 (by assumption) ?hk24
       case hi24=>simp only[List.getElem?_toArray,List.getElem?_cons_zero,List.getElem?_cons_succ];rfl
       case hB24=>kernel_rfl
       case hQ24=>exact fun _ _ _ h=>h
       case hy24=>exact Or.inl ⟨by rfl,fun W hSW=>by(obtain⟨q1,q2,q3,q4⟩:=hSW;go_simp;try with_reducible rfl)⟩
       simp only[Act.put,List.setIfInBounds_toArray,List.set_cons_zero,List.set_cons_succ]
       refine anyT_take (i:=5) (oi:= ?o25) (v:= ?v25) ?hi25 ?hB25 ?hQ25 ?hy25 (by assumption) ?hk25
       case hi25=>simp only[List.getElem?_toArray,List.getElem?_cons_zero,List.getElem?_cons_succ];rfl
       case hB25=>kernel_rfl
       case hQ25=>exact fun _ _ _ h=>h
       case hy25=>exact Or.inl ⟨by rfl,fun W hSW=>by(obtain⟨q1,q2,q3,q4⟩:=hSW;go_simp;try with_reducible rfl)⟩
       simp only[Act.put,List.setIfInBounds_toArray,List.set_cons_zero,List.set_cons_succ]
       refine anyT_take (i:=6) (oi:= ?o26) (v:= ?v26) ?hi26 ?hB26 ?hQ26 ?hy26 (by assumption) ?hk26
       case hi26=>simp only[List.getElem?_toArray,List.getElem?_cons_zero,List.getElem?_cons_succ];rfl
       case hB26=>kernel_rfl
       case hQ26=>exact fun _ _ _ h=>h
       case hy26=>exact Or.inl ⟨by rfl,fun W hSW=>by(obtain⟨q1,q2,q3,q4⟩:=hSW;go_simp;try with_reducible rfl)⟩
       simp only[Act.put,List.setIfInBounds_toArray,List.set_cons_zero,List.set_cons_succ]
       refine anyT_take (i:=7) (oi:= ?o27) (v:= ?v27) ?hi27 ?hB27 ?hQ27 ?hy27 (by assumption) ?hk27
       case hi27=>simp only[List.getElem?_toArray,List.getElem?_cons_zero,List.getElem?_cons_succ];rfl
       case hB27=>kernel_rfl
       case hQ27=>exact fun _ _ _ h=>h
       case hy27=>exact Or.inl ⟨by rfl,fun W hSW=>by(obtain⟨q1,q2,q3,q4⟩:=hSW;go_simp;try with_reducible rfl)⟩
       simp only[Act.put,List.setIfInBounds_toArray,List.set_cons_zero,List.set_cons_succ]
       refine anyT_one (i:=2) (by kernel_rfl) (by simp only[List.getElem?_toArray,List.getElem?_cons_zero,List.getElem?_cons_succ];rfl) (by rfl) (fun K hK=> ?_)
       go_simp
       refine hK _ _ (fun _=>HSW.out _ (HB0.out.alloc HB0.out.size _)) ?_
       have HB1:Hid (Below wp.heap.size wp (X0.alloc (.cells #[] 3))):=HB0.out.alloc HB0.out.size _
       clear hK
       generalize X0.heap.size=g1
       generalize X0.alloc (.cells #[] 3)=X1 at HB1⊢
       have hS1:=HSW.out _ HB1.out
       refine anyT_one (i:=8) (by kernel_rfl) (by simp only[List.getElem?_toArray,List.getElem?_cons_zero,List.getElem?_cons_succ];rfl) (by rfl) (fun K hK=> ?_)
       refine wp_copy_int _ _ 23 rfl 3 iI _ Tryz.underlying23 hiI hzI hsI hbI rfl g1 rfl a1 lk.length c1 rfl lk rfl (HNI.out _ HB1.out) (by have:=HL60.out;omega) ?_
       intro a5 c5 X4 hb hl
       have HB4:=Lib.hid (HB1.out.trans (hb.mono HB1.out.size))
       refine hK _ _ (fun _=>HSW.out _ HB4.out) ?_
       simp only[Act.put,List.setIfInBounds_toArray,List.set_cons_zero,List.set_cons_succ]
       have HI4:Hid (Prp.LiesG (fun b=>wp.heap.size≤b∧b<X4.heap.size) X4 a5 lk):=hl.keep (fun b ⟨h1,h2⟩=>⟨Nat.le_trans HB1.out.size h1,h2⟩) (fun _ _ _=>rfl)
       clear hK hb hl
       have hS4:=HSW.out _ HB4.out
       refine anyT_one (i:=9) (by kernel_rfl) (by simp only[List.getElem?_toArray,List.getElem?_cons_zero,List.getElem?_cons_succ];rfl) (by rfl) (fun K hK=> ?_)
       go_simp
       have hbk:Below X4.heap.size X4 (X4.alloc (.cells #[.slice a5 lk.length c5] 23)):=(Below.refl _ _).alloc (Nat.le_refl _) _
       have HB5:Hid (Below wp.heap.size wp (X4.alloc (.cells #[.slice a5 lk.length c5] 23))):=HB4.out.alloc HB4.out.size _
       refine hK _ _ (fun _=>HSW.out _ HB5.out) ?_
       have HNW:=Lib.hid (World.news_of_block (cs:= #[.slice a5 lk.length c5]) (t:=23) (fr:=(0,0)) (heap_alloc_new X4 _))
       generalize X4.alloc (.cells #[.slice a5 lk.length c5] 23)=X5 at HB5 hbk HNW⊢
       have HI5:Hid (Prp.LiesG (fun b=>wp.heap.size≤b∧b<X5.heap.size) X5 a5 lk):=HI4.out.keep (fun b ⟨h1,h2⟩=>⟨h1,Nat.lt_of_lt_of_le h2 hbk.size⟩) (fun b o ⟨_,h2⟩=>hbk.cell (p:=⟨b,o,none⟩) h2)
       clear hK hbk HI4 HB4 hS4
       generalize X4.heap.size=gX at HNW⊢
       obtain⟨css,hcs1,hrow, -⟩:=(hn.out.row.below HB5.out).row
       rw[HXL.out]at hcs1 hrow
       have HRW:=Lib.hid hrow
       clear hrow hcs1
       refine anyT_one (i:=10) (by kernel_rfl) (by simp only[List.getElem?_toArray,List.getElem?_cons_zero,List.getElem?_cons_succ];rfl) (by rfl) (fun K hK=> ?_)
       refine wp_append_lies _ _ _ 41 rfl wo.heap.size 23 iR _ 1 24 Tryz.underlying41 hiR hzR hsR hbR hczR (by omega) v j css.flatten rfl HRW.out ⟨gX,0,none⟩ 1 1 [.slice a5 lk.length c5] rfl rfl HNW.out (by simp[Value.oneCell']) (by omega) (by unfold maxLen;omega) (by omega) (Nat.le_trans hn.out.sz HB5.out.size) _ rfl ?_
       intro gg cap6 w6 hown6 hgrow6 hat6 hlt6
       refine hK _ _ (fun _=>HSG.out _ _ HB5.out hgrow6) ?_
       simp only[Act.put,List.setIfInBounds_toArray,List.set_cons_zero,List.set_cons_succ]
       have hS6:=HSG.out _ _ HB5.out hgrow6
       clear hK
       have hf6:=HFG.out _ _ HB5.out hgrow6
       have hM:=Lib.hid (Mine.step (u6:= .slice (some ⟨gg,0,none⟩) (j+1) cap6) (j:=1) (j2:=0) (y:=lk) (by decide) hn.out HB5.out (cs:=[.slice a5 lk.length c5]) ⟨_,rfl,a5,c5,rfl,sits_of_liesG HS1.out HI5.out⟩ hgrow6 (Nat.le_refl _) rfl hat6 (zs0:=css.flatten) (by rw[HXL.out];exact HRW.out) (by rw[HXL.out];exact hown6))
       clear hown6 hgrow6 hat6 hlt6 HI5 HRW HNW HB5
       refine anyT_take (i:=11) (oi:= ?o28) (v:= ?v28) ?hi28 ?hB28 ?hQ28 ?hy28 (by assumption) ?hk28
       case hi28=>simp only[List.getElem?_toArray,List.getElem?_cons_zero,List.getElem?_cons_succ];rfl
       case hB28=>kernel_rfl
       case hQ28=>exact fun _ _ _ h=>h
       case hy28=>exact Or.inl ⟨by rfl,fun W hSW=>by(obtain⟨q1,q2,q3,q4⟩:=hSW;go_simp;try with_reducible rfl)⟩
       simp only[Act.put,List.setIfInBounds_toArray,List.set_cons_zero,List.set_cons_succ]
       obtain⟨q5,q6,q7,q8⟩:=hS6
       refine anyT_one (i:=12) (by kernel_rfl) (by simp only[List.getElem?_toArray,List.getElem?_cons_zero,List.getElem?_cons_succ];rfl) (by rfl) (fun K hK=> ?_)
       go_simp
       refine hK _ _ (fun h=>absurd rfl h) ?_
       clear hK
       refine anyT_done (by kernel_rfl) ?_ _
       clear q5 q6 q7 q8 hf6
       rw[←HTK.out]at hM
       go_wp2_with fail
       go_roundw
       case rel=>exact⟨j+1,_,by omega,by go_num,hM⟩
       case measure=>simp[intOf];omega
      ·obtain rfl:j=rn:=by omega
       have HTS:Hid (ss.take j=ss):=List.take_of_length_le (by rw[HERN.out];exact Nat.le_refl _)
       rw[HTS.out]at hn
       have hj60:j≤60:=by have:=HEE.out.l2;have:=HERN.out;omega
       obtain⟨ra5,rcap5,hv5,hrt5⟩:=hn.out.row.sits (by rw[HERN.out];omega)
       rw[HERN.out]at hv5
       subst hv5
       have HGP:Hid (Below (w3.heap.size+1) W5 wp):=HG5.out.trans (hn.out.low (Nat.le_refl _))
       have HB4P:Hid (Below W4.heap.size W4 wp):=HA5.out.trans (by rw[HZ4.out];exact HGP.out)
       have BP:Hid (Below W2.heap.size W2 wp):=B5.out.trans (HGP.out.mono (Nat.le_trans B3.out.size (Nat.le_succ _)))
       have HFP:Hid (FLies wp.heap.size wp (n+1) f _):=Lib.hid ((HF4.out.below HB4P.out).mono HB4P.out.size)
       have HOP:=Lib.hid (HO.out.below HB4P.out HO.out.lt)
       have HWP:Hid (Below w.heap.size w wp):=(HCE.out _ BP.out).1
       have HRP:Hid (Prp.CLies wp.heap.size wp ra5 ss):=clies_of hrt5 (fun b hb=>hb.2)
       have HLP:Hid (LmLies wp.heap.size wp la5 lms):=by
        refine lmlies_c (B:=w.heap.size) (w:=w) (HST.out.keep (S':=Pak.Lo wp.heap.size) (fun b hb=>Nat.lt_of_lt_of_le hb.2 hn.out.g.size) (fun b o hb=>World.cell?_of_block (a:=⟨b,o,none⟩) (hn.out.g.block b hb.2 (fun e=> ?_)))) HLN.out HSE.out HWP.out HWP.out.size
        have h1:=hb.1
        have h2:=HZ5.out
        injection e with e
        omega
       have HLG:Hid (LmLies wp.heap.size wp la lms):=(HGL.out.below HWP.out HWP.out.size)
       have HRG:Hid (Prp.CLies wp.heap.size wp ra ss):=(HGR.out.below HWP.out).mono HWP.out.size
       have HMP:Hid (∀W,Below wp.heap.size wp W→W.cell? ⟨w3.heap.size+1,0,none⟩=some (.slice la5 k lcap5)∧W.cell? ⟨w3.heap.size+1,1,none⟩=some (.slice ra5 j rcap5)):=by
        have z1:w3.heap.size+1<wp.heap.size:=by have:=hn.out.hK;have:=hn.out.sz;omega
        exact fun W hb=>⟨(hb.cell (p:=⟨w3.heap.size+1,0,none⟩) z1).trans hn.out.d,(hb.cell (p:=⟨w3.heap.size+1,1,none⟩) z1).trans hn.out.c⟩
       have HCP:Hid (∀W,Below wp.heap.size wp W→Below w.heap.size w W∧W.cell? ⟨w.heap.size+1,0,none⟩=some (.slice la k lcap)∧W.cell? ⟨w.heap.size+1,1,none⟩=some (.slice ra j rcap)∧(W.cell? ⟨w.heap.size,0,none⟩=some (.int .i64 fk)∧W.cell? ⟨w.heap.size,1,none⟩=some (.int .i64 fc)∧W.cell? ⟨w.heap.size,2,none⟩=some (.slice ta ft tcap)∧W.cell? ⟨w.heap.size,3,none⟩=some (.slice ka fl kcap))):=fun W hb=>by
        obtain⟨t1,t2,t3,t4⟩:=HCE.out W (BP.out.trans (hb.mono BP.out.size))
        exact⟨t1,t3,t4,t2⟩
       have HOW:=Lib.hid (fun W (hb:Below wp.heap.size wp W)=>HOP.out.below hb HOP.out.lt)
       have HC1:=Lib.hid (fun W (hb:Below wp.heap.size wp W)=>HCK.out HEE.out W _ la5 lcap5 ra5 rcap5 (HWP.out.trans (hb.mono HWP.out.size)) ((HFP.out.below hb).mono hb.size) (HLP.out.below hb hb.size) ((HRP.out.below hb).mono hb.size))
       have HSM:=Lib.hid (fun W (hb:Below wp.heap.size wp W)=>HSA.out _ W (HWP.out.trans (hb.mono HWP.out.size)) ((HFP.out.below hb).mono hb.size))
       clear hn hrt5 HST HM2 HGP HB4P BP HFP HF4 HO HRR HLC HLN HSE HCE HCK HSA B1 B2 B3 B4 B5 B6 HG5 HA5 HTS HKN
       obtain⟨_,o0,o1,o2,o3,_⟩:=HOW.out _ (Below.refl _ _)
       obtain⟨m0,m1⟩:=HMP.out _ (Below.refl _ _)
       obtain⟨_,d0,d1,_⟩:=HCP.out _ (Below.refl _ _)
       go_wp2_with fail
       clear o0 o1 o2 o3 m0 m1 d0 d1
       refine(HC1.out _ (Below.refl _ _)).mono ?_
       rintro e w7 ⟨er,x,at',rfl,hc,her,hb7⟩
       have B7:=Lib.hid hb7
       have HC:=Lib.hid hc
       have HER:=Lib.hid her
       clear hc her hb7
       obtain⟨_,o0,o1,o2,o3,_⟩:=HOW.out _ B7.out
       obtain⟨m0,m1⟩:=HMP.out _ B7.out
       go_wp2_with fail
       clear o0 o1 o2 o3 m0 m1
       refine(HC1.out _ B7.out).mono ?_
       rintro e w8 ⟨er2,x2,at2,rfl,hc,her,hb8⟩
       obtain⟨rfl,rfl⟩:=HC.out.unique hc
       have B8:=Lib.hid (B7.out.trans (hb8.mono B7.out.size))
       have HEB:Hid ((er= .nilIface∧er2= .nilIface)∨∃t v t2 v2,er= .iface t v∧er2= .iface t2 v2):=cert_both HC.out HER.out her
       clear hc her hb8 HER HC B7 HC1
       have HBW:Hid (∀W,Below w8.heap.size w8 W→Below wp.heap.size wp W):=fun W hb=>B8.out.trans (hb.mono B8.out.size)
       obtain⟨_,d0,d1,_⟩:=HCP.out _ B8.out
       go_wp2_with fail
       clear d0 d1
       go_loopw [13] (fun i wr=>∃q:Nat,q≤k∧i= .int .i64 q∧Hid (Below w8.heap.size w8 wr)) (fun i _=>k - (intOf i).toNat)
       case atStart=>exact⟨0,Nat.zero_le _,rfl,Below.refl _ _⟩
       case round=>
        obtain⟨q,hq,rfl,hb9⟩:=hrel
        obtain⟨wq,rfl⟩:∃wq:World,wq=wr:=⟨_,rfl⟩
        obtain⟨_,d0,d1,_⟩:=HCP.out _ (HBW.out _ hb9.out)
        by_cases hqk:q<k
        ·obtain⟨b1,off1,t1,t1c,s1,s1c,rfl,hb1l,x1,_,_,hn1,_⟩:=HLP.out q (by rw[HELN.out];exact hqk)
         obtain⟨b2,off2,t2,t2c,s2,s2c,rfl,hb2l,x2,_,⟨hlen,_⟩,hn2,_⟩:=HLG.out q (by rw[HELN.out];exact hqk)
         have HX:Hid (∀W,Below wp.heap.size wp W→W.cell? ⟨b1,off1+q*2,none⟩=some (.slice t1 (lms.getD q ([],[])).1.length t1c)∧W.cell? ⟨b2,off2+q*2,none⟩=some (.slice t2 (lms.getD q ([],[])).1.length t2c)):=fun W hW=>⟨(hW.cell (p:=⟨b1,off1+q*2,none⟩) hb1l).trans x1,(hW.cell (p:=⟨b2,off2+q*2,none⟩) hb2l).trans x2⟩
         have HN1:=Lib.hid (nums_of_sits hn1)
         have HN2:=Lib.hid (nums_of_sits hn2)
         have hqki:(q:Int)<(k:Int):=by omega
         clear x1 x2 hn1 hn2
         generalize (lms.getD q ([],[])).1=c at HX HN1 HN2 hlen
         go_wp2_with fail
         clear d0 d1
         go_loopw [14] (fun i wr=>∃r:Nat,r≤c.length∧i= .int .i64 r∧Hid (Below w8.heap.size w8 wr)) (fun i _=>c.length - (intOf i).toNat)
         case atStart=>exact⟨0,Nat.zero_le _,rfl,hb9⟩
         case round=>
          obtain⟨r,hr,rfl,hb10⟩:=hrel
          obtain⟨_,d0,d1,_⟩:=HCP.out _ (HBW.out _ hb10.out)
          obtain⟨m0,m1⟩:=HMP.out _ (HBW.out _ hb10.out)
          obtain⟨x1,x2⟩:=HX.out _ (HBW.out _ hb10.out)
          by_cases hrc:r<c.length
          ·obtain⟨b8,off8,rfl,h8l,q3⟩:=HN1.out r hrc
           obtain⟨b9,off9,rfl,h9l,q4⟩:=HN2.out r hrc
           have q3:=((HBW.out _ hb10.out).cell (p:=⟨b8,off8+r,none⟩) h8l).trans q3
           have q4:=((HBW.out _ hb10.out).cell (p:=⟨b9,off9+r,none⟩) h9l).trans q4
           generalize c.getD r 0=y at q3 q4
           have hyy:(y != y)=false:=by simp
           have hrci:(r:Int)<(c.length:Int):=by omega
           go_wp2_with fail
           go_quiet (fail)
           go_wp2_with fail
           go_roundw
           case rel=>exact⟨r+1,by omega,by go_num,below_dn hb10.out _⟩
           case measure=>simp[intOf];omega
          ·obtain rfl:r=c.length:=by omega
           go_wp2_with fail
           go_roundw
           case rel=>exact⟨q+1,by omega,by go_num,hb10⟩
           case measure=>simp[intOf];omega
        ·obtain rfl:q=k:=by omega
         go_wp2_with fail
         clear d0 d1
         go_loopw [15] (fun i wr=>∃q:Nat,q≤j∧i= .int .i64 q∧Hid (Below w8.heap.size w8 wr)) (fun i _=>j - (intOf i).toNat)
         case atStart=>exact⟨0,Nat.zero_le _,rfl,hb9⟩
         case round=>
          obtain⟨r,hr,rfl,hb10⟩:=hrel
          obtain⟨wq,rfl⟩:∃wq:World,wq=wr:=⟨_,rfl⟩
          obtain⟨_,d0,d1,_⟩:=HCP.out _ (HBW.out _ hb10.out)
          by_cases hrj:r<j
          ·obtain⟨b1,off1,t1,t1c,rfl,hb1l,x1,hn1⟩:=HRP.out r (by rw[HERN.out];exact hrj)
           obtain⟨b2,off2,t2,t2c,rfl,hb2l,x2,hn2⟩:=HRG.out r (by rw[HERN.out];exact hrj)
           have hlen:(ss.getD r []).length≤60:=HEE.out.k2 r (by rw[HERN.out];exact hrj)
           have HX:Hid (∀W,Below wp.heap.size wp W→W.cell? ⟨b1,off1+r,none⟩=some (.slice t1 (ss.getD r []).length t1c)∧W.cell? ⟨b2,off2+r,none⟩=some (.slice t2 (ss.getD r []).length t2c)):=fun W hW=>⟨(hW.cell (p:=⟨b1,off1+r,none⟩) hb1l).trans x1,(hW.cell (p:=⟨b2,off2+r,none⟩) hb2l).trans x2⟩
           have HN1:=Lib.hid hn1
           have HN2:=Lib.hid hn2
           have hrji:(r:Int)<(j:Int):=by omega
           clear x1 x2 hn1 hn2
           generalize ss.getD r []=c at HX HN1 HN2 hlen
           go_wp2_with fail
           clear d0 d1
           go_loopw [16] (fun i wr=>∃p:Nat,p≤c.length∧i= .int .i64 p∧Hid (Below w8.heap.size w8 wr)) (fun i _=>c.length - (intOf i).toNat)
           case atStart=>exact⟨0,Nat.zero_le _,rfl,hb10⟩
           case round=>
            obtain⟨p,hp,rfl,hb11⟩:=hrel
            obtain⟨_,d0,d1,_⟩:=HCP.out _ (HBW.out _ hb11.out)
            obtain⟨m0,m1⟩:=HMP.out _ (HBW.out _ hb11.out)
            obtain⟨x1,x2⟩:=HX.out _ (HBW.out _ hb11.out)
            by_cases hpc:p<c.length
            ·obtain⟨b8,off8,rfl,h8l,q3⟩:=HN1.out p hpc
             obtain⟨b9,off9,rfl,h9l,q4⟩:=HN2.out p hpc
             have q3:=((HBW.out _ hb11.out).cell (p:=⟨b8,off8+p,none⟩) h8l).trans q3
             have q4:=((HBW.out _ hb11.out).cell (p:=⟨b9,off9+p,none⟩) h9l).trans q4
             generalize c.getD p 0=y at q3 q4
             have hyy:(y != y)=false:=by simp
             have hpci:(p:Int)<(c.length:Int):=by omega
             go_wp2_with fail
             go_quiet (fail)
             go_wp2_with fail
             go_roundw
             case rel=>exact⟨p+1,by omega,by go_num,below_dn hb11.out _⟩
             case measure=>simp[intOf];omega
            ·obtain rfl:p=c.length:=by omega
             go_wp2_with fail
             go_roundw
             case rel=>exact⟨r+1,by omega,by go_num,hb11⟩
             case measure=>simp[intOf];omega
          ·obtain rfl:r=j:=by omega
           have BE:=Lib.hid (HBW.out _ hb10.out)
           have HBE:=Lib.hid (HCP.out _ BE.out).1
           obtain⟨_,o0,o1,o2,o3,_⟩:=HOW.out _ BE.out
           obtain⟨_,_,_,p0,p1,p2,p3⟩:=HCP.out _ BE.out
           have HSX:=Lib.hid (fun W (hb:Below wq.heap.size wq W)=>HSM.out W (BE.out.trans (hb.mono BE.out.size)))
           go_wp2_with fail
           clear d0 d1
           have cS:=fun p os=>Calls.regrown_of (HSX.out _ (regrown_trans (Below.refl wq.heap.size wq) (Nat.le_refl _) p os))
           have q0:=fun d os=>cell_regrown o0 d os
           have q1:=fun d os=>cell_regrown o1 d os
           have q2:=fun d os=>cell_regrown o2 d os
           have q3:=fun d os=>cell_regrown o3 d os
           have q4:=fun d os=>cell_regrown p0 d os
           have q5:=fun d os=>cell_regrown p1 d os
           have q6:=fun d os=>cell_regrown p2 d os
           have q7:=fun d os=>cell_regrown p3 d os
           have e3:∀(z:Bool) (W:World),(binOp .eql 4 (.bool z) (.bool z)).run Tryz.prog W= .ok (.bool true) W:=fun z W=>by simp[go_sem]
           have e4:∀(t:TypeId) (v:Value) (W:World),(binOp .eql 26 (.iface t v) .nilIface).run Tryz.prog W= .ok (.bool false) W:=fun t v W=>by simp[go_sem]
           have e5:=fun W=>Tryz.eqNil W
           clear o0 o1 o2 o3 p0 p1 p2 p3 HSX HSM
           rcases HEB.out with ⟨rfl,rfl⟩ | ⟨t,v,t2,v2,rfl,rfl⟩
           all_goals
            refine wp_region_quiet_below (by kernel_rfl) (by kernel_rfl) ?_
            repeat (go_big_quiet_step (with_reducible exact cS _ _))
            refine wpQuiet_nil ?_
            intro w14 hw'
            obtain⟨⟨dq,osq⟩,hw''⟩:=hw'
            have HE:=Lib.hid (show Below w.heap.size w w14 by rw[hw''];exact HBE.out.trans ((below_regrown wq dq osq).mono HBE.out.size))
            clear hw'' q1 q2 q3 q4 q5 q6 q7 q0 cS
            go_wp2_with fail
            go_ret
            exact⟨rfl,HE.out⟩
end
end Go.Proofs.YtipahfcaplbifaaGreatDoor
