/- Parts of a proof. -/
import Derived.Test.YtfinhpfjokpcfaaGreatDoorQ03
set_option linter.unusedVariables false
set_option linter.unusedSimpArgs false
set_option maxHeartbeats 60000000
set_option maxRecDepth 100000
namespace Go.Proofs.YtfinhpfjokpcfaaGreatDoor
section
open Go.RowKit
def JoinEnd (xs:List HC)(w:World)(e:Ending)(w':World):Prop:=∃v zs,e= .returned v∧SortIs xs zs∧SRow w.heap.size (joinTo zs zs.length) v w'∧Below w.heap.size w w'
theorem regrown_trans {w:World}{B:Nat}{W:World}(h:Below B w W)(hB:B≤W.heap.size)(d:Nat)(os:Array Obj):Below B w (Go.Sort.grow (redrawn W d) os):=h.trans ((below_regrown W d os).mono hB)
theorem wfacts (m:Nat)(h:m≤200):IntKind.i64.wrap (((m+1:Nat):Int) - 1)=(m:Int)∧IntKind.i64.wrap ((m:Int)+1 - 1)=(m:Int)∧IntKind.i64.wrap (m:Int)=(m:Int)∧wrap64 (m:Int)=(m:Int)∧((m+1:Nat):Int) > 0∧(0:Int)<(m:Int)+1∧m<m+1∧(m:Int)<(m:Int)+1:=by
 have e1:((m+1:Nat):Int) - 1=(m:Int):=by omega
 have e2:(m:Int)+1 - 1=(m:Int):=by omega
 have e3:IntKind.i64.wrap (m:Int)=(m:Int):=IntWalk.i64_in _ (by omega)
 refine⟨by rw[e1];exact e3,by rw[e2];exact e3,e3,by unfold wrap64;omega,by omega,by omega,by omega,by omega⟩
theorem wsum (y x:Int)(k:Nat)(h1: -((k:Int)*1099511627776)≤y∧y≤(k:Int)*1099511627776)(h2: -1099511627776≤x∧x≤1099511627776)(hk:k≤200):IntKind.i64.wrap (y+x)=y+x:=IntWalk.i64_in _ (by omega)
theorem join_any (xs ys:List HC)(hs:SortSaid (xs ++ ys))(ad:Option Addr)(n cap:Nat)(ad2:Option Addr)(n2 cap2:Nat)(w:World)(hn:xs.length=n)(hn2:ys.length=n2)(hnm:n≤100)(hnm2:n2≤100)(hbd:BoundV (xs ++ ys) 1099511627776)(hl:HLies w.heap.size w ad xs)(hl2:HLies w.heap.size w ad2 ys):
 Calls Tryz.prog 29 #[.slice ad n cap,.slice ad2 n2 cap2] w (JoinEnd (xs ++ ys) w):=by
 have B0:Below w.heap.size w (w.alloc (.cells #[.slice ad n cap,.slice ad2 n2 cap2] 52)):=(Below.refl _ w).alloc (Nat.le_refl _) _
 have hnew:=heap_alloc_new w (.cells #[.slice ad n cap,.slice ad2 n2 cap2] 52)
 have HCO:=Lib.hid (concat2Share_any w.heap.size ad n cap xs ad2 n2 cap2 ys (w.alloc (.cells #[.slice ad n cap,.slice ad2 n2 cap2] 52)) hn (by omega) (hl.up B0) ((cell_of_row _ _ _ _ _ _ hnew).trans rfl) hn2 (by omega) (hl2.up B0) ((cell_of_row _ _ _ _ _ _ hnew).trans rfl) (by simp))
 have HB0:=Lib.hid B0
 have HLN:Hid ((xs ++ ys).length=n+n2):=by show _=_;rw[List.length_append,hn,hn2]
 have HS:=Lib.hid hs
 have HBD:=Lib.hid hbd
 clear hl hl2 hn hn2 hs hbd B0 hnew
 generalize xs ++ ys=al at HCO HLN HS HBD
 go_enter Tryz.func29,Tryz.ntmps29
 go_wp2_with fail
 refine HCO.out.mono ?_
 rintro e w1 ⟨v,rfl,ho,hb1⟩
 have B1:=Lib.hid (HB0.out.trans (hb1.mono HB0.out.size))
 have HSO:Hid (SRow w.heap.size al v w1):=by
  show SRow _ _ _ _
  unfold SRow
  rw[HLN.out]
  exact ownsRow_lower ho HB0.out.size
 have HSC:=Lib.hid (HS.out w1 w.heap.size v HSO.out B1.out.size)
 clear ho hb1 HCO HS HSO
 go_wp2_with fail
 refine HSC.out.mono ?_
 rintro e w2 ⟨rfl,zs,hsi,hrow2,hb2⟩
 have B2:=Lib.hid (B1.out.trans hb2)
 have HSI:=Lib.hid hsi
 have hzl:zs.length=n+n2:=by rw[←hsi.perm.length_eq,HLN.out]
 have HBZ:Hid (BoundV zs 1099511627776):=fun c hc=>HBD.out c (hsi.perm.mem_iff.2 hc)
 obtain⟨za,zcap,rfl,hz2,hz3,hz4,_⟩:=own_hlies rfl hrow2
 have HZ:=Lib.hid hz4
 clear hsi hrow2 hb2 hz4 HSC HBD
 have hz200:zs.length≤200:=by omega
 clear hzl
 go_wp2_with fail
 go_loopw [6,18] (fun l i wr=>∃k:Nat,i= .int .i64 k∧k≤zs.length∧Hid (SRow w2.heap.size (joinTo zs k) l wr)∧Hid (Below w2.heap.size w2 wr)) (fun _ i _=>zs.length - (intOf i).toNat)
 case atStart=>exact⟨0,rfl,Nat.zero_le _,SRow.nil _ _,Below.refl _ _⟩
 case round=>
  obtain⟨k,rfl,hk,hrow,hb⟩:=hrel
  by_cases hlt:k<zs.length
  ·have hlti:(k:Int)<(zs.length:Int):=by omega
   obtain⟨b3,off3,rfl,hb3,c1,c2,c3⟩:=HZ.out k hlt
   have c1:=(hb.out.cell (p:=⟨b3,_,none⟩) hb3).trans c1
   have c2:=(hb.out.cell (p:=⟨b3,_,none⟩) hb3).trans c2
   have c3:=(hb.out.cell (p:=⟨b3,_,none⟩) hb3).trans c3
   have HJT:Hid (joinTo zs (k+1)=addLast (joinTo zs k) (zs.getD k hc0)):=rfl
   have HJL:=Lib.hid (joinTo_len zs k)
   have HJB:=Lib.hid (joinTo_bound HBZ.out (by decide) k hk)
   have HXB:=Lib.hid (HBZ.out _ (getD_memH (l:=zs) hlt))
   generalize joinTo zs k=ls at HJT HJL HJB hrow
   generalize zs.getD k hc0=x at c1 c2 c3 HJT HXB
   obtain⟨xa,xf,xv⟩:=x
   simp only at c1 c2 c3 HXB
   have HA:Hid (Below wr.heap.size wr (wr.alloc (.cells #[.int .i64 xa,.string xf,.int .i64 xv] 62))):=(Below.refl _ wr).alloc (Nat.le_refl _) _
   have HBA:Hid (Below w2.heap.size w2 (wr.alloc (.cells #[.int .i64 xa,.string xf,.int .i64 xv] 62))):=hb.out.trans (HA.out.mono hb.out.size)
   have HRA:=Lib.hid (hrow.out.below HA.out)
   rcases(show ls=[]∨∃m,ls.length=m+1 from by cases ls with | nil=>exact .inl rfl | cons _ t=>exact .inr ⟨t.length,rfl⟩)with rfl | ⟨m,hm⟩
   ·obtain⟨lad,lcap,rfl,_,_,_,_⟩:=own_hlies (n:=0) rfl hrow.out
    go_wp2_with fail
    refine wp_region_quiet_below (by kernel_rfl) (by kernel_rfl) ?_
    repeat (go_big_quiet_step (fail))
    refine wpQuiet_nil ?_
    intro _ hw'
    obtain⟨pq,hw''⟩:=hw'
    subst hw''
    have HBW:Hid (Below w2.heap.size w2 (Go.Sort.grow (redrawn (wr.alloc (.cells #[.int .i64 xa,.string xf,.int .i64 xv] 62)) pq.d) pq.os)):=regrown_trans HBA.out HBA.out.size _ _
    have HRW:Hid (SRow w2.heap.size [] (.slice lad 0 lcap) (Go.Sort.grow (redrawn (wr.alloc (.cells #[.int .i64 xa,.string xf,.int .i64 xv] 62)) pq.d) pq.os)):=HRA.out.below (below_regrown _ _ _)
    have hnn:=heap_alloc_new wr (.cells #[.int .i64 xa,.string xf,.int .i64 xv] 62)
    have t1:(Go.Sort.grow (redrawn (wr.alloc (.cells #[.int .i64 xa,.string xf,.int .i64 xv] 62)) pq.d) pq.os).cell? ⟨wr.heap.size,0,none⟩=some (.int .i64 xa):=cell_regrown ((cell_of_row _ _ _ _ _ _ hnn).trans rfl) _ _
    have t2:(Go.Sort.grow (redrawn (wr.alloc (.cells #[.int .i64 xa,.string xf,.int .i64 xv] 62)) pq.d) pq.os).cell? ⟨wr.heap.size,1,none⟩=some (.string xf):=cell_regrown ((cell_of_row _ _ _ _ _ _ hnn).trans rfl) _ _
    have t3:(Go.Sort.grow (redrawn (wr.alloc (.cells #[.int .i64 xa,.string xf,.int .i64 xv] 62)) pq.d) pq.os).cell? ⟨wr.heap.size,2,none⟩=some (.int .i64 xv):=cell_regrown ((cell_of_row _ _ _ _ _ _ hnn).trans rfl) _ _
    clear hnn
    generalize Go.Sort.grow (redrawn (wr.alloc (.cells #[.int .i64 xa,.string xf,.int .i64 xv] 62)) pq.d) pq.os=W0 at HBW HRW t1 t2 t3⊢
    obtain⟨v6,w6,hr6,hrow6,hb6⟩:=run_append_share (w:=W0) 52 w2.heap.size [] (.slice lad 0 lcap) ⟨xa,xf,xv⟩ HRW.out HBW.out.size (by have:=HJL.out;simp only[List.length_nil]at this⊢;omega)
    have hr6:∀ty,(Builtin.append_ #[52,52] ty #[(.slice lad 0 lcap),.slice (some ⟨W0.heap.size,0,none⟩) 1 1]).run Tryz.prog (W0.alloc (.cells #[.int .i64 xa,.string xf,.int .i64 xv] 62))= .ok v6 w6:=fun ty=>hr6
    have HR6:Hid (SRow w2.heap.size (joinTo zs (k+1)) v6 w6):=by
     show SRow _ _ _ _
     rw[HJT.out,addLast,if_neg (fun h=>absurd h.1 (by simp))]
     exact hrow6
    have HB6:=Lib.hid (HBW.out.trans hb6)
    clear hrow6 hb6 HRW HRA HBA HA HBW hrow hb
    go_wp2_with (at_builtin;refine Lib.wpList_append_run _ rfl _ _ _ _ rfl _ _ rfl rfl _ _ (hr6 _) ?_)
    go_roundw
    case rel=>exact⟨k+1,by go_num,by omega,HR6,HB6⟩
    case measure=>simp[intOf];omega
   ·obtain⟨g,lcap,rfl,_,hgB,hgl,hll⟩:=hrow.out.form (by omega)
    obtain⟨b4,off4,e4,hb4,d1,d2,d3⟩:=(hll.up HA.out) m (by omega)
    obtain⟨rfl,rfl⟩:g=b4∧0=off4:=by injection e4 with e;injection e with e1 e2 e3;exact⟨e1,e2⟩
    have HML:Hid (ls.length - 1=m∧ls.length≤200):=⟨by omega,by have:=HJL.out;omega⟩
    have HLB:=Lib.hid (HJB.out _ (getD_memH (l:=ls) (i:=m) (by omega)))
    have HST:=Lib.hid (fun W u (h:SRow w2.heap.size ls (.slice (some ⟨g,0,none⟩) (m+1) lcap) W)=>h.stored hm u)
    have HAD:Hid (addLast ls ⟨xa,xf,xv⟩=if hkey (ls.getD m hc0)=hkey ⟨xa,xf,xv⟩ then ls.take m ++ [⟨(ls.getD m hc0).a,(ls.getD m hc0).f,(ls.getD m hc0).v+xv⟩] else ls ++ [⟨xa,xf,xv⟩]):=by
     show _=_
     unfold addLast
     rw[hm,Nat.add_sub_cancel]
     by_cases h:hkey (ls.getD m hc0)=hkey ⟨xa,xf,xv⟩
     ·rw[if_pos ⟨by omega,h⟩,if_pos h]
     ·rw[if_neg (fun h'=>h h'.2),if_neg h]
    rw[hm]at hrow HRA⊢
    clear e4 hll
    simp only[Nat.zero_add]at d1 d2 d3
    have hfz:∀(W:World),SRow w2.heap.size ls (.slice (some ⟨g,0,none⟩) (m+1) lcap) W→W.frozen? ⟨g,m*3+2,none⟩=false:=fun W h=>World.ownsRow.frozenAt (n:=m+1) (xs:=hcells ls) (by unfold SRow at h;rw[hm]at h;exact h) _
    generalize ls.getD m hc0=y at d1 d2 d3 HLB HST HAD
    obtain⟨ya,yf,yv⟩:=y
    simp only at d1 d2 d3 HLB HST HAD
    obtain⟨hwm,hwm2,hwm3,hw64,hm0,hm1,hmn,hmni⟩:=wfacts m (by have:=HML.out;exact Nat.le_trans (by rw[←this.1];exact Nat.sub_le _ _) this.2)
    have hwv:=wsum yv xv k HLB.out HXB.out (Nat.le_trans hk hz200)
    have hnn:=heap_alloc_new wr (.cells #[.int .i64 xa,.string xf,.int .i64 xv] 62)
    have r1:=fun d os=>cell_regrown d1 d os
    have r2:=fun d os=>cell_regrown d2 d os
    have r3:∀d os,(Go.Sort.grow (redrawn (wr.alloc (.cells #[.int .i64 xa,.string xf,.int .i64 xv] 62)) d) os).cell? ⟨wr.heap.size,0,none⟩=some (.int .i64 xa):=fun d os=>cell_regrown ((cell_of_row _ _ _ _ _ _ hnn).trans rfl) d os
    have r4:∀d os,(Go.Sort.grow (redrawn (wr.alloc (.cells #[.int .i64 xa,.string xf,.int .i64 xv] 62)) d) os).cell? ⟨wr.heap.size,1,none⟩=some (.string xf):=fun d os=>cell_regrown ((cell_of_row _ _ _ _ _ _ hnn).trans rfl) d os
    clear hnn
    by_cases e1:ya=xa
    ·have he1:(ya == xa)=true:=by simp[e1]
     by_cases e2:yf.toList=xf.toList
     ·have he2:(yf.toList == xf.toList)=true:=by simp[e2]
      have HJ2:Hid (joinTo zs (k+1)=ls.take m ++ [⟨ya,yf,yv+xv⟩]):=by
       show _=_
       rw[HJT.out,HAD.out,if_pos (by simp only[hkey,e1,e2])]
      clear HJT HAD e1 e2
      go_wp2_with fail
      refine wp_region_quiet_below (by kernel_rfl) (by kernel_rfl) ?_
      repeat (go_big_quiet_step (fail))
      refine wpQuiet_nil ?_
      intro _ hw'
      obtain⟨pq,hw''⟩:=hw'
      subst hw''
      have HBW:Hid (Below w2.heap.size w2 (Go.Sort.grow (redrawn (wr.alloc (.cells #[.int .i64 xa,.string xf,.int .i64 xv] 62)) pq.d) pq.os)):=regrown_trans HBA.out HBA.out.size _ _
      have HRW:Hid (SRow w2.heap.size ls (.slice (some ⟨g,0,none⟩) (m+1) lcap) (Go.Sort.grow (redrawn (wr.alloc (.cells #[.int .i64 xa,.string xf,.int .i64 xv] 62)) pq.d) pq.os)):=HRA.out.below (below_regrown _ _ _)
      have hnn:=heap_alloc_new wr (.cells #[.int .i64 xa,.string xf,.int .i64 xv] 62)
      have t3:(Go.Sort.grow (redrawn (wr.alloc (.cells #[.int .i64 xa,.string xf,.int .i64 xv] 62)) pq.d) pq.os).cell? ⟨wr.heap.size,2,none⟩=some (.int .i64 xv):=cell_regrown ((cell_of_row _ _ _ _ _ _ hnn).trans rfl) _ _
      have d3':(Go.Sort.grow (redrawn (wr.alloc (.cells #[.int .i64 xa,.string xf,.int .i64 xv] 62)) pq.d) pq.os).cell? ⟨g,m*3+2,none⟩=some (.int .i64 yv):=cell_regrown d3 _ _
      have f3:=hfz _ HRW.out
      clear hnn d1 d2 d3
      generalize Go.Sort.grow (redrawn (wr.alloc (.cells #[.int .i64 xa,.string xf,.int .i64 xv] 62)) pq.d) pq.os=W0 at HBW HRW t3 d3' f3⊢
      have HE:Hid (SRow w2.heap.size (joinTo zs (k+1)) (.slice (some ⟨g,0,none⟩) (m+1) lcap) (W0.setCell ⟨g,m*3+2,none⟩ (.int .i64 (yv+xv))).drew):=by
       show SRow _ _ _ _
       rw[HJ2.out]
       exact(HST.out W0 _ HRW.out).below (Below.refl _ _).drew
      have HBE:Hid (Below w2.heap.size w2 (W0.setCell ⟨g,m*3+2,none⟩ (.int .i64 (yv+xv))).drew):=(HBW.out.setCell (p:=⟨g,m*3+2,none⟩) hgB _).drew
      clear HJ2 HST HRW HBW hrow hb HRA HBA HA
      go_wp2_with fail
      go_region
      all_goals
       clear hwm hwm2 hwm3 hw64 hm0 hm1 hmn hmni hwv r1 r2 r3 r4 hfz HLB HXB HJB
       go_wp2_with fail
       go_roundw
       case rel=>exact⟨k+1,by go_num,by omega,HE,HBE⟩
       case measure=>simp[intOf];omega
     ·have he2:(yf.toList == xf.toList)=false:=by simp[e2]
      go_wp2_with fail
      refine wp_region_quiet_below (by kernel_rfl) (by kernel_rfl) ?_
      repeat (go_big_quiet_step (fail))
      refine wpQuiet_nil ?_
      intro _ hw'
      obtain⟨pq,hw''⟩:=hw'
      subst hw''
      clear hwm hwm2 hwm3 hw64 hm0 hm1 hmn hmni hwv d1 d2 d3 r1 r2 r3 r4 HST hfz HLB HXB HJB
      have HBW:Hid (Below w2.heap.size w2 (Go.Sort.grow (redrawn (wr.alloc (.cells #[.int .i64 xa,.string xf,.int .i64 xv] 62)) pq.d) pq.os)):=regrown_trans HBA.out HBA.out.size _ _
      have HRW:Hid (SRow w2.heap.size ls (.slice (some ⟨g,0,none⟩) (m+1) lcap) (Go.Sort.grow (redrawn (wr.alloc (.cells #[.int .i64 xa,.string xf,.int .i64 xv] 62)) pq.d) pq.os)):=HRA.out.below (below_regrown _ _ _)
      have hnn:=heap_alloc_new wr (.cells #[.int .i64 xa,.string xf,.int .i64 xv] 62)
      have t1:(Go.Sort.grow (redrawn (wr.alloc (.cells #[.int .i64 xa,.string xf,.int .i64 xv] 62)) pq.d) pq.os).cell? ⟨wr.heap.size,0,none⟩=some (.int .i64 xa):=cell_regrown ((cell_of_row _ _ _ _ _ _ hnn).trans rfl) _ _
      have t2:(Go.Sort.grow (redrawn (wr.alloc (.cells #[.int .i64 xa,.string xf,.int .i64 xv] 62)) pq.d) pq.os).cell? ⟨wr.heap.size,1,none⟩=some (.string xf):=cell_regrown ((cell_of_row _ _ _ _ _ _ hnn).trans rfl) _ _
      have t3:(Go.Sort.grow (redrawn (wr.alloc (.cells #[.int .i64 xa,.string xf,.int .i64 xv] 62)) pq.d) pq.os).cell? ⟨wr.heap.size,2,none⟩=some (.int .i64 xv):=cell_regrown ((cell_of_row _ _ _ _ _ _ hnn).trans rfl) _ _
      clear hnn
      generalize Go.Sort.grow (redrawn (wr.alloc (.cells #[.int .i64 xa,.string xf,.int .i64 xv] 62)) pq.d) pq.os=W0 at HBW HRW t1 t2 t3⊢
      obtain⟨v6,w6,hr6,hrow6,hb6⟩:=run_append_share (w:=W0) 52 w2.heap.size ls (.slice (some ⟨g,0,none⟩) (m+1) lcap) ⟨xa,xf,xv⟩ HRW.out HBW.out.size (by have:=HJL.out;simp at this⊢;omega)
      have hr6:∀ty,(Builtin.append_ #[52,52] ty #[(.slice (some ⟨g,0,none⟩) (m+1) lcap),.slice (some ⟨W0.heap.size,0,none⟩) 1 1]).run Tryz.prog (W0.alloc (.cells #[.int .i64 xa,.string xf,.int .i64 xv] 62))= .ok v6 w6:=fun ty=>hr6
      have HR6:Hid (SRow w2.heap.size (joinTo zs (k+1)) v6 w6):=by
       show SRow _ _ _ _
       rw[HJT.out,HAD.out,if_neg (show ¬(hkey ⟨ya,yf,yv⟩=hkey ⟨xa,xf,xv⟩) from fun h=>e2 (Prod.mk.inj h).2)]
       exact hrow6
      have HB6:=Lib.hid (HBW.out.trans hb6)
      clear hrow6 hb6 HRW HRA HBA HA HBW hrow hb
      go_wp2_with (at_builtin;refine Lib.wpList_append_run _ rfl _ _ _ _ rfl _ _ rfl rfl _ _ (hr6 _) ?_)
      go_roundw
      case rel=>exact⟨k+1,by go_num,by omega,HR6,HB6⟩
      case measure=>simp[intOf];omega
    ·have he1:(ya == xa)=false:=by simp[e1]
     go_wp2_with fail
     refine wp_region_quiet_below (by kernel_rfl) (by kernel_rfl) ?_
     repeat (go_big_quiet_step (fail))
     refine wpQuiet_nil ?_
     intro _ hw'
     obtain⟨pq,hw''⟩:=hw'
     subst hw''
     clear hwm hwm2 hwm3 hw64 hm0 hm1 hmn hmni hwv d1 d2 d3 r1 r2 r3 r4 HST hfz HLB HXB HJB
     have HBW:Hid (Below w2.heap.size w2 (Go.Sort.grow (redrawn (wr.alloc (.cells #[.int .i64 xa,.string xf,.int .i64 xv] 62)) pq.d) pq.os)):=regrown_trans HBA.out HBA.out.size _ _
     have HRW:Hid (SRow w2.heap.size ls (.slice (some ⟨g,0,none⟩) (m+1) lcap) (Go.Sort.grow (redrawn (wr.alloc (.cells #[.int .i64 xa,.string xf,.int .i64 xv] 62)) pq.d) pq.os)):=HRA.out.below (below_regrown _ _ _)
     have hnn:=heap_alloc_new wr (.cells #[.int .i64 xa,.string xf,.int .i64 xv] 62)
     have t1:(Go.Sort.grow (redrawn (wr.alloc (.cells #[.int .i64 xa,.string xf,.int .i64 xv] 62)) pq.d) pq.os).cell? ⟨wr.heap.size,0,none⟩=some (.int .i64 xa):=cell_regrown ((cell_of_row _ _ _ _ _ _ hnn).trans rfl) _ _
     have t2:(Go.Sort.grow (redrawn (wr.alloc (.cells #[.int .i64 xa,.string xf,.int .i64 xv] 62)) pq.d) pq.os).cell? ⟨wr.heap.size,1,none⟩=some (.string xf):=cell_regrown ((cell_of_row _ _ _ _ _ _ hnn).trans rfl) _ _
     have t3:(Go.Sort.grow (redrawn (wr.alloc (.cells #[.int .i64 xa,.string xf,.int .i64 xv] 62)) pq.d) pq.os).cell? ⟨wr.heap.size,2,none⟩=some (.int .i64 xv):=cell_regrown ((cell_of_row _ _ _ _ _ _ hnn).trans rfl) _ _
     clear hnn
     generalize Go.Sort.grow (redrawn (wr.alloc (.cells #[.int .i64 xa,.string xf,.int .i64 xv] 62)) pq.d) pq.os=W0 at HBW HRW t1 t2 t3⊢
     obtain⟨v6,w6,hr6,hrow6,hb6⟩:=run_append_share (w:=W0) 52 w2.heap.size ls (.slice (some ⟨g,0,none⟩) (m+1) lcap) ⟨xa,xf,xv⟩ HRW.out HBW.out.size (by have:=HJL.out;simp at this⊢;omega)
     have hr6:∀ty,(Builtin.append_ #[52,52] ty #[(.slice (some ⟨g,0,none⟩) (m+1) lcap),.slice (some ⟨W0.heap.size,0,none⟩) 1 1]).run Tryz.prog (W0.alloc (.cells #[.int .i64 xa,.string xf,.int .i64 xv] 62))= .ok v6 w6:=fun ty=>hr6
     have HR6:Hid (SRow w2.heap.size (joinTo zs (k+1)) v6 w6):=by
      show SRow _ _ _ _
      rw[HJT.out,HAD.out,if_neg (show ¬(hkey ⟨ya,yf,yv⟩=hkey ⟨xa,xf,xv⟩) from fun h=>e1 (Prod.mk.inj h).1)]
      exact hrow6
     have HB6:=Lib.hid (HBW.out.trans hb6)
     clear hrow6 hb6 HRW HRA HBA HA HBW hrow hb
     go_wp2_with (at_builtin;refine Lib.wpList_append_run _ rfl _ _ _ _ rfl _ _ rfl rfl _ _ (hr6 _) ?_)
     go_roundw
     case rel=>exact⟨k+1,by go_num,by omega,HR6,HB6⟩
     case measure=>simp[intOf];omega
  ·obtain rfl:k=zs.length:=by omega
   have HE:Hid (JoinEnd al w (.returned u6) wr):=⟨_,_,rfl,HSI.out,ownsRow_lower hrow.out B2.out.size,B2.out.trans (hb.out.mono B2.out.size)⟩
   clear hrow hb
   go_wp2_with fail
   go_ret
   exact HE.out
end
section
open Go.RowKit
theorem SRow.lies {B:Nat}{xs:List HC}{v:Value}{w:World}(h:SRow B xs v w):∃a cap,v= .slice a xs.length cap∧xs.length≤cap∧cap≤9223372036854775807∧HLies w.heap.size w a xs:=by
 obtain⟨a,cap,e,h3,h4,h5,_⟩:=own_hlies rfl h
 exact⟨a,cap,e,h3,h4,h5⟩
theorem addD_len (s:HC):∀(d:Bool) (l:List HC),(addD s d l).length≤l.length+1
 | d,[]=>by unfold addD;split<;>simp
 | d,x :: l=>by
   unfold addD
   split
   ·have:=addD_len s true l;simp;omega
   ·split
    ·rename_i h1 h2
     have h3:∀m:List HC,(addD s true m).length=m.length:=fun m=>by
      induction m with
      | nil=>simp[addD]
      | cons y m ih=>
        unfold addD
        split
        ·simp[ih]
        ·rw[if_neg (by simp)];simp[ih]
     simp[h3]
    ·have:=addD_len s d l;simp;omega
theorem addD_bound {s:HC}{b c:Int}(hb:0≤b)(hc:0≤c)(hs: -c≤s.v∧s.v≤c):∀(d:Bool) (l:List HC),BoundV l b→BoundV (addD s d l) (b+c)
 | d,[],_=>by
   unfold addD
   split
   ·intro x hx;cases hx
   ·intro x hx
    rw[List.mem_singleton.1 hx];omega
 | d,x :: l,h=>by
   have hx:=h x List.mem_cons_self
   have hl:BoundV l b:=fun y hy=>h y (List.mem_cons_of_mem _ hy)
   unfold addD
   split
   ·intro y hy
    rcases List.mem_cons.1 hy with rfl | hy
    ·show -(b+c)≤x.v+s.v∧x.v+s.v≤b+c
     omega
    ·exact addD_bound hb hc hs true l hl y hy
   ·split
    ·intro y hy
     rcases List.mem_cons.1 hy with rfl | hy
     ·omega
     ·rcases List.mem_cons.1 hy with rfl | hy
      ·omega
      ·exact addD_bound hb hc hs true l hl y hy
    ·intro y hy
     rcases List.mem_cons.1 hy with rfl | hy
     ·omega
     ·exact addD_bound hb hc hs d l hl y hy
theorem joinD_snoc (zs:List HC)(c:HC):joinD (zs ++ [c])=addD c false (joinD zs):=by
 unfold joinD
 rw[List.foldl_append]
 rfl
theorem fold_len:∀(zs l:List HC),(zs.foldl (fun l s=>addD s false l) l).length≤l.length+zs.length
 | [],l=>by simp
 | z :: zs,l=>by
   have h1:=fold_len zs (addD z false l)
   have h2:=addD_len z false l
   show(zs.foldl _ (addD z false l)).length≤_
   simp only[List.length_cons]
   omega
theorem joinD_len (zs:List HC):(joinD zs).length≤zs.length:=by
 have:=fold_len zs []
 simpa [joinD]using this
theorem fold_bound {c:Int}(hc:0≤c):∀(zs l:List HC) (b:Int),0≤b→BoundV l b→BoundV zs c→BoundV (zs.foldl (fun l s=>addD s false l) l) (b+zs.length*c)
 | [],l,b,hb,hl,_=>by simpa using hl
 | z :: zs,l,b,hb,hl,hz=>by
   have h1:=addD_bound (s:=z) hb hc (hz z List.mem_cons_self) false l hl
   have h2:=fold_bound hc zs (addD z false l) (b+c) (by omega) h1 (fun y hy=>hz y (List.mem_cons_of_mem _ hy))
   have e:b+((z :: zs).length:Int)*c=b+c+(zs.length:Int)*c:=by
    rw[List.length_cons,Int.natCast_add,Int.add_mul];simp;omega
   rw[e]
   exact h2
theorem joinD_bound {zs:List HC}(h:BoundV zs 1099511627776)(hl:zs.length≤200):BoundV (joinD zs) 219902325555200:=fun c hc=>by
 have:=fold_bound (c:=1099511627776) (by omega) zs [] 0 (by omega) (fun x hx=>by cases hx) h c hc
 have h2:((zs.length:Nat):Int)*1099511627776≤200*1099511627776:=by omega
 omega
theorem rjoin_any (xs ys:List HC)(ad:Option Addr)(n cap:Nat)(ad2:Option Addr)(n2 cap2:Nat)(w:World)(hn:xs.length=n)(hn2:ys.length=n2)(hnm:n≤100)(hnm2:n2≤100)(hbd:BoundV (xs ++ ys) 1099511627776)(hl:HLies w.heap.size w ad xs)(hl2:HLies w.heap.size w ad2 ys):
 Calls Tryz.prog 47 #[.slice ad n cap,.slice ad2 n2 cap2] w (SRowEnd (joinD (xs ++ ys)) w):=by
 have HL:=Lib.hid hl
 have HL2:=Lib.hid hl2
 have HN:=Lib.hid hn
 have HN2:=Lib.hid hn2
 have HBD:=Lib.hid hbd
 have HADD:Hid (∀(zs:List HC) (c:HC) (a:Option Addr) (k cap:Nat) (W:World),BoundV zs 1099511627776→zs.length≤200→(-1099511627776≤c.v∧c.v≤1099511627776)→(joinD zs).length=k→HLies W.heap.size W a (joinD zs)→Calls Tryz.prog 65 #[.slice a k cap,.agg #[.int .i64 c.a,.string c.f,.int .i64 c.v]] W (SRowEnd (joinD (zs ++ [c])) W)):=fun zs c a k cap W h1 h2 h3 h4 h5=>by
  have:=joinD_len zs
  rw[joinD_snoc]
  exact add_any (joinD zs) c a k cap W h4 (by omega) h5 (fun x hx=>by
   have:=joinD_bound h1 h2 x hx
   omega)
 clear hl hl2 hn hn2 hbd
 go_enter Tryz.func47,Tryz.ntmps47
 go_wp2_with fail
 go_loopw [5,6] (fun o i wr=>∃k:Nat,i= .int .i64 k∧k≤n∧Hid (SRow w.heap.size (joinD (xs.take k)) o wr)∧Hid (Below w.heap.size w wr)) (fun _ i _=>n - (intOf i).toNat)
 case atStart=>exact⟨0,rfl,Nat.zero_le _,SRow.nil _ _,Below.refl _ _⟩
 case round=>
  obtain⟨k,rfl,hk,hrow,hb⟩:=hrel
  by_cases hlt:k<n
  ·have hlti:(k:Int)<(n:Int):=by omega
   obtain⟨b3,off3,rfl,hb3,c1,c2,c3⟩:=HL.out k (by rw[HN.out];exact hlt)
   have q1:=(hb.out.cell (p:=⟨b3,_,none⟩) hb3).trans c1
   have q2:=(hb.out.cell (p:=⟨b3,_,none⟩) hb3).trans c2
   have q3:=(hb.out.cell (p:=⟨b3,_,none⟩) hb3).trans c3
   obtain⟨oa,ocap,rfl,_,_,hol⟩:=hrow.out.lies
   have HC:Hid (Calls Tryz.prog 65 #[.slice oa (joinD (xs.take k)).length ocap,.agg #[.int .i64 (xs.getD k hc0).a,.string (xs.getD k hc0).f,.int .i64 (xs.getD k hc0).v]] wr (SRowEnd (joinD (xs.take (k+1))) wr)):=by
    have h9:k<xs.length:=by rw[HN.out];exact hlt
    have:=HADD.out (xs.take k) (xs.getD k hc0) oa _ ocap wr (fun c hc=>HBD.out c (List.mem_append_left _ (List.mem_of_mem_take hc))) (by rw[List.length_take];omega) (HBD.out _ (List.mem_append_left _ (getD_memH h9))) rfl hol
    rw[←take_snocH xs k h9]at this
    exact this
   clear c1 c2 c3 hol hrow
   generalize xs.getD k hc0=x at q1 q2 q3 HC
   generalize (joinD (xs.take k)).length=ol at HC⊢
   obtain⟨xa,xf,xv⟩:=x
   simp only at q1 q2 q3
   go_wp2_with fail
   refine HC.out.mono ?_
   rintro e5 w5 ⟨v5,rfl,t1,t2⟩
   have HR5:Hid (SRow w.heap.size (joinD (xs.take (k+1))) v5 w5):=ownsRow_lower t1 hb.out.size
   have HB5:Hid (Below w.heap.size w w5):=hb.out.trans (t2.mono hb.out.size)
   clear t1 t2 HC hb
   go_wp2_with fail
   go_roundw
   case rel=>exact⟨k+1,by go_num,by omega,HR5,HB5⟩
   case measure=>simp[intOf];omega
  ·have hlti:¬(k:Int)<(n:Int):=by omega
   have HR0:Hid (SRow w.heap.size (joinD (xs ++ ys.take 0)) u5 wr):=by
    have:=hrow.out
    rw[List.take_of_length_le (by rw[HN.out];omega)]at this
    show SRow _ _ _ _
    rw[List.take_zero,List.append_nil]
    exact this
   clear hrow
   go_wp2_with fail
   go_loopw [5,7] (fun o i wr=>∃k:Nat,i= .int .i64 k∧k≤n2∧Hid (SRow w.heap.size (joinD (xs ++ ys.take k)) o wr)∧Hid (Below w.heap.size w wr)) (fun _ i _=>n2 - (intOf i).toNat)
   case atStart=>exact⟨0,rfl,Nat.zero_le _,HR0,hb⟩
   case round=>
    clear HR0 hb
    obtain⟨k2,rfl,hk2,hrow,hb⟩:=hrel
    by_cases hlt2:k2<n2
    ·have hlti2:(k2:Int)<(n2:Int):=by omega
     obtain⟨b3,off3,rfl,hb3,c1,c2,c3⟩:=HL2.out k2 (by rw[HN2.out];exact hlt2)
     have q1:=(hb.out.cell (p:=⟨b3,_,none⟩) hb3).trans c1
     have q2:=(hb.out.cell (p:=⟨b3,_,none⟩) hb3).trans c2
     have q3:=(hb.out.cell (p:=⟨b3,_,none⟩) hb3).trans c3
     obtain⟨oa,ocap,rfl,_,_,hol⟩:=hrow.out.lies
     have HC:Hid (Calls Tryz.prog 65 #[.slice oa (joinD (xs ++ ys.take k2)).length ocap,.agg #[.int .i64 (ys.getD k2 hc0).a,.string (ys.getD k2 hc0).f,.int .i64 (ys.getD k2 hc0).v]] wr (SRowEnd (joinD (xs ++ ys.take (k2+1))) wr)):=by
      have h9:k2<ys.length:=by rw[HN2.out];exact hlt2
      have h8:xs.length≤100:=by rw[HN.out];exact hnm
      have:=HADD.out (xs ++ ys.take k2) (ys.getD k2 hc0) oa _ ocap wr (fun c hc=>(List.mem_append.1 hc).elim (fun h=>HBD.out c (List.mem_append_left _ h)) (fun h=>HBD.out c (List.mem_append_right _ (List.mem_of_mem_take h)))) (by rw[List.length_append,List.length_take];omega) (HBD.out _ (List.mem_append_right _ (getD_memH h9))) rfl hol
      rw[List.append_assoc,←take_snocH ys k2 h9]at this
      exact this
     clear c1 c2 c3 hol hrow
     generalize ys.getD k2 hc0=x at q1 q2 q3 HC
     generalize (joinD (xs ++ ys.take k2)).length=ol at HC⊢
     obtain⟨xa,xf,xv⟩:=x
     simp only at q1 q2 q3
     go_wp2_with fail
     refine HC.out.mono ?_
     rintro e5 w5 ⟨v5,rfl,t1,t2⟩
     have HR5:Hid (SRow w.heap.size (joinD (xs ++ ys.take (k2+1))) v5 w5):=ownsRow_lower t1 hb.out.size
     have HB5:Hid (Below w.heap.size w w5):=hb.out.trans (t2.mono hb.out.size)
     clear t1 t2 HC hb
     go_wp2_with fail
     go_roundw
     case rel=>exact⟨k2+1,by go_num,by omega,HR5,HB5⟩
     case measure=>simp[intOf];omega
    ·have hlti2:¬(k2:Int)<(n2:Int):=by omega
     have HE:Hid (SRowEnd (joinD (xs ++ ys)) w (.returned u5) wr):=by
      have:=hrow.out
      rw[List.take_of_length_le (by rw[HN2.out];omega)]at this
      exact⟨_,rfl,this,hb.out⟩
     clear hrow hb
     go_wp2_with fail
     go_ret
     exact HE.out
end
end Go.Proofs.YtfinhpfjokpcfaaGreatDoor
