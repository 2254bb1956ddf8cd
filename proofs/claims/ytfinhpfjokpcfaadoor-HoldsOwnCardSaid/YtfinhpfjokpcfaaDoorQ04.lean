/- Parts of a proof. -/
import Derived.Test.YtfinhpfjokpcfaaDoorQ02
set_option linter.unusedVariables false
set_option linter.unusedSimpArgs false
set_option maxHeartbeats 60000000
set_option maxRecDepth 100000
namespace Go.Proofs.YtfinhpfjokpcfaaDoor
section
open Go.RowKit
def okC (c:HC):Prop:=1≤c.a∧c.a≤4294967296∧ -4294967296≤c.v∧c.v≤4294967296
def Sound (hs:List HC):Prop:=Stand hs∧∀i,i<hs.length→okC (hs.getD i hc0)
inductive OkWay (c:HC):Prop
 | ok (h1:¬c.a<1) (h2:¬c.a > 4294967296) (h3:¬c.v< -4294967296) (h4:¬c.v > 4294967296) (h:okC c):OkWay c
 | a1 (h1:c.a<1) (h:¬okC c):OkWay c
 | a2 (h1:¬c.a<1) (h2:c.a > 4294967296) (h:¬okC c):OkWay c
 | v1 (h1:¬c.a<1) (h2:¬c.a > 4294967296) (h3:c.v< -4294967296) (h:¬okC c):OkWay c
 | v2 (h1:¬c.a<1) (h2:¬c.a > 4294967296) (h3:¬c.v< -4294967296) (h4:c.v > 4294967296) (h:¬okC c):OkWay c
theorem ok_way (c:HC):OkWay c:=by
 by_cases h1:c.a<1
 ·exact .a1 h1 (fun h=>by unfold okC at h;omega)
 ·by_cases h2:c.a > 4294967296
  ·exact .a2 h1 h2 (fun h=>by unfold okC at h;omega)
  ·by_cases h3:c.v< -4294967296
   ·exact .v1 h1 h2 h3 (fun h=>by unfold okC at h;omega)
   ·by_cases h4:c.v > 4294967296
    ·exact .v2 h1 h2 h3 h4 (fun h=>by unfold okC at h;omega)
    ·exact .ok h1 h2 h3 h4 (by unfold okC;omega)
def ErrEnd (p:Prop)(w:World)(e:Ending)(w':World):Prop:=(p∧e= .returned .nilIface∨¬p∧e= .returned (.iface 57 (.int .i64 5)))∧Below w.heap.size w w'
theorem check_any (hs:List HC)(ad:Option Addr)(n cap:Nat)(w:World)(hn:hs.length=n)(hnm:n≤9223372036854775807)(hl:HLies w.heap.size w ad hs):
 Calls Tryd.prog 13 #[.slice ad n cap] w (ErrEnd (Sound hs) w):=by
 have HO:=Lib.hid (fun a f b g W=>order_any a f b g W)
 have HL:=Lib.hid hl
 have HN:=Lib.hid hn
 clear hl hn
 go_enter Tryd.func13,Tryd.ntmps13
 go_wp2_with fail
 go_loopw [7] (fun i wr=>∃k:Nat,i= .int .i64 k∧k≤n∧Hid (∀j,j<k→okC (hs.getD j hc0))∧Hid (∀j,j+1<k→kl (hkey (hs.getD j hc0)) (hkey (hs.getD (j+1) hc0))=true)∧Hid (Below w.heap.size w wr)) (fun i _=>n - (intOf i).toNat)
 case atStart=>exact⟨0,rfl,Nat.zero_le _,fun j hj=>absurd hj (Nat.not_lt_zero j),fun j hj=>absurd hj (Nat.not_lt_zero _),Below.refl _ _⟩
 case round=>
  obtain⟨k,rfl,hk,hok,hst,hb⟩:=hrel
  by_cases hlt:k<n
  ·have hlti:(k:Int)<(n:Int):=by omega
   have HNO:Hid (¬okC (hs.getD k hc0)→∀W,Below w.heap.size w W→ErrEnd (Sound hs) w (.returned (.iface 57 (.int .i64 5))) W):=fun h W hW=>⟨.inr ⟨fun h'=>h (h'.2 k (by rw[HN.out];exact hlt)),rfl⟩,hW⟩
   have HOK:Hid (okC (hs.getD k hc0)→∀j,j<k+1→okC (hs.getD j hc0)):=fun h j hj=>by
    by_cases e:j=k
    ·subst e;exact h
    ·exact hok.out j (by omega)
   obtain⟨b3,off3,rfl,hb3,c1,c2,c3⟩:=HL.out k (by rw[HN.out];omega)
   have c1:=(hb.out.cell (p:=⟨b3,_,none⟩) hb3).trans c1
   have c2:=(hb.out.cell (p:=⟨b3,_,none⟩) hb3).trans c2
   have c3:=(hb.out.cell (p:=⟨b3,_,none⟩) hb3).trans c3
   have hb3r:=Nat.lt_of_lt_of_le hb3 hb.out.size
   rcases(show k=0∨∃m,k=m+1 from by cases k with | zero=>exact .inl rfl | succ m=>exact .inr ⟨m,rfl⟩)with rfl | ⟨m,rfl⟩
   ·have HST:Hid (∀j,j+1<0+1→kl (hkey (hs.getD j hc0)) (hkey (hs.getD (j+1) hc0))=true):=fun j hj=>by omega
    clear hok hst
    generalize hs.getD 0 hc0=x at c1 c2 c3 HNO HOK
    obtain⟨xa,xf,xv⟩:=x
    have hway:=ok_way ⟨xa,xf,xv⟩
    have HAL:Hid (Below w.heap.size w (wr.alloc (.cells #[.int .i64 xa,.string xf,.int .i64 xv] 45))):=hb.out.alloc hb.out.size _
    simp only[Nat.zero_mul,Nat.add_zero]at c1 c2 c3
    cases hway with
    | ok h1 h2 h3 h4 h=>
      have HK:=Lib.hid (HOK.out h)
      simp only at h1 h2 h3 h4
      clear h HOK HNO
      go_wp2_with fail
      go_quiet (fail)
      go_wp2_with fail
      go_roundw
      case rel=>exact⟨0+1,by go_num,by omega,HK,HST,below_drewN2 HAL.out _⟩
      case measure=>simp[intOf];omega
    | a1 h1 h=>
      have HE:=Lib.hid (HNO.out h)
      simp only at h1
      clear h HOK HNO
      go_wp2_with fail
      go_ret
      exact HE.out _ HAL.out
    | a2 h1 h2 h=>
      have HE:=Lib.hid (HNO.out h)
      simp only at h1 h2
      clear h HOK HNO
      go_wp2_with fail
      go_ret
      exact HE.out _ HAL.out
    | v1 h1 h2 h3 h=>
      have HE:=Lib.hid (HNO.out h)
      simp only at h1 h2 h3
      clear h HOK HNO
      go_wp2_with fail
      go_ret
      exact HE.out _ HAL.out
    | v2 h1 h2 h3 h4 h=>
      have HE:=Lib.hid (HNO.out h)
      simp only at h1 h2 h3 h4
      clear h HOK HNO
      go_wp2_with fail
      go_ret
      exact HE.out _ HAL.out
   ·obtain⟨b4,off4,he4,hb4,d1,d2,d3⟩:=HL.out m (by rw[HN.out];omega)
    obtain⟨rfl,rfl⟩:b3=b4∧off3=off4:=by injection he4 with e;injection e with e1 e2 e3;exact⟨e1,e2⟩
    have HST:Hid (kl (hkey (hs.getD m hc0)) (hkey (hs.getD (m+1) hc0))=true→∀j,j+1<m+1+1→kl (hkey (hs.getD j hc0)) (hkey (hs.getD (j+1) hc0))=true):=fun h j hj=>by
     by_cases e:j=m
     ·subst e;exact h
     ·exact hst.out j (by omega)
    have HNS:Hid (¬kl (hkey (hs.getD m hc0)) (hkey (hs.getD (m+1) hc0))=true→∀W,Below w.heap.size w W→ErrEnd (Sound hs) w (.returned (.iface 57 (.int .i64 5))) W):=fun h W hW=>⟨.inr ⟨fun h'=>h (h'.1 m (by rw[HN.out];omega)),rfl⟩,hW⟩
    clear hok hst he4 d3
    generalize hs.getD (m+1) hc0=x at c1 c2 c3 HNO HOK HST HNS
    generalize hs.getD m hc0=y at d1 d2 HST HNS
    obtain⟨xa,xf,xv⟩:=x
    obtain⟨ya,yf,yv⟩:=y
    have hway:=ok_way ⟨xa,xf,xv⟩
    have HAL:Hid (Below w.heap.size w (wr.alloc (.cells #[.int .i64 xa,.string xf,.int .i64 xv] 45))):=hb.out.alloc hb.out.size _
    have d1:=(HAL.out.cell (p:=⟨b3,_,none⟩) hb3).trans d1
    have d2:=(HAL.out.cell (p:=⟨b3,_,none⟩) hb3).trans d2
    have hwm:IntKind.i64.wrap (((m+1:Nat):Int) - 1)=(m:Int):=by rw[show((m+1:Nat):Int) - 1=(m:Int) by omega];exact IntWalk.i64_in _ (by omega)
    have hwm2:IntKind.i64.wrap ((m:Int)+1 - 1)=(m:Int):=by rw[show(m:Int)+1 - 1=(m:Int) by omega];exact IntWalk.i64_in _ (by omega)
    have hm0:((m+1:Nat):Int) > 0:=by omega
    have hm1:(0:Int)<(m:Int)+1:=by omega
    have hmn:(m:Int)<(n:Int):=by omega
    have hmn1:(m:Int)+1<(n:Int):=by omega
    cases hway with
    | ok h1 h2 h3 h4 h=>
      have HK:=Lib.hid (HOK.out h)
      simp only at h1 h2 h3 h4 d1 d2 c1 c2 c3
      have HC:=Lib.hid (HO.out ya yf xa xf)
      have HL0:=Lib.hid (ordK_lt (x:=(ya,yf.toList)) (y:=(xa,xf.toList)))
      have HST2:Hid (ordK (ya,yf.toList) (xa,xf.toList)<0→∀j,j+1<m+1+1→kl (hkey (hs.getD j hc0)) (hkey (hs.getD (j+1) hc0))=true):=fun h=>HST.out (HL0.out.1 h)
      have HNS2:Hid (¬ordK (ya,yf.toList) (xa,xf.toList)<0→∀W,Below w.heap.size w W→ErrEnd (Sound hs) w (.returned (.iface 57 (.int .i64 5))) W):=fun h=>HNS.out (fun h'=>h (HL0.out.2 h'))
      have HC:Hid (∀W,Calls Tryd.prog 23 #[.int .i64 ya,.string yf,.int .i64 xa,.string xf] W fun e w'=>e= .returned (.int .i64 (ordK (ya,yf.toList) (xa,xf.toList)))∧w'=W):=fun W=>(HC.out W).mono fun _ _ ⟨h1,h2⟩=>⟨h1,h2.symm⟩
      generalize ordK (ya,yf.toList) (xa,xf.toList)=z at HC HST2 HNS2
      clear h HOK HNO HST HNS HL0
      go_wp2_with fail
      go_quiet ((go_at_call 23;exact Calls.quiet_of_same (HC.out _)))
      by_cases hz:z<0
      ·have HS3:=Lib.hid (HST2.out hz)
       have hz2:¬z ≥ 0:=by omega
       have hz3:¬ 0≤z:=by omega
       clear HST2 HNS2
       go_wp2_with fail
       go_roundw
       case rel=>exact⟨m+1+1,by go_num,by omega,HK,HS3,below_drewN2 HAL.out _⟩
       case measure=>simp[intOf];omega
      ·have HS3:=Lib.hid (HNS2.out (by first | exact hz | omega))
       have hz2:z ≥ 0:=by omega
       have hz3:0≤z:=by omega
       clear HST2 HNS2
       go_wp2_with fail
       go_ret
       exact HS3.out _ (below_drewN2 HAL.out _)
    | a1 h1 h=>
      have HE:=Lib.hid (HNO.out h)
      simp only at h1
      clear h HOK HNO
      go_wp2_with fail
      go_ret
      exact HE.out _ HAL.out
    | a2 h1 h2 h=>
      have HE:=Lib.hid (HNO.out h)
      simp only at h1 h2
      clear h HOK HNO
      go_wp2_with fail
      go_ret
      exact HE.out _ HAL.out
    | v1 h1 h2 h3 h=>
      have HE:=Lib.hid (HNO.out h)
      simp only at h1 h2 h3
      clear h HOK HNO
      go_wp2_with fail
      go_ret
      exact HE.out _ HAL.out
    | v2 h1 h2 h3 h4 h=>
      have HE:=Lib.hid (HNO.out h)
      simp only at h1 h2 h3 h4
      clear h HOK HNO
      go_wp2_with fail
      go_ret
      exact HE.out _ HAL.out
  ·have hlti:¬(k:Int)<(n:Int):=by omega
   have HE:Hid (∀W,Below w.heap.size w W→ErrEnd (Sound hs) w (.returned .nilIface) W):=fun W hW=>⟨.inl ⟨⟨fun i hi=>hst.out i (by rw[HN.out]at hi;omega),fun i hi=>hok.out i (by rw[HN.out]at hi;omega)⟩,rfl⟩,hW⟩
   go_wp2_with fail
   go_ret
   exact HE.out _ hb.out
end
section
open Go.RowKit
def JoinEnd (xs:List HC)(w:World)(e:Ending)(w':World):Prop:=∃v zs,e= .returned v∧SortIs xs zs∧SRow w.heap.size (joinTo zs zs.length) v w'∧Below w.heap.size w w'
theorem regrown_trans {w:World}{B:Nat}{W:World}(h:Below B w W)(hB:B≤W.heap.size)(d:Nat)(os:Array Obj):Below B w (Go.Sort.grow (redrawn W d) os):=h.trans ((below_regrown W d os).mono hB)
theorem wfacts (m:Nat)(h:m≤200):IntKind.i64.wrap (((m+1:Nat):Int) - 1)=(m:Int)∧IntKind.i64.wrap ((m:Int)+1 - 1)=(m:Int)∧IntKind.i64.wrap (m:Int)=(m:Int)∧wrap64 (m:Int)=(m:Int)∧((m+1:Nat):Int) > 0∧(0:Int)<(m:Int)+1∧m<m+1∧(m:Int)<(m:Int)+1:=by
 have e1:((m+1:Nat):Int) - 1=(m:Int):=by omega
 have e2:(m:Int)+1 - 1=(m:Int):=by omega
 have e3:IntKind.i64.wrap (m:Int)=(m:Int):=IntWalk.i64_in _ (by omega)
 refine⟨by rw[e1];exact e3,by rw[e2];exact e3,e3,by unfold wrap64;omega,by omega,by omega,by omega,by omega⟩
theorem wsum (y x:Int)(k:Nat)(h1: -((k:Int)*1099511627776)≤y∧y≤(k:Int)*1099511627776)(h2: -1099511627776≤x∧x≤1099511627776)(hk:k≤200):IntKind.i64.wrap (y+x)=y+x:=IntWalk.i64_in _ (by omega)
theorem join_any (xs ys:List HC)(hs:SortSaid (xs ++ ys))(ad:Option Addr)(n cap:Nat)(ad2:Option Addr)(n2 cap2:Nat)(w:World)(hn:xs.length=n)(hn2:ys.length=n2)(hnm:n≤100)(hnm2:n2≤100)(hbd:BoundV (xs ++ ys) 1099511627776)(hl:HLies w.heap.size w ad xs)(hl2:HLies w.heap.size w ad2 ys):
 Calls Tryd.prog 12 #[.slice ad n cap,.slice ad2 n2 cap2] w (JoinEnd (xs ++ ys) w):=by
 have B0:Below w.heap.size w (w.alloc (.cells #[.slice ad n cap,.slice ad2 n2 cap2] 35)):=(Below.refl _ w).alloc (Nat.le_refl _) _
 have hnew:=heap_alloc_new w (.cells #[.slice ad n cap,.slice ad2 n2 cap2] 35)
 have HCO:=Lib.hid (concat2Share_any w.heap.size ad n cap xs ad2 n2 cap2 ys (w.alloc (.cells #[.slice ad n cap,.slice ad2 n2 cap2] 35)) hn (by omega) (hl.up B0) ((cell_of_row _ _ _ _ _ _ hnew).trans rfl) hn2 (by omega) (hl2.up B0) ((cell_of_row _ _ _ _ _ _ hnew).trans rfl) (by simp))
 have HB0:=Lib.hid B0
 have HLN:Hid ((xs ++ ys).length=n+n2):=by show _=_;rw[List.length_append,hn,hn2]
 have HS:=Lib.hid hs
 have HBD:=Lib.hid hbd
 clear hl hl2 hn hn2 hs hbd B0 hnew
 generalize xs ++ ys=al at HCO HLN HS HBD
 go_enter Tryd.func12,Tryd.ntmps12
 go_wp2_with fail
 refine HCO.out.mono ?_
 rintro e w1 ⟨v,rfl,ho,hb1⟩
 have B1:=Lib.hid (HB0.out.trans (hb1.mono HB0.out.size))
 have HSO:Hid (SRow w.heap.size al v w1):=by
  show SRow _ _ _ _
  unfold SRow
  rw[HLN.out]
  exact ownsRow_lower ho HB0.out.size
 have HSC:=Lib.hid (HS.out w1 w.heap.size v HSO.out B1.out.size)
 clear ho hb1 HCO HS HSO
 go_wp2_with fail
 refine HSC.out.mono ?_
 rintro e w2 ⟨rfl,zs,hsi,hrow2,hb2⟩
 have B2:=Lib.hid (B1.out.trans hb2)
 have HSI:=Lib.hid hsi
 have hzl:zs.length=n+n2:=by rw[←hsi.perm.length_eq,HLN.out]
 have HBZ:Hid (BoundV zs 1099511627776):=fun c hc=>HBD.out c (hsi.perm.mem_iff.2 hc)
 obtain⟨za,zcap,rfl,hz2,hz3,hz4,_⟩:=own_hlies rfl hrow2
 have HZ:=Lib.hid hz4
 clear hsi hrow2 hb2 hz4 HSC HBD
 have hz200:zs.length≤200:=by omega
 clear hzl
 go_wp2_with fail
 go_loopw [6,18] (fun l i wr=>∃k:Nat,i= .int .i64 k∧k≤zs.length∧Hid (SRow w2.heap.size (joinTo zs k) l wr)∧Hid (Below w2.heap.size w2 wr)) (fun _ i _=>zs.length - (intOf i).toNat)
 case atStart=>exact⟨0,rfl,Nat.zero_le _,SRow.nil _ _,Below.refl _ _⟩
 case round=>
  obtain⟨k,rfl,hk,hrow,hb⟩:=hrel
  by_cases hlt:k<zs.length
  ·have hlti:(k:Int)<(zs.length:Int):=by omega
   obtain⟨b3,off3,rfl,hb3,c1,c2,c3⟩:=HZ.out k hlt
   have c1:=(hb.out.cell (p:=⟨b3,_,none⟩) hb3).trans c1
   have c2:=(hb.out.cell (p:=⟨b3,_,none⟩) hb3).trans c2
   have c3:=(hb.out.cell (p:=⟨b3,_,none⟩) hb3).trans c3
   have HJT:Hid (joinTo zs (k+1)=addLast (joinTo zs k) (zs.getD k hc0)):=rfl
   have HJL:=Lib.hid (joinTo_len zs k)
   have HJB:=Lib.hid (joinTo_bound HBZ.out (by decide) k hk)
   have HXB:=Lib.hid (HBZ.out _ (getD_memH (l:=zs) hlt))
   generalize joinTo zs k=ls at HJT HJL HJB hrow
   generalize zs.getD k hc0=x at c1 c2 c3 HJT HXB
   obtain⟨xa,xf,xv⟩:=x
   simp only at c1 c2 c3 HXB
   have HA:Hid (Below wr.heap.size wr (wr.alloc (.cells #[.int .i64 xa,.string xf,.int .i64 xv] 43))):=(Below.refl _ wr).alloc (Nat.le_refl _) _
   have HBA:Hid (Below w2.heap.size w2 (wr.alloc (.cells #[.int .i64 xa,.string xf,.int .i64 xv] 43))):=hb.out.trans (HA.out.mono hb.out.size)
   have HRA:=Lib.hid (hrow.out.below HA.out)
   rcases(show ls=[]∨∃m,ls.length=m+1 from by cases ls with | nil=>exact .inl rfl | cons _ t=>exact .inr ⟨t.length,rfl⟩)with rfl | ⟨m,hm⟩
   ·obtain⟨lad,lcap,rfl,_,_,_,_⟩:=own_hlies (n:=0) rfl hrow.out
    go_wp2_with fail
    refine wp_region_quiet_below (by kernel_rfl) (by kernel_rfl) ?_
    repeat (go_big_quiet_step (fail))
    refine wpQuiet_nil ?_
    intro _ hw'
    obtain⟨pq,hw''⟩:=hw'
    subst hw''
    have HBW:Hid (Below w2.heap.size w2 (Go.Sort.grow (redrawn (wr.alloc (.cells #[.int .i64 xa,.string xf,.int .i64 xv] 43)) pq.d) pq.os)):=regrown_trans HBA.out HBA.out.size _ _
    have HRW:Hid (SRow w2.heap.size [] (.slice lad 0 lcap) (Go.Sort.grow (redrawn (wr.alloc (.cells #[.int .i64 xa,.string xf,.int .i64 xv] 43)) pq.d) pq.os)):=HRA.out.below (below_regrown _ _ _)
    have hnn:=heap_alloc_new wr (.cells #[.int .i64 xa,.string xf,.int .i64 xv] 43)
    have t1:(Go.Sort.grow (redrawn (wr.alloc (.cells #[.int .i64 xa,.string xf,.int .i64 xv] 43)) pq.d) pq.os).cell? ⟨wr.heap.size,0,none⟩=some (.int .i64 xa):=cell_regrown ((cell_of_row _ _ _ _ _ _ hnn).trans rfl) _ _
    have t2:(Go.Sort.grow (redrawn (wr.alloc (.cells #[.int .i64 xa,.string xf,.int .i64 xv] 43)) pq.d) pq.os).cell? ⟨wr.heap.size,1,none⟩=some (.string xf):=cell_regrown ((cell_of_row _ _ _ _ _ _ hnn).trans rfl) _ _
    have t3:(Go.Sort.grow (redrawn (wr.alloc (.cells #[.int .i64 xa,.string xf,.int .i64 xv] 43)) pq.d) pq.os).cell? ⟨wr.heap.size,2,none⟩=some (.int .i64 xv):=cell_regrown ((cell_of_row _ _ _ _ _ _ hnn).trans rfl) _ _
    clear hnn
    generalize Go.Sort.grow (redrawn (wr.alloc (.cells #[.int .i64 xa,.string xf,.int .i64 xv] 43)) pq.d) pq.os=W0 at HBW HRW t1 t2 t3⊢
    obtain⟨v6,w6,hr6,hrow6,hb6⟩:=run_append_share (w:=W0) 35 w2.heap.size [] (.slice lad 0 lcap) ⟨xa,xf,xv⟩ HRW.out HBW.out.size (by have:=HJL.out;simp only[List.length_nil]at this⊢;omega)
    have hr6:∀ty,(Builtin.append_ #[35,35] ty #[(.slice lad 0 lcap),.slice (some ⟨W0.heap.size,0,none⟩) 1 1]).run Tryd.prog (W0.alloc (.cells #[.int .i64 xa,.string xf,.int .i64 xv] 43))= .ok v6 w6:=fun ty=>hr6
    have HR6:Hid (SRow w2.heap.size (joinTo zs (k+1)) v6 w6):=by
     show SRow _ _ _ _
     rw[HJT.out,addLast,if_neg (fun h=>absurd h.1 (by simp))]
     exact hrow6
    have HB6:=Lib.hid (HBW.out.trans hb6)
    clear hrow6 hb6 HRW HRA HBA HA HBW hrow hb
    go_wp2_with (at_builtin;refine Lib.wpList_append_run _ rfl _ _ _ _ rfl _ _ rfl rfl _ _ (hr6 _) ?_)
    go_roundw
    case rel=>exact⟨k+1,by go_num,by omega,HR6,HB6⟩
    case measure=>simp[intOf];omega
   ·obtain⟨g,lcap,rfl,_,hgB,hgl,hll⟩:=hrow.out.form (by omega)
    obtain⟨b4,off4,e4,hb4,d1,d2,d3⟩:=(hll.up HA.out) m (by omega)
    obtain⟨rfl,rfl⟩:g=b4∧0=off4:=by injection e4 with e;injection e with e1 e2 e3;exact⟨e1,e2⟩
    have HML:Hid (ls.length - 1=m∧ls.length≤200):=⟨by omega,by have:=HJL.out;omega⟩
    have HLB:=Lib.hid (HJB.out _ (getD_memH (l:=ls) (i:=m) (by omega)))
    have HST:=Lib.hid (fun W u (h:SRow w2.heap.size ls (.slice (some ⟨g,0,none⟩) (m+1) lcap) W)=>h.stored hm u)
    have HAD:Hid (addLast ls ⟨xa,xf,xv⟩=if hkey (ls.getD m hc0)=hkey ⟨xa,xf,xv⟩ then ls.take m ++ [⟨(ls.getD m hc0).a,(ls.getD m hc0).f,(ls.getD m hc0).v+xv⟩] else ls ++ [⟨xa,xf,xv⟩]):=by
     show _=_
     unfold addLast
     rw[hm,Nat.add_sub_cancel]
     by_cases h:hkey (ls.getD m hc0)=hkey ⟨xa,xf,xv⟩
     ·rw[if_pos ⟨by omega,h⟩,if_pos h]
     ·rw[if_neg (fun h'=>h h'.2),if_neg h]
    rw[hm]at hrow HRA⊢
    clear e4 hll
    simp only[Nat.zero_add]at d1 d2 d3
    have hfz:∀(W:World),SRow w2.heap.size ls (.slice (some ⟨g,0,none⟩) (m+1) lcap) W→W.frozen? ⟨g,m*3+2,none⟩=false:=fun W h=>World.ownsRow.frozenAt (n:=m+1) (xs:=hcells ls) (by unfold SRow at h;rw[hm]at h;exact h) _
    generalize ls.getD m hc0=y at d1 d2 d3 HLB HST HAD
    obtain⟨ya,yf,yv⟩:=y
    simp only at d1 d2 d3 HLB HST HAD
    obtain⟨hwm,hwm2,hwm3,hw64,hm0,hm1,hmn,hmni⟩:=wfacts m (by have:=HML.out;exact Nat.le_trans (by rw[←this.1];exact Nat.sub_le _ _) this.2)
    have hwv:=wsum yv xv k HLB.out HXB.out (Nat.le_trans hk hz200)
    have hnn:=heap_alloc_new wr (.cells #[.int .i64 xa,.string xf,.int .i64 xv] 43)
    have r1:=fun d os=>cell_regrown d1 d os
    have r2:=fun d os=>cell_regrown d2 d os
    have r3:∀d os,(Go.Sort.grow (redrawn (wr.alloc (.cells #[.int .i64 xa,.string xf,.int .i64 xv] 43)) d) os).cell? ⟨wr.heap.size,0,none⟩=some (.int .i64 xa):=fun d os=>cell_regrown ((cell_of_row _ _ _ _ _ _ hnn).trans rfl) d os
    have r4:∀d os,(Go.Sort.grow (redrawn (wr.alloc (.cells #[.int .i64 xa,.string xf,.int .i64 xv] 43)) d) os).cell? ⟨wr.heap.size,1,none⟩=some (.string xf):=fun d os=>cell_regrown ((cell_of_row _ _ _ _ _ _ hnn).trans rfl) d os
    clear hnn
    by_cases e1:ya=xa
    ·have he1:(ya == xa)=true:=by simp[e1]
     by_cases e2:yf.toList=xf.toList
     ·have he2:(yf.toList == xf.toList)=true:=by simp[e2]
      have HJ2:Hid (joinTo zs (k+1)=ls.take m ++ [⟨ya,yf,yv+xv⟩]):=by
       show _=_
       rw[HJT.out,HAD.out,if_pos (by simp only[hkey,e1,e2])]
      clear HJT HAD e1 e2
      go_wp2_with fail
      refine wp_region_quiet_below (by kernel_rfl) (by kernel_rfl) ?_
      repeat (go_big_quiet_step (fail))
      refine wpQuiet_nil ?_
      intro _ hw'
      obtain⟨pq,hw''⟩:=hw'
      subst hw''
      have HBW:Hid (Below w2.heap.size w2 (Go.Sort.grow (redrawn (wr.alloc (.cells #[.int .i64 xa,.string xf,.int .i64 xv] 43)) pq.d) pq.os)):=regrown_trans HBA.out HBA.out.size _ _
      have HRW:Hid (SRow w2.heap.size ls (.slice (some ⟨g,0,none⟩) (m+1) lcap) (Go.Sort.grow (redrawn (wr.alloc (.cells #[.int .i64 xa,.string xf,.int .i64 xv] 43)) pq.d) pq.os)):=HRA.out.below (below_regrown _ _ _)
      have hnn:=heap_alloc_new wr (.cells #[.int .i64 xa,.string xf,.int .i64 xv] 43)
      have t3:(Go.Sort.grow (redrawn (wr.alloc (.cells #[.int .i64 xa,.string xf,.int .i64 xv] 43)) pq.d) pq.os).cell? ⟨wr.heap.size,2,none⟩=some (.int .i64 xv):=cell_regrown ((cell_of_row _ _ _ _ _ _ hnn).trans rfl) _ _
      have d3':(Go.Sort.grow (redrawn (wr.alloc (.cells #[.int .i64 xa,.string xf,.int .i64 xv] 43)) pq.d) pq.os).cell? ⟨g,m*3+2,none⟩=some (.int .i64 yv):=cell_regrown d3 _ _
      have f3:=hfz _ HRW.out
      clear hnn d1 d2 d3
      generalize Go.Sort.grow (redrawn (wr.alloc (.cells #[.int .i64 xa,.string xf,.int .i64 xv] 43)) pq.d) pq.os=W0 at HBW HRW t3 d3' f3⊢
      have HE:Hid (SRow w2.heap.size (joinTo zs (k+1)) (.slice (some ⟨g,0,none⟩) (m+1) lcap) (W0.setCell ⟨g,m*3+2,none⟩ (.int .i64 (yv+xv))).drew):=by
       show SRow _ _ _ _
       rw[HJ2.out]
       exact(HST.out W0 _ HRW.out).below (Below.refl _ _).drew
      have HBE:Hid (Below w2.heap.size w2 (W0.setCell ⟨g,m*3+2,none⟩ (.int .i64 (yv+xv))).drew):=(HBW.out.setCell (p:=⟨g,m*3+2,none⟩) hgB _).drew
      clear HJ2 HST HRW HBW hrow hb HRA HBA HA
      go_wp2_with fail
      go_region
      all_goals
       clear hwm hwm2 hwm3 hw64 hm0 hm1 hmn hmni hwv r1 r2 r3 r4 hfz HLB HXB HJB
       go_wp2_with fail
       go_roundw
       case rel=>exact⟨k+1,by go_num,by omega,HE,HBE⟩
       case measure=>simp[intOf];omega
     ·have he2:(yf.toList == xf.toList)=false:=by simp[e2]
      go_wp2_with fail
      refine wp_region_quiet_below (by kernel_rfl) (by kernel_rfl) ?_
      repeat (go_big_quiet_step (fail))
      refine wpQuiet_nil ?_
      intro _ hw'
      obtain⟨pq,hw''⟩:=hw'
      subst hw''
      clear hwm hwm2 hwm3 hw64 hm0 hm1 hmn hmni hwv d1 d2 d3 r1 r2 r3 r4 HST hfz HLB HXB HJB
      have HBW:Hid (Below w2.heap.size w2 (Go.Sort.grow (redrawn (wr.alloc (.cells #[.int .i64 xa,.string xf,.int .i64 xv] 43)) pq.d) pq.os)):=regrown_trans HBA.out HBA.out.size _ _
      have HRW:Hid (SRow w2.heap.size ls (.slice (some ⟨g,0,none⟩) (m+1) lcap) (Go.Sort.grow (redrawn (wr.alloc (.cells #[.int .i64 xa,.string xf,.int .i64 xv] 43)) pq.d) pq.os)):=HRA.out.below (below_regrown _ _ _)
      have hnn:=heap_alloc_new wr (.cells #[.int .i64 xa,.string xf,.int .i64 xv] 43)
      have t1:(Go.Sort.grow (redrawn (wr.alloc (.cells #[.int .i64 xa,.string xf,.int .i64 xv] 43)) pq.d) pq.os).cell? ⟨wr.heap.size,0,none⟩=some (.int .i64 xa):=cell_regrown ((cell_of_row _ _ _ _ _ _ hnn).trans rfl) _ _
      have t2:(Go.Sort.grow (redrawn (wr.alloc (.cells #[.int .i64 xa,.string xf,.int .i64 xv] 43)) pq.d) pq.os).cell? ⟨wr.heap.size,1,none⟩=some (.string xf):=cell_regrown ((cell_of_row _ _ _ _ _ _ hnn).trans rfl) _ _
      have t3:(Go.Sort.grow (redrawn (wr.alloc (.cells #[.int .i64 xa,.string xf,.int .i64 xv] 43)) pq.d) pq.os).cell? ⟨wr.heap.size,2,none⟩=some (.int .i64 xv):=cell_regrown ((cell_of_row _ _ _ _ _ _ hnn).trans rfl) _ _
      clear hnn
      generalize Go.Sort.grow (redrawn (wr.alloc (.cells #[.int .i64 xa,.string xf,.int .i64 xv] 43)) pq.d) pq.os=W0 at HBW HRW t1 t2 t3⊢
      obtain⟨v6,w6,hr6,hrow6,hb6⟩:=run_append_share (w:=W0) 35 w2.heap.size ls (.slice (some ⟨g,0,none⟩) (m+1) lcap) ⟨xa,xf,xv⟩ HRW.out HBW.out.size (by have:=HJL.out;simp at this⊢;omega)
      have hr6:∀ty,(Builtin.append_ #[35,35] ty #[(.slice (some ⟨g,0,none⟩) (m+1) lcap),.slice (some ⟨W0.heap.size,0,none⟩) 1 1]).run Tryd.prog (W0.alloc (.cells #[.int .i64 xa,.string xf,.int .i64 xv] 43))= .ok v6 w6:=fun ty=>hr6
      have HR6:Hid (SRow w2.heap.size (joinTo zs (k+1)) v6 w6):=by
       show SRow _ _ _ _
       rw[HJT.out,HAD.out,if_neg (show ¬(hkey ⟨ya,yf,yv⟩=hkey ⟨xa,xf,xv⟩) from fun h=>e2 (Prod.mk.inj h).2)]
       exact hrow6
      have HB6:=Lib.hid (HBW.out.trans hb6)
      clear hrow6 hb6 HRW HRA HBA HA HBW hrow hb
      go_wp2_with (at_builtin;refine Lib.wpList_append_run _ rfl _ _ _ _ rfl _ _ rfl rfl _ _ (hr6 _) ?_)
      go_roundw
      case rel=>exact⟨k+1,by go_num,by omega,HR6,HB6⟩
      case measure=>simp[intOf];omega
    ·have he1:(ya == xa)=false:=by simp[e1]
     go_wp2_with fail
     refine wp_region_quiet_below (by kernel_rfl) (by kernel_rfl) ?_
     repeat (go_big_quiet_step (fail))
     refine wpQuiet_nil ?_
     intro _ hw'
     obtain⟨pq,hw''⟩:=hw'
     subst hw''
     clear hwm hwm2 hwm3 hw64 hm0 hm1 hmn hmni hwv d1 d2 d3 r1 r2 r3 r4 HST hfz HLB HXB HJB
     have HBW:Hid (Below w2.heap.size w2 (Go.Sort.grow (redrawn (wr.alloc (.cells #[.int .i64 xa,.string xf,.int .i64 xv] 43)) pq.d) pq.os)):=regrown_trans HBA.out HBA.out.size _ _
     have HRW:Hid (SRow w2.heap.size ls (.slice (some ⟨g,0,none⟩) (m+1) lcap) (Go.Sort.grow (redrawn (wr.alloc (.cells #[.int .i64 xa,.string xf,.int .i64 xv] 43)) pq.d) pq.os)):=HRA.out.below (below_regrown _ _ _)
     have hnn:=heap_alloc_new wr (.cells #[.int .i64 xa,.string xf,.int .i64 xv] 43)
     have t1:(Go.Sort.grow (redrawn (wr.alloc (.cells #[.int .i64 xa,.string xf,.int .i64 xv] 43)) pq.d) pq.os).cell? ⟨wr.heap.size,0,none⟩=some (.int .i64 xa):=cell_regrown ((cell_of_row _ _ _ _ _ _ hnn).trans rfl) _ _
     have t2:(Go.Sort.grow (redrawn (wr.alloc (.cells #[.int .i64 xa,.string xf,.int .i64 xv] 43)) pq.d) pq.os).cell? ⟨wr.heap.size,1,none⟩=some (.string xf):=cell_regrown ((cell_of_row _ _ _ _ _ _ hnn).trans rfl) _ _
     have t3:(Go.Sort.grow (redrawn (wr.alloc (.cells #[.int .i64 xa,.string xf,.int .i64 xv] 43)) pq.d) pq.os).cell? ⟨wr.heap.size,2,none⟩=some (.int .i64 xv):=cell_regrown ((cell_of_row _ _ _ _ _ _ hnn).trans rfl) _ _
     clear hnn
     generalize Go.Sort.grow (redrawn (wr.alloc (.cells #[.int .i64 xa,.string xf,.int .i64 xv] 43)) pq.d) pq.os=W0 at HBW HRW t1 t2 t3⊢
     obtain⟨v6,w6,hr6,hrow6,hb6⟩:=run_append_share (w:=W0) 35 w2.heap.size ls (.slice (some ⟨g,0,none⟩) (m+1) lcap) ⟨xa,xf,xv⟩ HRW.out HBW.out.size (by have:=HJL.out;simp at this⊢;omega)
     have hr6:∀ty,(Builtin.append_ #[35,35] ty #[(.slice (some ⟨g,0,none⟩) (m+1) lcap),.slice (some ⟨W0.heap.size,0,none⟩) 1 1]).run Tryd.prog (W0.alloc (.cells #[.int .i64 xa,.string xf,.int .i64 xv] 43))= .ok v6 w6:=fun ty=>hr6
     have HR6:Hid (SRow w2.heap.size (joinTo zs (k+1)) v6 w6):=by
      show SRow _ _ _ _
      rw[HJT.out,HAD.out,if_neg (show ¬(hkey ⟨ya,yf,yv⟩=hkey ⟨xa,xf,xv⟩) from fun h=>e1 (Prod.mk.inj h).1)]
      exact hrow6
     have HB6:=Lib.hid (HBW.out.trans hb6)
     clear hrow6 hb6 HRW HRA HBA HA HBW hrow hb
     go_wp2_with (at_builtin;refine Lib.wpList_append_run _ rfl _ _ _ _ rfl _ _ rfl rfl _ _ (hr6 _) ?_)
     go_roundw
     case rel=>exact⟨k+1,by go_num,by omega,HR6,HB6⟩
     case measure=>simp[intOf];omega
  ·obtain rfl:k=zs.length:=by omega
   have HE:Hid (JoinEnd al w (.returned u6) wr):=⟨_,_,rfl,HSI.out,ownsRow_lower hrow.out B2.out.size,B2.out.trans (hb.out.mono B2.out.size)⟩
   clear hrow hb
   go_wp2_with fail
   go_ret
   exact HE.out
end
end Go.Proofs.YtfinhpfjokpcfaaDoor
