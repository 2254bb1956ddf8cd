/- Parts of a proof. -/
import Derived.Test.YtfinhpfjokpcfaaGreatDoorQ02
set_option linter.unusedVariables false
set_option linter.unusedSimpArgs false
set_option maxHeartbeats 60000000
set_option maxRecDepth 100000
namespace Go.Proofs.YtfinhpfjokpcfaaGreatDoor
section
open Go.RowKit
def okC (c:HC):Prop:=1≤c.a∧c.a≤4294967296∧ -4294967296≤c.v∧c.v≤4294967296
def Sound (hs:List HC):Prop:=Stand hs∧∀i,i<hs.length→okC (hs.getD i hc0)
inductive OkWay (c:HC):Prop
 | ok (h1:¬c.a<1) (h2:¬c.a > 4294967296) (h3:¬c.v< -4294967296) (h4:¬c.v > 4294967296) (h:okC c):OkWay c
 | a1 (h1:c.a<1) (h:¬okC c):OkWay c
 | a2 (h1:¬c.a<1) (h2:c.a > 4294967296) (h:¬okC c):OkWay c
 | v1 (h1:¬c.a<1) (h2:¬c.a > 4294967296) (h3:c.v< -4294967296) (h:¬okC c):OkWay c
 | v2 (h1:¬c.a<1) (h2:¬c.a > 4294967296) (h3:¬c.v< -4294967296) (h4:c.v > 4294967296) (h:¬okC c):OkWay c
theorem ok_way (c:HC):OkWay c:=by
 by_cases h1:c.a<1
 ·exact .a1 h1 (fun h=>by unfold okC at h;omega)
 ·by_cases h2:c.a > 4294967296
  ·exact .a2 h1 h2 (fun h=>by unfold okC at h;omega)
  ·by_cases h3:c.v< -4294967296
   ·exact .v1 h1 h2 h3 (fun h=>by unfold okC at h;omega)
   ·by_cases h4:c.v > 4294967296
    ·exact .v2 h1 h2 h3 h4 (fun h=>by unfold okC at h;omega)
    ·exact .ok h1 h2 h3 h4 (by unfold okC;omega)
theorem rcheck_any (hs:List HC)(ad:Option Addr)(n cap:Nat)(w:World)(hn:hs.length=n)(hnm:n≤9223372036854775807)(hl:HLies w.heap.size w ad hs):
 Calls Tryz.prog 32 #[.slice ad n cap] w (BoolEnd (Sound hs) w):=by
 have HS:=Lib.hid (stands_any hs ad n cap w hn hnm hl)
 have HL:=Lib.hid hl
 have HN:=Lib.hid hn
 clear hl hn
 go_enter Tryz.func32,Tryz.ntmps32
 go_wp2_with fail
 refine HS.out.mono ?_
 rintro e w1 ⟨b,rfl,hst,hb1⟩
 cases b with
 | false=>
   have HE:Hid (BoolEnd (Sound hs) w (.returned (.bool false)) w1):=⟨false,rfl,⟨fun h=>(by cases h),fun h=>by have:=hst.2 h.1;cases this⟩,hb1⟩
   clear hst hb1 HS
   go_wp2_with fail
   go_ret
   exact HE.out
 | true=>
   have HST:=Lib.hid (hst.1 rfl)
   have B1:=Lib.hid hb1
   clear hst hb1 HS
   go_wp2_with fail
   go_loopw [4] (fun i wr=>∃k:Nat,i= .int .i64 k∧k≤n∧Hid (∀j,j<k→okC (hs.getD j hc0))∧Hid (Below w.heap.size w wr)) (fun i _=>n - (intOf i).toNat)
   case atStart=>exact⟨0,rfl,Nat.zero_le _,fun j hj=>absurd hj (Nat.not_lt_zero j),B1⟩
   case round=>
    obtain⟨k,rfl,hk,hok,hb⟩:=hrel
    by_cases hlt:k<n
    ·have hlti:(k:Int)<(n:Int):=by omega
     obtain⟨b3,off3,rfl,hb3,c1,c2,c3⟩:=HL.out k (by rw[HN.out];omega)
     have c1:=(hb.out.cell (p:=⟨b3,_,none⟩) hb3).trans c1
     have c3:=(hb.out.cell (p:=⟨b3,_,none⟩) hb3).trans c3
     have HNO:Hid (¬okC (hs.getD k hc0)→∀W,Below w.heap.size w W→BoolEnd (Sound hs) w (.returned (.bool false)) W):=fun h W hW=>⟨false,rfl,⟨fun h=>(by cases h),fun h'=>absurd (h'.2 k (by rw[HN.out];exact hlt)) h⟩,hW⟩
     have HOK:Hid (okC (hs.getD k hc0)→∀j,j<k+1→okC (hs.getD j hc0)):=fun h j hj=>by
      by_cases e:j=k
      ·subst e;exact h
      ·exact hok.out j (by omega)
     clear c2 hok
     generalize hs.getD k hc0=x at c1 c3 HNO HOK
     obtain⟨xa,xf,xv⟩:=x
     have hway:=ok_way ⟨xa,xf,xv⟩
     simp only at c1 c3
     cases hway with
     | ok h1 h2 h3 h4 h=>
       have HK:=Lib.hid (HOK.out h)
       simp only at h1 h2 h3 h4
       clear h HOK HNO
       go_wp2_with fail
       go_roundw
       case rel=>exact⟨k+1,by go_num,by omega,HK,hb⟩
       case measure=>simp[intOf];omega
     | a1 h1 h=>
       have HE:=Lib.hid (HNO.out h)
       simp only at h1
       clear h HOK HNO
       go_wp2_with fail
       go_ret
       exact HE.out _ hb.out
     | a2 h1 h2 h=>
       have HE:=Lib.hid (HNO.out h)
       simp only at h1 h2
       clear h HOK HNO
       go_wp2_with fail
       go_ret
       exact HE.out _ hb.out
     | v1 h1 h2 h3 h=>
       have HE:=Lib.hid (HNO.out h)
       simp only at h1 h2 h3
       clear h HOK HNO
       go_wp2_with fail
       go_ret
       exact HE.out _ hb.out
     | v2 h1 h2 h3 h4 h=>
       have HE:=Lib.hid (HNO.out h)
       simp only at h1 h2 h3 h4
       clear h HOK HNO
       go_wp2_with fail
       go_ret
       exact HE.out _ hb.out
    ·have hlti:¬(k:Int)<(n:Int):=by omega
     have HE:Hid (∀W,Below w.heap.size w W→BoolEnd (Sound hs) w (.returned (.bool true)) W):=fun W hW=>⟨true,rfl,⟨fun _=>⟨HST.out,fun i hi=>hok.out i (by rw[HN.out]at hi;omega)⟩,fun _=>rfl⟩,hW⟩
     go_wp2_with fail
     go_ret
     exact HE.out _ hb.out
def ErrEnd (p:Prop)(w:World)(e:Ending)(w':World):Prop:=(p∧e= .returned .nilIface∨¬p∧e= .returned (.iface 72 (.int .i64 5)))∧Below w.heap.size w w'
theorem check_any (hs:List HC)(ad:Option Addr)(n cap:Nat)(w:World)(hn:hs.length=n)(hnm:n≤9223372036854775807)(hl:HLies w.heap.size w ad hs):
 Calls Tryz.prog 30 #[.slice ad n cap] w (ErrEnd (Sound hs) w):=by
 have HO:=Lib.hid (fun a f b g W=>order_any a f b g W)
 have HL:=Lib.hid hl
 have HN:=Lib.hid hn
 clear hl hn
 go_enter Tryz.func30,Tryz.ntmps30
 go_wp2_with fail
 go_loopw [7] (fun i wr=>∃k:Nat,i= .int .i64 k∧k≤n∧Hid (∀j,j<k→okC (hs.getD j hc0))∧Hid (∀j,j+1<k→kl (hkey (hs.getD j hc0)) (hkey (hs.getD (j+1) hc0))=true)∧Hid (Below w.heap.size w wr)) (fun i _=>n - (intOf i).toNat)
 case atStart=>exact⟨0,rfl,Nat.zero_le _,fun j hj=>absurd hj (Nat.not_lt_zero j),fun j hj=>absurd hj (Nat.not_lt_zero _),Below.refl _ _⟩
 case round=>
  obtain⟨k,rfl,hk,hok,hst,hb⟩:=hrel
  by_cases hlt:k<n
  ·have hlti:(k:Int)<(n:Int):=by omega
   have HNO:Hid (¬okC (hs.getD k hc0)→∀W,Below w.heap.size w W→ErrEnd (Sound hs) w (.returned (.iface 72 (.int .i64 5))) W):=fun h W hW=>⟨.inr ⟨fun h'=>h (h'.2 k (by rw[HN.out];exact hlt)),rfl⟩,hW⟩
   have HOK:Hid (okC (hs.getD k hc0)→∀j,j<k+1→okC (hs.getD j hc0)):=fun h j hj=>by
    by_cases e:j=k
    ·subst e;exact h
    ·exact hok.out j (by omega)
   obtain⟨b3,off3,rfl,hb3,c1,c2,c3⟩:=HL.out k (by rw[HN.out];omega)
   have c1:=(hb.out.cell (p:=⟨b3,_,none⟩) hb3).trans c1
   have c2:=(hb.out.cell (p:=⟨b3,_,none⟩) hb3).trans c2
   have c3:=(hb.out.cell (p:=⟨b3,_,none⟩) hb3).trans c3
   have hb3r:=Nat.lt_of_lt_of_le hb3 hb.out.size
   rcases(show k=0∨∃m,k=m+1 from by cases k with | zero=>exact .inl rfl | succ m=>exact .inr ⟨m,rfl⟩)with rfl | ⟨m,rfl⟩
   ·have HST:Hid (∀j,j+1<0+1→kl (hkey (hs.getD j hc0)) (hkey (hs.getD (j+1) hc0))=true):=fun j hj=>by omega
    clear hok hst
    generalize hs.getD 0 hc0=x at c1 c2 c3 HNO HOK
    obtain⟨xa,xf,xv⟩:=x
    have hway:=ok_way ⟨xa,xf,xv⟩
    have HAL:Hid (Below w.heap.size w (wr.alloc (.cells #[.int .i64 xa,.string xf,.int .i64 xv] 67))):=hb.out.alloc hb.out.size _
    simp only[Nat.zero_mul,Nat.add_zero]at c1 c2 c3
    cases hway with
    | ok h1 h2 h3 h4 h=>
      have HK:=Lib.hid (HOK.out h)
      simp only at h1 h2 h3 h4
      clear h HOK HNO
      go_wp2_with fail
      go_quiet (fail)
      go_wp2_with fail
      go_roundw
      case rel=>exact⟨0+1,by go_num,by omega,HK,HST,below_drewN2 HAL.out _⟩
      case measure=>simp[intOf];omega
    | a1 h1 h=>
      have HE:=Lib.hid (HNO.out h)
      simp only at h1
      clear h HOK HNO
      go_wp2_with fail
      go_ret
      exact HE.out _ HAL.out
    | a2 h1 h2 h=>
      have HE:=Lib.hid (HNO.out h)
      simp only at h1 h2
      clear h HOK HNO
      go_wp2_with fail
      go_ret
      exact HE.out _ HAL.out
    | v1 h1 h2 h3 h=>
      have HE:=Lib.hid (HNO.out h)
      simp only at h1 h2 h3
      clear h HOK HNO
      go_wp2_with fail
      go_ret
      exact HE.out _ HAL.out
    | v2 h1 h2 h3 h4 h=>
      have HE:=Lib.hid (HNO.out h)
      simp only at h1 h2 h3 h4
      clear h HOK HNO
      go_wp2_with fail
      go_ret
      exact HE.out _ HAL.out
   ·obtain⟨b4,off4,he4,hb4,d1,d2,d3⟩:=HL.out m (by rw[HN.out];omega)
    obtain⟨rfl,rfl⟩:b3=b4∧off3=off4:=by injection he4 with e;injection e with e1 e2 e3;exact⟨e1,e2⟩
    have HST:Hid (kl (hkey (hs.getD m hc0)) (hkey (hs.getD (m+1) hc0))=true→∀j,j+1<m+1+1→kl (hkey (hs.getD j hc0)) (hkey (hs.getD (j+1) hc0))=true):=fun h j hj=>by
     by_cases e:j=m
     ·subst e;exact h
     ·exact hst.out j (by omega)
    have HNS:Hid (¬kl (hkey (hs.getD m hc0)) (hkey (hs.getD (m+1) hc0))=true→∀W,Below w.heap.size w W→ErrEnd (Sound hs) w (.returned (.iface 72 (.int .i64 5))) W):=fun h W hW=>⟨.inr ⟨fun h'=>h (h'.1 m (by rw[HN.out];omega)),rfl⟩,hW⟩
    clear hok hst he4 d3
    generalize hs.getD (m+1) hc0=x at c1 c2 c3 HNO HOK HST HNS
    generalize hs.getD m hc0=y at d1 d2 HST HNS
    obtain⟨xa,xf,xv⟩:=x
    obtain⟨ya,yf,yv⟩:=y
    have hway:=ok_way ⟨xa,xf,xv⟩
    have HAL:Hid (Below w.heap.size w (wr.alloc (.cells #[.int .i64 xa,.string xf,.int .i64 xv] 67))):=hb.out.alloc hb.out.size _
    have d1:=(HAL.out.cell (p:=⟨b3,_,none⟩) hb3).trans d1
    have d2:=(HAL.out.cell (p:=⟨b3,_,none⟩) hb3).trans d2
    have hwm:IntKind.i64.wrap (((m+1:Nat):Int) - 1)=(m:Int):=by rw[show((m+1:Nat):Int) - 1=(m:Int) by omega];exact IntWalk.i64_in _ (by omega)
    have hwm2:IntKind.i64.wrap ((m:Int)+1 - 1)=(m:Int):=by rw[show(m:Int)+1 - 1=(m:Int) by omega];exact IntWalk.i64_in _ (by omega)
    have hm0:((m+1:Nat):Int) > 0:=by omega
    have hm1:(0:Int)<(m:Int)+1:=by omega
    have hmn:(m:Int)<(n:Int):=by omega
    have hmn1:(m:Int)+1<(n:Int):=by omega
    cases hway with
    | ok h1 h2 h3 h4 h=>
      have HK:=Lib.hid (HOK.out h)
      simp only at h1 h2 h3 h4 d1 d2 c1 c2 c3
      have HC:=Lib.hid (HO.out ya yf xa xf)
      have HL0:=Lib.hid (ordK_lt (x:=(ya,yf.toList)) (y:=(xa,xf.toList)))
      have HST2:Hid (ordK (ya,yf.toList) (xa,xf.toList)<0→∀j,j+1<m+1+1→kl (hkey (hs.getD j hc0)) (hkey (hs.getD (j+1) hc0))=true):=fun h=>HST.out (HL0.out.1 h)
      have HNS2:Hid (¬ordK (ya,yf.toList) (xa,xf.toList)<0→∀W,Below w.heap.size w W→ErrEnd (Sound hs) w (.returned (.iface 72 (.int .i64 5))) W):=fun h=>HNS.out (fun h'=>h (HL0.out.2 h'))
      have HC:Hid (∀W,Calls Tryz.prog 45 #[.int .i64 ya,.string yf,.int .i64 xa,.string xf] W fun e w'=>e= .returned (.int .i64 (ordK (ya,yf.toList) (xa,xf.toList)))∧w'=W):=fun W=>(HC.out W).mono fun _ _ ⟨h1,h2⟩=>⟨h1,h2.symm⟩
      generalize ordK (ya,yf.toList) (xa,xf.toList)=z at HC HST2 HNS2
      clear h HOK HNO HST HNS HL0
      go_wp2_with fail
      go_quiet ((go_at_call 45;exact Calls.quiet_of_same (HC.out _)))
      by_cases hz:z<0
      ·have HS3:=Lib.hid (HST2.out hz)
       have hz2:¬z ≥ 0:=by omega
       have hz3:¬ 0≤z:=by omega
       clear HST2 HNS2
       go_wp2_with fail
       go_roundw
       case rel=>exact⟨m+1+1,by go_num,by omega,HK,HS3,below_drewN2 HAL.out _⟩
       case measure=>simp[intOf];omega
      ·have HS3:=Lib.hid (HNS2.out (by first | exact hz | omega))
       have hz2:z ≥ 0:=by omega
       have hz3:0≤z:=by omega
       clear HST2 HNS2
       go_wp2_with fail
       go_ret
       exact HS3.out _ (below_drewN2 HAL.out _)
    | a1 h1 h=>
      have HE:=Lib.hid (HNO.out h)
      simp only at h1
      clear h HOK HNO
      go_wp2_with fail
      go_ret
      exact HE.out _ HAL.out
    | a2 h1 h2 h=>
      have HE:=Lib.hid (HNO.out h)
      simp only at h1 h2
      clear h HOK HNO
      go_wp2_with fail
      go_ret
      exact HE.out _ HAL.out
    | v1 h1 h2 h3 h=>
      have HE:=Lib.hid (HNO.out h)
      simp only at h1 h2 h3
      clear h HOK HNO
      go_wp2_with fail
      go_ret
      exact HE.out _ HAL.out
    | v2 h1 h2 h3 h4 h=>
      have HE:=Lib.hid (HNO.out h)
      simp only at h1 h2 h3 h4
      clear h HOK HNO
      go_wp2_with fail
      go_ret
      exact HE.out _ HAL.out
  ·have hlti:¬(k:Int)<(n:Int):=by omega
   have HE:Hid (∀W,Below w.heap.size w W→ErrEnd (Sound hs) w (.returned .nilIface) W):=fun W hW=>⟨.inl ⟨⟨fun i hi=>hst.out i (by rw[HN.out]at hi;omega),fun i hi=>hok.out i (by rw[HN.out]at hi;omega)⟩,rfl⟩,hW⟩
   go_wp2_with fail
   go_ret
   exact HE.out _ hb.out
end
end Go.Proofs.YtfinhpfjokpcfaaGreatDoor
