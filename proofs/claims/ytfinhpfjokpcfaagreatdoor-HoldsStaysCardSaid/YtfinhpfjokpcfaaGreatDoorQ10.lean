/- Parts of a proof. -/
import Derived.Test.YtfinhpfjokpcfaaGreatDoorQ05
set_option linter.unusedVariables false
set_option linter.unusedSimpArgs false
set_option maxHeartbeats 60000000
set_option maxRecDepth 100000
namespace Go.Proofs.YtfinhpfjokpcfaaGreatDoor
section
open Go.RowKit
theorem dvd_next {s c a:Nat}(hc:s∣c)(ha:s∣a)(h:c<a):c+s≤a:=by
 obtain⟨j,rfl⟩:=hc
 obtain⟨k,rfl⟩:=ha
 have h1:j<k:=Nat.lt_of_mul_lt_mul_left h
 have h2:s*(j+1)≤s*k:=Nat.mul_le_mul_left s h1
 rw[Nat.mul_add,Nat.mul_one]at h2
 exact h2
theorem dvd_half {s c:Nat}(h:2*s∣c):s∣c:=Nat.dvd_trans ⟨2,Nat.mul_comm 2 s⟩ h
def Done (zs:List HC)(s a:Nat):Prop:=∀c,s∣c→c<a→SortedSeg zs c (c+s)
def Blk (zs:List HC)(s n:Nat):Prop:=∀c,s∣c→SortedSeg zs c (min (c+s) n)
theorem Done.zero (zs:List HC)(s:Nat):Done zs s 0:=fun c _ h=>absurd h (Nat.not_lt_zero c)
theorem Done.step {zs ys:List HC}{s a:Nat}(h:Done zs s a)(ha:s∣a)(hs:Seg zs ys a (a+s))(hk:SortedSeg ys a (a+s)):Done ys s (a+s):=fun c h1 h2=>by
 by_cases e:c<a
 ·exact(h c h1 e).seg hs (.inl (dvd_next h1 ha e))
 ·by_cases e2:c=a
  ·subst e2;exact hk
  ·have:=dvd_next ha h1 (by omega);omega
theorem Done.last {zs ys:List HC}{s a n:Nat}(h:Done zs s a)(ha:s∣a)(han:a≤n)(hn:n<a+s)(hs:Seg zs ys a n)(hk:SortedSeg ys a n):Blk ys s n:=fun c h1=>by
 by_cases e:c<a
 ·have h2:=dvd_next h1 ha e
  rw[Nat.min_eq_left (by omega)]
  exact(h c h1 e).seg hs (.inl h2)
 ·by_cases e2:c=a
  ·subst e2;rw[Nat.min_eq_right (by omega)];exact hk
  ·have:=dvd_next ha h1 (by omega)
   intro p q i1 i2 i3
   omega
def Rest (zs:List HC)(s a n:Nat):Prop:=∀c,s∣c→a≤c→SortedSeg zs c (min (c+s) n)
theorem Rest.seg {zs ys:List HC}{s a b n:Nat}(h:Rest zs s a n)(hs:Seg zs ys a b)(hab:a≤b):Rest ys s b n:=fun c h1 h2=>(h c h1 (by omega)).seg hs (.inr h2)
theorem Blk.rest {zs:List HC}{s n:Nat}(h:Blk zs s n):Rest zs s 0 n:=fun c h1 _=>h c h1
theorem Rest.one {zs:List HC}{s a n:Nat}(h:Rest zs s a n)(ha:2*s∣a):SortedSeg zs a (min (a+s) n):=h a (dvd_half ha) (Nat.le_refl _)
theorem Rest.two {zs:List HC}{s a n:Nat}(h:Rest zs s a n)(ha:2*s∣a):SortedSeg zs (a+s) (min (a+s+s) n):=h (a+s) (Nat.dvd_add (dvd_half ha) (Nat.dvd_refl s)) (by omega)
theorem stable_any (B g n cap:Nat)(xs:List HC)(w:World)(h:RowAt B g n cap xs w)(hn:n≤200)(hsym:∀d,SymSaid B g n cap d):
 Calls Tryz.prog 62 #[.slice (some ⟨g,0,none⟩) n cap,.int .i64 n,.func (.func 44) #[] #[]] w (SegEnd B g n cap xs 0 n w):=by
 have HH:=Lib.hid h
 have HSY:=Lib.hid hsym
 have HI:=Lib.hid (fun zs a b W h h1 h2=>isort_any B g n cap zs a b W h h1 h2 hn)
 have hn1:n<1000:=by omega
 clear h hsym
 have HN:Hid (n≤200):=hn
 have hwa:=wrap_add
 have hw20:∀p:Nat,p<1000→IntKind.i64.wrap ((p:Int)+20)=(p:Int)+20:=fun p h=>IntWalk.i64_in _ (by omega)
 have hw2:∀p:Nat,p<1000→IntKind.i64.wrap (2*(p:Int))=2*(p:Int):=fun p h=>IntWalk.i64_in _ (by omega)
 have hw3:∀p:Nat,p<1000→IntKind.i64.wrap ((p:Int)*2)=(p:Int)*2:=fun p h=>IntWalk.i64_in _ (by omega)
 clear hn
 go_enter Tryz.func62,Tryz.ntmps62
 go_wp2_with fail
 go_loopw [7,8] (fun va vb wr=>∃(a:Nat) (zs:List HC),va= .int .i64 a∧vb= .int .i64 ((a:Int)+20)∧a<1000∧Hid (a≤n∧20∣a)∧Hid (RowAt B g n cap zs wr∧Seg xs zs 0 n∧Done zs 20 a∧Below B w wr)) (fun va _ _=>n+20 - (intOf va).toNat)
 case atStart=>exact⟨0,xs,rfl,rfl,by omega,⟨Nat.zero_le _,⟨0,rfl⟩⟩,HH.out,Seg.refl _ _ _,Done.zero _ _,Below.refl _ _⟩
 case round=>
  obtain⟨a,zs,rfl,rfl,ha1,hadv,hrel⟩:=hrel
  by_cases hle:a+20≤n
  ·have hlei:(a:Int)+20≤(n:Int):=by omega
   have HC:Hid (Calls Tryz.prog 87 #[.slice (some ⟨g,0,none⟩) n cap,.int .i64 a,.int .i64 ((a:Int)+20),.func (.func 44) #[] #[]] wr (SegEnd B g n cap zs a (a+20) wr)):=HI.out zs a (a+20) wr hrel.out.1 (by omega) hle
   go_wp2_with fail
   refine HC.out.mono ?_
   rintro e5 w5 ⟨rfl,ys,t1,t2,t3,t4⟩
   have HFIN:Hid (RowAt B g n cap ys w5∧Seg xs ys 0 n∧Done ys 20 (a+20)∧Below B w w5):=⟨t1,hrel.out.2.1.trans (t2.mono (Nat.zero_le _) hle),hrel.out.2.2.1.step hadv.out.2 t2 t3,hrel.out.2.2.2.trans t4⟩
   clear t1 t2 t3 t4 HC hrel
   have HAD:Hid (a+20≤n∧20∣a+20):=⟨hle,Nat.dvd_add hadv.out.2 (Nat.dvd_refl _)⟩
   have hcast:(a:Int)+20=((a+20:Nat):Int):=by omega
   have hwb:IntKind.i64.wrap ((a:Int)+20+20)=(a:Int)+20+20:=IntWalk.i64_in _ (by omega)
   clear hcast
   go_wp2_with fail
   clear hwb hwa hw20 hw2 hw3
   go_roundw
   case rel=>exact⟨a+20,ys,by go_num,by go_num,by omega,HAD,HFIN⟩
   case measure=>simp[intOf];omega
  ·have hlei:¬(a:Int)+20≤(n:Int):=by omega
   have HC:Hid (Calls Tryz.prog 87 #[.slice (some ⟨g,0,none⟩) n cap,.int .i64 a,.int .i64 n,.func (.func 44) #[] #[]] wr (SegEnd B g n cap zs a n wr)):=HI.out zs a n wr hrel.out.1 hadv.out.1 (Nat.le_refl _)
   go_wp2_with fail
   refine HC.out.mono ?_
   rintro e5 w5 ⟨rfl,ys,t1,t2,t3,t4⟩
   have HFIN:Hid (RowAt B g n cap ys w5∧Seg xs ys 0 n∧Blk ys 20 n∧Below B w w5):=⟨t1,hrel.out.2.1.trans (t2.mono (Nat.zero_le _) (Nat.le_refl _)),hrel.out.2.2.1.last hadv.out.2 hadv.out.1 (by omega) t2 t3,hrel.out.2.2.2.trans t4⟩
   clear t1 t2 t3 t4 HC hrel
   clear hlei hle hadv
   go_wp2_with fail
   go_loopw [6] (fun vs wr=>∃(s:Nat) (zs:List HC),vs= .int .i64 s∧0<s∧s<1000∧Hid (RowAt B g n cap zs wr∧Seg xs zs 0 n∧Blk zs s n∧Below B w wr)) (fun vs _=>n - (intOf vs).toNat)
   case atStart=>exact⟨20,ys,rfl,by omega,by omega,HFIN⟩
   case round=>
    obtain⟨s,zs,rfl,hs0,hs1,hrel⟩:=hrel
    clear HFIN
    by_cases hlt:s<n
    ·have hlti:(s:Int)<(n:Int):=by omega
     have hs200:s<200:=by have:=HN.out;omega
     have hrel0:=Lib.hid hrel.out
     clear hrel
     go_wp2_with fail
     go_loopw [7,8] (fun va vb wr=>∃(a:Nat) (zs:List HC),va= .int .i64 a∧vb= .int .i64 ((a:Int)+2*(s:Int))∧a<400∧Hid (a≤n∧2*s∣a)∧Hid (RowAt B g n cap zs wr∧Seg xs zs 0 n∧Done zs (2*s) a∧Rest zs s a n∧Below B w wr)) (fun va _ _=>n+1000 - (intOf va).toNat)
     case atStart=>exact⟨0,zs,rfl,by simp,by omega,⟨Nat.zero_le _,⟨0,rfl⟩⟩,hrel0.out.1,hrel0.out.2.1,Done.zero _ _,hrel0.out.2.2.1.rest,hrel0.out.2.2.2⟩
     case round=>
      obtain⟨a,zs,rfl,rfl,ha1,hadv,hrel⟩:=hrel
      clear hrel0
      by_cases hle:a+2*s≤n
      ·have hlei:(a:Int)+2*(s:Int)≤(n:Int):=by omega
       have HC:Hid (Calls Tryz.prog 88 #[.slice (some ⟨g,0,none⟩) n cap,.int .i64 a,.int .i64 ((a:Int)+(s:Int)),.int .i64 ((a:Int)+2*(s:Int)),.func (.func 44) #[] #[]] wr (SegEnd B g n cap zs a (a+2*s) wr)):=by
        have h1:=hrel.out.2.2.2.1.one hadv.out.2
        have h2:=hrel.out.2.2.2.1.two hadv.out.2
        rw[Nat.min_eq_left (by omega)]at h1 h2
        have h3:=HSY.out (a+2*s - a+1) zs a (a+s) (a+2*s) wr (by omega) hrel.out.1 (by omega) (by omega) hle h1 (by rw[show a+2*s=a+s+s by omega];exact h2)
        rw[show((a+s:Nat):Int)=(a:Int)+(s:Int) by omega,show((a+2*s:Nat):Int)=(a:Int)+2*(s:Int) by omega]at h3
        exact h3
       have HFIN:Hid (∀ys W,RowAt B g n cap ys W→Seg zs ys a (a+2*s)→SortedSeg ys a (a+2*s)→Below B wr W→RowAt B g n cap ys W∧Seg xs ys 0 n∧Done ys (2*s) (a+2*s)∧Rest ys s (a+2*s) n∧Below B w W):=fun ys W t1 t2 t3 t4=>by
        obtain⟨r1,r2,r3,r4,r5⟩:=hrel.out
        exact⟨t1,r2.trans (t2.mono (Nat.zero_le _) hle),r3.step hadv.out.2 t2 t3,r4.seg t2 (by omega),r5.trans t4⟩
       have HAD:Hid (a+2*s≤n∧2*s∣a+2*s):=⟨hle,Nat.dvd_add hadv.out.2 (Nat.dvd_refl _)⟩
       have hwb:IntKind.i64.wrap ((a:Int)+2*(s:Int)+2*(s:Int))=(a:Int)+2*(s:Int)+2*(s:Int):=IntWalk.i64_in _ (by omega)
       clear hrel hadv
       go_wp2_with fail
       refine HC.out.mono ?_
       rintro e5 w5 ⟨rfl,ys,t1,t2,t3,t4⟩
       have HFIN:=Lib.hid (HFIN.out ys w5 t1 t2 t3 t4)
       clear t1 t2 t3 t4 HC
       go_wp2_with fail
       clear hwb hwa hw20 hw2 hw3
       go_roundw
       case rel=>exact⟨a+2*s,ys,by go_num,by go_num,by have:=HAD.out;have:=HN.out;omega,HAD,HFIN⟩
       case measure=>simp[intOf];omega
      ·have hlei:¬(a:Int)+2*(s:Int)≤(n:Int):=by omega
       by_cases hm:a+s<n
       ·have hmi:(a:Int)+(s:Int)<(n:Int):=by omega
        have HC:Hid (Calls Tryz.prog 88 #[.slice (some ⟨g,0,none⟩) n cap,.int .i64 a,.int .i64 ((a:Int)+(s:Int)),.int .i64 n,.func (.func 44) #[] #[]] wr (SegEnd B g n cap zs a n wr)):=by
         have h1:=hrel.out.2.2.2.1.one hadv.out.2
         have h2:=hrel.out.2.2.2.1.two hadv.out.2
         rw[Nat.min_eq_left (by omega)]at h1
         rw[Nat.min_eq_right (by omega)]at h2
         have h3:=HSY.out (n - a+1) zs a (a+s) n wr (by omega) hrel.out.1 (by omega) hm (Nat.le_refl _) h1 h2
         rw[show((a+s:Nat):Int)=(a:Int)+(s:Int) by omega]at h3
         exact h3
        have HFIN:Hid (∀ys W,RowAt B g n cap ys W→Seg zs ys a n→SortedSeg ys a n→Below B wr W→RowAt B g n cap ys W∧Seg xs ys 0 n∧Blk ys (s*2) n∧Below B w W):=fun ys W t1 t2 t3 t4=>by
         obtain⟨r1,r2,r3,r4,r5⟩:=hrel.out
         rw[Nat.mul_comm s 2]
         exact⟨t1,r2.trans (t2.mono (Nat.zero_le _) (Nat.le_refl _)),r3.last hadv.out.2 hadv.out.1 (by omega) t2 t3,r5.trans t4⟩
        clear hrel hadv
        go_wp2_with fail
        refine HC.out.mono ?_
        rintro e5 w5 ⟨rfl,ys,t1,t2,t3,t4⟩
        have HFIN:=Lib.hid (HFIN.out ys w5 t1 t2 t3 t4)
        clear t1 t2 t3 t4 HC
        go_wp2_with fail
        clear hwa hw20 hw2 hw3
        go_roundw
        case rel=>exact⟨s*2,ys,by go_num,by omega,by omega,HFIN⟩
        case measure=>simp[intOf];omega
       ·have hmi:¬(a:Int)+(s:Int)<(n:Int):=by omega
        have HFIN:Hid (RowAt B g n cap zs wr∧Seg xs zs 0 n∧Blk zs (s*2) n∧Below B w wr):=by
         obtain⟨r1,r2,r3,r4,r5⟩:=hrel.out
         have h1:=r4.one hadv.out.2
         rw[Nat.min_eq_right (by omega)]at h1
         rw[Nat.mul_comm s 2]
         exact⟨r1,r2,r3.last hadv.out.2 hadv.out.1 (by omega) (Seg.refl _ _ _) h1,r5⟩
        clear hrel hadv
        go_wp2_with fail
        clear hwa hw20 hw2 hw3
        go_roundw
        case rel=>exact⟨s*2,zs,by go_num,by omega,by omega,HFIN⟩
        case measure=>simp[intOf];omega
    ·have hlti:¬(s:Int)<(n:Int):=by omega
     have HE:Hid (SegEnd B g n cap xs 0 n w (.returned (.tuple #[])) wr):=by
      obtain⟨t1,t2,t3,t4⟩:=hrel.out
      have h1:=t3 0 ⟨0,rfl⟩
      rw[Nat.min_eq_right (by omega)]at h1
      exact⟨rfl,zs,t1,t2,h1,t4⟩
     clear hrel
     go_wp2_with fail
     go_end0
     exact HE.out
end
end Go.Proofs.YtfinhpfjokpcfaaGreatDoor
