/- Parts of a proof. -/
import Derived.Test.YtfinhpfjokpcfaaDoorQ03
set_option linter.unusedVariables false
set_option linter.unusedSimpArgs false
set_option maxHeartbeats 60000000
set_option maxRecDepth 100000
namespace Go.Proofs.YtfinhpfjokpcfaaDoor
section
open Go.RowKit
theorem symm_right (B g n cap:Nat)(xs:List HC)(a b:Nat)(w:World)(h:RowAt B g n cap xs w)(hab:a+1<b)(hbn:b≤n)(hn:n≤200)(hs:SortedSeg xs (a+1) b):
 Calls Tryd.prog 47 #[.slice (some ⟨g,0,none⟩) n cap,.int .i64 a,.int .i64 ((a:Int)+1),.int .i64 b,.func (.func 22) #[] #[]] w (SegEnd B g n cap xs a b w):=by
 have HH:=Lib.hid h
 have HS:=Lib.hid hs
 have HJ:=Lib.hid (fun x y W=>jcmp_any x y W)
 clear h hs
 have ha1:a<1000:=by omega
 have hb1:b<1000:=by omega
 have hone:IntKind.i64.wrap ((a:Int)+1 - (a:Int))=1:=by rw[show(a:Int)+1 - (a:Int)=1 by omega];rfl
 go_enter Tryd.func47,Tryd.ntmps47
 go_wp2_with fail
 clear hone
 have hi1:∀k:Nat,k<1000→IntKind.i64.wrap ((k:Int)+1)=(k:Int)+1:=fun k h=>(ifacts k h).2.2.2.2.1
 have hi2:∀k:Nat,k<1000→IntKind.i64.wrap ((k:Int)+1 - 1)=(k:Int):=fun k h=>(ifacts k h).2.1
 have hi3:∀k:Nat,k<1000→IntKind.i64.wrap (k:Int)=(k:Int):=fun k h=>(ifacts k h).2.2.1
 have hi4:∀k:Nat,k<1000→wrap64 (k:Int)=(k:Int):=fun k h=>(ifacts k h).2.2.2.1
 have hwa:=wrap_add
 have HF:Hid (a+1<b∧b≤n∧n≤200):=⟨hab,hbn,hn⟩
 clear hab hbn hn
 go_loopw [10,11] (fun vi vj wr=>∃(p q:Nat),vi= .int .i64 ((p:Int)+1)∧vj= .int .i64 q∧p<999∧q<1000∧Hid (a≤p∧p+1≤q∧q≤b∧(a<p→le (at' xs p) (at' xs a))∧(q<b→le (at' xs a) (at' xs q)))∧Hid (RowAt B g n cap xs wr∧Below B w wr)) (fun vi vj _=>(intOf vj - intOf vi).toNat)
 case atStart=>exact⟨a,b,rfl,rfl,by have:=HF.out;omega,hb1,⟨Nat.le_refl _,by have:=HF.out;omega,Nat.le_refl _,fun h=>absurd h (Nat.lt_irrefl _),fun h=>absurd h (Nat.lt_irrefl _)⟩,HH.out,Below.refl _ _⟩
 case round=>
  obtain⟨p,q,rfl,rfl,hp1,hq1,hpq,hrel⟩:=hrel
  by_cases hlt:p+1<q
  ·have hlti:(p:Int)+1<(q:Int):=by omega
   obtain⟨h,hh⟩:∃h,(p+1+q) / 2=h:=⟨_,rfl⟩
   have hhi:((p:Int)+1+(q:Int)) / 2=(h:Int):=by omega
   have hsum:IntKind.i64.wrap ((p:Int)+1+(q:Int))=(p:Int)+1+(q:Int):=IntWalk.i64_in _ (by omega)
   have HHB:Hid (p+1≤h∧h<q):=⟨by omega,by omega⟩
   have hh1:h<1000:=by omega
   have hhn:h<n:=by have:=HF.out;have:=hpq.out;omega
   have hhni:(h:Int)<(n:Int):=by omega
   have hani:(a:Int)<(n:Int):=by have:=HF.out;omega
   have hh0:¬(h:Int)<0:=by omega
   have ha0:¬(a:Int)<0:=by omega
   obtain⟨c1,c2,c3⟩:=hrel.out.1.cells (i:=h) hhn
   obtain⟨d1,d2,d3⟩:=hrel.out.1.cells (i:=a) (by omega)
   have HC:Hid (∀W,Calls Tryd.prog 22 #[.agg #[.int .i64 (at' xs h).a,.string (at' xs h).f,.int .i64 (at' xs h).v],.agg #[.int .i64 (at' xs a).a,.string (at' xs a).f,.int .i64 (at' xs a).v]] W fun e w'=>e= .returned (.int .i64 (ordK (hkey (at' xs h)) (hkey (at' xs a))))∧Below W.heap.size W w'):=HJ.out _ _
   have HLT:Hid (ordK (hkey (at' xs h)) (hkey (at' xs a))<0→a≤h∧h+1≤q∧q≤b∧(a<h→le (at' xs h) (at' xs a))∧(q<b→le (at' xs a) (at' xs q))):=fun ho=>by
    have h1:=hpq.out
    have h2:=HHB.out
    exact⟨by omega,by omega,h1.2.2.1,fun _=>le_of_lt (ordK_lt.1 ho),h1.2.2.2.2⟩
   have HGE:Hid (¬ordK (hkey (at' xs h)) (hkey (at' xs a))<0→a≤p∧p+1≤h∧h≤b∧(a<p→le (at' xs p) (at' xs a))∧(h<b→le (at' xs a) (at' xs h))):=fun ho=>by
    have h1:=hpq.out
    have h2:=HHB.out
    exact⟨h1.1,h2.1,by omega,h1.2.2.2.1,fun _=>fun hk=>ho (ordK_lt.2 hk)⟩
   have HRB:=Lib.hid (fun d os=>(⟨hrel.out.1.below (below_regrown wr d os),regrown_trV hrel.out.2 (Nat.le_of_lt (Nat.lt_of_le_of_lt hrel.out.1.low.1 hrel.out.1.low.2)) d os⟩:RowAt B g n cap xs (Go.Sort.grow (redrawn wr d) os)∧Below B w (Go.Sort.grow (redrawn wr d) os)))
   clear hrel HH HS HJ
   generalize ordK (hkey (at' xs h)) (hkey (at' xs a))=o at HC HLT HGE
   generalize at' xs h=x at c1 c2 c3 HC
   generalize at' xs a=y at d1 d2 d3 HC HLT HGE
   obtain⟨xa,xf,xv⟩:=x
   obtain⟨ya,yf,yv⟩:=y
   simp only at c1 c2 c3 d1 d2 d3
   have cJ:=fun d os=>Calls.regrown_of (HC.out (Go.Sort.grow (redrawn wr d) os))
   have r1:=fun d os=>cell_regrown c1 d os
   have r2:=fun d os=>cell_regrown c2 d os
   have r3:=fun d os=>cell_regrown c3 d os
   have r4:=fun d os=>cell_regrown d1 d os
   have r5:=fun d os=>cell_regrown d2 d os
   have r6:=fun d os=>cell_regrown d3 d os
   go_wp2_with fail
   refine wp_region_quiet_below (by kernel_rfl) (by kernel_rfl) ?_
   repeat (go_big_quiet_step (with_reducible exact cJ _ _))
   refine wpQuiet_nil ?_
   intro _ hw'
   obtain⟨⟨dq,osq⟩,hw''⟩:=hw'
   subst hw''
   have HRB:=Lib.hid (HRB.out dq osq)
   clear r1 r2 r3 r4 r5 r6 c1 c2 c3 d1 d2 d3 cJ HC
   by_cases ho:o<0
   ·have HL2:=Lib.hid (HLT.out ho)
    clear HLT HGE
    generalize Go.Sort.grow (redrawn wr dq) osq=W0 at HRB⊢
    go_wp2_with fail
    clear hsum hi1 hi2 hi3 hi4 hwa
    go_roundw
    case rel=>exact⟨h,q,rfl,rfl,by have:=HHB.out;omega,hq1,HL2,HRB⟩
    case measure=>have:=HHB.out;simp[intOf];omega
   ·have HL2:=Lib.hid (HGE.out (by first | exact ho | omega))
    clear HLT HGE
    generalize Go.Sort.grow (redrawn wr dq) osq=W0 at HRB⊢
    go_wp2_with fail
    clear hsum hi1 hi2 hi3 hi4 hwa
    go_roundw
    case rel=>exact⟨p,h,rfl,rfl,hp1,hh1,HL2,HRB⟩
    case measure=>have:=HHB.out;simp[intOf];omega
  ·have hlti:¬(p:Int)+1<(q:Int):=by omega
   have HP:Hid (a≤p∧p+1≤b∧(a<p→le (at' xs p) (at' xs a))∧(p+1<b→le (at' xs a) (at' xs (p+1)))):=by
    have h1:=hpq.out
    obtain rfl:q=p+1:=by omega
    exact⟨h1.1,h1.2.2.1,h1.2.2.2.1,h1.2.2.2.2⟩
   go_wp2_with fail
   clear hpq
   go_loopw [13] (fun vk wk=>∃(k:Nat) (zs:List HC),vk= .int .i64 k∧k≤p∧Hid (a≤k)∧Hid (RowAt B g n cap zs wk∧Seg xs zs a b∧Mov xs zs (rotI a (a+1) (k+1))∧Below B w wk)) (fun vk _=>p - (intOf vk).toNat)
   case atStart=>exact⟨a,xs,rfl,HP.out.1,Nat.le_refl _,hrel.out.1,Seg.refl _ _ _,Mov.none (.inr rfl) (by omega) (Nat.le_refl _),hrel.out.2⟩
   case round=>
    obtain⟨k,zs,rfl,hkp,hak,hrelk⟩:=hrel
    by_cases hk:k<p
    ·have hki:(k:Int)<(p:Int):=by omega
     have hkn:k+1<n:=by have:=HF.out;have:=HP.out;omega
     have hkni:(k:Int)+1<(n:Int):=by omega
     have hkni2:(k:Int)<(n:Int):=by omega
     have hk0:¬(k:Int)+1<0:=by omega
     have hk1:k<1000:=by omega
     have HFIN:Hid (RowAt B g n cap (swp zs k (k+1)) (put3 (put3 wr g k (at' zs (k+1))) g (k+1) (at' zs k)).drew∧Seg xs (swp zs k (k+1)) a b∧Mov xs (swp zs k (k+1)) (rotI a (a+1) (k+1+1))∧Below B w (put3 (put3 wr g k (at' zs (k+1))) g (k+1) (at' zs k)).drew):=by
      obtain⟨t1,t2,t3,t4⟩:=hrelk.out
      have h0:=HF.out
      have h1:=HP.out
      have h2:=hak.out
      obtain⟨s1,s2⟩:=t1.swap (i:=k) (j:=k+1) (by omega) hkn
      exact⟨s1.below (Below.refl _ _).drew,t2.swap (by rw[t1.len];omega) (by rw[t1.len];omega) ⟨by omega,by omega⟩ ⟨by omega,by omega⟩,t3.stepR h2 (by rw[t1.len];exact hkn),t4.trans s2.drew⟩
     have HAK:Hid (a≤k+1):=by have:=hak.out;exact Nat.le_succ_of_le this
     obtain⟨c1,c2,c3⟩:=hrelk.out.1.cells (i:=k) (by omega)
     obtain⟨d1,d2,d3⟩:=hrelk.out.1.cells (i:=k+1) hkn
     have f1:=hrelk.out.1.frozen
     clear hrelk HP HH HS HJ hak
     generalize swp zs k (k+1)=zs' at HFIN
     generalize at' zs k=x at c1 c2 c3 HFIN
     generalize at' zs (k+1)=y at d1 d2 d3 HFIN
     obtain⟨xa,xf,xv⟩:=x
     obtain⟨ya,yf,yv⟩:=y
     simp only at c1 c2 c3 d1 d2 d3
     go_wp2_with fail
     go_region
     all_goals
      clear f1 c1 c2 c3 d1 d2 d3
      go_wp2_with fail
      clear hi1 hi2 hi3 hi4 hwa
      go_roundw
      case rel=>exact⟨k+1,_,by go_num,hk,HAK,HFIN⟩
      case measure=>simp[intOf];omega
    ·obtain rfl:k=p:=by omega
     have hki:¬(k:Int)<(k:Int):=by omega
     have HE:Hid (SegEnd B g n cap xs a b w (.returned (.tuple #[])) wr):=by
      obtain⟨t1,t2,t3,t4⟩:=hrelk.out
      obtain⟨u1,u2,u3,u4⟩:=HP.out
      exact⟨rfl,zs,t1,t2,one_right HS.out (by omega) u2 (fun h=>by rw[Nat.add_sub_cancel];exact u3 (by omega)) u4 t3,t4⟩
     clear hrelk HP
     go_wp2_with fail
     go_end0
     exact HE.out
end
section
open Go.RowKit
theorem dvd_next {s c a:Nat}(hc:s∣c)(ha:s∣a)(h:c<a):c+s≤a:=by
 obtain⟨j,rfl⟩:=hc
 obtain⟨k,rfl⟩:=ha
 have h1:j<k:=Nat.lt_of_mul_lt_mul_left h
 have h2:s*(j+1)≤s*k:=Nat.mul_le_mul_left s h1
 rw[Nat.mul_add,Nat.mul_one]at h2
 exact h2
theorem dvd_half {s c:Nat}(h:2*s∣c):s∣c:=Nat.dvd_trans ⟨2,Nat.mul_comm 2 s⟩ h
def Done (zs:List HC)(s a:Nat):Prop:=∀c,s∣c→c<a→SortedSeg zs c (c+s)
def Blk (zs:List HC)(s n:Nat):Prop:=∀c,s∣c→SortedSeg zs c (min (c+s) n)
theorem Done.zero (zs:List HC)(s:Nat):Done zs s 0:=fun c _ h=>absurd h (Nat.not_lt_zero c)
theorem Done.step {zs ys:List HC}{s a:Nat}(h:Done zs s a)(ha:s∣a)(hs:Seg zs ys a (a+s))(hk:SortedSeg ys a (a+s)):Done ys s (a+s):=fun c h1 h2=>by
 by_cases e:c<a
 ·exact(h c h1 e).seg hs (.inl (dvd_next h1 ha e))
 ·by_cases e2:c=a
  ·subst e2;exact hk
  ·have:=dvd_next ha h1 (by omega);omega
theorem Done.last {zs ys:List HC}{s a n:Nat}(h:Done zs s a)(ha:s∣a)(han:a≤n)(hn:n<a+s)(hs:Seg zs ys a n)(hk:SortedSeg ys a n):Blk ys s n:=fun c h1=>by
 by_cases e:c<a
 ·have h2:=dvd_next h1 ha e
  rw[Nat.min_eq_left (by omega)]
  exact(h c h1 e).seg hs (.inl h2)
 ·by_cases e2:c=a
  ·subst e2;rw[Nat.min_eq_right (by omega)];exact hk
  ·have:=dvd_next ha h1 (by omega)
   intro p q i1 i2 i3
   omega
def Rest (zs:List HC)(s a n:Nat):Prop:=∀c,s∣c→a≤c→SortedSeg zs c (min (c+s) n)
theorem Rest.seg {zs ys:List HC}{s a b n:Nat}(h:Rest zs s a n)(hs:Seg zs ys a b)(hab:a≤b):Rest ys s b n:=fun c h1 h2=>(h c h1 (by omega)).seg hs (.inr h2)
theorem Blk.rest {zs:List HC}{s n:Nat}(h:Blk zs s n):Rest zs s 0 n:=fun c h1 _=>h c h1
theorem Rest.one {zs:List HC}{s a n:Nat}(h:Rest zs s a n)(ha:2*s∣a):SortedSeg zs a (min (a+s) n):=h a (dvd_half ha) (Nat.le_refl _)
theorem Rest.two {zs:List HC}{s a n:Nat}(h:Rest zs s a n)(ha:2*s∣a):SortedSeg zs (a+s) (min (a+s+s) n):=h (a+s) (Nat.dvd_add (dvd_half ha) (Nat.dvd_refl s)) (by omega)
theorem stable_any (B g n cap:Nat)(xs:List HC)(w:World)(h:RowAt B g n cap xs w)(hn:n≤200)(hsym:∀d,SymSaid B g n cap d):
 Calls Tryd.prog 33 #[.slice (some ⟨g,0,none⟩) n cap,.int .i64 n,.func (.func 22) #[] #[]] w (SegEnd B g n cap xs 0 n w):=by
 have HH:=Lib.hid h
 have HSY:=Lib.hid hsym
 have HI:=Lib.hid (fun zs a b W h h1 h2=>isort_any B g n cap zs a b W h h1 h2 hn)
 have hn1:n<1000:=by omega
 clear h hsym
 have HN:Hid (n≤200):=hn
 have hwa:=wrap_add
 have hw20:∀p:Nat,p<1000→IntKind.i64.wrap ((p:Int)+20)=(p:Int)+20:=fun p h=>IntWalk.i64_in _ (by omega)
 have hw2:∀p:Nat,p<1000→IntKind.i64.wrap (2*(p:Int))=2*(p:Int):=fun p h=>IntWalk.i64_in _ (by omega)
 have hw3:∀p:Nat,p<1000→IntKind.i64.wrap ((p:Int)*2)=(p:Int)*2:=fun p h=>IntWalk.i64_in _ (by omega)
 clear hn
 go_enter Tryd.func33,Tryd.ntmps33
 go_wp2_with fail
 go_loopw [7,8] (fun va vb wr=>∃(a:Nat) (zs:List HC),va= .int .i64 a∧vb= .int .i64 ((a:Int)+20)∧a<1000∧Hid (a≤n∧20∣a)∧Hid (RowAt B g n cap zs wr∧Seg xs zs 0 n∧Done zs 20 a∧Below B w wr)) (fun va _ _=>n+20 - (intOf va).toNat)
 case atStart=>exact⟨0,xs,rfl,rfl,by omega,⟨Nat.zero_le _,⟨0,rfl⟩⟩,HH.out,Seg.refl _ _ _,Done.zero _ _,Below.refl _ _⟩
 case round=>
  obtain⟨a,zs,rfl,rfl,ha1,hadv,hrel⟩:=hrel
  by_cases hle:a+20≤n
  ·have hlei:(a:Int)+20≤(n:Int):=by omega
   have HC:Hid (Calls Tryd.prog 46 #[.slice (some ⟨g,0,none⟩) n cap,.int .i64 a,.int .i64 ((a:Int)+20),.func (.func 22) #[] #[]] wr (SegEnd B g n cap zs a (a+20) wr)):=HI.out zs a (a+20) wr hrel.out.1 (by omega) hle
   go_wp2_with fail
   refine HC.out.mono ?_
   rintro e5 w5 ⟨rfl,ys,t1,t2,t3,t4⟩
   have HFIN:Hid (RowAt B g n cap ys w5∧Seg xs ys 0 n∧Done ys 20 (a+20)∧Below B w w5):=⟨t1,hrel.out.2.1.trans (t2.mono (Nat.zero_le _) hle),hrel.out.2.2.1.step hadv.out.2 t2 t3,hrel.out.2.2.2.trans t4⟩
   clear t1 t2 t3 t4 HC hrel
   have HAD:Hid (a+20≤n∧20∣a+20):=⟨hle,Nat.dvd_add hadv.out.2 (Nat.dvd_refl _)⟩
   have hcast:(a:Int)+20=((a+20:Nat):Int):=by omega
   have hwb:IntKind.i64.wrap ((a:Int)+20+20)=(a:Int)+20+20:=IntWalk.i64_in _ (by omega)
   clear hcast
   go_wp2_with fail
   clear hwb hwa hw20 hw2 hw3
   go_roundw
   case rel=>exact⟨a+20,ys,by go_num,by go_num,by omega,HAD,HFIN⟩
   case measure=>simp[intOf];omega
  ·have hlei:¬(a:Int)+20≤(n:Int):=by omega
   have HC:Hid (Calls Tryd.prog 46 #[.slice (some ⟨g,0,none⟩) n cap,.int .i64 a,.int .i64 n,.func (.func 22) #[] #[]] wr (SegEnd B g n cap zs a n wr)):=HI.out zs a n wr hrel.out.1 hadv.out.1 (Nat.le_refl _)
   go_wp2_with fail
   refine HC.out.mono ?_
   rintro e5 w5 ⟨rfl,ys,t1,t2,t3,t4⟩
   have HFIN:Hid (RowAt B g n cap ys w5∧Seg xs ys 0 n∧Blk ys 20 n∧Below B w w5):=⟨t1,hrel.out.2.1.trans (t2.mono (Nat.zero_le _) (Nat.le_refl _)),hrel.out.2.2.1.last hadv.out.2 hadv.out.1 (by omega) t2 t3,hrel.out.2.2.2.trans t4⟩
   clear t1 t2 t3 t4 HC hrel
   clear hlei hle hadv
   go_wp2_with fail
   go_loopw [6] (fun vs wr=>∃(s:Nat) (zs:List HC),vs= .int .i64 s∧0<s∧s<1000∧Hid (RowAt B g n cap zs wr∧Seg xs zs 0 n∧Blk zs s n∧Below B w wr)) (fun vs _=>n - (intOf vs).toNat)
   case atStart=>exact⟨20,ys,rfl,by omega,by omega,HFIN⟩
   case round=>
    obtain⟨s,zs,rfl,hs0,hs1,hrel⟩:=hrel
    clear HFIN
    by_cases hlt:s<n
    ·have hlti:(s:Int)<(n:Int):=by omega
     have hs200:s<200:=by have:=HN.out;omega
     have hrel0:=Lib.hid hrel.out
     clear hrel
     go_wp2_with fail
     go_loopw [7,8] (fun va vb wr=>∃(a:Nat) (zs:List HC),va= .int .i64 a∧vb= .int .i64 ((a:Int)+2*(s:Int))∧a<400∧Hid (a≤n∧2*s∣a)∧Hid (RowAt B g n cap zs wr∧Seg xs zs 0 n∧Done zs (2*s) a∧Rest zs s a n∧Below B w wr)) (fun va _ _=>n+1000 - (intOf va).toNat)
     case atStart=>exact⟨0,zs,rfl,by simp,by omega,⟨Nat.zero_le _,⟨0,rfl⟩⟩,hrel0.out.1,hrel0.out.2.1,Done.zero _ _,hrel0.out.2.2.1.rest,hrel0.out.2.2.2⟩
     case round=>
      obtain⟨a,zs,rfl,rfl,ha1,hadv,hrel⟩:=hrel
      clear hrel0
      by_cases hle:a+2*s≤n
      ·have hlei:(a:Int)+2*(s:Int)≤(n:Int):=by omega
       have HC:Hid (Calls Tryd.prog 47 #[.slice (some ⟨g,0,none⟩) n cap,.int .i64 a,.int .i64 ((a:Int)+(s:Int)),.int .i64 ((a:Int)+2*(s:Int)),.func (.func 22) #[] #[]] wr (SegEnd B g n cap zs a (a+2*s) wr)):=by
        have h1:=hrel.out.2.2.2.1.one hadv.out.2
        have h2:=hrel.out.2.2.2.1.two hadv.out.2
        rw[Nat.min_eq_left (by omega)]at h1 h2
        have h3:=HSY.out (a+2*s - a+1) zs a (a+s) (a+2*s) wr (by omega) hrel.out.1 (by omega) (by omega) hle h1 (by rw[show a+2*s=a+s+s by omega];exact h2)
        rw[show((a+s:Nat):Int)=(a:Int)+(s:Int) by omega,show((a+2*s:Nat):Int)=(a:Int)+2*(s:Int) by omega]at h3
        exact h3
       have HFIN:Hid (∀ys W,RowAt B g n cap ys W→Seg zs ys a (a+2*s)→SortedSeg ys a (a+2*s)→Below B wr W→RowAt B g n cap ys W∧Seg xs ys 0 n∧Done ys (2*s) (a+2*s)∧Rest ys s (a+2*s) n∧Below B w W):=fun ys W t1 t2 t3 t4=>by
        obtain⟨r1,r2,r3,r4,r5⟩:=hrel.out
        exact⟨t1,r2.trans (t2.mono (Nat.zero_le _) hle),r3.step hadv.out.2 t2 t3,r4.seg t2 (by omega),r5.trans t4⟩
       have HAD:Hid (a+2*s≤n∧2*s∣a+2*s):=⟨hle,Nat.dvd_add hadv.out.2 (Nat.dvd_refl _)⟩
       have hwb:IntKind.i64.wrap ((a:Int)+2*(s:Int)+2*(s:Int))=(a:Int)+2*(s:Int)+2*(s:Int):=IntWalk.i64_in _ (by omega)
       clear hrel hadv
       go_wp2_with fail
       refine HC.out.mono ?_
       rintro e5 w5 ⟨rfl,ys,t1,t2,t3,t4⟩
       have HFIN:=Lib.hid (HFIN.out ys w5 t1 t2 t3 t4)
       clear t1 t2 t3 t4 HC
       go_wp2_with fail
       clear hwb hwa hw20 hw2 hw3
       go_roundw
       case rel=>exact⟨a+2*s,ys,by go_num,by go_num,by have:=HAD.out;have:=HN.out;omega,HAD,HFIN⟩
       case measure=>simp[intOf];omega
      ·have hlei:¬(a:Int)+2*(s:Int)≤(n:Int):=by omega
       by_cases hm:a+s<n
       ·have hmi:(a:Int)+(s:Int)<(n:Int):=by omega
        have HC:Hid (Calls Tryd.prog 47 #[.slice (some ⟨g,0,none⟩) n cap,.int .i64 a,.int .i64 ((a:Int)+(s:Int)),.int .i64 n,.func (.func 22) #[] #[]] wr (SegEnd B g n cap zs a n wr)):=by
         have h1:=hrel.out.2.2.2.1.one hadv.out.2
         have h2:=hrel.out.2.2.2.1.two hadv.out.2
         rw[Nat.min_eq_left (by omega)]at h1
         rw[Nat.min_eq_right (by omega)]at h2
         have h3:=HSY.out (n - a+1) zs a (a+s) n wr (by omega) hrel.out.1 (by omega) hm (Nat.le_refl _) h1 h2
         rw[show((a+s:Nat):Int)=(a:Int)+(s:Int) by omega]at h3
         exact h3
        have HFIN:Hid (∀ys W,RowAt B g n cap ys W→Seg zs ys a n→SortedSeg ys a n→Below B wr W→RowAt B g n cap ys W∧Seg xs ys 0 n∧Blk ys (s*2) n∧Below B w W):=fun ys W t1 t2 t3 t4=>by
         obtain⟨r1,r2,r3,r4,r5⟩:=hrel.out
         rw[Nat.mul_comm s 2]
         exact⟨t1,r2.trans (t2.mono (Nat.zero_le _) (Nat.le_refl _)),r3.last hadv.out.2 hadv.out.1 (by omega) t2 t3,r5.trans t4⟩
        clear hrel hadv
        go_wp2_with fail
        refine HC.out.mono ?_
        rintro e5 w5 ⟨rfl,ys,t1,t2,t3,t4⟩
        have HFIN:=Lib.hid (HFIN.out ys w5 t1 t2 t3 t4)
        clear t1 t2 t3 t4 HC
        go_wp2_with fail
        clear hwa hw20 hw2 hw3
        go_roundw
        case rel=>exact⟨s*2,ys,by go_num,by omega,by omega,HFIN⟩
        case measure=>simp[intOf];omega
       ·have hmi:¬(a:Int)+(s:Int)<(n:Int):=by omega
        have HFIN:Hid (RowAt B g n cap zs wr∧Seg xs zs 0 n∧Blk zs (s*2) n∧Below B w wr):=by
         obtain⟨r1,r2,r3,r4,r5⟩:=hrel.out
         have h1:=r4.one hadv.out.2
         rw[Nat.min_eq_right (by omega)]at h1
         rw[Nat.mul_comm s 2]
         exact⟨r1,r2,r3.last hadv.out.2 hadv.out.1 (by omega) (Seg.refl _ _ _) h1,r5⟩
        clear hrel hadv
        go_wp2_with fail
        clear hwa hw20 hw2 hw3
        go_roundw
        case rel=>exact⟨s*2,zs,by go_num,by omega,by omega,HFIN⟩
        case measure=>simp[intOf];omega
    ·have hlti:¬(s:Int)<(n:Int):=by omega
     have HE:Hid (SegEnd B g n cap xs 0 n w (.returned (.tuple #[])) wr):=by
      obtain⟨t1,t2,t3,t4⟩:=hrel.out
      have h1:=t3 0 ⟨0,rfl⟩
      rw[Nat.min_eq_right (by omega)]at h1
      exact⟨rfl,zs,t1,t2,h1,t4⟩
     clear hrel
     go_wp2_with fail
     go_end0
     exact HE.out
end
end Go.Proofs.YtfinhpfjokpcfaaDoor
