/- Parts of a proof. -/
import Derived.Test.YtipahfcaplbifaaGreatDoorQ02
set_option linter.unusedVariables false
set_option linter.unusedSimpArgs false
set_option maxHeartbeats 60000000
set_option maxRecDepth 100000
namespace Go.Proofs.YtipahfcaplbifaaGreatDoor
section
open Go.RowKit
def gAt (l:List (Int×Int)):Nat→Int
 | 0=>0
 | i+1=>(Nat.gcd (gAt l i).natAbs (l.getD i (0,0)).2.natAbs:Nat)
theorem gAt_com (l:List (Int×Int))(i:Nat):com (gAt l i) (l.getD i (0,0)).2=gAt l (i+1):=by rw[com_nat];rfl
theorem gcd_small {a b:Nat}(ha:a≤1073741824)(hb:b≤1073741824):Nat.gcd a b≤1073741824:=by
 by_cases h:a=0
 ·subst h;simpa using hb
 ·exact Nat.le_trans (Nat.gcd_le_left b (by omega)) ha
theorem gAt_in (l:List (Int×Int)):∀i,(∀j,j<i→ -1073741824≤(l.getD j (0,0)).2∧(l.getD j (0,0)).2≤1073741824)→0≤gAt l i∧gAt l i≤1073741824
 | 0,_=>by unfold gAt;omega
 | i+1,h=>by
  have h1:=gAt_in l i (fun j hj=>h j (by omega))
  have h2:=h i (by omega)
  have:=gcd_small (a:=(gAt l i).natAbs) (b:=(l.getD i (0,0)).2.natAbs) (by omega) (by omega)
  unfold gAt;omega
theorem okAt_in {l:List (Int×Int)}{i:Nat}(h:okAt l i=true):lastAt l i<(l.getD i (0,0)).1∧(l.getD i (0,0)).2≠0∧0≤(l.getD i (0,0)).1∧(l.getD i (0,0)).1<1048576∧ -1073741824≤(l.getD i (0,0)).2∧(l.getD i (0,0)).2≤1073741824:=by
 unfold okAt chk mst wi at h
 simp only[Bool.and_eq_true,decide_eq_true_eq]at h
 exact⟨h.1,h.2.1,h.2.2.1.1,h.2.2.1.2,h.2.2.2.1,h.2.2.2.2⟩
theorem Tryz.enters28:∀args w,(callFunc 153 args).run Tryz.prog w= .ok (.enter 153 args) w:=fun _ _=>by kernel_rfl
theorem gcdAll (p:Nat)(a:Option Addr)(n cap:Nat)(l:List (Int×Int))(w:World)(B:Nat)(hB:B≤p)(hn:l.length=n)(hm:n≤64)(hl:Lies B w a l)(ho:Own w p 0)
  (h:∀j,j<n→ -1073741824≤(l.getD j (0,0)).2∧(l.getD j (0,0)).2≤1073741824):
  Calls Tryz.prog 46 #[.slice a n cap,.func (.func 153) #[] #[.pointer (some ⟨p,0,none⟩)]] w fun e w'=>e= .returned (.bool true)∧Own w' p (gAt l n)∧Below B w w':=
 (all_yes 153 #[.pointer (some ⟨p,0,none⟩)] a n cap l w (fun i W=>Own W p (gAt l i)) (fun _=>true) Tryz.enters28 hn (by omega) B (Nat.le_trans hB (Nat.le_of_lt ho.1)) hl ho
  (fun _ _ o h=>h.alloc o)
  (fun i W hi _ hI=>by
   have hg:=gAt_in l i (fun j hj=>h j (by omega))
   have hk:=h i hi
   exact(gcdLit_any p (gAt l i) (l.getD i (0,0)).1 (l.getD i (0,0)).2 W hI (by omega) hg.2 hk.1 hk.2).mono fun _ _ ⟨he,ho',hb⟩=>⟨he,by rw[←gAt_com];exact ho',hb.mono hB⟩)
  (fun _ _=>rfl))
theorem gcd_yes (c:Int)(a:Option Addr)(n cap:Nat)(l:List (Int×Int))(w:World)(hn:l.length=n)(hl:Lies w.heap.size w a l)(hs:snd c l=true):
  Calls Tryz.prog 129 #[.agg #[.int .i64 c,.slice a n cap]] w fun e w'=>e= .returned (.int .i64 (gAt l n))∧Below w.heap.size w w':=by
 obtain⟨hwi,h64,hall⟩:=snd_iff.1 hs
 clear hwi
 have hb0:Below w.heap.size w (w.alloc (.cells #[.int .i64 c,.slice a n cap] 36)):=(Below.refl _ w).alloc (Nat.le_refl _) _
 have hck:=check_yes c a n cap l _ hn ((hl.below hb0).mono hb0.size) hs
 have hga:=fun(W:World) (p:Nat) (hB:w.heap.size≤p) (hb:Below w.heap.size w W) (ho:Own W p 0)=>gcdAll p a n cap l W w.heap.size hB hn (by omega) (hl.below hb) ho (fun j hj=>by have:=okAt_in (hall j (by omega));omega)
 generalize gAt l n=g at hga⊢
 have HG:=Lib.hid hga
 have HB:=Lib.hid hb0
 clear hn hs hall hl h64 hga hb0
 go_enter Tryz.func129,Tryz.ntmps129
 go_wp2_with (first | (go_at_call 22;refine hck.mono ?_;rintro e w1 ⟨rfl,hb1⟩;obtain⟨hc1,hf1⟩:=bcell hb1;have hz:w.heap.size<w1.heap.size:=(by have:=hb1.size;simp at this;omega);clear hck) | (go_at_call 46;refine(HG.out _ w1.heap.size (by omega) ((HB.out.trans (hb1.mono (by simp))).alloc (by omega) _) (Own.new _ _ _)).mono ?_;rintro e w2 ⟨rfl,ho,hb2⟩;obtain⟨ho1,ho2,ho3⟩:=ho))
 go_ret
 exact⟨rfl,((HB.out.trans (hb1.mono (by simp))).alloc (by omega) _).trans hb2⟩
theorem gcd_no (c:Int)(a:Option Addr)(n cap:Nat)(l:List (Int×Int))(w:World)(hn:l.length=n)(hm:n≤9223372036854775807)(hl:Lies w.heap.size w a l)(hs:snd c l=false):
  Calls Tryz.prog 129 #[.agg #[.int .i64 c,.slice a n cap]] w fun e w'=>e= .returned (.int .i64 0)∧Below w.heap.size w w':=by
 have hb0:Below w.heap.size w (w.alloc (.cells #[.int .i64 c,.slice a n cap] 36)):=(Below.refl _ w).alloc (Nat.le_refl _) _
 have hck:=check_no c a n cap l _ hn hm ((hl.below hb0).mono hb0.size) hs
 have HB:=Lib.hid hb0
 clear hn hs hl hb0
 go_enter Tryz.func129,Tryz.ntmps129
 go_wp2_with (go_at_call 22;refine hck.mono ?_;rintro e w1 ⟨rfl,hb1⟩)
 go_ret
 exact⟨rfl,HB.out.trans (hb1.mono (by simp))⟩
theorem gcd_step (a b:Int):Nat.gcd a.natAbs b.natAbs=Nat.gcd b.natAbs (a.tmod b).natAbs:=by
 rw[Int.natAbs_tmod,Nat.gcd_comm a.natAbs,Nat.gcd_rec b.natAbs a.natAbs,Nat.gcd_comm]
theorem gcd_emod {x y:Int}(hx:0≤x)(hy:0<y):(Nat.gcd x.natAbs y.natAbs:Int)=(Nat.gcd y.natAbs (x % y).natAbs:Nat)∧0≤x % y∧x % y<y∧x.tmod y=x % y:=by
 have h:=Int.tmod_eq_emod_of_nonneg (b:=y) hx
 refine⟨by rw[←h,←gcd_step],Int.emod_nonneg _ (by omega),Int.emod_lt_of_pos _ hy,h⟩
theorem two_step (a b x y r:Int)(w:World)(hx:x=if a<0 then -a else a)(hy:y=if b<0 then -b else b)(hx0:0≤x)(hx1:x≤1073741824)(hy0:0<y)(hy1:y≤1073741824)
  (hi:∀z,z=x % y→∀W,Calls Tryz.prog 141 #[.int .i64 y,.int .i64 z] W fun e w'=>e= .returned (.int .i64 r)∧W=w'):
  Calls Tryz.prog 141 #[.int .i64 a,.int .i64 b] w fun e w'=>e= .returned (.int .i64 r)∧w=w':=by
 have HI:=Lib.hid hi
 have HE:=Lib.hid (Int.tmod_eq_emod_of_nonneg (b:=y) hx0)
 clear hi
 have hyne:(y == 0)=false:=by simp;omega
 by_cases ha:a<0
 ·rw[if_pos ha]at hx
  by_cases hb:b<0
  ·rw[if_pos hb]at hy
   subst hx;subst hy
   go_enter Tryz.func141,Tryz.ntmps141
   go_wp2_with fail
   refine(HI.out _ (by first | rfl | exact(Int.emod_neg _ _).symm | exact HE.out | (rw[←HE.out,Int.neg_tmod,Int.tmod_neg]) | (rw[←HE.out,Int.neg_tmod]) | (rw[←HE.out,Int.tmod_neg])) _).mono ?_
   rintro e w' ⟨rfl,rfl⟩
   go_wp2_with fail
   go_ret
   exact⟨rfl,rfl⟩
  ·rw[if_neg hb]at hy
   subst hx;subst hy
   go_enter Tryz.func141,Tryz.ntmps141
   go_wp2_with fail
   refine(HI.out _ (by first | rfl | exact(Int.emod_neg _ _).symm | exact HE.out | (rw[←HE.out,Int.neg_tmod,Int.tmod_neg]) | (rw[←HE.out,Int.neg_tmod]) | (rw[←HE.out,Int.tmod_neg])) _).mono ?_
   rintro e w' ⟨rfl,rfl⟩
   go_wp2_with fail
   go_ret
   exact⟨rfl,rfl⟩
 ·rw[if_neg ha]at hx
  by_cases hb:b<0
  ·rw[if_pos hb]at hy
   subst hx;subst hy
   go_enter Tryz.func141,Tryz.ntmps141
   go_wp2_with fail
   refine(HI.out _ (by first | rfl | exact(Int.emod_neg _ _).symm | exact HE.out | (rw[←HE.out,Int.neg_tmod,Int.tmod_neg]) | (rw[←HE.out,Int.neg_tmod]) | (rw[←HE.out,Int.tmod_neg])) _).mono ?_
   rintro e w' ⟨rfl,rfl⟩
   go_wp2_with fail
   go_ret
   exact⟨rfl,rfl⟩
  ·rw[if_neg hb]at hy
   subst hx;subst hy
   go_enter Tryz.func141,Tryz.ntmps141
   go_wp2_with fail
   refine(HI.out _ (by first | rfl | exact(Int.emod_neg _ _).symm | exact HE.out | (rw[←HE.out,Int.neg_tmod,Int.tmod_neg]) | (rw[←HE.out,Int.neg_tmod]) | (rw[←HE.out,Int.tmod_neg])) _).mono ?_
   rintro e w' ⟨rfl,rfl⟩
   go_wp2_with fail
   go_ret
   exact⟨rfl,rfl⟩
theorem two_any (m:Nat):∀(a b r:Int) (w:World),b.natAbs≤m→ -1073741824≤a→a≤1073741824→ -1073741824≤b→b≤1073741824→r=(Nat.gcd a.natAbs b.natAbs:Nat)→
  Calls Tryz.prog 141 #[.int .i64 a,.int .i64 b] w fun e w'=>e= .returned (.int .i64 r)∧w=w':=by
 have zero:∀(a r:Int) (w:World), -1073741824≤a→a≤1073741824→r=(Nat.gcd a.natAbs (0:Int).natAbs:Nat)→
  Calls Tryz.prog 141 #[.int .i64 a,.int .i64 0] w fun e w'=>e= .returned (.int .i64 r)∧w=w':=by
  intro a r w h1 h2 hr
  by_cases ha:a<0
  ·obtain rfl:r= -a:=by rw[hr];simp;omega
   clear hr
   go_enter Tryz.func141,Tryz.ntmps141
   go_wp2_with fail
   go_ret
   exact⟨rfl,rfl⟩
  ·obtain rfl:r=a:=by rw[hr];simp;omega
   clear hr
   go_enter Tryz.func141,Tryz.ntmps141
   go_wp2_with fail
   go_ret
   exact⟨rfl,rfl⟩
 induction m with
 | zero=>
  intro a b r w hm h1 h2 _ _ hr
  obtain rfl:b=0:=by omega
  exact zero a r w h1 h2 hr
 | succ m ih=>
  intro a b r w hm h1 h2 h3 h4 hr
  by_cases hb0:b=0
  ·subst hb0;exact zero a r w h1 h2 hr
  ·obtain⟨x,hx,hx0,hx1⟩:∃x:Int,x=(if a<0 then -a else a)∧0≤x∧x≤1073741824:=⟨_,rfl,by split<;>omega,by split<;>omega⟩
   obtain⟨y,hy,hy0,hy1,hym⟩:∃y:Int,y=(if b<0 then -b else b)∧0<y∧y≤1073741824∧y.natAbs≤m+1:=⟨_,rfl,by split<;>omega,by split<;>omega,by split<;>omega⟩
   have hxa:x.natAbs=a.natAbs:=by rw[hx];split<;>omega
   have hyb:y.natAbs=b.natAbs:=by rw[hy];split<;>omega
   obtain⟨g1,g2,g3,g4⟩:=gcd_emod hx0 hy0
   rw[←hxa,←hyb,g1]at hr
   exact two_step a b x y r w hx hy hx0 hx1 hy0 hy1 fun z hz W=>ih y z r W (by omega) (by omega) hy1 (by omega) (by omega) (by rw[hz];exact hr)
end
section
open Go.RowKit
theorem rgcd_any (c:Int)(a:Option Addr)(n cap:Nat)(l:List (Int×Int))(w:World)(hn:l.length=n)(hm:n≤64)(hl:Lies w.heap.size w a l)
  (hk:∀j,j<n→ -1073741824≤(l.getD j (0,0)).2∧(l.getD j (0,0)).2≤1073741824):
  Calls Tryz.prog 123 #[.agg #[.int .i64 c,.slice a n cap]] w fun e w'=>e= .returned (.int .i64 (gAt l n))∧Below w.heap.size w w':=by
 have HL:=Lib.hid hl
 have HN:=Lib.hid hn
 have HK:=Lib.hid hk
 clear hn hl hk
 go_enter Tryz.func123,Tryz.ntmps123
 go_wp2
 go_loop [3,4] (fun g i=>∃k:Nat,k≤n∧i= .int .i64 k∧g= .int .i64 (gAt l k)) (fun _ i=>n - (intOf i).toNat)
 case atStart=>exact⟨0,Nat.zero_le _,rfl,rfl⟩
 case round=>
  obtain⟨k,hk,rfl,rfl⟩:=hrel
  by_cases hlt:k<n
  ·obtain⟨b,off,rfl,hblt,c1,c2⟩:=HL.out k (by rw[HN.out];exact hlt)
   have hg:=gAt_in l k (fun j hj=>HK.out j (by omega))
   have hkk:=HK.out k hlt
   have hst:gAt l (k+1)=(Nat.gcd (gAt l k).natAbs (l.getD k (0,0)).2.natAbs:Nat):=rfl
   have htw:=fun W=>two_any _ (gAt l k) (l.getD k (0,0)).2 (gAt l (k+1)) W (Nat.le_refl _) (by omega) hg.2 hkk.1 hkk.2 hst
   have HR:Hid (∃g1,g1=gAt l (k+1)):=⟨_,rfl⟩
   obtain⟨g1,hg1⟩:=HR.out
   rw[←hg1]at htw
   generalize hg0:gAt l k=g0 at htw hg
   generalize (l.getD k (0,0)).2=u at htw c2
   have HG1:=Lib.hid hg1
   clear hg1 hst c1 hkk HR
   go_wp2_with (go_at_call 141;refine(htw _).mono ?_;rintro e w' ⟨rfl,rfl⟩)
   go_round
   case rel=>exact⟨k+1,by omega,by go_num,by rw[HG1.out]⟩
   case measure=>simp[intOf];omega
  ·go_wp2
   go_ret
   exact⟨ret_int (by rw[show n=k by omega]),(Below.refl _ w).alloc (Nat.le_refl _) _⟩
theorem okAt_mk {l:List (Int×Int)}{i:Nat}(h:lastAt l i<(l.getD i (0,0)).1∧(l.getD i (0,0)).2≠0∧0≤(l.getD i (0,0)).1∧(l.getD i (0,0)).1<1048576∧ -1073741824≤(l.getD i (0,0)).2∧(l.getD i (0,0)).2≤1073741824):okAt l i=true:=by
 unfold okAt chk mst wi
 simp only[Bool.and_eq_true,decide_eq_true_eq]
 exact⟨h.1,h.2.1,⟨h.2.2.1,h.2.2.2.1⟩,h.2.2.2.2⟩
theorem coef_same (n:Int)(w:World):Calls Tryz.prog 26 #[.int .i64 n] w fun e w'=>e= .returned (.bool (wi n 1073741824))∧w'=w:=
 (coef_any n w).mono fun _ _ ⟨he,hw⟩=>⟨he,hw.symm⟩
theorem rcheck_any (c:Int)(a:Option Addr)(n cap:Nat)(l:List (Int×Int))(w:World)(hn:l.length=n)(hm:n≤9223372036854775807)(hl:Lies w.heap.size w a l):
  Calls Tryz.prog 24 #[.agg #[.int .i64 c,.slice a n cap]] w fun e w'=>e= .returned (.bool (snd c l))∧Below w.heap.size w w':=by
 have hco:=fun W=>coef_any c W
 by_cases hc:wi c 1073741824=true
 ·rw[hc]at hco
  by_cases h64:n≤64
  ·have HS:Hid (∀b,(b=true↔∀i,i<n→okAt l i=true)→snd c l=b):=fun b hb=>by
    rw[Bool.eq_iff_iff,snd_iff,hb,hn];exact⟨fun h=>h.2.2,fun h=>⟨hc,h64,h⟩⟩
   have HL:=Lib.hid hl
   have HN:=Lib.hid hn
   clear hn hl hc
   go_enter Tryz.func24,Tryz.ntmps24
   go_wp2_with (go_at_call 26;refine(hco _).mono ?_;rintro e w' ⟨rfl,rfl⟩)
   go_loopw [3,4] (fun i _ wr=>∃k:Nat,k≤n∧i= .int .i64 k∧Hid (∀j,j<k→okAt l j=true)∧Below (w.heap.size+1) (w.alloc (.cells #[.int .i64 c,.slice a n cap] 36)) wr) (fun i _ _=>n - (intOf i).toNat)
   case atStart=>exact⟨0,Nat.zero_le _,rfl,fun j hj=>absurd hj (Nat.not_lt_zero j),Below.refl _ _⟩
   case round=>
    obtain⟨k,hk,rfl,hok,hb⟩:=hrel
    have hz:w.heap.size<wr.heap.size:=by have:=hb.size;simp at this;omega
    have hc1:wr.cell? ⟨w.heap.size,1,none⟩=some (.slice a n cap):=by rw[hb.cell (p:=⟨_,_,none⟩) (by simp)];simp
    by_cases hlt:k<n
    ·have hbw:Below w.heap.size w wr:=((Below.refl _ w).alloc (Nat.le_refl _) _).trans (hb.mono (by omega))
     obtain⟨b,off,rfl,hblt,c1,c2⟩:=(HL.out.below hbw) k (by rw[HN.out];exact hlt)
     by_cases hA:(l.getD k (0,0)).1<0
     ·have hno:okAt l k=false:=by
       rw[Bool.eq_false_iff];intro h;have:=okAt_in h;omega
      have HF:=Lib.hid (HS.out false ⟨fun h=>absurd h (by decide),fun h=>by rw[h k hlt]at hno;exact hno.symm⟩)
      clear hno hok HS
      generalize (l.getD k (0,0)).1=v at c1 hA
      generalize (l.getD k (0,0)).2=u at c2 
      have hA':decide (v<0)=true:=by simpa using hA
      go_wp2_with fail
      go_quiet (fail)
      go_wp2
      go_ret
      exact⟨ret_bool HF.out.symm,below_drewN (hbw.alloc (Nat.le_of_lt hz) _) _⟩
     have hA':decide ((l.getD k (0,0)).1<0)=false:=by simpa using hA
     by_cases hB:1048576≤(l.getD k (0,0)).1
     ·have hno:okAt l k=false:=by
       rw[Bool.eq_false_iff];intro h;have:=okAt_in h;omega
      have HF:=Lib.hid (HS.out false ⟨fun h=>absurd h (by decide),fun h=>by rw[h k hlt]at hno;exact hno.symm⟩)
      clear hno hok HS
      generalize (l.getD k (0,0)).1=v at c1 hA hA' hB
      generalize (l.getD k (0,0)).2=u at c2 
      have hB':decide (1048576≤v)=true:=by simpa using hB
      go_wp2_with fail
      go_quiet (fail)
      go_wp2
      go_ret
      exact⟨ret_bool HF.out.symm,below_drewN (hbw.alloc (Nat.le_of_lt hz) _) _⟩
     have hB':decide (1048576≤(l.getD k (0,0)).1)=false:=by simpa using hB
     by_cases hC:(l.getD k (0,0)).2=0
     ·have hno:okAt l k=false:=by
       rw[Bool.eq_false_iff];intro h;have:=okAt_in h;exact this.2.1 hC
      have HF:=Lib.hid (HS.out false ⟨fun h=>absurd h (by decide),fun h=>by rw[h k hlt]at hno;exact hno.symm⟩)
      clear hno hok HS
      rw[hC]at c2
      generalize (l.getD k (0,0)).1=v at c1 hA hA' hB hB'
      clear hC
      go_wp2_with fail
      go_quiet (fail)
      go_wp2
      go_ret
      exact⟨ret_bool HF.out.symm,below_drewN (hbw.alloc (Nat.le_of_lt hz) _) _⟩
     have hC':((l.getD k (0,0)).2 == 0)=false:=by simpa using hC
     have hcu:=fun W=>coef_same (l.getD k (0,0)).2 W
     by_cases hD:wi (l.getD k (0,0)).2 1073741824=true
     ·have hD': -1073741824≤(l.getD k (0,0)).2∧(l.getD k (0,0)).2≤1073741824:=by unfold wi at hD;simpa using hD
      rw[hD]at hcu
      by_cases hk0:k=0
      ·have hyes:okAt l k=true:=okAt_mk ⟨by rw[hk0,lastAt_zero];rw[hk0]at hA;omega,hC,by omega,by omega,hD'.1,hD'.2⟩
       have hok2:Hid (∀j,j<k+1→okAt l j=true):=fun j hj=>by
        by_cases e:j=k
        ·rw[e];exact hyes
        ·exact hok.out j (by omega)
       clear hyes hok HS
       subst hk0
       simp only[Nat.zero_mul,Nat.add_zero]at c1 c2
       generalize (l.getD 0 (0,0)).1=v at c1 hA hA' hB hB'
       generalize (l.getD 0 (0,0)).2=u at c2 hC hC' hcu hD hD'
       clear hC hD hD'
       go_wp2_with fail
       go_quiet ((go_at_call 26;exact Calls.quiet_of_same (hcu _)))
       go_wp2
       go_roundw
       case rel=>exact⟨0+1,by omega,by go_num,hok2,below_drewN (hb.alloc (by omega) _) _⟩
       case measure=>simp[intOf];omega
      ·obtain⟨m,rfl⟩:∃m,k=m+1:=⟨k - 1,by omega⟩
       obtain⟨b',off',hab,_,p1,_⟩:=(HL.out.below hbw) m (by rw[HN.out];omega)
       obtain⟨rfl,rfl⟩:b=b'∧off=off':=by injection hab with h;injection h with h1 h2;exact⟨h1,h2⟩
       clear hab
       have hw1:IntKind.i64.wrap ((m:Int)+1 - 1)=m:=by rw[show(m:Int)+1 - 1=m by omega];exact IntWalk.i64_in _ (by omega)
       have hw2:IntKind.i64.wrap (m:Int)=m:=IntWalk.i64_in _ (by omega)
       have hmn:m<n:=by omega
       have hbwr:b<wr.heap.size:=by omega
       by_cases hE:(l.getD m (0,0)).1<(l.getD (m+1) (0,0)).1
       ·have hyes:okAt l (m+1)=true:=okAt_mk ⟨by rw[lastAt_succ];exact hE,hC,by omega,by omega,hD'.1,hD'.2⟩
        have hok2:Hid (∀j,j<m+1+1→okAt l j=true):=fun j hj=>by
         by_cases e:j=m+1
         ·rw[e];exact hyes
         ·exact hok.out j (by omega)
        clear hyes hok HS
        generalize (l.getD (m+1) (0,0)).1=v at c1 hA hA' hB hB' hE
        generalize (l.getD (m+1) (0,0)).2=u at c2 hC hC' hcu hD hD'
        generalize (l.getD m (0,0)).1=pv at p1 hE
        have hE':decide (v≤pv)=false:=by simpa using hE
        clear hC hD hD'
        go_wp2_with fail
        go_quiet ((go_at_call 26;exact Calls.quiet_of_same (hcu _)))
        go_wp2
        go_roundw
        case rel=>exact⟨m+1+1,by omega,by go_num,hok2,below_drewN (hb.alloc (by omega) _) _⟩
        case measure=>simp[intOf];omega
       ·have hno:okAt l (m+1)=false:=by
         rw[Bool.eq_false_iff];intro h;have:=okAt_in h;rw[lastAt_succ]at this;exact hE this.1
        have HF:=Lib.hid (HS.out false ⟨fun h=>absurd h (by decide),fun h=>by rw[h (m+1) hlt]at hno;exact hno.symm⟩)
        clear hno hok HS
        generalize (l.getD (m+1) (0,0)).1=v at c1 hA hA' hB hB' hE
        generalize (l.getD (m+1) (0,0)).2=u at c2 hC hC' hcu hD hD'
        generalize (l.getD m (0,0)).1=pv at p1 hE
        have hE':decide (v≤pv)=true:=by simpa using hE
        clear hC hD hD'
        go_wp2_with fail
        go_quiet ((go_at_call 26;exact Calls.quiet_of_same (hcu _)))
        go_wp2
        go_ret
        exact⟨ret_bool HF.out.symm,below_drewN (hbw.alloc (Nat.le_of_lt hz) _) _⟩
     ·have hD':wi (l.getD k (0,0)).2 1073741824=false:=by simpa using hD
      rw[hD']at hcu
      have hno:okAt l k=false:=by
       rw[Bool.eq_false_iff];intro h;have:=okAt_in h;exact hD (wi_t ⟨this.2.2.2.2.1,this.2.2.2.2.2⟩)
      have HF:=Lib.hid (HS.out false ⟨fun h=>absurd h (by decide),fun h=>by rw[h k hlt]at hno;exact hno.symm⟩)
      clear hno hok HS
      generalize (l.getD k (0,0)).1=v at c1 hA hA' hB hB'
      generalize (l.getD k (0,0)).2=u at c2 hC hC' hcu hD hD'
      clear hC hD hD'
      go_wp2_with fail
      go_quiet ((go_at_call 26;exact Calls.quiet_of_same (hcu _)))
      go_wp2
      go_ret
      exact⟨ret_bool HF.out.symm,below_drewN (hbw.alloc (Nat.le_of_lt hz) _) _⟩
    ·have HF:=Lib.hid (HS.out true ⟨fun _ i hi=>hok.out i (by omega),fun _=>rfl⟩)
     go_wp2
     go_ret
     exact⟨ret_bool HF.out.symm,((Below.refl _ w).alloc (Nat.le_refl _) _).trans (hb.mono (by omega))⟩
  ·rw[show snd c l=false by rw[Bool.eq_false_iff];intro h;have:=(snd_iff.1 h).2.1;omega]
   clear hn hl hc
   go_enter Tryz.func24,Tryz.ntmps24
   go_wp2_with (go_at_call 26;refine(hco _).mono ?_;rintro e w' ⟨rfl,rfl⟩)
   go_ret
   exact⟨rfl,(Below.refl _ w).alloc (Nat.le_refl _) _⟩
 ·have hc':wi c 1073741824=false:=by simpa using hc
  rw[hc']at hco
  rw[show snd c l=false by rw[Bool.eq_false_iff];intro h;exact hc (snd_iff.1 h).1]
  clear hn hl hc hc'
  go_enter Tryz.func24,Tryz.ntmps24
  go_wp2_with (go_at_call 26;refine(hco _).mono ?_;rintro e w' ⟨rfl,rfl⟩)
  go_ret
  exact⟨rfl,(Below.refl _ w).alloc (Nat.le_refl _) _⟩
end
end Go.Proofs.YtipahfcaplbifaaGreatDoor
