/- Parts of a proof. -/
import Derived.Test.YtjbkhdbjdahbiaaGreatDoorQ02
import Derived.Test.YtjbkhdbjdahbiaaGreatDoorQ04
import Derived.Test.YtjbkhdbjdahbiaaGreatDoorQ03
set_option linter.unusedVariables false
set_option linter.unusedSimpArgs false
set_option maxHeartbeats 60000000
set_option maxRecDepth 100000
namespace Go.Proofs.YtjbkhdbjdahbiaaGreatDoor
namespace Lf
open Go.RowKit
def Nums (B:Nat)(w:World)(a:Option Addr)(zs:List Int):Prop:=
 ∀i,i<zs.length→∃b off,a=some ⟨b,off,none⟩∧b<B∧w.cell? ⟨b,off+i,none⟩=some (.int .i64 (zs.getD i 0))
theorem Nums.mono {B B':Nat}{w:World}{a:Option Addr}{l:List Int}(h:Nums B w a l)(hb:B≤B'):Nums B' w a l:=fun i hi=>by
 obtain⟨b,off,ha,hlt,h1⟩:=h i hi
 exact⟨b,off,ha,Nat.lt_of_lt_of_le hlt hb,h1⟩
theorem Nums.below {B:Nat}{w w':World}{a:Option Addr}{l:List Int}(h:Nums B w a l)(hb:Below B w w'):Nums B w' a l:=fun i hi=>by
 obtain⟨b,off,ha,hlt,h1⟩:=h i hi
 exact⟨b,off,ha,hlt,by rw[hb.cell (p:=⟨b,_,none⟩) hlt];exact h1⟩
def valOf (zs:List Int)(v:Int):Int:=if v<zs.length then zs.getD v.toNat 0 else 0
def Held (w:World)(pv:Nat)(a:Option Addr)(n cap:Nat):Prop:=pv<w.heap.size∧w.cell? ⟨pv,0,none⟩=some (.slice a n cap)
theorem valueLit_yes (pv q:Nat)(s v k:Int)(a:Option Addr)(n cap:Nat)(zs:List Int)(w:World)(hn:zs.length=n)(hv:0≤v)(hne:pv<q)(hh:Held w pv a n cap)(hz:Nums w.heap.size w a zs)(ho:Own w q s)
 (hk: -1073741824≤k∧k≤1073741824) (hs: -2305843009213693952≤s∧s≤2305843009213693952) (hx:wi (valOf zs v) 16777216=true):
 Calls Tryz.prog 82 #[.agg #[.int .i64 v,.int .i64 k],.pointer (some ⟨pv,0,none⟩),.pointer (some ⟨q,0,none⟩)] w fun e w'=>e= .returned (.bool true)∧Own w' q (s+k*valOf zs v)∧Below q w w':=by
 have hwi:=fun W=>within_any (valOf zs v) 16777216 W (by omega) (by omega)
 rw[hx]at hwi
 have hxb: -16777216≤valOf zs v∧valOf zs v≤16777216:=by unfold wi at hx;simpa using hx
 have hmul: -18014398509481984≤k*valOf zs v∧k*valOf zs v≤18014398509481984:=by
  have h1:(k*valOf zs v).natAbs≤1073741824*16777216:=by
   rw[Int.natAbs_mul];exact Nat.mul_le_mul (by omega) (by omega)
  omega
 have hq:=ho
 obtain⟨h1,h2,h3⟩:=ho
 obtain⟨g1,g2⟩:=hh
 by_cases hlt:v<n
 ·obtain⟨i,rfl⟩:=Int.eq_ofNat_of_zero_le hv
  obtain⟨b,off,rfl,hb,hc⟩:=hz i (by omega)
  have hx2:valOf zs (i:Int)=zs.getD i 0:=by unfold valOf;rw[if_pos (by omega)];simp
  rw[hx2]at hwi hxb hmul hx⊢
  generalize zs.getD i 0=x at hwi hxb hmul hx hc⊢
  have O1:=Lib.hid ((hq.set (s+k*x)).alloc (.cells #[.int .i64 (i:Int),.int .i64 k] 84))
  have B1:=Lib.hid (((Below.refl q w).setCell (p:=⟨q,0,none⟩) (Nat.le_refl _) (.int .i64 (s+k*x))).alloc (Nat.le_of_lt (hq.set (s+k*x)).1) (.cells #[.int .i64 (i:Int),.int .i64 k] 84))
  clear hz hn hx2 hx hq
  go_enter Tryz.func82,Tryz.ntmps82
  go_wp2_with (go_at_call 52;refine(hwi _).mono ?_;rintro e w' ⟨rfl,rfl⟩)
  go_ret
  exact⟨rfl,O1.out,B1.out⟩
 ·have hx2:valOf zs v=0:=by unfold valOf;rw[if_neg (by omega)]
  rw[hx2]at hwi hxb hmul hx⊢
  rw[Int.mul_zero,Int.add_zero]
  have O1:=Lib.hid ((hq.set s).alloc (.cells #[.int .i64 v,.int .i64 k] 84))
  have B1:=Lib.hid (((Below.refl q w).setCell (p:=⟨q,0,none⟩) (Nat.le_refl _) (.int .i64 s)).alloc (Nat.le_of_lt (hq.set s).1) (.cells #[.int .i64 v,.int .i64 k] 84))
  clear hz hn hx2 hx hq
  go_enter Tryz.func82,Tryz.ntmps82
  go_wp2_with (go_at_call 52;refine(hwi _).mono ?_;rintro e w' ⟨rfl,rfl⟩)
  go_ret
  exact⟨rfl,O1.out,B1.out⟩
theorem valueLit_any (pv q:Nat)(s v k:Int)(a:Option Addr)(n cap:Nat)(zs:List Int)(w:World)(hn:zs.length=n)(hv:0≤v)(hne:pv<q)(hh:Held w pv a n cap)(hz:Nums w.heap.size w a zs)(ho:Own w q s):
 Calls Tryz.prog 82 #[.agg #[.int .i64 v,.int .i64 k],.pointer (some ⟨pv,0,none⟩),.pointer (some ⟨q,0,none⟩)] w fun e w'=>e= .returned (.bool (wi (valOf zs v) 16777216))∧(∃s',Own w' q s')∧Below q w w':=by
 have hwi:=fun W=>within_any (valOf zs v) 16777216 W (by omega) (by omega)
 have hq:=ho
 obtain⟨h1,h2,h3⟩:=ho
 obtain⟨g1,g2⟩:=hh
 have O1:Hid (∀y x,Own ((w.setCell ⟨q,0,none⟩ (.int .i64 y)).alloc (.cells #[.int .i64 x,.int .i64 k] 84)) q y∧Below q w ((w.setCell ⟨q,0,none⟩ (.int .i64 y)).alloc (.cells #[.int .i64 x,.int .i64 k] 84))):=
  fun y x=>⟨(hq.set y).alloc _,(((Below.refl q w).setCell (p:=⟨q,0,none⟩) (Nat.le_refl _) (.int .i64 y)).alloc (Nat.le_of_lt (hq.set y).1) _)⟩
 by_cases hlt:v<n
 ·obtain⟨i,rfl⟩:=Int.eq_ofNat_of_zero_le hv
  obtain⟨b,off,rfl,hb,hc⟩:=hz i (by omega)
  have hx2:valOf zs (i:Int)=zs.getD i 0:=by unfold valOf;rw[if_pos (by omega)];simp
  rw[hx2]at hwi⊢
  generalize zs.getD i 0=x at hwi hc⊢
  clear hz hn hx2 hq
  go_enter Tryz.func82,Tryz.ntmps82
  go_wp2_with (go_at_call 52;refine(hwi _).mono ?_;rintro e w' ⟨rfl,rfl⟩)
  go_ret
  exact⟨rfl,⟨_,(O1.out _ _).1⟩,(O1.out _ _).2⟩
 ·have hx2:valOf zs v=0:=by unfold valOf;rw[if_neg (by omega)]
  rw[hx2]at hwi⊢
  clear hz hn hx2 hq
  go_enter Tryz.func82,Tryz.ntmps82
  go_wp2_with (go_at_call 52;refine(hwi _).mono ?_;rintro e w' ⟨rfl,rfl⟩)
  go_ret
  exact⟨rfl,⟨_,(O1.out _ _).1⟩,(O1.out _ _).2⟩
def sAt (c:Int)(l:List (Int×Int))(zs:List Int):Nat→Int
 | 0=>c
 | i+1=>sAt c l zs i+(l.getD i (0,0)).2*valOf zs (l.getD i (0,0)).1
def near (l:List (Int×Int))(zs:List Int)(i:Nat):Bool:=wi (valOf zs (l.getD i (0,0)).1) 16777216
theorem sAt_in (c:Int)(l:List (Int×Int))(zs:List Int)(hc: -1073741824≤c∧c≤1073741824):∀i,i≤64→(∀j,j<i→ -1073741824≤(l.getD j (0,0)).2∧(l.getD j (0,0)).2≤1073741824)→(∀j,j<i→near l zs j=true)→
 -(1073741824+i*18014398509481984:Int)≤sAt c l zs i∧sAt c l zs i≤1073741824+i*18014398509481984
 | 0,_,_,_=>by unfold sAt;omega
 | i+1,hi,hk,hx=>by
   have h1:=sAt_in c l zs hc i (by omega) (fun j hj=>hk j (by omega)) (fun j hj=>hx j (by omega))
   have h2:=hk i (by omega)
   have h3:=hx i (by omega)
   unfold near wi at h3
   have h3: -16777216≤valOf zs (l.getD i (0,0)).1∧valOf zs (l.getD i (0,0)).1≤16777216:=by simpa using h3
   have h4:((l.getD i (0,0)).2*valOf zs (l.getD i (0,0)).1).natAbs≤1073741824*16777216:=by
    rw[Int.natAbs_mul];exact Nat.mul_le_mul (by omega) (by omega)
   unfold sAt
   omega
theorem Tryz.enters35:∀args w,(callFunc 82 args).run Tryz.prog w= .ok (.enter 82 args) w:=fun _ _=>by kernel_rfl
def VInv (pv q:Nat)(a2:Option Addr)(n2 cap2:Nat)(P:Int→Prop)(W:World):Prop:=Held W pv a2 n2 cap2∧∃s,P s∧Own W q s
theorem VInv.alloc {pv q:Nat}{a2:Option Addr}{n2 cap2:Nat}{P:Int→Prop}{W:World}(h:VInv pv q a2 n2 cap2 P W)(o:Obj):VInv pv q a2 n2 cap2 P (W.alloc o):=by
 obtain⟨⟨h1,h2⟩,s,hp,ho⟩:=h
 have hb:=(Below.refl W.heap.size W).alloc (Nat.le_refl _) o
 exact⟨⟨Nat.lt_of_lt_of_le h1 hb.size,by rw[hb.cell (p:=⟨pv,0,none⟩) h1];exact h2⟩,s,hp,ho.alloc o⟩
theorem Held.below {w w':World}{pv q:Nat}{a:Option Addr}{n cap:Nat}(h:Held w pv a n cap)(hq:pv<q)(hb:Below q w w'):Held w' pv a n cap:=
 ⟨Nat.lt_of_lt_of_le h.1 hb.size,by rw[hb.cell (p:=⟨pv,0,none⟩) hq];exact h.2⟩
theorem valueAll_yes (pv q:Nat)(c:Int)(a:Option Addr)(n cap:Nat)(l:List (Int×Int))(a2:Option Addr)(n2 cap2:Nat)(zs:List Int)(w:World)(B:Nat)(hB:B≤pv)(hpq:pv<q)(hn:l.length=n)(hm:n≤64)(hn2:zs.length=n2)
 (hl:Lies B w a l) (hz:Nums B w a2 zs) (hh:Held w pv a2 n2 cap2) (ho:Own w q c) (hc: -1073741824≤c∧c≤1073741824)
 (hk:∀j,j<n→0≤(l.getD j (0,0)).1∧ -1073741824≤(l.getD j (0,0)).2∧(l.getD j (0,0)).2≤1073741824) (h:∀i,i<n→near l zs i=true):
 Calls Tryz.prog 53 #[.slice a n cap,.func (.func 82) #[] #[.pointer (some ⟨pv,0,none⟩),.pointer (some ⟨q,0,none⟩)]] w fun e w'=>e= .returned (.bool true)∧Own w' q (sAt c l zs n)∧Below B w w':=by
 have hbs:B≤w.heap.size:=by have:=hh.1;omega
 refine(all_yes 82 #[.pointer (some ⟨pv,0,none⟩),.pointer (some ⟨q,0,none⟩)] a n cap l w (fun i W=>VInv pv q a2 n2 cap2 (·=sAt c l zs i) W) (near l zs) Tryz.enters35 hn (by omega) B hbs hl ⟨hh,c,rfl,ho⟩
  (fun _ _ o h=>h.alloc o) ?_ h).mono ?_
 ·intro i W hi hb hI
  obtain⟨hhW,s,rfl,hoW⟩:=hI
  have hs:=sAt_in c l zs hc i (by omega) (fun j hj=>(hk j (by omega)).2) (fun j hj=>h j (by omega))
  have hki:=hk i hi
  refine(valueLit_yes pv q _ (l.getD i (0,0)).1 (l.getD i (0,0)).2 a2 n2 cap2 zs W hn2 hki.1 hpq hhW ((hz.below hb).mono (by have:=hb.size;omega)) hoW hki.2 (by omega) (h i hi)).mono ?_
  rintro e w' ⟨he,ho',hb'⟩
  exact⟨by rw[h i hi];exact he,⟨hhW.below hpq hb',_,rfl,ho'⟩,hb'.mono (by omega)⟩
 ·rintro e w' ⟨he,⟨_,s,rfl,ho'⟩,hb⟩
  exact⟨he,ho',hb⟩
theorem valueAll_no (pv q:Nat)(c:Int)(a:Option Addr)(n cap:Nat)(l:List (Int×Int))(a2:Option Addr)(n2 cap2:Nat)(zs:List Int)(w:World)(B:Nat)(hB:B≤pv)(hpq:pv<q)(hn:l.length=n)(hm:n≤64)(hn2:zs.length=n2)
 (hl:Lies B w a l) (hz:Nums B w a2 zs) (hh:Held w pv a2 n2 cap2) (ho:Own w q c)
 (hk:∀j,j<n→0≤(l.getD j (0,0)).1) (h:¬ ∀i,i<n→near l zs i=true):
 Calls Tryz.prog 53 #[.slice a n cap,.func (.func 82) #[] #[.pointer (some ⟨pv,0,none⟩),.pointer (some ⟨q,0,none⟩)]] w fun e w'=>e= .returned (.bool false)∧Below B w w':=by
 have hbs:B≤w.heap.size:=by have:=hh.1;omega
 obtain⟨j,hj,h1,h2⟩:=first_no _ _ h
 refine(all_no 82 #[.pointer (some ⟨pv,0,none⟩),.pointer (some ⟨q,0,none⟩)] a n cap l w (fun i W=>VInv pv q a2 n2 cap2 (fun _=>True) W) (near l zs) Tryz.enters35 hn (by omega) B hbs hl ⟨hh,c,trivial,ho⟩
  (fun _ _ o h=>h.alloc o) ?_ j hj h1 h2).mono fun _ _ ⟨he,_,hb⟩=>⟨he,hb⟩
 intro i W hi hb hI
 obtain⟨hhW,s,_,hoW⟩:=hI
 refine(valueLit_any pv q s (l.getD i (0,0)).1 (l.getD i (0,0)).2 a2 n2 cap2 zs W hn2 (hk i hi) hpq hhW ((hz.below hb).mono (by have:=hb.size;omega)) hoW).mono ?_
 rintro e w' ⟨he,⟨s',ho'⟩,hb'⟩
 exact⟨he,⟨hhW.below hpq hb',s',trivial,ho'⟩,hb'.mono (by omega)⟩
theorem value_ok (c:Int)(a:Option Addr)(n cap:Nat)(l:List (Int×Int))(a2:Option Addr)(n2 cap2:Nat)(zs:List Int)(w:World)(hn:l.length=n)(hn2:zs.length=n2)(hl:Lies w.heap.size w a l)(hz:Nums w.heap.size w a2 zs)(hs:snd c l=true)
 (h:∀i,i<n→near l zs i=true):
 Calls Tryz.prog 73 #[.agg #[.int .i64 c,.slice a n cap],.slice a2 n2 cap2] w fun e w'=>e= .returned (.tuple #[.int .i64 (sAt c l zs n),.nilIface])∧Below w.heap.size w w':=by
 obtain⟨hwc,h64,hall⟩:=snd_iff.1 hs
 have hb0:Below w.heap.size w ((w.alloc (.cells #[.int .i64 c,.slice a n cap] 25)).alloc (.cells #[.slice a2 n2 cap2] 54)):=((Below.refl _ w).alloc (Nat.le_refl _) _).alloc (by simp) _
 have hck:=check_yes c a n cap l _ hn ((hl.below hb0).mono hb0.size) hs
 have hcb: -1073741824≤c∧c≤1073741824:=by unfold wi at hwc;simpa using hwc
 have hga:=fun(W:World) (q:Nat) (hq:w.heap.size+1<q) (hb:Below w.heap.size w W) (hh:Held W (w.heap.size+1) a2 n2 cap2) (ho:Own W q c)=>
  valueAll_yes (w.heap.size+1) q c a n cap l a2 n2 cap2 zs W w.heap.size (by omega) hq hn (by omega) hn2 (hl.below hb) (hz.below hb) hh ho hcb (fun j hj=>by have:=okAt_in (hall j (by omega));omega) h
 generalize sAt c l zs n=r at hga⊢
 have HG:=Lib.hid hga
 have HB:=Lib.hid hb0
 clear hn hs hall hl hz hga hb0 hwc h64 hcb h
 go_enter Tryz.func73,Tryz.ntmps73
 go_wp2_with (go_at_call 30;refine hck.mono ?_;rintro e w1 ⟨rfl,hb1⟩;obtain⟨hc1,hf1⟩:=bcell hb1;have hz:w.heap.size+1<w1.heap.size:=(by have:=hb1.size;simp at this;omega);have hz0:w.heap.size<w1.heap.size:=(by omega);clear hck)
 have hb2:Below w.heap.size w (w1.alloc (.cells #[.int .i64 c] 3)):=(HB.out.trans (hb1.mono (by simp;omega))).alloc (by omega) _
 have hh:Held (w1.alloc (.cells #[.int .i64 c] 3)) (w.heap.size+1) a2 n2 cap2:=⟨by simp;omega,by
  have hbb:=(Below.refl w1.heap.size w1).alloc (Nat.le_refl _) (.cells #[.int .i64 c] 3)
  rw[hbb.cell (p:=⟨w.heap.size+1,0,none⟩) hz,hc1 _ _ (by simp)]
  simp⟩
 refine(HG.out _ w1.heap.size hz hb2 hh (Own.new _ _ _)).mono ?_
 rintro e w2 ⟨rfl,ho,hb3⟩
 obtain⟨ho1,ho2,ho3⟩:=ho
 have B3:=Lib.hid (hb2.trans hb3)
 clear hb3 hb2 hh hc1 hf1
 go_wp2_with fail
 go_ret2
 exact⟨rfl,B3.out⟩
theorem value_far (c:Int)(a:Option Addr)(n cap:Nat)(l:List (Int×Int))(a2:Option Addr)(n2 cap2:Nat)(zs:List Int)(w:World)(hn:l.length=n)(hn2:zs.length=n2)(hl:Lies w.heap.size w a l)(hz:Nums w.heap.size w a2 zs)(hs:snd c l=true)
 (h:¬ ∀i,i<n→near l zs i=true):
 Calls Tryz.prog 73 #[.agg #[.int .i64 c,.slice a n cap],.slice a2 n2 cap2] w fun e w'=>e= .returned (.tuple #[.int .i64 0,.iface 89 (.int .i64 1)])∧Below w.heap.size w w':=by
 obtain⟨_,h64,hall⟩:=snd_iff.1 hs
 have hb0:Below w.heap.size w ((w.alloc (.cells #[.int .i64 c,.slice a n cap] 25)).alloc (.cells #[.slice a2 n2 cap2] 54)):=((Below.refl _ w).alloc (Nat.le_refl _) _).alloc (by simp) _
 have hck:=check_yes c a n cap l _ hn ((hl.below hb0).mono hb0.size) hs
 have hga:=fun(W:World) (q:Nat) (hq:w.heap.size+1<q) (hb:Below w.heap.size w W) (hh:Held W (w.heap.size+1) a2 n2 cap2) (ho:Own W q c)=>
  valueAll_no (w.heap.size+1) q c a n cap l a2 n2 cap2 zs W w.heap.size (by omega) hq hn (by omega) hn2 (hl.below hb) (hz.below hb) hh ho (fun j hj=>by have:=okAt_in (hall j (by omega));omega) h
 have HG:=Lib.hid hga
 have HB:=Lib.hid hb0
 clear hn hs hall hl hz hga hb0 h64 h
 go_enter Tryz.func73,Tryz.ntmps73
 go_wp2_with (go_at_call 30;refine hck.mono ?_;rintro e w1 ⟨rfl,hb1⟩;obtain⟨hc1,hf1⟩:=bcell hb1;have hz:w.heap.size+1<w1.heap.size:=(by have:=hb1.size;simp at this;omega);have hz0:w.heap.size<w1.heap.size:=(by omega);clear hck)
 have hb2:Below w.heap.size w (w1.alloc (.cells #[.int .i64 c] 3)):=(HB.out.trans (hb1.mono (by simp;omega))).alloc (by omega) _
 have hh:Held (w1.alloc (.cells #[.int .i64 c] 3)) (w.heap.size+1) a2 n2 cap2:=⟨by simp;omega,by
  have hbb:=(Below.refl w1.heap.size w1).alloc (Nat.le_refl _) (.cells #[.int .i64 c] 3)
  rw[hbb.cell (p:=⟨w.heap.size+1,0,none⟩) hz,hc1 _ _ (by simp)]
  simp⟩
 refine(HG.out _ w1.heap.size hz hb2 hh (Own.new _ _ _)).mono ?_
 rintro e w2 ⟨rfl,hb3⟩
 have B3:=Lib.hid (hb2.trans hb3)
 clear hb3 hb2 hh hc1 hf1
 go_wp2_with fail
 go_ret2
 exact⟨rfl,B3.out⟩
end Lf
namespace Lf
open Go.RowKit
def evl (zs:List Int)(l:List (Int×Int)):Int:=(l.map fun m=>m.2*valOf zs m.1).sum
theorem evl_nil (zs:List Int):evl zs []=0:=rfl
theorem evl_cons (zs:List Int)(m:Int×Int)(l:List (Int×Int)):evl zs (m :: l)=m.2*valOf zs m.1+evl zs l:=by simp[evl]
theorem evl_append (zs:List Int)(l r:List (Int×Int)):evl zs (l ++ r)=evl zs l+evl zs r:=by simp[evl,List.sum_append]
theorem evl_perm (zs:List Int){l r:List (Int×Int)}(h:l.Perm r):evl zs l=evl zs r:=by
 induction h with
 | nil=>rfl
 | cons x _ ih=>rw[evl_cons,evl_cons,ih]
 | swap x y l=>simp only[evl_cons];omega
 | trans _ _ h1 h2=>exact h1.trans h2
theorem evl_scale (zs:List Int)(x:Int)(l:List (Int×Int)):evl zs (scale x l)=x*evl zs l:=by
 induction l with
 | nil=>simp[scale,evl]
 | cons m r ih=>
   have e:scale x (m :: r)=(m.1,x*m.2) :: scale x r:=rfl
   rw[e,evl_cons,evl_cons,ih,Int.mul_add,Int.mul_assoc]
theorem evl_togStep (zs:List Int)(r:List (Int×Int))(m:Int×Int):evl zs (togStep r m)=evl zs r+m.2*valOf zs m.1:=by
 obtain⟨mv,mk⟩:=m
 rcases snoc_cases r with rfl | ⟨r',⟨pv,pk⟩,rfl⟩
 ·rw[togStep_nil,evl_cons,evl_nil];omega
 ·by_cases e:pv=mv
  ·subst e
   rw[togStep_eq,evl_append,evl_append,evl_cons,evl_cons,evl_nil]
   simp only[Int.add_mul];omega
  ·rw[togStep_ne _ _ _ e,evl_append,evl_cons,evl_nil];omega
theorem evl_tog (zs:List Int)(l:List (Int×Int)):∀k,k≤l.length→evl zs (tog (l.take k))=evl zs (l.take k)
 | 0,_=>by simp[tog]
 | k+1,hk=>by rw[take_snoc l k (by omega),tog_snoc,evl_togStep,evl_tog zs l k (by omega),evl_append,evl_cons,evl_nil];omega
theorem evl_filter (zs:List Int)(l:List (Int×Int)):evl zs (l.filter fun m=>m.2 != 0)=evl zs l:=by
 induction l with
 | nil=>rfl
 | cons m r ih=>
   by_cases h:m.2=0
   ·rw[List.filter_cons_of_neg (by simp[h]),ih,evl_cons,h];simp
   ·rw[List.filter_cons_of_pos (by simp[h]),evl_cons,evl_cons,ih]
theorem asc_sort (l:List (Int×Int)):Asc (l.mergeSort fun a b=>decide (a.1≤b.1)):=by
 intro i j hij hj
 have hs:=List.pairwise_mergeSort (le:=fun a b:Int×Int=>decide (a.1≤b.1)) (fun a b c h1 h2=>by simp at *; omega) (fun a b=>by simp;omega) l
 have:=List.pairwise_iff_getElem.1 hs i j (by omega) hj hij
 simp only[List.getD_eq_getElem?_getD]
 rw[List.getElem?_eq_getElem hj,List.getElem?_eq_getElem (by omega)]
 simpa using this
theorem IsSum.evl {l R:List (Int×Int)}(h:IsSum l R)(zs:List Int):evl zs R=evl zs l:=by
 have hp:=List.mergeSort_perm l fun a b=>decide (a.1≤b.1)
 have h2:=(tog_isSum _ (asc_sort l)).perm hp
 rw[h.unique h2,evl_filter]
 have:=evl_tog zs (l.mergeSort fun a b=>decide (a.1≤b.1)) _ (Nat.le_refl _)
 rw[List.take_length]at this
 rw[this,evl_perm zs hp]
theorem sAt_evl (c:Int)(l:List (Int×Int))(zs:List Int):∀k,k≤l.length→sAt c l zs k=c+evl zs (l.take k)
 | 0,_=>by simp[sAt,evl]
 | k+1,hk=>by
   rw[take_snoc l k (by omega),evl_append,evl_cons,evl_nil]
   unfold sAt
   rw[sAt_evl c l zs k (by omega)]
   omega
end Lf
end Go.Proofs.YtjbkhdbjdahbiaaGreatDoor
