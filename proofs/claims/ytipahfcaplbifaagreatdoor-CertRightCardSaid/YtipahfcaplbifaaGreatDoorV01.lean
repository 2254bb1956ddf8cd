/- Parts of a proof. -/
import Derived.Test.YtipahfcaplbifaaGreatDoorQ06
import Derived.Test.YtipahfcaplbifaaGreatDoorQ09
import Derived.Test.YtipahfcaplbifaaGreatDoorQ19
import Derived.Test.YtipahfcaplbifaaGreatDoorQ22
import Derived.Test.YtipahfcaplbifaaGreatDoorQ34
import Derived.Test.YtipahfcaplbifaaGreatDoorQ29
import Derived.Deep.DeepCutAuto
import Derived.Lib.QuietBelow
import Derived.BigQuiet
import Derived.Test.YtipahfcaplbifaaGreatDoorQ11
import Derived.BigRegion
import Derived.Test.YtipahfcaplbifaaGreatDoorQ18
import Derived.Test.YtipahfcaplbifaaGreatDoorQ15
import Derived.Test.YtipahfcaplbifaaGreatDoorQ35
import Derived.Test.YtipahfcaplbifaaGreatDoorQ41
import Derived.Test.YtipahfcaplbifaaGreatDoorQ42
import Derived.Test.YtipahfcaplbifaaGreatDoorQ02
import Derived.Test.YtipahfcaplbifaaGreatDoorRows
import Derived.ProofKit
import Derived.OpenShut
import Derived.ChangeOld
import Derived.Deep.Slices
import Derived.Deep.Fields
import Derived.Lib.SmallJoins
set_option linter.unusedVariables false
set_option linter.unusedSimpArgs false
set_option maxHeartbeats 60000000
set_option maxRecDepth 100000
namespace Go.Proofs.YtipahfcaplbifaaGreatDoor
section
open Go.RowKit
def valOf (zs:List Int)(v:Int):Int:=if v<zs.length then zs.getD v.toNat 0 else 0
def Held (w:World)(pv:Nat)(a:Option Addr)(n cap:Nat):Prop:=pv<w.heap.size∧w.cell? ⟨pv,0,none⟩=some (.slice a n cap)
theorem valueLit_yes (pv q:Nat)(s v k:Int)(a:Option Addr)(n cap:Nat)(zs:List Int)(w:World)(hn:zs.length=n)(hv:0≤v)(hne:pv<q)(hh:Held w pv a n cap)(hz:Nums w.heap.size w a zs)(ho:Own w q s)
 (hk: -1073741824≤k∧k≤1073741824) (hs: -2305843009213693952≤s∧s≤2305843009213693952) (hx:wi (valOf zs v) 16777216=true):
 Calls Tryz.prog 103 #[.agg #[.int .i64 v,.int .i64 k],.pointer (some ⟨pv,0,none⟩),.pointer (some ⟨q,0,none⟩)] w fun e w'=>e= .returned (.bool true)∧Own w' q (s+k*valOf zs v)∧Below q w w':=by
 have hwi:=fun W=>within_any (valOf zs v) 16777216 W (by omega) (by omega)
 rw[hx]at hwi
 have hxb: -16777216≤valOf zs v∧valOf zs v≤16777216:=by unfold wi at hx;simpa using hx
 have hmul: -18014398509481984≤k*valOf zs v∧k*valOf zs v≤18014398509481984:=by
  have h1:(k*valOf zs v).natAbs≤1073741824*16777216:=by
   rw[Int.natAbs_mul];exact Nat.mul_le_mul (by omega) (by omega)
  omega
 have hq:=ho
 obtain⟨h1,h2,h3⟩:=ho
 obtain⟨g1,g2⟩:=hh
 by_cases hlt:v<n
 ·obtain⟨i,rfl⟩:=Int.eq_ofNat_of_zero_le hv
  obtain⟨b,off,rfl,hb,hc⟩:=hz i (by omega)
  have hx2:valOf zs (i:Int)=zs.getD i 0:=by unfold valOf;rw[if_pos (by omega)];simp
  rw[hx2]at hwi hxb hmul hx⊢
  generalize zs.getD i 0=x at hwi hxb hmul hx hc⊢
  have O1:=Lib.hid ((hq.set (s+k*x)).alloc (.cells #[.int .i64 (i:Int),.int .i64 k] 92))
  have B1:=Lib.hid (((Below.refl q w).setCell (p:=⟨q,0,none⟩) (Nat.le_refl _) (.int .i64 (s+k*x))).alloc (Nat.le_of_lt (hq.set (s+k*x)).1) (.cells #[.int .i64 (i:Int),.int .i64 k] 92))
  clear hz hn hx2 hx hq
  go_enter Tryz.func103,Tryz.ntmps103
  go_wp2_with (go_at_call 45;refine(hwi _).mono ?_;rintro e w' ⟨rfl,rfl⟩)
  go_ret
  exact⟨rfl,O1.out,B1.out⟩
 ·have hx2:valOf zs v=0:=by unfold valOf;rw[if_neg (by omega)]
  rw[hx2]at hwi hxb hmul hx⊢
  rw[Int.mul_zero,Int.add_zero]
  have O1:=Lib.hid ((hq.set s).alloc (.cells #[.int .i64 v,.int .i64 k] 92))
  have B1:=Lib.hid (((Below.refl q w).setCell (p:=⟨q,0,none⟩) (Nat.le_refl _) (.int .i64 s)).alloc (Nat.le_of_lt (hq.set s).1) (.cells #[.int .i64 v,.int .i64 k] 92))
  clear hz hn hx2 hx hq
  go_enter Tryz.func103,Tryz.ntmps103
  go_wp2_with (go_at_call 45;refine(hwi _).mono ?_;rintro e w' ⟨rfl,rfl⟩)
  go_ret
  exact⟨rfl,O1.out,B1.out⟩
theorem valueLit_any (pv q:Nat)(s v k:Int)(a:Option Addr)(n cap:Nat)(zs:List Int)(w:World)(hn:zs.length=n)(hv:0≤v)(hne:pv<q)(hh:Held w pv a n cap)(hz:Nums w.heap.size w a zs)(ho:Own w q s):
 Calls Tryz.prog 103 #[.agg #[.int .i64 v,.int .i64 k],.pointer (some ⟨pv,0,none⟩),.pointer (some ⟨q,0,none⟩)] w fun e w'=>e= .returned (.bool (wi (valOf zs v) 16777216))∧(∃s',Own w' q s')∧Below q w w':=by
 have hwi:=fun W=>within_any (valOf zs v) 16777216 W (by omega) (by omega)
 have hq:=ho
 obtain⟨h1,h2,h3⟩:=ho
 obtain⟨g1,g2⟩:=hh
 have O1:Hid (∀y x,Own ((w.setCell ⟨q,0,none⟩ (.int .i64 y)).alloc (.cells #[.int .i64 x,.int .i64 k] 92)) q y∧Below q w ((w.setCell ⟨q,0,none⟩ (.int .i64 y)).alloc (.cells #[.int .i64 x,.int .i64 k] 92))):=
  fun y x=>⟨(hq.set y).alloc _,(((Below.refl q w).setCell (p:=⟨q,0,none⟩) (Nat.le_refl _) (.int .i64 y)).alloc (Nat.le_of_lt (hq.set y).1) _)⟩
 by_cases hlt:v<n
 ·obtain⟨i,rfl⟩:=Int.eq_ofNat_of_zero_le hv
  obtain⟨b,off,rfl,hb,hc⟩:=hz i (by omega)
  have hx2:valOf zs (i:Int)=zs.getD i 0:=by unfold valOf;rw[if_pos (by omega)];simp
  rw[hx2]at hwi⊢
  generalize zs.getD i 0=x at hwi hc⊢
  clear hz hn hx2 hq
  go_enter Tryz.func103,Tryz.ntmps103
  go_wp2_with (go_at_call 45;refine(hwi _).mono ?_;rintro e w' ⟨rfl,rfl⟩)
  go_ret
  exact⟨rfl,⟨_,(O1.out _ _).1⟩,(O1.out _ _).2⟩
 ·have hx2:valOf zs v=0:=by unfold valOf;rw[if_neg (by omega)]
  rw[hx2]at hwi⊢
  clear hz hn hx2 hq
  go_enter Tryz.func103,Tryz.ntmps103
  go_wp2_with (go_at_call 45;refine(hwi _).mono ?_;rintro e w' ⟨rfl,rfl⟩)
  go_ret
  exact⟨rfl,⟨_,(O1.out _ _).1⟩,(O1.out _ _).2⟩
def sAt (c:Int)(l:List (Int×Int))(zs:List Int):Nat→Int
 | 0=>c
 | i+1=>sAt c l zs i+(l.getD i (0,0)).2*valOf zs (l.getD i (0,0)).1
def near (l:List (Int×Int))(zs:List Int)(i:Nat):Bool:=wi (valOf zs (l.getD i (0,0)).1) 16777216
theorem sAt_in (c:Int)(l:List (Int×Int))(zs:List Int)(hc: -1073741824≤c∧c≤1073741824):∀i,i≤64→(∀j,j<i→ -1073741824≤(l.getD j (0,0)).2∧(l.getD j (0,0)).2≤1073741824)→(∀j,j<i→near l zs j=true)→
 -(1073741824+i*18014398509481984:Int)≤sAt c l zs i∧sAt c l zs i≤1073741824+i*18014398509481984
 | 0,_,_,_=>by unfold sAt;omega
 | i+1,hi,hk,hx=>by
   have h1:=sAt_in c l zs hc i (by omega) (fun j hj=>hk j (by omega)) (fun j hj=>hx j (by omega))
   have h2:=hk i (by omega)
   have h3:=hx i (by omega)
   unfold near wi at h3
   have h3: -16777216≤valOf zs (l.getD i (0,0)).1∧valOf zs (l.getD i (0,0)).1≤16777216:=by simpa using h3
   have h4:((l.getD i (0,0)).2*valOf zs (l.getD i (0,0)).1).natAbs≤1073741824*16777216:=by
    rw[Int.natAbs_mul];exact Nat.mul_le_mul (by omega) (by omega)
   unfold sAt
   omega
theorem Tryz.enters35:∀args w,(callFunc 103 args).run Tryz.prog w= .ok (.enter 103 args) w:=fun _ _=>by kernel_rfl
def VInv (pv q:Nat)(a2:Option Addr)(n2 cap2:Nat)(P:Int→Prop)(W:World):Prop:=Held W pv a2 n2 cap2∧∃s,P s∧Own W q s
theorem VInv.alloc {pv q:Nat}{a2:Option Addr}{n2 cap2:Nat}{P:Int→Prop}{W:World}(h:VInv pv q a2 n2 cap2 P W)(o:Obj):VInv pv q a2 n2 cap2 P (W.alloc o):=by
 obtain⟨⟨h1,h2⟩,s,hp,ho⟩:=h
 have hb:=(Below.refl W.heap.size W).alloc (Nat.le_refl _) o
 exact⟨⟨Nat.lt_of_lt_of_le h1 hb.size,by rw[hb.cell (p:=⟨pv,0,none⟩) h1];exact h2⟩,s,hp,ho.alloc o⟩
theorem Held.below {w w':World}{pv q:Nat}{a:Option Addr}{n cap:Nat}(h:Held w pv a n cap)(hq:pv<q)(hb:Below q w w'):Held w' pv a n cap:=
 ⟨Nat.lt_of_lt_of_le h.1 hb.size,by rw[hb.cell (p:=⟨pv,0,none⟩) hq];exact h.2⟩
theorem valueAll_yes (pv q:Nat)(c:Int)(a:Option Addr)(n cap:Nat)(l:List (Int×Int))(a2:Option Addr)(n2 cap2:Nat)(zs:List Int)(w:World)(B:Nat)(hB:B≤pv)(hpq:pv<q)(hn:l.length=n)(hm:n≤64)(hn2:zs.length=n2)
 (hl:Lies B w a l) (hz:Nums B w a2 zs) (hh:Held w pv a2 n2 cap2) (ho:Own w q c) (hc: -1073741824≤c∧c≤1073741824)
 (hk:∀j,j<n→0≤(l.getD j (0,0)).1∧ -1073741824≤(l.getD j (0,0)).2∧(l.getD j (0,0)).2≤1073741824) (h:∀i,i<n→near l zs i=true):
 Calls Tryz.prog 46 #[.slice a n cap,.func (.func 103) #[] #[.pointer (some ⟨pv,0,none⟩),.pointer (some ⟨q,0,none⟩)]] w fun e w'=>e= .returned (.bool true)∧Own w' q (sAt c l zs n)∧Below B w w':=by
 have hbs:B≤w.heap.size:=by have:=hh.1;omega
 refine(all_yes 103 #[.pointer (some ⟨pv,0,none⟩),.pointer (some ⟨q,0,none⟩)] a n cap l w (fun i W=>VInv pv q a2 n2 cap2 (·=sAt c l zs i) W) (near l zs) Tryz.enters35 hn (by omega) B hbs hl ⟨hh,c,rfl,ho⟩
  (fun _ _ o h=>h.alloc o) ?_ h).mono ?_
 ·intro i W hi hb hI
  obtain⟨hhW,s,rfl,hoW⟩:=hI
  have hs:=sAt_in c l zs hc i (by omega) (fun j hj=>(hk j (by omega)).2) (fun j hj=>h j (by omega))
  have hki:=hk i hi
  refine(valueLit_yes pv q _ (l.getD i (0,0)).1 (l.getD i (0,0)).2 a2 n2 cap2 zs W hn2 hki.1 hpq hhW ((hz.below hb).mono (by have:=hb.size;omega)) hoW hki.2 (by omega) (h i hi)).mono ?_
  rintro e w' ⟨he,ho',hb'⟩
  exact⟨by rw[h i hi];exact he,⟨hhW.below hpq hb',_,rfl,ho'⟩,hb'.mono (by omega)⟩
 ·rintro e w' ⟨he,⟨_,s,rfl,ho'⟩,hb⟩
  exact⟨he,ho',hb⟩
theorem valueAll_no (pv q:Nat)(c:Int)(a:Option Addr)(n cap:Nat)(l:List (Int×Int))(a2:Option Addr)(n2 cap2:Nat)(zs:List Int)(w:World)(B:Nat)(hB:B≤pv)(hpq:pv<q)(hn:l.length=n)(hm:n≤64)(hn2:zs.length=n2)
 (hl:Lies B w a l) (hz:Nums B w a2 zs) (hh:Held w pv a2 n2 cap2) (ho:Own w q c)
 (hk:∀j,j<n→0≤(l.getD j (0,0)).1) (h:¬ ∀i,i<n→near l zs i=true):
 Calls Tryz.prog 46 #[.slice a n cap,.func (.func 103) #[] #[.pointer (some ⟨pv,0,none⟩),.pointer (some ⟨q,0,none⟩)]] w fun e w'=>e= .returned (.bool false)∧Below B w w':=by
 have hbs:B≤w.heap.size:=by have:=hh.1;omega
 obtain⟨j,hj,h1,h2⟩:=first_no _ _ h
 refine(all_no 103 #[.pointer (some ⟨pv,0,none⟩),.pointer (some ⟨q,0,none⟩)] a n cap l w (fun i W=>VInv pv q a2 n2 cap2 (fun _=>True) W) (near l zs) Tryz.enters35 hn (by omega) B hbs hl ⟨hh,c,trivial,ho⟩
  (fun _ _ o h=>h.alloc o) ?_ j hj h1 h2).mono fun _ _ ⟨he,_,hb⟩=>⟨he,hb⟩
 intro i W hi hb hI
 obtain⟨hhW,s,_,hoW⟩:=hI
 refine(valueLit_any pv q s (l.getD i (0,0)).1 (l.getD i (0,0)).2 a2 n2 cap2 zs W hn2 (hk i hi) hpq hhW ((hz.below hb).mono (by have:=hb.size;omega)) hoW).mono ?_
 rintro e w' ⟨he,⟨s',ho'⟩,hb'⟩
 exact⟨he,⟨hhW.below hpq hb',s',trivial,ho'⟩,hb'.mono (by omega)⟩
theorem value_ok (c:Int)(a:Option Addr)(n cap:Nat)(l:List (Int×Int))(a2:Option Addr)(n2 cap2:Nat)(zs:List Int)(w:World)(hn:l.length=n)(hn2:zs.length=n2)(hl:Lies w.heap.size w a l)(hz:Nums w.heap.size w a2 zs)(hs:snd c l=true)
 (h:∀i,i<n→near l zs i=true):
 Calls Tryz.prog 71 #[.agg #[.int .i64 c,.slice a n cap],.slice a2 n2 cap2] w fun e w'=>e= .returned (.tuple #[.int .i64 (sAt c l zs n),.nilIface])∧Below w.heap.size w w':=by
 obtain⟨hwc,h64,hall⟩:=snd_iff.1 hs
 have hb0:Below w.heap.size w ((w.alloc (.cells #[.int .i64 c,.slice a n cap] 36)).alloc (.cells #[.slice a2 n2 cap2] 23)):=((Below.refl _ w).alloc (Nat.le_refl _) _).alloc (by simp) _
 have hck:=check_yes c a n cap l _ hn ((hl.below hb0).mono hb0.size) hs
 have hcb: -1073741824≤c∧c≤1073741824:=by unfold wi at hwc;simpa using hwc
 have hga:=fun(W:World) (q:Nat) (hq:w.heap.size+1<q) (hb:Below w.heap.size w W) (hh:Held W (w.heap.size+1) a2 n2 cap2) (ho:Own W q c)=>
  valueAll_yes (w.heap.size+1) q c a n cap l a2 n2 cap2 zs W w.heap.size (by omega) hq hn (by omega) hn2 (hl.below hb) (hz.below hb) hh ho hcb (fun j hj=>by have:=okAt_in (hall j (by omega));omega) h
 generalize sAt c l zs n=r at hga⊢
 have HG:=Lib.hid hga
 have HB:=Lib.hid hb0
 clear hn hs hall hl hz hga hb0 hwc h64 hcb h
 go_enter Tryz.func71,Tryz.ntmps71
 go_wp2_with (go_at_call 22;refine hck.mono ?_;rintro e w1 ⟨rfl,hb1⟩;obtain⟨hc1,hf1⟩:=bcell hb1;have hz:w.heap.size+1<w1.heap.size:=(by have:=hb1.size;simp at this;omega);have hz0:w.heap.size<w1.heap.size:=(by omega);clear hck)
 have hb2:Below w.heap.size w (w1.alloc (.cells #[.int .i64 c] 3)):=(HB.out.trans (hb1.mono (by simp;omega))).alloc (by omega) _
 have hh:Held (w1.alloc (.cells #[.int .i64 c] 3)) (w.heap.size+1) a2 n2 cap2:=⟨by simp;omega,by
  have hbb:=(Below.refl w1.heap.size w1).alloc (Nat.le_refl _) (.cells #[.int .i64 c] 3)
  rw[hbb.cell (p:=⟨w.heap.size+1,0,none⟩) hz,hc1 _ _ (by simp)]
  simp⟩
 refine(HG.out _ w1.heap.size hz hb2 hh (Own.new _ _ _)).mono ?_
 rintro e w2 ⟨rfl,ho,hb3⟩
 obtain⟨ho1,ho2,ho3⟩:=ho
 have B3:=Lib.hid (hb2.trans hb3)
 clear hb3 hb2 hh hc1 hf1
 go_wp2_with fail
 go_ret2
 exact⟨rfl,B3.out⟩
theorem value_far (c:Int)(a:Option Addr)(n cap:Nat)(l:List (Int×Int))(a2:Option Addr)(n2 cap2:Nat)(zs:List Int)(w:World)(hn:l.length=n)(hn2:zs.length=n2)(hl:Lies w.heap.size w a l)(hz:Nums w.heap.size w a2 zs)(hs:snd c l=true)
 (h:¬ ∀i,i<n→near l zs i=true):
 Calls Tryz.prog 71 #[.agg #[.int .i64 c,.slice a n cap],.slice a2 n2 cap2] w fun e w'=>e= .returned (.tuple #[.int .i64 0,.iface 60 (.int .i64 1)])∧Below w.heap.size w w':=by
 obtain⟨_,h64,hall⟩:=snd_iff.1 hs
 have hb0:Below w.heap.size w ((w.alloc (.cells #[.int .i64 c,.slice a n cap] 36)).alloc (.cells #[.slice a2 n2 cap2] 23)):=((Below.refl _ w).alloc (Nat.le_refl _) _).alloc (by simp) _
 have hck:=check_yes c a n cap l _ hn ((hl.below hb0).mono hb0.size) hs
 have hga:=fun(W:World) (q:Nat) (hq:w.heap.size+1<q) (hb:Below w.heap.size w W) (hh:Held W (w.heap.size+1) a2 n2 cap2) (ho:Own W q c)=>
  valueAll_no (w.heap.size+1) q c a n cap l a2 n2 cap2 zs W w.heap.size (by omega) hq hn (by omega) hn2 (hl.below hb) (hz.below hb) hh ho (fun j hj=>by have:=okAt_in (hall j (by omega));omega) h
 have HG:=Lib.hid hga
 have HB:=Lib.hid hb0
 clear hn hs hall hl hz hga hb0 h64 h
 go_enter Tryz.func71,Tryz.ntmps71
 go_wp2_with (go_at_call 22;refine hck.mono ?_;rintro e w1 ⟨rfl,hb1⟩;obtain⟨hc1,hf1⟩:=bcell hb1;have hz:w.heap.size+1<w1.heap.size:=(by have:=hb1.size;simp at this;omega);have hz0:w.heap.size<w1.heap.size:=(by omega);clear hck)
 have hb2:Below w.heap.size w (w1.alloc (.cells #[.int .i64 c] 3)):=(HB.out.trans (hb1.mono (by simp;omega))).alloc (by omega) _
 have hh:Held (w1.alloc (.cells #[.int .i64 c] 3)) (w.heap.size+1) a2 n2 cap2:=⟨by simp;omega,by
  have hbb:=(Below.refl w1.heap.size w1).alloc (Nat.le_refl _) (.cells #[.int .i64 c] 3)
  rw[hbb.cell (p:=⟨w.heap.size+1,0,none⟩) hz,hc1 _ _ (by simp)]
  simp⟩
 refine(HG.out _ w1.heap.size hz hb2 hh (Own.new _ _ _)).mono ?_
 rintro e w2 ⟨rfl,hb3⟩
 have B3:=Lib.hid (hb2.trans hb3)
 clear hb3 hb2 hh hc1 hf1
 go_wp2_with fail
 go_ret2
 exact⟨rfl,B3.out⟩
end
section
theorem made_none {n:Nat}{f:FT}(h:madeF (n+1) f=true)(h0:f.kind=0∨f.kind=1):f.ks.length=0:=by
 rw[madeF_0 h0]at h
 simp only[Bool.and_eq_true,decide_eq_true_eq]at h
 exact h.2
theorem atN_get:∀(am:List (Int×List (Int×Int))) (x:Int×List (Int×Int)) (k:Nat),atN am x=k+1→am[k]? =some x
 | [],_,_,h=>by cases h
 | a :: am,x,k,h=>by
   rw[atN]at h
   split at h
   ·rename_i e
    obtain rfl:k=0:=by omega
    simp[e]
   ·split at h
    ·cases h
    ·have hk:0<k:=by omega
     obtain⟨j,rfl⟩:∃j,k=j+1:=⟨k - 1,by omega⟩
     have:=atN_get am x j (by omega)
     simpa using this
theorem mkTo_zero (am:List (Int×List (Int×Int)))(n:Nat)(ks:List FT)(N:Nat)(cl:List (List Int)):mkTo am n ks N cl 0=(N,cl,[]):=rfl
end
namespace Cut
open Go.RowKit Go.Maps
theorem partsK_in (n:Int)(ps:List (Int×Int)):∀k,0≤partsK n ps k∧partsK n ps k≤16
 | 0=>by constructor<;>simp[partsK]
 | k+1=>by
   have:=partsK_in n ps k
   unfold partsK
   split
   ·unfold partK;split
    ·omega
    ·split<;>omega
   ·exact this
theorem stepK_in (n:Int)(ps:List (Int×Int))(div:Int):0≤stepK n ps div∧stepK n ps div≤16:=by
 have:=partsK_in n ps ps.length
 unfold stepK
 split
 ·omega
 ·split
  ·split<;>omega
  ·exact this
theorem divK_in2 (C:Int)(E:List (Int×Int)):0≤divK C E∧divK C E≤16:=by unfold divK;repeat (first | split | omega)
theorem tellK_in (n c div:Int)(ps R:List (Int×Int)):0≤tellK n c div ps R∧tellK n c div ps R≤16:=by
 have h1:=stepK_in n ps div
 have h2:=divK_in2 (upI c div) (divT div R)
 unfold tellK
 split
 ·exact h1
 ·split
  ·omega
  ·split
   ·omega
   ·exact h2
theorem LinesIs.code {ls ss at' L}{x:Int}(h:LinesIs ls ss x at' L):(0≤x∧x≤16)∧(0≤at'→x≠0):=by
 cases h with
 | long _=>exact⟨by omega,fun _=>by omega⟩
 | prem _=>exact⟨by omega,fun _=>by omega⟩
 | step _ _ _ _ _ _ g=>exact⟨tellK_in _ _ _ _ _,fun _=>g⟩
 | ok _ _ _ _=>exact⟨by omega,fun h=>by omega⟩
theorem refX_code {ls ss at' L}{x:Int}(h:LinesIs ls ss x at' L):(0≤refX x L∧refX x L≤16)∧(0≤at'→refX x L≠0):=by
 have hc:=h.code
 by_cases hx:x=0
 ·have ha:=(h.zero hx).1
  refine⟨?_,fun h=>by omega⟩
  unfold refX;rw[if_pos hx];split<;>omega
 ·have e:refX x L=x:=if_neg hx
  rw[e];exact hc
end Cut
namespace Prp
open Go.RowKit
def litV (vs:List Bool)(l:Int):Bool:=if 0<l then decide (l≤vs.length) && vs.getD (l - 1).toNat false else decide (l<0∧ -(vs.length:Int)≤l) && !vs.getD (-l - 1).toNat false
inductive LitWay (vs:List Bool) (l:Int) (r:Bool):Prop
 | zero:l=0→r=false→LitWay vs l r
 | far:0<l→(vs.length:Int)<l→r=false→LitWay vs l r
 | pos (k:Nat) (b:Bool):l=(k:Int)+1→k<vs.length→vs.getD k false=b→r=b→LitWay vs l r
 | nfar:l<0→l< -(vs.length:Int)→r=false→LitWay vs l r
 | neg (k:Nat) (b:Bool):l= -((k:Int)+1)→k<vs.length→vs.getD k false=b→r=(!b)→LitWay vs l r
theorem lit_way (vs:List Bool)(l:Int):LitWay vs l (litV vs l):=by
 unfold litV
 by_cases h:0<l
 ·by_cases h2:l≤vs.length
  ·refine .pos (l - 1).toNat _ (by omega) (by omega) rfl ?_
   rw[if_pos h,decide_eq_true h2];simp
  ·refine .far h (by omega) ?_
   rw[if_pos h,decide_eq_false h2];simp
 ·by_cases h0:l=0
  ·refine .zero h0 ?_
   rw[if_neg h,decide_eq_false (by omega)];simp
  ·by_cases h2: -(vs.length:Int)≤l
   ·refine .neg (-l - 1).toNat _ (by omega) (by omega) rfl ?_
    rw[if_neg h,decide_eq_true ⟨by omega,h2⟩];simp
   ·refine .nfar (by omega) (by omega) ?_
    rw[if_neg h,decide_eq_false (by omega)];simp
end Prp
namespace Prp
open Go.RowKit
def anyV (vs:List Bool)(c:List Int):Bool:=c.any (litV vs)
def valB (cs:List (List Int))(vs:List Bool):Bool:=cs.all (anyV vs)
end Prp
namespace Prp
open Go.RowKit
theorem take_snocG (cs:List (List Int))(k:Nat)(h:k<cs.length):cs.take (k+1)=cs.take k ++ [cs.getD k []]:=by
 rw[List.take_succ_eq_append_getElem h,List.getD_eq_getElem?_getD,List.getElem?_eq_getElem h];rfl
end Prp
section
open Go.RowKit
def atA (am:List (Int×List (Int×Int)))(x:Int):Int×List (Int×Int):=am.getD (x.natAbs - 1) (0,[])
def oppA (am:List (Int×List (Int×Int)))(x:Int):Int×List (Int×Int):=if x<0 then atA am x else(1 - (atA am x).1,scale (-1) (atA am x).2)
def inA (m:Nat)(x:Int):Bool:=decide (x≠0∧ -(m:Int)≤x∧x≤m)
def nearA (am:List (Int×List (Int×Int)))(x:Int):Bool:=decide (x<0) || wi (1 - (atA am x).1) 1073741824
def premK (am:List (Int×List (Int×Int)))(ls:List Int):Int:=if ls.all (inA am.length)=true then(if ls.all (nearA am)=true then 0 else 3) else 5
def premL (am:List (Int×List (Int×Int)))(ls:List Int):List (Int×List (Int×Int)):=if premK am ls=0 then ls.map (oppA am) else[]
theorem premK_zero {am:List (Int×List (Int×Int))}{ls:List Int}(h:premK am ls=0):(∀x∈ls,inA am.length x=true)∧(∀x∈ls,nearA am x=true)∧premL am ls=ls.map (oppA am):=by
 refine⟨?_, ?_,by unfold premL;rw[if_pos h]⟩
 all_goals
  unfold premK at h
  split at h
  ·rename_i h1
   split at h
   ·rename_i h2
    first | exact List.all_eq_true.1 h1 | exact List.all_eq_true.1 h2
   ·cases h
  ·cases h
def LemIs (am:List (Int×List (Int×Int)))(lm:List Int×List (List (Int×Int)×Int))(k:Int):Prop:=
 (premK am lm.1≠0∧k=premK am lm.1)∨(premK am lm.1=0∧∃x at' L,Cut.LinesIs (premL am lm.1) lm.2 x at' L∧k=Cut.refX x L)
theorem lem_is (am:List (Int×List (Int×Int)))(lm:List Int×List (List (Int×Int)×Int)):∃k,LemIs am lm k:=by
 by_cases h:premK am lm.1=0
 ·obtain⟨x,at',L,hL⟩:=Cut.lines_is (premL am lm.1) lm.2
  exact⟨_,.inr ⟨h,x,at',L,hL,rfl⟩⟩
 ·exact⟨_,.inl ⟨h,rfl⟩⟩
theorem lems_is (am:List (Int×List (Int×Int)))(lms:List (List Int×List (List (Int×Int)×Int))):∃ks:Nat→Int,∀j,j<lms.length→LemIs am (lms.getD j ([],[])) (ks j):=
 ⟨fun j=>Classical.choose (lem_is am (lms.getD j ([],[]))),fun j _=>Classical.choose_spec (lem_is am (lms.getD j ([],[])))⟩
inductive CertIs (nk mk:Int) (ks:Nat→Int) (nl:Nat) (N:Int) (cs ss:List (List Int)):Int→Int→Prop
 | norm:nk≠0→CertIs nk mk ks nl N cs ss nk (-1)
 | cnf:nk=0→mk≠0→CertIs nk mk ks nl N cs ss mk (-1)
 | lem (j:Nat):nk=0→mk=0→j<nl→(∀i,i<j→ks i=0)→ks j≠0→CertIs nk mk ks nl N cs ss (ks j) j
 | rup (x at':Int):nk=0→mk=0→(∀i,i<nl→ks i=0)→Prp.RupIs N cs ss x at'→CertIs nk mk ks nl N cs ss x at'
theorem CertIs.unique {nk mk:Int}{ks:Nat→Int}{nl:Nat}{N:Int}{cs ss:List (List Int)}{x at' x2 at2:Int}(h:CertIs nk mk ks nl N cs ss x at')(h2:CertIs nk mk ks nl N cs ss x2 at2):x=x2∧at'=at2:=by
 cases h with
 | norm h=>
   cases h2 with
   | norm=>exact⟨rfl,rfl⟩
   | cnf g=>exact absurd g h
   | lem j g=>exact absurd g h
   | rup _ _ g=>exact absurd g h
 | cnf h h'=>
   cases h2 with
   | norm g=>exact absurd h g
   | cnf=>exact⟨rfl,rfl⟩
   | lem j _ g=>exact absurd g h'
   | rup _ _ _ g=>exact absurd g h'
 | lem j h h' hj ha hn=>
   cases h2 with
   | norm g=>exact absurd h g
   | cnf _ g=>exact absurd h' g
   | lem i _ _ hi ga gn=>
     rcases Nat.lt_trichotomy i j with hlt | rfl | hlt
     ·exact absurd (ha i hlt) gn
     ·exact⟨rfl,rfl⟩
     ·exact absurd (ga j hlt) hn
   | rup _ _ _ _ g=>exact absurd (g j hj) hn
 | rup _ _ h h' ha hr=>
   cases h2 with
   | norm g=>exact absurd h g
   | cnf _ g=>exact absurd h' g
   | lem i _ _ hi ga gn=>exact absurd (ha i hi) gn
   | rup _ _ _ _ _ g=>exact hr.unique g
end
section
open Go.RowKit
def vStep (b:Bool)(p q:Bool×Bool):Bool×Bool:=(if(q.1 != b)=true then !b else p.1,p.2 && q.2)
def vOf (zs:List Int):Nat→FT→Bool×Bool
 | 0,_=>(false,false)
 | n+1,f=>
   if f.kind=0 then(true,true)
   else if f.kind=1 then(false,true)
   else if f.kind=2∨f.kind=3 then
    if ∀i,i<f.t.length→near f.t zs i=true then(decide (sAt f.c f.t zs f.t.length=0) || (decide (sAt f.c f.t zs f.t.length<0) && decide (f.kind=2)),true) else(true,false)
   else if f.kind=4 then(!(vOf zs n (f.ks.getD 0 default)).1,(vOf zs n (f.ks.getD 0 default)).2)
   else(f.ks.map (vOf zs n)).foldl (vStep (f.kind == 5)) (f.kind == 5,true)
def vTo (zs:List Int)(n:Nat)(b:Bool)(ks:List FT)(k:Nat):Bool×Bool:=((ks.take k).map (vOf zs n)).foldl (vStep b) (b,true)
theorem vTo_succ (zs:List Int)(n:Nat)(b:Bool)(ks:List FT)(k:Nat)(h:k<ks.length):vTo zs n b ks (k+1)=vStep b (vTo zs n b ks k) (vOf zs n (ks.getD k default)):=by
 unfold vTo
 rw[List.take_succ_eq_append_getElem h,List.map_append,List.foldl_append]
 simp[List.getD_eq_getElem?_getD,h]
theorem ownF_not {f:FT}(h:ownF f=true)(hk:f.kind=4):f.ks.length=1:=by
 unfold ownF ownV at h
 rw[if_neg (by omega),if_neg (by omega),if_pos hk]at h
 simp at h
 omega
def ValEnd (B:Nat)(p:Bool×Bool)(w:World)(e:Ending)(w':World):Prop:=e= .returned (.tuple #[.bool p.1,.bool p.2])∧Below B w w'
end
section
open Go.RowKit
theorem make_no (n:Nat)(f:FT)(cs:List Value)(w:World)(h:FLies w.heap.size w (n+1) f cs)(hi:isF (n+1) f=false):
 Calls Tryz.prog 31 #[.agg cs.toArray] w (CnfEnd (n+1) f w):=by
 obtain⟨ta,tcap,ka,kcap,rfl,h4,h5,h6,h7⟩:=h
 have hfl:FLies w.heap.size w (n+1) f [.int .i64 f.kind,.int .i64 f.c,.slice ta f.t.length tcap,.slice ka f.ks.length kcap]:=⟨ta,tcap,ka,kcap,rfl,h4,h5,h6,h7⟩
 have HK:Hid (cnfK (n+1) f=5):=Lib.hid (by unfold cnfK;rw[if_pos hi])
 have hA:Below w.heap.size w (w.alloc (.cells #[.int .i64 f.kind,.int .i64 f.c,.slice ta f.t.length tcap,.slice ka f.ks.length kcap] 39)):=(Below.refl _ w).alloc (Nat.le_refl _) _
 have HB:=box_start w f.kind f.c ta ka f.t.length tcap f.ks.length kcap
 have hA2:Below (w.alloc (.cells #[.int .i64 f.kind,.int .i64 f.c,.slice ta f.t.length tcap,.slice ka f.ks.length kcap] 39)).heap.size (w.alloc (.cells #[.int .i64 f.kind,.int .i64 f.c,.slice ta f.t.length tcap,.slice ka f.ks.length kcap] 39)) ((w.alloc (.cells #[.int .i64 f.kind,.int .i64 f.c,.slice ta f.t.length tcap,.slice ka f.ks.length kcap] 39)).alloc (.cells #[.int .i64 0,.slice none 0 0,.slice none 0 0] 71)):=(Below.refl _ _).alloc (Nat.le_refl _) _
 have hz1:(w.alloc (.cells #[.int .i64 f.kind,.int .i64 f.c,.slice ta f.t.length tcap,.slice ka f.ks.length kcap] 39)).heap.size=w.heap.size+1:=by simp
 have hrc:=rc_new (w.alloc (.cells #[.int .i64 f.kind,.int .i64 f.c,.slice ta f.t.length tcap,.slice ka f.ks.length kcap] 39)) (w.heap.size+1) hz1
 have hAA:=hA.trans (hA2.mono hA.size)
 have hz2:((w.alloc (.cells #[.int .i64 f.kind,.int .i64 f.c,.slice ta f.t.length tcap,.slice ka f.ks.length kcap] 39)).alloc (.cells #[.int .i64 0,.slice none 0 0,.slice none 0 0] 71)).heap.size=w.heap.size+2:=by simp
 have HIS:=Lib.hid (nis_any (n+1) f _ _ ((hfl.below hAA).mono hAA.size))
 rw[hi]at HIS
 have hbx:=fun j=>hA2.cell (p:=⟨w.heap.size,j,none⟩) (show w.heap.size<_ by rw[hz1];omega)
 have b0:=(hbx 0).trans HB.c0
 have b1:=(hbx 1).trans HB.c1
 have b2:=(hbx 2).trans HB.c2
 have b3:=(hbx 3).trans HB.c3
 have HZ2:=Lib.hid hz2
 have HRC:=Lib.hid hrc
 have HAA:=Lib.hid hAA
 unfold CnfEnd
 rw[HK.out]
 clear HK hA HB hA2 hz1 hz2 hrc hAA hbx hfl h4 h7 hi
 generalize f.kind=fk at*
 generalize f.c=fc at*
 generalize f.t.length=ft at*
 generalize f.ks.length=fl at*
 go_enter Tryz.func31,Tryz.ntmps31
 go_wp2_with fail
 generalize (w.alloc (.cells #[.int .i64 fk,.int .i64 fc,.slice ta ft tcap,.slice ka fl kcap] 39)).alloc (.cells #[.int .i64 0,.slice none 0 0,.slice none 0 0] 71)=W2 at*
 refine HIS.out.mono ?_
 rintro e w3 ⟨rfl,hb3⟩
 have hr3:=HRC.out.keep (hb3.block (w.heap.size+1) (by rw[HZ2.out];omega))
 have HR3:=Lib.hid hr3
 have HB3:=Lib.hid (HAA.out.trans (hb3.mono HAA.out.size))
 clear hb3 hr3 b0 b1 b2 b3
 obtain⟨r0,r1,r2,rf⟩:=HR3.out
 go_wp2_with fail
 clear r0 r1 r2 rf
 refine bodyPost_ret (v:= .tuple #[.agg #[.int .i64 0,.slice none 0 0,.slice none 0 0],.iface 60 (.int .i64 5)]) ?_ rfl ⟨fun _=>rfl,fun h=>absurd h (by decide),below3 HB3.out (Nat.le_succ _) _ _ _⟩
 obtain⟨e0,e1,e2⟩:=res3 HR3.out (.int .i64 0) (.slice none 0 0) (.slice none 0 0)
 simp[results,Tryz.results31,go_sem,e0,e1,e2]
end
section
open Go.RowKit
theorem rnrm_any:∀n,NIR n
 | 0=>fun f nt cs W h _ _=>by cases h
 | n+1=>by
   have IH:=rnrm_any n
   intro f nt cs W hs hlit h
   obtain⟨hown,hks⟩:=snd_own hs
   obtain⟨ta,tcap,ka,kcap,rfl,hlt,ht,hk,hkk⟩:=id h
   rcases own_kinds hown with ⟨hk01,hc,htn,hkn⟩ | ⟨hk23,hsn,hkn⟩ | ⟨hk4,hc,htn,hk1⟩ | ⟨hk56,hc,htn⟩
   ·rcases hk01 with e | e
    ·rw[normF_0 e,e,hc,htn,hkn]
     cases nt
     ·exact(rn_k0y ta ka tcap kcap W).mono fun _ _ h=>h.up (by omega)
     ·exact(rn_k0n ta ka tcap kcap W).mono fun _ _ h=>h.up (by omega)
    ·rw[normF_1 e,e,hc,htn,hkn]
     cases nt
     ·exact(rn_k1y ta ka tcap kcap W).mono fun _ _ h=>h.up (by omega)
     ·exact(rn_k1n ta ka tcap kcap W).mono fun _ _ h=>h.up (by omega)
   ·have h64:=(snd_iff.1 hsn).2.1
    have hLit:∀V,Below W.heap.size W V→Calls Tryz.prog 96 #[.agg #[.int .i64 f.c,.slice ta f.t.length tcap]] V (Ans V.heap.size 2 (litT f.c f.t) (.int .i64 (litK f.c f.t)) V):=fun V hb=>
     (lit_both f.c ta f.t.length tcap f.t V rfl ht ((hlt.below hb).mono hb.size)).2
    rcases hk23 with e | e
    ·rw[normF_2 e,e]
     rcases litK_sound hsn with hk0 | hk3
     ·rw[if_pos hk0]
      rw[hk0]at hLit
      cases nt
      ·exact(rn_k2_0f f.c ta ka f.t.length tcap f.ks.length kcap _ W hLit).mono fun _ _ h=>h.up (by omega)
      ·exact(rn_k2_0t f.c ta ka f.t.length tcap f.ks.length kcap _ (litT_is _ _) W hLit).mono fun _ _ h=>h.up (by omega)
     ·rw[if_neg (by rw[hk3];decide)]
      rw[hk3,litT_bad (by rw[hk3];decide)]at hLit
      cases nt
      ·exact(rn_k2_3f f.c ta ka f.t.length tcap f.ks.length kcap _ W hLit).mono fun _ _ h=>h.up (by omega)
      ·exact(rn_k2_3t f.c ta ka f.t.length tcap f.ks.length kcap _ W hLit).mono fun _ _ h=>h.up (by omega)
    ·rw[normF_3 e,e]
     have hcb: -1073741824≤f.c∧f.c≤1073741824:=by have:=(snd_iff.1 hsn).1;unfold wi at this;simpa using this
     have hw:IntKind.i64.wrap (-f.c)= -f.c:=IntWalk.i64_in _ (by omega)
     have hsl:(scale (-1) f.t).length=f.t.length:=scale_len _ _
     have hT:∀V,Below W.heap.size W V→Calls Tryz.prog 25 #[.agg #[.int .i64 f.c,.slice ta f.t.length tcap],.int .i64 (-1)] V fun e w'=>∃a6 cap6,e= .returned (.slice a6 f.t.length cap6)∧Lies w'.heap.size w' a6 (scale (-1) f.t)∧Below V.heap.size V w':=fun V hb=>
      (rtimes_any f.c (-1) ta f.t.length tcap f.t V rfl h64 ((hlt.below hb).mono hb.size) (fun m hm=>by have:=(snd_terms hsn m hm).2;omega)).mono fun e w' h=>by
        obtain⟨v,rfl,h1,h2⟩:=h
        obtain⟨a6,cap6,rfl,h3,_⟩:=h1.lies
        rw[hsl]
        exact⟨a6,cap6,rfl,h3,h2⟩
     have hB:∀b capb V,Lies V.heap.size V b (scale (-1) f.t)→Calls Tryz.prog 96 #[.agg #[.int .i64 (-f.c),.slice b f.t.length capb]] V (Ans V.heap.size 2 (litT (-f.c) (scale (-1) f.t)) (.int .i64 (litK (-f.c) (scale (-1) f.t))) V):=fun b capb V hl=>
      (lit_both (-f.c) b f.t.length capb (scale (-1) f.t) V hsl ht hl).2
     have key:=fun(T:FT) (bv:Bool) h1 h2=>rn_k3 f.c ta ka f.t.length tcap f.ks.length kcap nt _ _ _ _ _ T bv W hw (litT_is _ _) (litT_is _ _) (litK_sound hsn) (litK_sound (snd_neg hsn)) hLit hT hB h1 h2
     rcases litK_sound hsn with hk0 | hk3
     ·rcases litK_sound (snd_neg hsn)with hj0 | hj3
      ·rw[bothT_ok hk0 hj0]
       refine(key _ true (fun h=> ?_) (fun _ _=>⟨rfl, ?_⟩)).mono fun _ _ h=>h.up (by omega)
       ·rcases h with h | h
        ·rw[hk0]at h;exact absurd h (by decide)
        ·rw[hj0]at h;exact absurd h (by decide)
       ·cases nt<;>rfl
      ·rw[bothT_far2 hj3]
       exact(key _ false (fun _=>⟨rfl,rfl⟩) (fun _ h=>by rw[hj3]at h;exact absurd h (by decide))).mono fun _ _ h=>h.up (by omega)
     ·rw[bothT_far1 hk3]
      exact(key _ false (fun _=>⟨rfl,rfl⟩) (fun h _=>by rw[hk3]at h;exact absurd h (by decide))).mono fun _ _ h=>h.up (by omega)
   ·obtain⟨b,off,c0,c1,c2,c3,rfl,hblt,g0,g1,g2,g3,hf⟩:=hkk 0 (by omega)
    obtain⟨ck,cc,cta,ctn,ctcap,cka,ckn,ckcap,rfl,rfl,rfl,rfl⟩:=hf.form
    simp only[Nat.zero_mul,Nat.add_zero]at g0 g1 g2 g3
    rw[normF_4 hk4,hk4,hk1]
    have hC:=fun V (hb:Below W.heap.size W V)=>IH _ (!nt) _ V (hks 0 (by omega)) (hlit.2.2 0 (by omega)) ((hf.below hb).mono hb.size)
    rw[show(!!nt)=nt by cases nt<;>rfl]at hC
    cases ho:normF n (f.ks.getD 0 default) (!!nt)with
    | none=>
      rw[show(!!nt)=nt by cases nt<;>rfl]at ho
      rw[ho]at hC
      exact(rn_k4 f.c ta f.t.length tcap kcap b off nt _ (n+2) false W hblt ck cc cta ctn ctcap cka ckn ckcap g0 g1 g2 g3 hC).mono fun _ _ h=>h.up (by omega)
    | some g=>
      rw[show(!!nt)=nt by cases nt<;>rfl]at ho
      rw[ho]at hC
      exact(rn_k4 f.c ta f.t.length tcap kcap b off nt _ (n+2) true W hblt ck cc cta ctn ctcap cka ckn ckcap g0 g1 g2 g3 hC).mono fun _ _ h=>h.up (by omega)
   ·rw[normF_56 hk56]
    rcases hk56 with e | e
    ·cases nt
     ·exact rn_k5f n IH f _ W e hks hlit h
     ·exact rn_k5t n IH f _ W e hks hlit h
    ·cases nt
     ·exact rn_k6f n IH f _ W e hks hlit h
     ·exact rn_k6t n IH f _ W e hks hlit h
end
section
def rvI (zs:List Int)(x:Int×List (Int×Int)):Int:=if ∀i,i<x.2.length→near x.2 zs i=true then sAt x.1 x.2 zs x.2.length else 0
def leB (zs:List Int)(x:Int×List (Int×Int)):Bool:=decide (rvI zs x≤0)
def tStep (a:List Bool×Bool×Bool)(q:List Bool×Bool):List Bool×Bool×Bool:=(a.1 ++ q.1,a.2.1 && q.2,a.2.2 || q.2)
def tF (zs:List Int):Nat→FT→List Bool×Bool
 | 0,_=>([],false)
 | n+1,f=>
   if f.kind=0 then([true],true)
   else if f.kind=1 then([false],false)
   else if f.kind=2 then([],leB zs (f.c,f.t))
   else if f.kind=4 then((tF zs n (f.ks.getD 0 default)).1, !(tF zs n (f.ks.getD 0 default)).2)
   else
    let r:=(f.ks.map (tF zs n)).foldl tStep ([],true,false)
    let own:=if f.kind=5 then r.2.1 else r.2.2
    (r.1 ++ [own],own)
def tTo (zs:List Int)(n:Nat)(ks:List FT)(i:Nat):List Bool×Bool×Bool:=((ks.take i).map (tF zs n)).foldl tStep ([],true,false)
theorem tTo_succ (zs:List Int)(n:Nat)(ks:List FT)(k:Nat)(h:k<ks.length):tTo zs n ks (k+1)=tStep (tTo zs n ks k) (tF zs n (ks.getD k default)):=by
 unfold tTo
 rw[List.take_succ_eq_append_getElem h,List.map_append,List.foldl_append]
 simp[List.getD_eq_getElem?_getD,h]
theorem tF_x {zs:List Int}{n:Nat}{f:FT}(h:f.kind=5∨f.kind=6):tF zs (n+1) f=((tTo zs n f.ks f.ks.length).1 ++ [if f.kind=5 then(tTo zs n f.ks f.ks.length).2.1 else(tTo zs n f.ks f.ks.length).2.2],if f.kind=5 then(tTo zs n f.ks f.ks.length).2.1 else(tTo zs n f.ks f.ks.length).2.2):=by
 rw[tF,if_neg (by omega),if_neg (by omega),if_neg (by omega),if_neg (by omega)]
 unfold tTo
 rw[List.take_length]
theorem tF_4 {zs:List Int}{n:Nat}{f:FT}(h:f.kind=4):tF zs (n+1) f=((tF zs n (f.ks.getD 0 default)).1, !(tF zs n (f.ks.getD 0 default)).2):=by
 rw[tF,if_neg (by omega),if_neg (by omega),if_neg (by omega),if_pos h]
theorem tF_2 {zs:List Int}{n:Nat}{f:FT}(h:f.kind=2):tF zs (n+1) f=([],leB zs (f.c,f.t)):=by
 rw[tF,if_neg (by omega),if_neg (by omega),if_pos h]
def Agr (V:List Bool)(N:Nat)(l:List Bool):Prop:=∀i,i<l.length→V[N+i]? =l[i]?
theorem Agr.left {V:List Bool}{N:Nat}{a b:List Bool}(h:Agr V N (a ++ b)):Agr V N a:=fun i hi=>by
 rw[h i (by rw[List.length_append];omega),List.getElem?_append_left hi]
theorem Agr.right {V:List Bool}{N:Nat}{a b:List Bool}(h:Agr V N (a ++ b)):Agr V (N+a.length) b:=fun i hi=>by
 have:=h (a.length+i) (by rw[List.length_append];omega)
 rw[List.getElem?_append_right (by omega),show a.length+i - a.length=i by omega]at this
 rw[Nat.add_assoc]
 exact this
theorem lit_at {V:List Bool}{k:Nat}{b:Bool}(h:V[k]? =some b):Prp.litV V ((k+1:Nat):Int)=b∧Prp.litV V (-((k+1:Nat):Int))= !b:=by
 have hk:k<V.length:=(List.getElem?_eq_some_iff.1 h).1
 have e1:(((k+1:Nat):Int) - 1).toNat=k:=by omega
 have e2:(-(-((k+1:Nat):Int)) - 1).toNat=k:=by omega
 constructor
 ·unfold Prp.litV
  rw[if_pos (by omega),e1,List.getD_eq_getElem?_getD,h,decide_eq_true (by omega)]
  rfl
 ·unfold Prp.litV
  rw[if_neg (by omega),e2,List.getD_eq_getElem?_getD,h,decide_eq_true (by omega)]
  rfl
def hasA (am:List (Int×List (Int×Int))):Nat→FT→Prop
 | 0,_=>False
 | n+1,f=>(f.kind=2→atN am (f.c,f.t)≠0)∧∀i,i<f.ks.length→hasA am n (f.ks.getD i default)
theorem hasA_mono {am bm:List (Int×List (Int×Int))}(h:∀x,atN am x≠0→atN bm x≠0):∀ {n:Nat} {f:FT},hasA am n f→hasA bm n f
 | 0,_,hh=>hh
 | n+1,f,hh=>⟨fun h2=>h _ (hh.1 h2),fun i hi=>hasA_mono h (hh.2 i hi)⟩
theorem addA_mono {am:List (Int×List (Int×Int))}{y x:Int×List (Int×Int)}(h:atN am x≠0):atN (addA am y) x≠0:=by
 unfold addA
 split
 ·rw[atN_snoc,if_neg h];exact h
 ·exact h
theorem addA_has (am:List (Int×List (Int×Int)))(y:Int×List (Int×Int)):atN (addA am y) y≠0:=by
 unfold addA
 split
 ·rename_i h
  rw[atN_snoc,if_pos h,if_pos rfl];omega
 ·assumption
theorem gatF_mono {x:Int×List (Int×Int)}:∀(n:Nat) (f:FT) (am:List (Int×List (Int×Int))),atN am x≠0→atN (gatF n f am) x≠0
 | 0,f,am,h=>h
 | n+1,f,am,h=>by
   have hto:∀i,i≤f.ks.length→atN (gatTo n f.ks am i) x≠0:=fun i=>by
    induction i with
    | zero=>exact fun _=>h
    | succ i ih=>
      intro hi
      rw[gatTo_succ n f.ks am i hi]
      exact gatF_mono n _ _ (ih (by omega))
   rw[gatTo_len]
   split
   ·exact addA_mono (hto _ (Nat.le_refl _))
   ·exact hto _ (Nat.le_refl _)
theorem gatTo_mono {x:Int×List (Int×Int)}(n:Nat)(ks:List FT)(am:List (Int×List (Int×Int))){i:Nat}:∀j,i≤j→j≤ks.length→atN (gatTo n ks am i) x≠0→atN (gatTo n ks am j) x≠0
 | 0,h1,_,h=>by
   obtain rfl:i=0:=by omega
   exact h
 | j+1,h1,h2,h=>by
   by_cases e:i=j+1
   ·subst e;exact h
   ·rw[gatTo_succ n ks am j h2]
    exact gatF_mono n _ _ (gatTo_mono n ks am j (by omega) (by omega) h)
theorem gat_has:∀(n:Nat) (f:FT) (am:List (Int×List (Int×Int))),madeF n f=true→hasA (gatF n f am) n f
 | 0,f,am,hm=>by cases hm
 | n+1,f,am,hm=>by
   have hk:=made_kids hm
   have hto:∀i,i<f.ks.length→hasA (gatTo n f.ks am f.ks.length) n (f.ks.getD i default):=fun i hi=>by
    have:=gat_has n (f.ks.getD i default) (gatTo n f.ks am i) (hk i hi)
    rw[←gatTo_succ n f.ks am i hi]at this
    exact hasA_mono (fun x hx=>gatTo_mono n f.ks am f.ks.length hi (Nat.le_refl _) hx) this
   rw[gatTo_len]
   by_cases h2:f.kind=2
   ·rw[if_pos h2]
    exact⟨fun _=>addA_has _ _,fun i hi=>hasA_mono (fun x hx=>addA_mono hx) (hto i hi)⟩
   ·rw[if_neg h2]
    exact⟨fun h=>absurd h h2,hto⟩
structure TSv (V:List Bool)(N:Nat)(cl:List (List Int))(p:MkR)(q:List Bool×Bool):Prop where
 n:p.n=N+q.1.length
 lit:Prp.litV V p.lit=q.2
 neg:Prp.litV V (-p.lit)= !q.2
 cl:∀c∈p.cl,c∈cl∨Prp.anyV V c=true
theorem any_one (V:List Bool)(x:Int):Prp.anyV V [x]=Prp.litV V x:=by simp[Prp.anyV]
theorem any_two (V:List Bool)(x y:Int):Prp.anyV V [x,y]=(Prp.litV V x || Prp.litV V y):=by simp[Prp.anyV]
theorem ts (am:List (Int×List (Int×Int)))(zs:List Int)(V:List Bool)(hA:∀k (h:k<am.length),V[k]? =some (leB zs am[k])):∀(n:Nat) (f:FT) (N:Nat) (cl:List (List Int)),madeF n f=true→hasA am n f→Agr V N (tF zs n f).1→TSv V N cl (mkF am n f N cl) (tF zs n f)
 | 0,f,N,cl,hm,_,_=>by cases hm
 | n+1,f,N,cl,hm,hh,hv=>by
   have hmk:=made_kids hm
   rcases made_kind hm with hk | hk | hk | hk | hk | hk
   ·have e:tF zs (n+1) f=([true],true):=by rw[tF,if_pos hk]
    have h0:=made_none hm (.inl hk)
    rw[e]at hv⊢
    rw[mkF_x ⟨by omega,by omega⟩,hk,h0,mkTo_zero,ownC_0]
    obtain⟨h1,h2⟩:=lit_at (hv 0 (by simp))
    rw[Nat.add_zero]at h1 h2
    refine⟨rfl,h1,h2,fun c hc=> ?_⟩
    rcases List.mem_append.1 hc with hc | hc
    ·exact .inl hc
    ·rw[List.mem_singleton]at hc
     subst hc
     exact .inr (by rw[any_one];exact h1)
   ·have e:tF zs (n+1) f=([false],false):=by rw[tF,if_neg (by omega),if_pos hk]
    have h0:=made_none hm (.inr hk)
    rw[e]at hv⊢
    rw[mkF_x ⟨by omega,by omega⟩,hk,h0,mkTo_zero,ownC_1]
    obtain⟨h1,h2⟩:=lit_at (hv 0 (by simp))
    rw[Nat.add_zero]at h1 h2
    refine⟨rfl,h1,h2,fun c hc=> ?_⟩
    rcases List.mem_append.1 hc with hc | hc
    ·exact .inl hc
    ·rw[List.mem_singleton]at hc
     subst hc
     exact .inr (by rw[any_one];exact h2)
   ·rw[mkF_2 hk,tF_2 hk]
    have h0:=hh.1 hk
    obtain⟨k,hkk⟩:∃k,atN am (f.c,f.t)=k+1:=⟨atN am (f.c,f.t) - 1,by omega⟩
    have hg:=atN_get am _ k hkk
    obtain⟨hlt,hge⟩:=List.getElem?_eq_some_iff.1 hg
    obtain⟨h1,h2⟩:=lit_at (hA k hlt)
    rw[hge]at h1 h2
    refine⟨rfl, ?_, ?_,fun c hc=> .inl hc⟩
    ·show Prp.litV V ((atN am (f.c,f.t):Nat):Int)=_
     rw[hkk];exact h1
    ·show Prp.litV V (-((atN am (f.c,f.t):Nat):Int))=_
     rw[hkk];exact h2
   ·rw[tF_4 hk]at hv⊢
    rw[mkF_4 hk]
    have hl:=(made_not hm hk).1
    obtain⟨t1,t2,t3,t4⟩:=ts am zs V hA n (f.ks.getD 0 default) N cl (hmk 0 (by omega)) (hh.2 0 (by omega)) hv
    exact⟨t1,t3,by show Prp.litV V (- -(mkF am n (f.ks.getD 0 default) N cl).lit)= !!_;rw[Int.neg_neg,t2,Bool.not_not],t4⟩
   all_goals
    rw[tF_x (by omega)]at hv⊢
    rw[mkF_x ⟨by omega,by omega⟩]
    have hto:∀i,i≤f.ks.length→Agr V N (tTo zs n f.ks i).1→(mkTo am n f.ks N cl i).1=N+(tTo zs n f.ks i).1.length∧(tTo zs n f.ks i).2.1=(mkTo am n f.ks N cl i).2.2.all (Prp.litV V)∧(tTo zs n f.ks i).2.2=(mkTo am n f.ks N cl i).2.2.any (Prp.litV V)∧(∀l∈(mkTo am n f.ks N cl i).2.2,Prp.litV V (-l)= !Prp.litV V l)∧∀c∈(mkTo am n f.ks N cl i).2.1,c∈cl∨Prp.anyV V c=true:=fun i=>by
     induction i with
     | zero=>exact fun _ _=>⟨rfl,rfl,rfl,fun l hl=>(by cases hl),fun c hc=> .inl hc⟩
     | succ i ih=>
       intro hi ha
       rw[tTo_succ zs n f.ks i hi]at ha⊢
       rw[mkTo_succ am n f.ks N cl i hi]
       have ha:Agr V N ((tTo zs n f.ks i).1 ++ (tF zs n (f.ks.getD i default)).1):=ha
       obtain⟨a1,a2,a3,a4,a5⟩:=ih (by omega) ha.left
       have hr:=ha.right
       rw[←a1]at hr
       obtain⟨t1,t2,t3,t4⟩:=ts am zs V hA n (f.ks.getD i default) (mkTo am n f.ks N cl i).1 (mkTo am n f.ks N cl i).2.1 (hmk i hi) (hh.2 i hi) hr
       refine⟨?_, ?_, ?_,fun l hl=> ?_,fun c hc=> ?_⟩
       ·show(mkF am n (f.ks.getD i default) (mkTo am n f.ks N cl i).1 (mkTo am n f.ks N cl i).2.1).n=N+((tTo zs n f.ks i).1 ++ (tF zs n (f.ks.getD i default)).1).length
        rw[t1,a1,List.length_append];omega
       ·show((tTo zs n f.ks i).2.1 && (tF zs n (f.ks.getD i default)).2)=((mkTo am n f.ks N cl i).2.2 ++ [(mkF am n (f.ks.getD i default) (mkTo am n f.ks N cl i).1 (mkTo am n f.ks N cl i).2.1).lit]).all (Prp.litV V)
        rw[List.all_append,←a2,←t2];simp
       ·show((tTo zs n f.ks i).2.2 || (tF zs n (f.ks.getD i default)).2)=((mkTo am n f.ks N cl i).2.2 ++ [(mkF am n (f.ks.getD i default) (mkTo am n f.ks N cl i).1 (mkTo am n f.ks N cl i).2.1).lit]).any (Prp.litV V)
        rw[List.any_append,←a3,←t2];simp
       ·rcases List.mem_append.1 hl with hl | hl
        ·exact a4 l hl
        ·rw[List.mem_singleton]at hl
         subst hl
         rw[t3,t2]
       ·rcases t4 c hc with hc | hc
        ·exact a5 c hc
        ·exact .inr hc
    obtain⟨a1,a2,a3,a4,a5⟩:=hto f.ks.length (Nat.le_refl _) hv.left
    have hr:=hv.right
    rw[←a1]at hr
    obtain⟨h1,h2⟩:=lit_at (hr 0 (by simp))
    rw[Nat.add_zero]at h1 h2
    generalize mkTo am n f.ks N cl f.ks.length=p at*
    generalize tTo zs n f.ks f.ks.length=q at*
   ·simp only[hk,if_true]at h1 h2⊢
    rw[ownC_5]
    refine⟨by rw[List.length_append,←Nat.add_assoc,←a1];rfl,h1,h2,fun c hc=> ?_⟩
    rcases List.mem_append.1 hc with hc | hc
    ·exact a5 c hc
    ·refine .inr ?_
     unfold joinL at hc
     rcases List.mem_append.1 hc with hc | hc
     ·obtain⟨l,hl,rfl⟩:=List.mem_map.1 hc
      rw[any_two,h2,Int.one_mul,a2]
      cases hb:p.2.2.all (Prp.litV V)with
      | false=>rfl
      | true=>rw[List.all_eq_true.1 hb l hl];rfl
     ·rw[List.mem_singleton]at hc
      subst hc
      unfold Prp.anyV
      rw[List.any_cons,h1,a2]
      cases hb:p.2.2.all (Prp.litV V)with
      | true=>rfl
      | false=>
        rw[Bool.false_or]
        obtain⟨l,hl,hf⟩:=List.all_eq_false.1 hb
        refine List.any_eq_true.2 ⟨-1*l,List.mem_map.2 ⟨l,hl,rfl⟩, ?_⟩
        rw[Int.neg_one_mul,a4 l hl]
        simpa using hf
   ·have h5:¬f.kind=5:=by omega
    simp only[hk,show ¬((6:Int)=5) by decide,if_false]at h1 h2⊢
    rw[ownC_6]
    refine⟨by rw[List.length_append,←Nat.add_assoc,←a1];rfl,h1,h2,fun c hc=> ?_⟩
    rcases List.mem_append.1 hc with hc | hc
    ·exact a5 c hc
    ·refine .inr ?_
     unfold joinL at hc
     rcases List.mem_append.1 hc with hc | hc
     ·obtain⟨l,hl,rfl⟩:=List.mem_map.1 hc
      rw[any_two,Int.neg_neg,h1,Int.neg_one_mul,a4 l hl,a3]
      cases hb:p.2.2.any (Prp.litV V)with
      | true=>rfl
      | false=>
        rw[Bool.false_or]
        have:=List.any_eq_false.1 hb l hl
        simpa using this
     ·rw[List.mem_singleton]at hc
      subst hc
      unfold Prp.anyV
      rw[List.any_cons,h2,a3]
      cases hb:p.2.2.any (Prp.litV V)with
      | false=>rfl
      | true=>
        obtain⟨l,hl,hf⟩:=List.any_eq_true.1 hb
        rw[Bool.not_true,Bool.false_or]
        exact List.any_eq_true.2 ⟨- -1*l,List.mem_map.2 ⟨l,hl,rfl⟩,by rw[Int.neg_neg,Int.one_mul];exact hf⟩
end
section
open Go.ChangeShapes Go.WideShapes Go.RowKit Go.Deep
section
variable {H:Type} {enc:TypeId×Value→H} {P:Program} {w:World} {base:Nat} {spare:Nat→Bool} {held:Bool}
end
section
variable {H:Type} {enc:TypeId×Value→H} {w:World} {base:Nat} {spare:Nat→Bool} {held:Bool}
theorem open_nums {r:Reach}{b0:Nat}{v:Value}{d:DataW H}{p:List MemPlace}(hv:Value.okWide Tryz.prog w r b0 23 v)(h:DataW.Trod enc Tryz.prog w base spare held 23 v d p):
 ∃(a:Option Addr) (n cap:Nat) (zs:List Int),v= .slice a n cap∧zs.length=n∧n≤cap∧cap≤maxLen∧(∀i,i<zs.length→∃b off,a=some ⟨b,off,none⟩∧b<w.heap.size∧w.cell? ⟨b,off+i,none⟩=some (.int .i64 (zs.getD i 0)))∧∀m∈zs,(Lit.int .i64 m).wf=true:=by
 obtain⟨a,len,cap,rfl⟩:=okWide_slice Tryz.underlying23 hv
 obtain⟨fuel,hf⟩:=h
 rcases open_ints Tryz.underlying23 Tryz.underlying3 (by kernel_rfl) hf with ⟨hcs,_⟩ | ⟨x,l,c,zs,hcs,_,hl,hm,hz,_,hcell,hwz⟩
 ·simp[Value.cells]at hcs
  obtain⟨rfl,rfl,rfl⟩:=hcs
  exact⟨none,0,0,[],rfl,rfl,Nat.le_refl _,Nat.zero_le _,fun i hi=>absurd hi (Nat.not_lt_zero i),fun m hm=>by cases hm⟩
 ·simp[Value.cells]at hcs
  obtain⟨rfl,rfl,rfl⟩:=hcs
  have hz':len≤zs.length:=by rw[hz];split<;>omega
  clear hz
  refine⟨some x,len,cap,zs.take len,rfl,by simp;omega,hl,hm,fun i hi=> ?_,fun m hm=>hwz m (List.mem_of_mem_take hm)⟩
  have hi':i<len:=by rw[List.length_take]at hi;omega
  obtain⟨b,off,rfl,hc⟩:=ints_at hcell (by omega)
  have h1:=hc i (by omega)
  refine⟨b,off,rfl,by simpa using block_lt_of_cell h1, ?_⟩
  rw[h1]
  simp[List.getD_eq_getElem?_getD,hi']
end
end
end Go.Proofs.YtipahfcaplbifaaGreatDoor
