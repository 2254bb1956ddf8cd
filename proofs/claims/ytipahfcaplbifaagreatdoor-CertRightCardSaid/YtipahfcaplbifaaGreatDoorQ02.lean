/- Parts of a proof. -/
import Derived.Test.YtipahfcaplbifaaGreatDoorProg
import Derived.WalkKit
import Derived.WalkSpells
import Derived.WalkLawsBesides
import Derived.Lib.Hide
import Derived.Deep.QuietTactic
import Derived.BigQuiet
import Derived.Shelf.SlSortCmp.WholeK
import Derived.Ground.SlsfProg
import Derived.Lib.ItoaMem
import Derived.Lib.ItoaLen
import Derived.OwnWalk
import Derived.Test.YtipahfcaplbifaaGreatDoorRows
import Derived.ProofKit
import Derived.OpenShut
import Derived.ChangeOld
import Derived.Deep.Slices
import Derived.Deep.Fields
import Derived.Lib.SmallJoins
set_option linter.unusedVariables false
set_option linter.unusedSimpArgs false
set_option maxHeartbeats 60000000
set_option maxRecDepth 100000
namespace Go.Proofs.YtipahfcaplbifaaGreatDoor
section
open Go.RowKit
theorem ret_int {k:IntKind}{a b:Int}(h:a=b):Ending.returned (.int k a)=Ending.returned (.int k b):=by rw[h]
theorem ret_bool {a b:Bool}(h:a=b):Ending.returned (.bool a)=Ending.returned (.bool b):=by rw[h]
theorem bcell {W w1:World}(hb:Below W.heap.size W w1):(∀b o,b<W.heap.size→w1.cell? ⟨b,o,none⟩=W.cell? ⟨b,o,none⟩)∧(∀b o,b<W.heap.size→w1.frozen? ⟨b,o,none⟩=W.frozen? ⟨b,o,none⟩):=
 ⟨fun b o h=>hb.cell (p:=⟨b,o,none⟩) h,fun b o h=>hb.frozen (p:=⟨b,o,none⟩) h⟩
def wi (n m:Int):Bool:=decide (-m≤n∧n≤m)
theorem wi_t {n m:Int}(h: -m≤n∧n≤m):wi n m=true:=by unfold wi;exact decide_eq_true h
theorem wi_f {n m:Int}(h:¬(-m≤n∧n≤m)):wi n m=false:=by unfold wi;exact decide_eq_false h
theorem within_any (n m:Int)(w:World)(h0:0≤m)(h1:m≤4294967296):
  Calls Tryz.prog 45 #[.int .i64 n,.int .i64 m] w fun e w'=>e= .returned (.bool (wi n m))∧w=w':=by
 by_cases a: -m≤n
 ·by_cases b:n≤m
  ·rw[wi_t ⟨a,b⟩]
   go_enter Tryz.func45,Tryz.ntmps45
   go_wp2
   go_ret
   exact⟨rfl,rfl⟩
  ·rw[wi_f (by omega)]
   go_enter Tryz.func45,Tryz.ntmps45
   go_wp2
   go_ret
   exact⟨rfl,rfl⟩
 ·rw[wi_f (by omega)]
  go_enter Tryz.func45,Tryz.ntmps45
  go_wp2
  go_ret
  exact⟨rfl,rfl⟩
theorem coef_any (n:Int)(w:World):
  Calls Tryz.prog 26 #[.int .i64 n] w fun e w'=>e= .returned (.bool (wi n 1073741824))∧w=w':=by
 by_cases a: -1073741824≤n
 ·by_cases b:n≤1073741824
  ·rw[wi_t ⟨a,b⟩]
   go_enter Tryz.func26,Tryz.ntmps26
   go_wp2
   go_ret
   exact⟨rfl,rfl⟩
  ·rw[wi_f (by omega)]
   go_enter Tryz.func26,Tryz.ntmps26
   go_wp2
   go_ret
   exact⟨rfl,rfl⟩
 ·rw[wi_f (by omega)]
  go_enter Tryz.func26,Tryz.ntmps26
  go_wp2
  go_ret
  exact⟨rfl,rfl⟩
end
section
open Go.RowKit
def Lies (B:Nat)(w:World)(a:Option Addr)(l:List (Int×Int)):Prop:=
 ∀i,i<l.length→∃b off,a=some ⟨b,off,none⟩∧b<B∧
  w.cell? ⟨b,off+i*2,none⟩=some (.int .i64 (l.getD i (0,0)).1)∧w.cell? ⟨b,off+i*2+1,none⟩=some (.int .i64 (l.getD i (0,0)).2)
theorem Lies.mono {B B':Nat}{w:World}{a:Option Addr}{l:List (Int×Int)}(h:Lies B w a l)(hb:B≤B'):Lies B' w a l:=fun i hi=>by
 obtain⟨b,off,ha,hlt,h1,h2⟩:=h i hi
 exact⟨b,off,ha,Nat.lt_of_lt_of_le hlt hb,h1,h2⟩
theorem Lies.below {B:Nat}{w w':World}{a:Option Addr}{l:List (Int×Int)}(h:Lies B w a l)(hb:Below B w w'):Lies B w' a l:=fun i hi=>by
 obtain⟨b,off,ha,hlt,h1,h2⟩:=h i hi
 exact⟨b,off,ha,hlt,by rw[hb.cell (p:=⟨b,_,none⟩) hlt];exact h1,by rw[hb.cell (p:=⟨b,_,none⟩) hlt];exact h2⟩
theorem all_yes (g:Nat)(cb:Array Value)(a:Option Addr)(n cap:Nat)(l:List (Int×Int))(w:World)(I:Nat→World→Prop)(r:Nat→Bool)
  (eg:∀args w,(callFunc g args).run Tryz.prog w= .ok (.enter g args) w)
  (hn:l.length=n) (hm:n≤9223372036854775807) (B:Nat) (hB:B≤w.heap.size) (hl:Lies B w a l) (h0:I 0 w) (hal:∀i W o,I i W→I i (W.alloc o))
  (hstep:∀i W,i<n→Below B w W→I i W→Calls Tryz.prog g (#[.agg #[.int .i64 (l.getD i (0,0)).1,.int .i64 (l.getD i (0,0)).2]] ++ cb) W
   fun e W'=>e= .returned (.bool (r i))∧I (i+1) W'∧Below B W W')
  (hr:∀i,i<n→r i=true):
  Calls Tryz.prog 46 #[.slice a n cap,.func (.func g) #[] cb] w fun e w'=>e= .returned (.bool true)∧I n w'∧Below B w w':=by
 have HS:=Lib.hid hstep
 have HL:=Lib.hid hl
 have HA:=Lib.hid hal
 have HI:=Lib.hid h0
 have HR:=Lib.hid hr
 have HN:=Lib.hid hn
 clear hstep hl hal h0 hr hn
 go_enter Tryz.func46,Tryz.ntmps46
 go_wp2
 go_loopw [9] (fun i wr=>∃k:Nat,k≤n∧i= .int .i64 k∧Hid (I k wr)∧Below B w wr) (fun i _=>n - (intOf i).toNat)
 case atStart=>exact⟨0,Nat.zero_le _,rfl,HI,Below.refl _ _⟩
 case round=>
  obtain⟨k,hk,rfl,hI,hb⟩:=hrel
  by_cases hlt:k<n
  ·obtain⟨b,off,rfl,hblt,c1,c2⟩:=HL.out k (by rw[HN.out];exact hlt)
   rw[←hb.cell (p:=⟨b,_,none⟩) hblt]at c1 c2
   have hs:∀W,Below B w W→I k W→Calls Tryz.prog g (#[.agg #[.int .i64 (l.getD k (0,0)).1,.int .i64 (l.getD k (0,0)).2]] ++ cb) W
    fun e W'=>e= .returned (.bool true)∧I (k+1) W'∧Below B W W':=fun W h1 h2=>by
     have:=HS.out k W hlt h1 h2
     rw[HR.out k hlt]at this
     exact this
   generalize (l.getD k (0,0)).1=v at hs c1
   generalize (l.getD k (0,0)).2=u at hs c2
   have HS1:=Lib.hid hs
   clear hs HS
   go_wp2_with fail
   have hb2:=(hb.alloc (Nat.le_trans hB hb.size) (.cells #[.int .i64 v,.int .i64 u] 92))
   refine(HS1.out _ hb2 (HA.out _ _ _ hI.out)).mono ?_
   rintro e w1 ⟨rfl,hI1,hb1⟩
   have HI1:=Lib.hid hI1
   clear hI1 hI HI c1 c2
   go_wp2
   go_roundw
   case rel=>exact⟨k+1,by omega,by go_num,HI1,hb2.trans hb1⟩
   case measure=>simp[intOf];omega
  ·go_wp2
   go_ret
   exact⟨rfl,by rw[show n=k by omega];exact hI.out,hb⟩
theorem all_no (g:Nat)(cb:Array Value)(a:Option Addr)(n cap:Nat)(l:List (Int×Int))(w:World)(I:Nat→World→Prop)(r:Nat→Bool)
  (eg:∀args w,(callFunc g args).run Tryz.prog w= .ok (.enter g args) w)
  (hn:l.length=n) (hm:n≤9223372036854775807) (B:Nat) (hB:B≤w.heap.size) (hl:Lies B w a l) (h0:I 0 w) (hal:∀i W o,I i W→I i (W.alloc o))
  (hstep:∀i W,i<n→Below B w W→I i W→Calls Tryz.prog g (#[.agg #[.int .i64 (l.getD i (0,0)).1,.int .i64 (l.getD i (0,0)).2]] ++ cb) W
   fun e W'=>e= .returned (.bool (r i))∧I (i+1) W'∧Below B W W')
  (j:Nat) (hj:j<n) (hr:∀i,i<j→r i=true) (hno:r j=false):
  Calls Tryz.prog 46 #[.slice a n cap,.func (.func g) #[] cb] w fun e w'=>e= .returned (.bool false)∧I (j+1) w'∧Below B w w':=by
 have HS:=Lib.hid hstep
 have HL:=Lib.hid hl
 have HA:=Lib.hid hal
 have HI:=Lib.hid h0
 have HR:=Lib.hid hr
 have HN:=Lib.hid hn
 have HO:=Lib.hid hno
 clear hstep hl hal h0 hr hn hno
 go_enter Tryz.func46,Tryz.ntmps46
 go_wp2
 go_loopw [9] (fun i wr=>∃k:Nat,k≤j∧i= .int .i64 k∧Hid (I k wr)∧Below B w wr) (fun i _=>n - (intOf i).toNat)
 case atStart=>exact⟨0,Nat.zero_le _,rfl,HI,Below.refl _ _⟩
 case round=>
  obtain⟨k,hk,rfl,hI,hb⟩:=hrel
  have hlt:k<n:=by omega
  by_cases hkj:k<j
  ·obtain⟨b,off,rfl,hblt,c1,c2⟩:=HL.out k (by rw[HN.out];exact hlt)
   rw[←hb.cell (p:=⟨b,_,none⟩) hblt]at c1 c2
   have hs:∀W,Below B w W→I k W→Calls Tryz.prog g (#[.agg #[.int .i64 (l.getD k (0,0)).1,.int .i64 (l.getD k (0,0)).2]] ++ cb) W
    fun e W'=>e= .returned (.bool true)∧I (k+1) W'∧Below B W W':=fun W h1 h2=>by
     have:=HS.out k W hlt h1 h2
     rw[HR.out k hkj]at this
     exact this
   generalize (l.getD k (0,0)).1=v at hs c1
   generalize (l.getD k (0,0)).2=u at hs c2
   have HS1:=Lib.hid hs
   clear hs HS
   go_wp2_with fail
   have hb2:=(hb.alloc (Nat.le_trans hB hb.size) (.cells #[.int .i64 v,.int .i64 u] 92))
   refine(HS1.out _ hb2 (HA.out _ _ _ hI.out)).mono ?_
   rintro e w1 ⟨rfl,hI1,hb1⟩
   have HI1:=Lib.hid hI1
   clear hI1 hI HI c1 c2
   go_wp2
   go_roundw
   case rel=>exact⟨k+1,by omega,by go_num,HI1,hb2.trans hb1⟩
   case measure=>simp[intOf];omega
  ·obtain⟨b,off,rfl,hblt,c1,c2⟩:=HL.out k (by rw[HN.out];exact hlt)
   rw[←hb.cell (p:=⟨b,_,none⟩) hblt]at c1 c2
   have hs:∀W,Below B w W→I k W→Calls Tryz.prog g (#[.agg #[.int .i64 (l.getD k (0,0)).1,.int .i64 (l.getD k (0,0)).2]] ++ cb) W
    fun e W'=>e= .returned (.bool false)∧I (k+1) W'∧Below B W W':=fun W h1 h2=>by
     have:=HS.out k W hlt h1 h2
     rw[show k=j by omega,HO.out]at this
     rw[show k=j by omega]
     exact this
   generalize (l.getD k (0,0)).1=v at hs c1
   generalize (l.getD k (0,0)).2=u at hs c2
   have HS1:=Lib.hid hs
   clear hs HS
   go_wp2_with fail
   have hb2:=(hb.alloc (Nat.le_trans hB hb.size) (.cells #[.int .i64 v,.int .i64 u] 92))
   refine(HS1.out _ hb2 (HA.out _ _ _ hI.out)).mono ?_
   rintro e w1 ⟨rfl,hI1,hb1⟩
   have HI1:=Lib.hid hI1
   clear hI1 hI HI c1 c2
   go_wp2
   go_ret
   exact⟨rfl,by rw[show j=k by omega];exact HI1.out,hb2.trans hb1⟩
end
section
open Go.RowKit
def mst (v k:Int):Bool:=decide (0≤v∧v<1048576) && wi k 1073741824
theorem mst_f1 {v k:Int}(h:¬(0≤v∧v<1048576)):mst v k=false:=by unfold mst;rw[decide_eq_false h];rfl
theorem mst_t1 {v k:Int}(h:0≤v∧v<1048576):mst v k=wi k 1073741824:=by unfold mst;rw[decide_eq_true h];rfl
theorem mayStand_any (v k:Int)(w:World):
  Calls Tryz.prog 48 #[.agg #[.int .i64 v,.int .i64 k]] w fun e w'=>e= .returned (.bool (mst v k))∧Below w.heap.size w w':=by
 by_cases a:0≤v
 ·by_cases b:v<1048576
  ·rw[mst_t1 ⟨a,b⟩]
   go_enter Tryz.func48,Tryz.ntmps48
   go_wp2_with (go_at_call 45;refine(within_any _ _ _ (by omega) (by omega)).mono ?_;rintro e w' ⟨rfl,rfl⟩)
   go_ret
   exact⟨rfl,(Below.refl _ _).alloc (Nat.le_refl _) _⟩
  ·rw[mst_f1 (by omega)]
   go_enter Tryz.func48,Tryz.ntmps48
   go_wp2
   go_ret
   exact⟨rfl,(Below.refl _ _).alloc (Nat.le_refl _) _⟩
 ·rw[mst_f1 (by omega)]
  go_enter Tryz.func48,Tryz.ntmps48
  go_wp2
  go_ret
  exact⟨rfl,(Below.refl _ _).alloc (Nat.le_refl _) _⟩
def chk (last v k:Int):Bool:=decide (last<v) && (decide (k≠0) && mst v k)
theorem chk_1 {last v k:Int}(h:¬last<v):chk last v k=false:=by unfold chk;rw[decide_eq_false h];rfl
theorem chk_2 {last v k:Int}(h:k=0):chk last v k=false:=by unfold chk;rw[decide_eq_false (p:=k≠0) (by omega)];simp
theorem chk_3 {last v k:Int}(h:last<v)(h2:k≠0):chk last v k=mst v k:=by unfold chk;rw[decide_eq_true h,decide_eq_true h2];simp
def Own (w:World)(p:Nat)(x:Int):Prop:=p<w.heap.size∧w.cell? ⟨p,0,none⟩=some (.int .i64 x)∧w.frozen? ⟨p,0,none⟩=false
theorem Own.alloc {w:World}{p:Nat}{x:Int}(h:Own w p x)(o:Obj):Own (w.alloc o) p x:=by
 have hb:=(Below.refl w.heap.size w).alloc (Nat.le_refl _) o
 exact⟨Nat.lt_of_lt_of_le h.1 hb.size,by rw[hb.cell (p:=⟨p,0,none⟩) h.1];exact h.2.1,by rw[hb.frozen (p:=⟨p,0,none⟩) h.1];exact h.2.2⟩
theorem Own.below {w w':World}{p:Nat}{x:Int}(h:Own w p x)(hb:Below w.heap.size w w'):Own w' p x:=
 ⟨Nat.lt_of_lt_of_le h.1 hb.size,by rw[hb.cell (p:=⟨p,0,none⟩) h.1];exact h.2.1,by rw[hb.frozen (p:=⟨p,0,none⟩) h.1];exact h.2.2⟩
theorem Own.drewN {w:World}{p:Nat}{x:Int}(h:Own w p x)(n:Nat):Own (w.drewN n) p x:=h
theorem Own.set {w:World}{p:Nat}{x:Int}(h:Own w p x)(y:Int):Own (w.setCell ⟨p,0,none⟩ (.int .i64 y)) p y:=
 ⟨by simpa [World.setCell]using h.1,World.cell?_setCell_same _ _ _ h.2.1,by rw[World.frozen?_setCell];exact h.2.2⟩
theorem checkLit_any (p:Nat)(last v k:Int)(w:World)(ho:Own w p last):
  Calls Tryz.prog 47 #[.agg #[.int .i64 v,.int .i64 k],.pointer (some ⟨p,0,none⟩)] w fun e w'=>e= .returned (.bool (chk last v k))∧Own w' p v∧Below p w w':=by
 have O1:=Lib.hid ((ho.set v).alloc (.cells #[.int .i64 v,.int .i64 k] 92))
 have B1:=Lib.hid (((Below.refl p w).setCell (p:=⟨p,0,none⟩) (Nat.le_refl _) (.int .i64 v)).alloc (Nat.le_of_lt (ho.set v).1) (.cells #[.int .i64 v,.int .i64 k] 92))
 obtain⟨h1,h2,h3⟩:=ho
 by_cases a:last<v
 ·by_cases b:k=0
  ·subst b
   rw[chk_2 rfl]
   go_enter Tryz.func47,Tryz.ntmps47
   go_wp2_with fail
   go_ret
   exact⟨rfl,O1.out,B1.out⟩
  ·rw[chk_3 a b]
   have hk:(k != 0)=true:=by simpa using b
   go_enter Tryz.func47,Tryz.ntmps47
   go_wp2_with (go_at_call 48;refine(mayStand_any _ _ _).mono ?_;rintro e w' ⟨rfl,hb⟩)
   go_ret
   exact⟨rfl,O1.out.below hb,B1.out.trans (hb.mono (Nat.le_of_lt O1.out.1))⟩
 ·rw[chk_1 a]
  go_enter Tryz.func47,Tryz.ntmps47
  go_wp2_with fail
  go_ret
  exact⟨rfl,O1.out,B1.out⟩
def com (a b:Int):Int:=if b=0 then(if a<0 then -a else a) else com b (a.tmod b)
termination_by b.natAbs
decreasing_by
 rename_i h
 have:=Int.natAbs_tmod a b
 rw[this]
 exact Nat.mod_lt _ (by omega)
theorem com_nat (a b:Int):com a b=(Nat.gcd a.natAbs b.natAbs:Nat):=by
 induction a,b using com.induct with
 | case1 a h=>rw[com,if_pos rfl,if_pos h];simp;omega
 | case2 a h=>rw[com,if_pos rfl,if_neg h];simp;omega
 | case3 a b h ih=>rw[com,if_neg h,ih,Int.natAbs_tmod,Nat.gcd_comm a.natAbs,Nat.gcd_rec b.natAbs a.natAbs,Nat.gcd_comm]
theorem tmod_in (a b:Int)(h1: -1073741824≤a)(h2:a≤1073741824)(_h3: -1073741824≤b)(_h4:b≤1073741824): -1073741824≤a.tmod b∧a.tmod b≤1073741824:=by
 have h:(a.tmod b).natAbs≤a.natAbs:=by rw[Int.natAbs_tmod];exact Nat.mod_le _ _
 omega
theorem tmod_lt (a b:Int)(h:b≠0):(a.tmod b).natAbs<b.natAbs:=by rw[Int.natAbs_tmod];exact Nat.mod_lt _ (by omega)
theorem common_any (a b:Int)(w:World)(ha: -1073741824≤a)(ha2:a≤1073741824)(hb: -1073741824≤b)(hb2:b≤1073741824):
  Calls Tryz.prog 154 #[.int .i64 a,.int .i64 b] w fun e w'=>e= .returned (.int .i64 (com a b))∧∃n,w'=w.drewN n:=by
 go_enter Tryz.func154,Tryz.ntmps154
 go_wp2
 go_loopw [0,1] (fun x y wr=>∃c d:Int,x= .int .i64 c∧y= .int .i64 d∧ -1073741824≤c∧c≤1073741824∧ -1073741824≤d∧d≤1073741824∧Hid (com c d=com a b)∧Hid (∃n,wr=w.drewN n)) (fun _ y _=>(intOf y).natAbs)
 case atStart=>exact⟨a,b,rfl,rfl,ha,ha2,hb,hb2,rfl,0,rfl⟩
 case round=>
  obtain⟨c,d,rfl,rfl,h1,h2,h3,h4,hc,hw⟩:=hrel
  by_cases hd:d=0
  ·subst hd
   by_cases hn:c<0
   ·go_wp2
    go_ret
    exact⟨ret_int (by rw[←hc.out,com,if_pos rfl,if_pos hn]),hw.out⟩
   ·go_wp2
    go_ret
    exact⟨ret_int (by rw[←hc.out,com,if_pos rfl,if_neg (by omega)]),hw.out⟩
  ·have hd2:(d != 0)=true:=by simpa using hd
   have ht:=tmod_in c d h1 h2 h3 h4
   have hlt:=tmod_lt c d hd
   go_wp2
   go_quiet (fail)
   go_roundw
   case rel=>
    refine⟨_,_,_,_,_,_,_,_,⟨d,c.tmod d,rfl,rfl,h3,h4,ht.1,ht.2, ?_, ?_⟩,rfl⟩
    ·show com _ _=_
     rw[←hc.out,com.eq_def c d,if_neg hd]
    ·obtain⟨m,hm⟩:=hw.out
     exact⟨_,by rw[hm,World.drewN_drewN]⟩
   case measure=>simpa [intOf]using hlt
theorem gcdLit_any (p:Nat)(g v k:Int)(w:World)(ho:Own w p g)(ha: -1073741824≤g)(ha2:g≤1073741824)(hb: -1073741824≤k)(hb2:k≤1073741824):
  Calls Tryz.prog 153 #[.agg #[.int .i64 v,.int .i64 k],.pointer (some ⟨p,0,none⟩)] w fun e w'=>e= .returned (.bool true)∧Own w' p (com g k)∧Below p w w':=by
 have hcom:=common_any g k
 have O1:=Lib.hid ho
 obtain⟨h1,h2,h3⟩:=ho
 generalize hc:com g k=c at*
 have C1:=Lib.hid hc
 clear hc
 go_enter Tryz.func153,Tryz.ntmps153
 go_wp2_with (go_at_call 154;refine(hcom _ ha ha2 hb hb2).mono ?_;rintro e w' ⟨rfl,n,rfl⟩)
 go_ret
 exact⟨rfl,by rw[←C1.out];exact((O1.out.alloc _).drewN n).set _,(below_drewN ((Below.refl p w).alloc (Nat.le_of_lt O1.out.1) _) n).setCell (p:=⟨p,0,none⟩) (Nat.le_refl _) _⟩
end
section
open Go.RowKit
def lastAt (l:List (Int×Int))(i:Nat):Int:=if i=0 then -1 else(l.getD (i - 1) (0,0)).1
def okAt (l:List (Int×Int))(i:Nat):Bool:=chk (lastAt l i) (l.getD i (0,0)).1 (l.getD i (0,0)).2
def snd (c:Int)(l:List (Int×Int)):Bool:=wi c 1073741824 && (decide (l.length≤64) && decide (∀i,i<l.length→okAt l i=true))
theorem lastAt_zero (l:List (Int×Int)):lastAt l 0= -1:=rfl
theorem lastAt_succ (l:List (Int×Int))(i:Nat):lastAt l (i+1)=(l.getD i (0,0)).1:=by unfold lastAt;rw[if_neg (by omega)];rfl
theorem snd_iff {c:Int}{l:List (Int×Int)}:snd c l=true↔wi c 1073741824=true∧l.length≤64∧∀i,i<l.length→okAt l i=true:=by
 unfold snd;simp[Bool.and_eq_true]
theorem first_no (r:Nat→Bool):∀n,¬(∀i,i<n→r i=true)→∃j,j<n∧(∀i,i<j→r i=true)∧r j=false
 | 0,h=>absurd (fun i hi=>absurd hi (Nat.not_lt_zero i)) h
 | n+1,h=>by
  by_cases hn:∀i,i<n→r i=true
  ·refine⟨n,Nat.lt_succ_self n,hn, ?_⟩
   cases hr:r n with
   | false=>rfl
   | true=>exact absurd (fun i hi=>by
     by_cases e:i=n
     ·rw[e];exact hr
     ·exact hn i (by omega)) h
  ·obtain⟨j,hj,h1,h2⟩:=first_no r n hn
   exact⟨j,by omega,h1,h2⟩
theorem Tryz.enters25:∀args w,(callFunc 47 args).run Tryz.prog w= .ok (.enter 47 args) w:=fun _ _=>by kernel_rfl
theorem Own.new (w:World)(t:TypeId)(x:Int):Own (w.alloc (.cells #[.int .i64 x] t)) w.heap.size x:=by
 refine⟨by simp, ?_, ?_⟩
 ·exact cell_of_one (heap_alloc_new w _)
 ·exact free_of_one (heap_alloc_new w _)
theorem checkAll_yes (p:Nat)(a:Option Addr)(n cap:Nat)(l:List (Int×Int))(w:World)(B:Nat)(hB:B≤p)(hn:l.length=n)(hm:n≤64)(hl:Lies B w a l)(ho:Own w p (-1))(h:∀i,i<n→okAt l i=true):
  Calls Tryz.prog 46 #[.slice a n cap,.func (.func 47) #[] #[.pointer (some ⟨p,0,none⟩)]] w fun e w'=>e= .returned (.bool true)∧Below B w w':=
 (all_yes 47 #[.pointer (some ⟨p,0,none⟩)] a n cap l w (fun i W=>Own W p (lastAt l i)) (okAt l) Tryz.enters25 hn (by omega) B (Nat.le_trans hB (Nat.le_of_lt ho.1)) hl ho
  (fun _ _ o h=>h.alloc o)
  (fun i W _ _ hI=>(checkLit_any p (lastAt l i) (l.getD i (0,0)).1 (l.getD i (0,0)).2 W hI).mono fun _ _ ⟨he,ho',hb⟩=>⟨he,by rw[lastAt_succ];exact ho',hb.mono hB⟩)
  h).mono fun _ _ ⟨he,_,hb⟩=>⟨he,hb⟩
theorem checkAll_no (p:Nat)(a:Option Addr)(n cap:Nat)(l:List (Int×Int))(w:World)(B:Nat)(hB:B≤p)(hn:l.length=n)(hm:n≤64)(hl:Lies B w a l)(ho:Own w p (-1))(h:¬ ∀i,i<n→okAt l i=true):
  Calls Tryz.prog 46 #[.slice a n cap,.func (.func 47) #[] #[.pointer (some ⟨p,0,none⟩)]] w fun e w'=>e= .returned (.bool false)∧Below B w w':=by
 obtain⟨j,hj,h1,h2⟩:=first_no _ _ h
 exact(all_no 47 #[.pointer (some ⟨p,0,none⟩)] a n cap l w (fun i W=>Own W p (lastAt l i)) (okAt l) Tryz.enters25 hn (by omega) B (Nat.le_trans hB (Nat.le_of_lt ho.1)) hl ho
  (fun _ _ o h=>h.alloc o)
  (fun i W _ _ hI=>(checkLit_any p (lastAt l i) (l.getD i (0,0)).1 (l.getD i (0,0)).2 W hI).mono fun _ _ ⟨he,ho',hb⟩=>⟨he,by rw[lastAt_succ];exact ho',hb.mono hB⟩)
  j hj h1 h2).mono fun _ _ ⟨he,_,hb⟩=>⟨he,hb⟩
theorem check_yes (c:Int)(a:Option Addr)(n cap:Nat)(l:List (Int×Int))(w:World)(hn:l.length=n)(hl:Lies w.heap.size w a l)(hs:snd c l=true):
  Calls Tryz.prog 22 #[.agg #[.int .i64 c,.slice a n cap]] w fun e w'=>e= .returned .nilIface∧Below w.heap.size w w':=by
 obtain⟨hc,h64,hall⟩:=snd_iff.1 hs
 have hwi:=fun w=>within_any c 1073741824 w (by omega) (by omega)
 rw[hc]at hwi
 have h64':n≤64:=by omega
 rw[hn]at hall
 have hb:Below w.heap.size w ((w.alloc (.cells #[.int .i64 c,.slice a n cap] 36)).alloc (.cells #[.int .i64 (-1)] 3)):=((Below.refl _ w).alloc (Nat.le_refl _) _).alloc (by simp) _
 have hal:=checkAll_yes (w.heap.size+1) a n cap l _ w.heap.size (by omega) hn h64' (hl.below hb) (by have:=Own.new (w.alloc (.cells #[.int .i64 c,.slice a n cap] 36)) 3 (-1);simpa using this) hall
 have HB:=Lib.hid hb
 clear hn hs hall hl hc h64 hb
 go_enter Tryz.func22,Tryz.ntmps22
 go_wp2_with (first | (go_at_call 45;refine(hwi _).mono ?_;rintro e w' ⟨rfl,rfl⟩) | (go_at_call 46;refine hal.mono ?_;rintro e w' ⟨rfl,hb2⟩))
 go_ret
 exact⟨rfl,HB.out.trans hb2⟩
theorem check_no (c:Int)(a:Option Addr)(n cap:Nat)(l:List (Int×Int))(w:World)(hn:l.length=n)(hm:n≤9223372036854775807)(hl:Lies w.heap.size w a l)(hs:snd c l=false):
  Calls Tryz.prog 22 #[.agg #[.int .i64 c,.slice a n cap]] w fun e w'=>e= .returned (.iface 60 (.int .i64 5))∧Below w.heap.size w w':=by
 have hwi:=fun w=>within_any c 1073741824 w (by omega) (by omega)
 have hb:Below w.heap.size w ((w.alloc (.cells #[.int .i64 c,.slice a n cap] 36)).alloc (.cells #[.int .i64 (-1)] 3)):=((Below.refl _ w).alloc (Nat.le_refl _) _).alloc (by simp) _
 by_cases hc:wi c 1073741824=true
 ·rw[hc]at hwi
  by_cases h64:n≤64
  ·have hno:¬ ∀i,i<n→okAt l i=true:=fun h=>by
    have:=(snd_iff (c:=c) (l:=l)).2 ⟨hc,by omega,by rw[hn];exact h⟩
    rw[hs]at this;cases this
   have hal:=checkAll_no (w.heap.size+1) a n cap l _ w.heap.size (by omega) hn h64 (hl.below hb) (by have:=Own.new (w.alloc (.cells #[.int .i64 c,.slice a n cap] 36)) 3 (-1);simpa using this) hno
   have HB:=Lib.hid hb
   clear hn hs hl hc hb hno
   go_enter Tryz.func22,Tryz.ntmps22
   go_wp2_with (first | (go_at_call 45;refine(hwi _).mono ?_;rintro e w' ⟨rfl,rfl⟩) | (go_at_call 46;refine hal.mono ?_;rintro e w' ⟨rfl,hb2⟩))
   go_ret
   exact⟨rfl,HB.out.trans hb2⟩
  ·clear hn hs hl hc hb
   go_enter Tryz.func22,Tryz.ntmps22
   go_wp2_with (go_at_call 45;refine(hwi _).mono ?_;rintro e w' ⟨rfl,rfl⟩)
   go_ret
   exact⟨rfl,(Below.refl _ w).alloc (Nat.le_refl _) _⟩
 ·have hc':wi c 1073741824=false:=by simpa using hc
  rw[hc']at hwi
  clear hn hs hl hc hc' hb
  go_enter Tryz.func22,Tryz.ntmps22
  go_wp2_with (go_at_call 45;refine(hwi _).mono ?_;rintro e w' ⟨rfl,rfl⟩)
  go_ret
  exact⟨rfl,(Below.refl _ w).alloc (Nat.le_refl _) _⟩
end
section
open Go.RowKit
inductive FT where
 | mk (kind c:Int) (t:List (Int×Int)) (ks:List FT)
instance:Inhabited FT:=⟨.mk 0 0 [] []⟩
def FT.kind:FT→Int | .mk k _ _ _=>k
def FT.c:FT→Int | .mk _ c _ _=>c
def FT.t:FT→List (Int×Int) | .mk _ _ t _=>t
def FT.ks:FT→List FT | .mk _ _ _ ks=>ks
def top (l:List Nat):Nat:=l.foldr max 0
theorem lt_top {m:Nat}{l:List Nat}:m<top l↔∃x∈l,m<x:=by
 induction l with
 | nil=>simp[top]
 | cons a r ih=>
  have e:top (a :: r)=max a (top r):=rfl
  rw[e]
  constructor
  ·intro h
   by_cases h1:m<a
   ·exact⟨a,by simp,h1⟩
   ·obtain⟨x,hx,hm⟩:=ih.1 (by omega)
    exact⟨x,by simp[hx],hm⟩
  ·rintro⟨x,hx,hm⟩
   rcases List.mem_cons.1 hx with rfl | hx
   ·omega
   ·have:=ih.2 ⟨x,hx,hm⟩
    omega
def dep:Nat→FT→Nat
 | 0,_=>0
 | n+1,f=>1+top (f.ks.map (dep n))
def siz:Nat→FT→Nat
 | 0,_=>0
 | n+1,f=>1+(f.ks.map (siz n)).sum
theorem dep_zero (n:Nat)(f:FT):0<dep (n+1) f:=by unfold dep;omega
theorem dep_succ {n m:Nat}{f:FT}:m+1<dep (n+1) f↔∃i,i<f.ks.length∧m<dep n (f.ks.getD i default):=by
 rw[show dep (n+1) f=1+top (f.ks.map (dep n)) from rfl,show m+1<1+top (f.ks.map (dep n))↔m<top (f.ks.map (dep n)) by omega,lt_top]
 constructor
 ·rintro⟨x,hx,hm⟩
  obtain⟨k,hk,rfl⟩:=List.mem_map.1 hx
  obtain⟨i,hi,rfl⟩:=List.getElem_of_mem hk
  exact⟨i,hi,by rw[List.getD_eq_getElem?_getD,List.getElem?_eq_getElem hi];exact hm⟩
 ·rintro⟨i,hi,hm⟩
  rw[List.getD_eq_getElem?_getD,List.getElem?_eq_getElem hi]at hm
  exact⟨_,List.mem_map.2 ⟨_,List.getElem_mem hi,rfl⟩,hm⟩
def sizTo (n:Nat)(ks:List FT)(i:Nat):Nat:=((ks.take i).map (siz n)).sum
theorem sizTo_zero (n:Nat)(ks:List FT):sizTo n ks 0=0:=rfl
theorem sizTo_succ (n:Nat)(ks:List FT)(i:Nat)(h:i<ks.length):sizTo n ks (i+1)=sizTo n ks i+siz n (ks.getD i default):=by
 unfold sizTo
 rw[List.take_succ_eq_append_getElem h,List.map_append,List.sum_append]
 simp[List.getD_eq_getElem?_getD,h]
theorem sizTo_len (n:Nat)(f:FT):siz (n+1) f=1+sizTo n f.ks f.ks.length:=by unfold siz sizTo;rw[List.take_length]
theorem sizTo_mono (n:Nat)(ks:List FT){i j:Nat}(h:i≤j):sizTo n ks i≤sizTo n ks j:=by
 induction h with
 | refl=>exact Nat.le_refl _
 | @step j h ih=>
  by_cases hj:j<ks.length
  ·rw[sizTo_succ n ks j hj];omega
  ·unfold sizTo at ih⊢
   rw[List.take_of_length_le (show ks.length≤j+1 by omega)]
   rw[List.take_of_length_le (show ks.length≤j by omega)]at ih
   exact ih
theorem siz_pos (n:Nat)(f:FT):0<siz (n+1) f:=by unfold siz;omega
def ownV (k c t l:Int)(sn:Bool):Bool:=
 if k=0∨k=1 then(c == 0 && t == 0) && l == 0
 else if k=2∨k=3 then sn && l == 0
 else if k=4 then(c == 0 && t == 0) && l == 1
 else if k=5∨k=6 then c == 0 && t == 0
 else false
def ownF (f:FT):Bool:=ownV f.kind f.c f.t.length f.ks.length (snd f.c f.t)
def sndF:Nat→FT→Bool
 | 0,_=>false
 | n+1,f=>ownF f && decide (∀i,i<f.ks.length→sndF n (f.ks.getD i default)=true)
theorem sndF_no {n:Nat}{f:FT}{i:Nat}(hi:i<f.ks.length)(h:sndF n (f.ks.getD i default)=false):sndF (n+1) f=false:=by
 show(ownF f && decide (∀i,i<f.ks.length→sndF n (f.ks.getD i default)=true))=false
 rw[decide_eq_false (fun hh=>by rw[hh i hi]at h;cases h),Bool.and_false]
theorem sndF_yes {n:Nat}{f:FT}(h:∀i,i<f.ks.length→sndF n (f.ks.getD i default)=true):sndF (n+1) f=ownF f:=by
 show(ownF f && decide (∀i,i<f.ks.length→sndF n (f.ks.getD i default)=true))=ownF f
 rw[decide_eq_true h,Bool.and_true]
def FLies (B:Nat)(w:World):Nat→FT→List Value→Prop
 | 0,_,_=>False
 | n+1,f,cs=>∃(ta:Option Addr) (tcap:Nat) (ka:Option Addr) (kcap:Nat),cs=[.int .i64 f.kind,.int .i64 f.c,.slice ta f.t.length tcap,.slice ka f.ks.length kcap]∧
   Lies B w ta f.t∧f.t.length≤9223372036854775807∧f.ks.length≤9223372036854775807∧
   ∀i,i<f.ks.length→∃b off c0 c1 c2 c3,ka=some ⟨b,off,none⟩∧b<B∧w.cell? ⟨b,off+i*4,none⟩=some c0∧w.cell? ⟨b,off+i*4+1,none⟩=some c1∧w.cell? ⟨b,off+i*4+2,none⟩=some c2∧w.cell? ⟨b,off+i*4+3,none⟩=some c3∧
    FLies B w n (f.ks.getD i default) [c0,c1,c2,c3]
theorem FLies.form {B:Nat}{w:World}:∀ {n:Nat} {f:FT} {c0 c1 c2 c3:Value},FLies B w n f [c0,c1,c2,c3]→∃(k c:Int) (ta:Option Addr) (tn tcap:Nat) (ka:Option Addr) (kn kcap:Nat),c0= .int .i64 k∧c1= .int .i64 c∧c2= .slice ta tn tcap∧c3= .slice ka kn kcap
 | 0,_,_,_,_,_,h=>h.elim
 | n+1,f,_,_,_,_,⟨ta,tcap,ka,kcap,h1,_⟩=>by
  simp only[List.cons.injEq,and_true]at h1
  exact⟨_,_,_,_,_,_,_,_,h1.1,h1.2.1,h1.2.2.1,h1.2.2.2⟩
theorem FLies.below {B:Nat}{w w':World}(hb:Below B w w'):∀ {n:Nat} {f:FT} {cs:List Value},FLies B w n f cs→FLies B w' n f cs
 | 0,_,_,h=>h
 | n+1,f,cs,⟨ta,tcap,ka,kcap,h1,h2,h3,h4,h5⟩=>⟨ta,tcap,ka,kcap,h1,h2.below hb,h3,h4,fun i hi=>by
  obtain⟨b,off,c0,c1,c2,c3,e,hlt,g0,g1,g2,g3,hf⟩:=h5 i hi
  exact⟨b,off,c0,c1,c2,c3,e,hlt,(hb.cell (p:=⟨b,off+i*4,none⟩) hlt).trans g0,(hb.cell (p:=⟨b,off+i*4+1,none⟩) hlt).trans g1,(hb.cell (p:=⟨b,off+i*4+2,none⟩) hlt).trans g2,(hb.cell (p:=⟨b,off+i*4+3,none⟩) hlt).trans g3,hf.below hb⟩⟩
theorem FLies.mono {B B':Nat}{w:World}(hB:B≤B'):∀ {n:Nat} {f:FT} {cs:List Value},FLies B w n f cs→FLies B' w n f cs
 | 0,_,_,h=>h
 | n+1,f,cs,⟨ta,tcap,ka,kcap,h1,h2,h3,h4,h5⟩=>⟨ta,tcap,ka,kcap,h1,h2.mono hB,h3,h4,fun i hi=>by
  obtain⟨b,off,c0,c1,c2,c3,e,hlt,g0,g1,g2,g3,hf⟩:=h5 i hi
  exact⟨b,off,c0,c1,c2,c3,e,Nat.lt_of_lt_of_le hlt hB,g0,g1,g2,g3,hf.mono hB⟩⟩
end
section
open Go.Shelf
def Tryz.sortMono_ren:Go.Shelf.Ren:=⟨fun | 6=>106 | 15=>126 | 14=>125 | 28=>150 | 29=>151 | 20=>142 | 21=>143 | 22=>144 | 23=>145 | 24=>146 | 25=>147 | 26=>148 | 27=>149 | 46=>159 | 47=>160 | 48=>161 | 49=>162 | 50=>163 | 57=>169 | n=>n,fun | 22=>34 | 24=>92 | 25=>179 | 3=>3 | 39=>196 | 0=>0 | 53=>215 | 55=>217 | 4=>4 | 46=>208 | 45=>207 | 50=>212 | 5=>5 | 9=>9 | 66=>220 | 70=>224 | 76=>232 | 77=>46 | n=>n,fun | n=>n⟩
theorem Tryz.sortMono:Go.Proofs.SlLaysF0.n6 Tryz.prog Tryz.sortMono_ren:={
 mixed:=by kernel_rfl
 f6:=⟨Tryz.f106.name,by decide,Tryz.func106.trans (congrArg some (by kernel_rfl))⟩
 f14:=⟨Tryz.f125.name,by decide,Tryz.func125.trans (congrArg some (by kernel_rfl))⟩
 f15:=Tryz.func126.trans (congrArg some (by kernel_rfl))
 f20:=⟨Tryz.f142.name,by decide,Tryz.func142.trans (congrArg some (by kernel_rfl))⟩
 f21:=⟨Tryz.f143.name,by decide,Tryz.func143.trans (congrArg some (by kernel_rfl))⟩
 f22:=⟨Tryz.f144.name,by decide,Tryz.func144.trans (congrArg some (by kernel_rfl))⟩
 f23:=⟨Tryz.f145.name,by decide,Tryz.func145.trans (congrArg some (by kernel_rfl))⟩
 f24:=⟨Tryz.f146.name,by decide,Tryz.func146.trans (congrArg some (by kernel_rfl))⟩
 f25:=⟨Tryz.f147.name,by decide,Tryz.func147.trans (congrArg some (by kernel_rfl))⟩
 f26:=⟨Tryz.f148.name,by decide,Tryz.func148.trans (congrArg some (by kernel_rfl))⟩
 f27:=⟨Tryz.f149.name,by decide,Tryz.func149.trans (congrArg some (by kernel_rfl))⟩
 f28:=Tryz.func150.trans (congrArg some (by kernel_rfl))
 f29:=Tryz.func151.trans (congrArg some (by kernel_rfl))
 f46:=⟨Tryz.f159.name,by decide,Tryz.func159.trans (congrArg some (by kernel_rfl))⟩
 f47:=Tryz.func160.trans (congrArg some (by kernel_rfl))
 f48:=Tryz.func161.trans (congrArg some (by kernel_rfl))
 f49:=⟨Tryz.f162.name,by decide,Tryz.func162.trans (congrArg some (by kernel_rfl))⟩
 f50:=⟨Tryz.f163.name,by decide,Tryz.func163.trans (congrArg some (by kernel_rfl))⟩
 f57:=⟨Tryz.f169.name,by decide,Tryz.func169.trans (congrArg some (by kernel_rfl))⟩
 t0:=Tryz.underlying0
 a0:=Tryz.isAgg0
 z0:=Tryz.sizeOf0
 v0:=Tryz.zeroValue0
 t3:=Tryz.underlying3
 a3:=Tryz.isAgg3
 z3:=Tryz.sizeOf3
 v3:=Tryz.zeroValue3
 t4:=Tryz.underlying4
 a4:=Tryz.isAgg4
 z4:=Tryz.sizeOf4
 v4:=Tryz.zeroValue4
 t5:=Tryz.underlying5
 a5:=Tryz.isAgg5
 z5:=Tryz.sizeOf5
 v5:=Tryz.zeroValue5
 t9:=Tryz.underlying9
 a9:=Tryz.isAgg9
 z9:=Tryz.sizeOf9
 v9:=Tryz.zeroValue9
 t22:=Tryz.underlying34
 a22:=Tryz.isAgg34
 z22:=Tryz.sizeOf34
 v22:=Tryz.zeroValue34
 t25:=Tryz.underlying179
 a25:=Tryz.isAgg179
 z25:=Tryz.sizeOf179
 v25:=Tryz.zeroValue179
 t39:=Tryz.underlying196
 a39:=Tryz.isAgg196
 z39:=Tryz.sizeOf196
 v39:=Tryz.zeroValue196
 t45:=Tryz.underlying207
 a45:=Tryz.isAgg207
 z45:=Tryz.sizeOf207
 v45:=Tryz.zeroValue207
 t46:=Tryz.underlying208
 a46:=Tryz.isAgg208
 z46:=Tryz.sizeOf208
 v46:=Tryz.zeroValue208
 t50:=Tryz.underlying212
 a50:=Tryz.isAgg212
 z50:=Tryz.sizeOf212
 v50:=Tryz.zeroValue212
 t53:=Tryz.underlying215
 a53:=Tryz.isAgg215
 z53:=Tryz.sizeOf215
 v53:=Tryz.zeroValue215
 t55:=Tryz.underlying217
 a55:=Tryz.isAgg217
 z55:=Tryz.sizeOf217
 v55:=Tryz.zeroValue217
 t66:=Tryz.underlying220
 a66:=Tryz.isAgg220
 z66:=Tryz.sizeOf220
 v66:=Tryz.zeroValue220
 t70:=Tryz.underlying224
 a70:=Tryz.isAgg224
 z70:=Tryz.sizeOf224
 v70:=Tryz.zeroValue224
 t76:=Tryz.underlying232
 a76:=Tryz.isAgg232
 z76:=Tryz.sizeOf232
 v76:=Tryz.zeroValue232
 t77:=Tryz.underlying46
 a77:=Tryz.isAgg46
 z77:=Tryz.sizeOf46
 v77:=Tryz.zeroValue46 }
end
section
open Go.RowKit
def LiesQ (S:Nat→Prop)(w:World)(a:Option Addr)(l:List (Int×Int)):Prop:=
 ∀i,i<l.length→∃b off,a=some ⟨b,off,none⟩∧S b∧w.cell? ⟨b,off+i*2,none⟩=some (.int .i64 (l.getD i (0,0)).1)∧w.cell? ⟨b,off+i*2+1,none⟩=some (.int .i64 (l.getD i (0,0)).2)
def FLiesQ (S:Nat→Prop)(w:World):Nat→FT→List Value→Prop
 | 0,_,_=>False
 | n+1,f,cs=>∃(ta:Option Addr) (tcap:Nat) (ka:Option Addr) (kcap:Nat),cs=[.int .i64 f.kind,.int .i64 f.c,.slice ta f.t.length tcap,.slice ka f.ks.length kcap]∧
   LiesQ S w ta f.t∧f.t.length≤9223372036854775807∧f.ks.length≤9223372036854775807∧
   ∀i,i<f.ks.length→∃b off c0 c1 c2 c3,ka=some ⟨b,off,none⟩∧S b∧w.cell? ⟨b,off+i*4,none⟩=some c0∧w.cell? ⟨b,off+i*4+1,none⟩=some c1∧w.cell? ⟨b,off+i*4+2,none⟩=some c2∧w.cell? ⟨b,off+i*4+3,none⟩=some c3∧
    FLiesQ S w n (f.ks.getD i default) [c0,c1,c2,c3]
theorem LiesQ.lies {S:Nat→Prop}{w:World}{B:Nat}{a:Option Addr}{l:List (Int×Int)}(hS:∀b,S b→b<B)(h:LiesQ S w a l):Lies B w a l:=fun i hi=>by
 obtain⟨b,off,e,hb,r⟩:=h i hi
 exact⟨b,off,e,hS b hb,r⟩
theorem FLiesQ.lies {S:Nat→Prop}{w:World}{B:Nat}(hS:∀b,S b→b<B):∀ {n:Nat} {f:FT} {cs:List Value},FLiesQ S w n f cs→FLies B w n f cs
 | 0,_,_,h=>h
 | n+1,f,cs,⟨ta,tcap,ka,kcap,h1,h2,h3,h4,h5⟩=>⟨ta,tcap,ka,kcap,h1,h2.lies hS,h3,h4,fun i hi=>by
  obtain⟨b,off,c0,c1,c2,c3,e,hb,g0,g1,g2,g3,hf⟩:=h5 i hi
  exact⟨b,off,c0,c1,c2,c3,e,hS b hb,g0,g1,g2,g3,hf.lies hS⟩⟩
theorem LiesQ.keep {S S':Nat→Prop}{w w':World}{a:Option Addr}{l:List (Int×Int)}(hS:∀b,S b→S' b)(hk:∀b o,S b→w'.cell? ⟨b,o,none⟩=w.cell? ⟨b,o,none⟩)(h:LiesQ S w a l):LiesQ S' w' a l:=fun i hi=>by
 obtain⟨b,off,e,hb,r1,r2⟩:=h i hi
 exact⟨b,off,e,hS b hb,(hk _ _ hb).trans r1,(hk _ _ hb).trans r2⟩
theorem FLiesQ.keep {S S':Nat→Prop}{w w':World}(hS:∀b,S b→S' b)(hk:∀b o,S b→w'.cell? ⟨b,o,none⟩=w.cell? ⟨b,o,none⟩):∀ {n:Nat} {f:FT} {cs:List Value},FLiesQ S w n f cs→FLiesQ S' w' n f cs
 | 0,_,_,h=>h
 | n+1,f,cs,⟨ta,tcap,ka,kcap,h1,h2,h3,h4,h5⟩=>⟨ta,tcap,ka,kcap,h1,h2.keep hS hk,h3,h4,fun i hi=>by
  obtain⟨b,off,c0,c1,c2,c3,e,hb,g0,g1,g2,g3,hf⟩:=h5 i hi
  exact⟨b,off,c0,c1,c2,c3,e,hS b hb,(hk _ _ hb).trans g0,(hk _ _ hb).trans g1,(hk _ _ hb).trans g2,(hk _ _ hb).trans g3,hf.keep hS hk⟩⟩
theorem FLiesQ.four {S:Nat→Prop}{w:World}:∀ {n:Nat} {f:FT} {cs:List Value},FLiesQ S w n f cs→∃c0 c1 c2 c3,cs=[c0,c1,c2,c3]
 | 0,_,_,h=>h.elim
 | _+1,_,_,⟨_,_,_,_,h1,_⟩=>⟨_,_,_,_,h1⟩
theorem flat4_get:∀(css:List (List Value)),(∀c∈css,c.length=4)→∀i j,i<css.length→j<4→css.flatten[i*4+j]? =(css.getD i [])[j]?
 | [],_,i,_,hi,_=>absurd hi (Nat.not_lt_zero i)
 | c :: r,h,0,j,_,hj=>by
  have h1:=h c (by simp)
  rw[List.flatten_cons,Nat.zero_mul,Nat.zero_add,List.getElem?_append_left (by omega)]
  rfl
 | c :: r,h,i+1,j,hi,hj=>by
  have h1:=h c (by simp)
  rw[List.flatten_cons,List.getElem?_append_right (by omega),show(i+1)*4+j - c.length=i*4+j by omega,flat4_get r (fun x hx=>h x (by simp[hx])) i j (by simpa using hi) hj]
  rfl
end
section
def decV (l:List UInt8):Nat:=l.foldl (fun a b=>a*10+(b.toNat - 48)) 0
theorem decV_snoc (l:List UInt8)(b:UInt8):decV (l ++ [b])=decV l*10+(b.toNat - 48):=by simp[decV,List.foldl_append]
theorem ofNat_dig {d:Nat}(h:d<10):(UInt8.ofNat (48+d)).toNat=48+d:=by
 show(48+d) % 256=_
 omega
theorem decV_digits:∀(n u:Nat),u<n→decV (Lib.decDigits u)=u∧Lib.decDigits u≠[]∧∀b∈Lib.decDigits u,48≤b.toNat∧b.toNat≤57
 | 0,u,h=>absurd h (Nat.not_lt_zero _)
 | n+1,u,h=>by
  by_cases h1:u<10
  ·rw[Lib.decDigits_one h1]
   refine⟨?_,by simp,fun b hb=> ?_⟩
   ·show 0*10+((UInt8.ofNat (48+u)).toNat - 48)=u
    rw[ofNat_dig h1];omega
   ·rw[List.mem_singleton]at hb
    subst hb
    rw[ofNat_dig h1];omega
  ·obtain⟨h2,h3,h4⟩:=decV_digits n (u / 10) (by omega)
   have hm:u % 10<10:=Nat.mod_lt _ (by decide)
   rw[Lib.decDigits,dif_neg h1]
   refine⟨?_,by simp,fun b hb=> ?_⟩
   ·rw[decV_snoc,h2,ofNat_dig hm];omega
   ·rcases List.mem_append.1 hb with hb | hb
    ·exact h4 b hb
    ·rw[List.mem_singleton]at hb
     subst hb
     rw[ofNat_dig hm];omega
theorem decDigits_inj {u v:Nat}(h:Lib.decDigits u=Lib.decDigits v):u=v:=by
 rw[←(decV_digits (u+1) u (by omega)).1,h]
 exact(decV_digits (v+1) v (by omega)).1
theorem itoa_bytes (i:Int):∀b∈Lib.itoa i,b≠32:=fun b hb e=>by
 subst e
 unfold Lib.itoa at hb
 split at hb
 ·rcases List.mem_cons.1 hb with hb | hb
  ·cases hb
  ·have:=(decV_digits _ _ (Nat.lt_succ_self _)).2.2 _ hb
   have e:(32:UInt8).toNat=32:=rfl
   omega
 ·have:=(decV_digits _ _ (Nat.lt_succ_self _)).2.2 _ hb
  have e:(32:UInt8).toNat=32:=rfl
  omega
theorem itoa_inj {i j:Int}(h:Lib.itoa i=Lib.itoa j):i=j:=by
 unfold Lib.itoa at h
 have hd:=fun u=>(decV_digits (u+1) u (by omega)).2
 have h45:(45:UInt8).toNat=45:=rfl
 split at h<;>split at h
 ·injection h with _ h
  have:=decDigits_inj h
  omega
 ·have:=(hd j.toNat).2 45 (by rw[←h];simp)
  omega
 ·have:=(hd i.toNat).2 45 (by rw[h];simp)
  omega
 ·have:=decDigits_inj h
  omega
def restT (t:List (Int×Int)):List UInt8:=t.flatMap fun m=>32 :: (Lib.itoa m.1 ++ 32 :: Lib.itoa m.2)
def textL (c:Int)(t:List (Int×Int)):List UInt8:=Lib.itoa c ++ restT t
theorem restT_snoc (t:List (Int×Int))(m:Int×Int):restT (t ++ [m])=restT t ++ (32 :: (Lib.itoa m.1 ++ 32 :: Lib.itoa m.2)):=by simp[restT]
theorem cut_space:∀ {a b x y:List UInt8},(∀u∈a,u≠32)→(∀u∈b,u≠32)→(x=[]∨∃r,x=32 :: r)→(y=[]∨∃r,y=32 :: r)→a ++ x=b ++ y→a=b∧x=y
 | [],[],x,y,_,_,_,_,h=>⟨rfl,h⟩
 | [],u :: b,x,y,_,hb,hx,_,h=>by
  rcases hx with rfl | ⟨r,rfl⟩
  ·simp at h
  ·simp at h
   exact absurd h.1.symm (hb u (by simp))
 | u :: a,[],x,y,ha,_,_,hy,h=>by
  rcases hy with rfl | ⟨r,rfl⟩
  ·simp at h
  ·simp at h
   exact absurd h.1 (ha u (by simp))
 | u :: a,v :: b,x,y,ha,hb,hx,hy,h=>by
  simp at h
  obtain⟨h1,h2⟩:=cut_space (fun z hz=>ha z (by simp[hz])) (fun z hz=>hb z (by simp[hz])) hx hy h.2
  exact⟨by rw[h.1,h1],h2⟩
theorem restT_form (t:List (Int×Int)):restT t=[]∨∃r,restT t=32 :: r:=by
 cases t with
 | nil=>exact .inl rfl
 | cons m t=>exact .inr ⟨_,rfl⟩
theorem restT_inj:∀ {t u:List (Int×Int)},restT t=restT u→t=u
 | [],[],_=>rfl
 | [],m :: u,h=>by cases h
 | m :: t,[],h=>by cases h
 | m :: t,k :: u,h=>by
  have e:∀(m:Int×Int) t,restT (m :: t)=32 :: (Lib.itoa m.1 ++ (32 :: (Lib.itoa m.2 ++ restT t))):=fun m t=>by simp[restT]
  rw[e,e]at h
  injection h with _ h
  obtain⟨h1,h2⟩:=cut_space (itoa_bytes _) (itoa_bytes _) (.inr ⟨_,rfl⟩) (.inr ⟨_,rfl⟩) h
  injection h2 with _ h2
  obtain⟨h3,h4⟩:=cut_space (itoa_bytes _) (itoa_bytes _) (restT_form t) (restT_form u) h2
  rw[restT_inj h4,Prod.ext (itoa_inj h1) (itoa_inj h3)]
theorem textL_inj {c d:Int}{t u:List (Int×Int)}(h:textL c t=textL d u):c=d∧t=u:=by
 obtain⟨h1,h2⟩:=cut_space (itoa_bytes _) (itoa_bytes _) (restT_form t) (restT_form u) h
 exact⟨itoa_inj h1,restT_inj h2⟩
end
section
open Go.RowKit
theorem Tryz.infoForm:(Tryz.prog.info? 39).map (fun i=>(i.zero,i.size,i.bytes))=some (some (.agg #[.int .i64 0,.int .i64 0,.slice none 0 0,.slice none 0 0]),4,64):=by kernel_rfl
end
section
open Go.ChangeShapes Go.WideShapes Go.RowKit Go.Deep
section
variable {H:Type} {enc:TypeId×Value→H} {P:Program} {w:World} {base:Nat} {spare:Nat→Bool} {held:Bool}
theorem open_slice_fields {t e:TypeId}{fs:Array Field}{fuel:Nat}{cs:List Value}{x:DataW H×List MemPlace}(ht:P.underlying t=some (.slice e))(he:P.underlying e=some (.struct fs))
  (hone:oneCellFields P fs=true) (hC:P.cellsOf e=fs.size) (h:DataW.trod enc P w base spare held fuel t cs=some x):
  (cs=[.slice none 0 0]∧x=(.nil,[]))∨
  ∃(a:Addr) (len cap m:Nat),cs=[.slice (some a) len cap]∧len≤cap∧cap≤maxLen∧len≤m∧
   ∀i,i<m→∃(n:Nat),
    ∀(j:Nat) (f:Field),fs[j]? =some f→∃(v:Value) (y:DataW H×List MemPlace),w.cell? (a.add (i*fs.size+j))=some v∧DataW.trod enc P w base spare held n f.type [v]=some y:=by
 rcases open_slice ht h with h0 | ⟨a,len,cap,m,n,D,Pl,hcs,_,hl,hm,hmm,_,hi⟩
 ·exact .inl h0
 ·refine .inr ⟨a,len,cap,m,hcs,hl,hm,by rw[hmm];split<;>omega,fun i him=> ?_⟩
  obtain⟨cs',hc,ht'⟩:=hi i him
  rw[hC]at hc
  obtain⟨ys,n',_,_,_,hyl,hf⟩:=DataW.trod_struct he ht'
  obtain⟨_,hcl,hat⟩:=World.cells?_some hc
  refine⟨n',fun j f hj=> ?_⟩
  obtain⟨ho,hk⟩:=hone_of hone j f hj
  have hjl:j<fs.size:=(Array.getElem?_eq_some_iff.1 hj).1
  have hcell:=hat j hjl
  have hv:cs'[j]? =some (cs'[j]'(by omega)):=List.getElem?_eq_getElem (by omega)
  have h1:=hf j f hj
  rw[ho,hk]at h1
  have hone':(cs'.drop j).take 1=[cs'[j]'(by omega)]:=by
   rw[List.drop_eq_getElem_cons (by omega)]
   rfl
  rw[hone']at h1
  have hys:ys[j]? =some (ys[j]'(by omega)):=List.getElem?_eq_getElem (by omega)
  refine⟨_,_, ?_,h1.trans hys⟩
  rw[←Go.Deep.add_add,hcell,hv]
end
def Came (w:World)(a:Option Addr)(n cap:Nat)(l:List (Int×Int)):Prop:=
 l.length=n∧n≤cap∧cap≤maxLen∧(a=none→n=0∧cap=0)∧Lies w.heap.size w a l∧∀m∈l,(Lit.int .i64 m.1).wf=true∧(Lit.int .i64 m.2).wf=true
theorem list_of (n:Nat)(p:Nat→Int×Int→Prop)(h:∀i,i<n→∃m,p i m):∃l:List (Int×Int),l.length=n∧∀i,i<n→p i (l.getD i (0,0)):=by
 induction n with
 | zero=>exact⟨[],rfl,fun i hi=>absurd hi (Nat.not_lt_zero i)⟩
 | succ n ih=>
  obtain⟨l,hl,hp⟩:=ih (fun i hi=>h i (by omega))
  obtain⟨m,hm⟩:=h n (by omega)
  refine⟨l ++ [m],by simp[hl],fun i hi=> ?_⟩
  by_cases e:i=n
  ·subst e
   rw[List.getD_eq_getElem?_getD,List.getElem?_append_right (by omega),hl]
   simpa using hm
  ·have:=hp i (by omega)
   rw[List.getD_eq_getElem?_getD]at this⊢
   rwa [List.getElem?_append_left (by omega)]
section
variable {H:Type} {enc:TypeId×Value→H} {w:World} {base:Nat} {spare:Nat→Bool} {held:Bool}
theorem open_monos {fuel:Nat}{v:Value}{x:DataW H×List MemPlace}(h:DataW.trod enc Tryz.prog w base spare held fuel 34 [v]=some x):∃a n cap l,v= .slice a n cap∧Came w a n cap l:=by
 rcases open_slice_fields Tryz.underlying34 Tryz.underlying92 (by kernel_rfl) (by kernel_rfl) h with ⟨hcs,_⟩ | ⟨a,len,cap,m,hcs,hl,hm,hlm,hi⟩
 ·injection hcs with hv
  exact⟨none,0,0,[],hv,rfl,Nat.le_refl _,Nat.zero_le _,fun _=>⟨rfl,rfl⟩,fun i hi=>absurd hi (Nat.not_lt_zero i),fun m hm=>by cases hm⟩
 ·injection hcs with hv
  have hp:∀i,i<len→∃m:Int×Int,w.cell? (a.add (i*2))=some (.int .i64 m.1)∧w.cell? (a.add (i*2+1))=some (.int .i64 m.2)∧(Lit.int .i64 m.1).wf=true∧(Lit.int .i64 m.2).wf=true:=by
   intro i hil
   obtain⟨n,hf⟩:=hi i (by omega)
   obtain⟨v0,y0,c0,t0⟩:=hf 0 _ rfl
   obtain⟨v1,y1,c1,t1⟩:=hf 1 _ rfl
   obtain⟨x0,e0,_,w0⟩:=DataW.trod_int Tryz.underlying3 t0
   obtain⟨x1,e1,_,w1⟩:=DataW.trod_int Tryz.underlying3 t1
   injection e0 with e0
   injection e1 with e1
   subst e0 e1
   exact⟨(x0,x1),c0,c1,w0,w1⟩
  obtain⟨l,hll,hlp⟩:=list_of len _ hp
  refine⟨some a,len,cap,l,hv,hll,hl,hm,(fun e=>by cases e),fun i hi=> ?_,fun m hm=> ?_⟩
  ·obtain⟨c0,c1,_,_⟩:=hlp i (by omega)
   obtain⟨b,off,spot⟩:=a
   have hs:spot=none:=by
    have:=World.cell?_spot c1
    by_cases h0:spot=none
    ·exact h0
    ·have c00:=(hlp 0 (by omega)).1
     simpa [Addr.add]using World.cell?_spot c00
   subst hs
   refine⟨b,off,rfl, ?_, ?_, ?_⟩
   ·have:=block_lt_of_cell c1
    simpa [Addr.add]using this
   ·rw[Go.WideShapes.add_plain]at c0;exact c0
   ·rw[Go.WideShapes.add_plain]at c1;exact c1
  ·obtain⟨i,hi,rfl⟩:=List.getElem_of_mem hm
   have:=hlp i (by omega)
   rw[List.getD_eq_getElem?_getD,List.getElem?_eq_getElem hi]at this
   exact this.2.2
end
end
section
open Go.ChangeShapes Go.WideShapes Go.RowKit Go.Deep
theorem FLies.succ {B:Nat}{w:World}:∀ {n:Nat} {f:FT} {cs:List Value},FLies B w n f cs→FLies B w (n+1) f cs
 | 0,_,_,h=>h.elim
 | n+1,f,cs,⟨ta,tcap,ka,kcap,h1,h2,h3,h4,h5⟩=>⟨ta,tcap,ka,kcap,h1,h2,h3,h4,fun i hi=>by
  obtain⟨b,off,c0,c1,c2,c3,e,hlt,g0,g1,g2,g3,hf⟩:=h5 i hi
  exact⟨b,off,c0,c1,c2,c3,e,hlt,g0,g1,g2,g3,hf.succ⟩⟩
theorem list_of_any {α:Type}[Inhabited α](n:Nat)(p:Nat→α→Prop)(h:∀i,i<n→∃m,p i m):∃l:List α,l.length=n∧∀i,i<n→p i (l.getD i default):=by
 induction n with
 | zero=>exact⟨[],rfl,fun i hi=>absurd hi (Nat.not_lt_zero i)⟩
 | succ n ih=>
  obtain⟨l,hl,hp⟩:=ih (fun i hi=>h i (by omega))
  obtain⟨m,hm⟩:=h n (by omega)
  refine⟨l ++ [m],by simp[hl],fun i hi=> ?_⟩
  by_cases e:i=n
  ·subst e
   rw[List.getD_eq_getElem?_getD,List.getElem?_append_right (by omega),hl]
   simpa using hm
  ·have:=hp i (by omega)
   rw[List.getD_eq_getElem?_getD]at this⊢
   rwa [List.getElem?_append_left (by omega)]
theorem list4 {α:Type}{l:List α}(h:l.length=4):∃a b c d,l=[a,b,c,d]:=by
 match l,h with
 | [a,b,c,d],_=>exact⟨a,b,c,d,rfl⟩
section
variable {H:Type} {enc:TypeId×Value→H} {w:World} {base:Nat} {spare:Nat→Bool} {held:Bool}
theorem open_form_cells:∀(N:Nat) {fuel:Nat} {cs:List Value} {x:DataW H×List MemPlace},fuel≤N→DataW.trod enc Tryz.prog w base spare held fuel 39 cs=some x→∃f,FLies w.heap.size w N f cs
 | 0,fuel,cs,x,hN,h=>by
  obtain⟨xs,n,rfl,_⟩:=DataW.trod_struct Tryz.underlying39 h
  omega
 | N+1,fuel,cs,x,hN,h=>by
  have IH:= @open_form_cells N
  obtain⟨xs,n,rfl,_,hl,hlen,hf⟩:=DataW.trod_struct Tryz.underlying39 h
  obtain⟨c0,c1,c2,c3,rfl⟩:=list4 (hl.trans (by kernel_rfl))
  have e1:Tryz.prog.cellsOf 3=1:=by kernel_rfl
  have e2:Tryz.prog.cellsOf 36=2:=by kernel_rfl
  have e3:Tryz.prog.cellsOf 37=1:=by kernel_rfl
  have e4:Tryz.prog.cellsOf 39=4:=by kernel_rfl
  have e5:Tryz.prog.cellsOf 34=1:=by kernel_rfl
  have hx:∀i,i<3→∃y,xs[i]? =some y:=fun i hi=>⟨_,List.getElem?_eq_getElem (by rw[hlen];exact hi)⟩
  have h0:DataW.trod enc Tryz.prog w base spare held n 3 [c0]=xs[0]? :=by
   have:DataW.trod enc Tryz.prog w base spare held n 3 ((([c0,c1,c2,c3]:List Value).drop 0).take (Tryz.prog.cellsOf 3))=xs[0]? :=hf 0 _ rfl
   rw[e1]at this
   exact this
  have h1:DataW.trod enc Tryz.prog w base spare held n 36 [c1,c2]=xs[1]? :=by
   have:DataW.trod enc Tryz.prog w base spare held n 36 ((([c0,c1,c2,c3]:List Value).drop 1).take (Tryz.prog.cellsOf 36))=xs[1]? :=hf 1 _ rfl
   rw[e2]at this
   exact this
  have h2:DataW.trod enc Tryz.prog w base spare held n 37 [c3]=xs[2]? :=by
   have:DataW.trod enc Tryz.prog w base spare held n 37 ((([c0,c1,c2,c3]:List Value).drop 3).take (Tryz.prog.cellsOf 37))=xs[2]? :=hf 2 _ rfl
   rw[e3]at this
   exact this
  obtain⟨y0,z0⟩:=hx 0 (by omega)
  obtain⟨y1,z1⟩:=hx 1 (by omega)
  obtain⟨y2,z2⟩:=hx 2 (by omega)
  rw[z0]at h0
  rw[z1]at h1
  rw[z2]at h2
  clear hf hx z0 z1 z2
  obtain⟨k,ek,_,_⟩:=DataW.trod_int Tryz.underlying3 h0
  obtain⟨xs',n',_,_,_,hlen',hf'⟩:=DataW.trod_struct Tryz.underlying36 h1
  have hx':∀i,i<2→∃y,xs'[i]? =some y:=fun i hi=>⟨_,List.getElem?_eq_getElem (by rw[hlen'];exact hi)⟩
  have g0:DataW.trod enc Tryz.prog w base spare held n' 3 [c1]=xs'[0]? :=by
   have:DataW.trod enc Tryz.prog w base spare held n' 3 ((([c1,c2]:List Value).drop 0).take (Tryz.prog.cellsOf 3))=xs'[0]? :=hf' 0 _ rfl
   rw[e1]at this
   exact this
  have g1:DataW.trod enc Tryz.prog w base spare held n' 34 [c2]=xs'[1]? :=by
   have:DataW.trod enc Tryz.prog w base spare held n' 34 ((([c1,c2]:List Value).drop 1).take (Tryz.prog.cellsOf 34))=xs'[1]? :=hf' 1 _ rfl
   rw[e5]at this
   exact this
  obtain⟨y3,z3⟩:=hx' 0 (by omega)
  obtain⟨y4,z4⟩:=hx' 1 (by omega)
  rw[z3]at g0
  rw[z4]at g1
  obtain⟨c,ec,_,_⟩:=DataW.trod_int Tryz.underlying3 g0
  obtain⟨ta,tn,tcap,l,et,htl,htn,htc,_,hlies,_⟩:=open_monos g1
  injection ek with ek
  injection ec with ec
  subst ek ec et
  have htm:tn≤9223372036854775807:=by unfold maxLen at htc;omega
  subst htl
  clear hf' hx' z3 z4 g0 g1 h0 h1
  rcases DataW.trod_slice Tryz.underlying37 h2 with ⟨h3,_⟩ | ⟨a,len,cap,elems,rest,n2,hn2,h3,_,_,hlc,hcm,hel,hat,_,_⟩
  ·injection h3 with h3
   subst h3
   exact⟨.mk k c l [],ta,tcap,none,0,rfl,hlies,htm,by simp[FT.ks],fun i hi=>absurd hi (by simp[FT.ks])⟩
  ·injection h3 with h3
   subst h3
   have hp:∀i,i<len→∃g:FT,∃b off c0 c1 c2 c3,a=⟨b,off,none⟩∧b<w.heap.size∧w.cell? ⟨b,off+i*4,none⟩=some c0∧w.cell? ⟨b,off+i*4+1,none⟩=some c1∧w.cell? ⟨b,off+i*4+2,none⟩=some c2∧w.cell? ⟨b,off+i*4+3,none⟩=some c3∧FLies w.heap.size w N g [c0,c1,c2,c3]:=by
    intro i hi
    have hc:=hat i hi
    rw[List.getElem?_eq_getElem (by omega)]at hc
    obtain⟨cs',k1,k2⟩:=Option.bind_eq_some_iff.1 hc
    obtain⟨g,hg⟩:=IH (by omega) k2
    obtain⟨_,hcl,hat'⟩:=World.cells?_some k1
    rw[e4]at hcl
    obtain⟨d0,d1,d2,d3,rfl⟩:=list4 hcl
    have q0:=hat' 0 (by rw[e4];omega)
    have q1:=hat' 1 (by rw[e4];omega)
    have q2:=hat' 2 (by rw[e4];omega)
    have q3:=hat' 3 (by rw[e4];omega)
    rw[Go.Deep.add_add,e4]at q0 q1 q2 q3
    obtain⟨b,off,spot⟩:=a
    have hs:spot=none:=by
     have hc0:=hat 0 (by omega)
     rw[List.getElem?_eq_getElem (by omega)]at hc0
     obtain⟨cs0,u1,_⟩:=Option.bind_eq_some_iff.1 hc0
     obtain⟨_,ucl,uat⟩:=World.cells?_some u1
     rw[e4]at ucl
     obtain⟨_,_,_,_,rfl⟩:=list4 ucl
     have u0:=uat 0 (by rw[e4];omega)
     rw[Go.Deep.add_add,e4]at u0
     simpa [Addr.add]using World.cell?_spot u0
    subst hs
    rw[Go.WideShapes.add_plain]at q0 q1 q2 q3
    exact⟨g,b,off,d0,d1,d2,d3,rfl,by simpa using block_lt_of_cell q0,q0,q1,q2,q3,hg⟩
   obtain⟨ks,hks,hkp⟩:=list_of_any len _ hp
   subst hks
   refine⟨.mk k c l ks,ta,tcap,some a,cap,rfl,hlies,htm,by unfold maxLen at hcm;simp only[FT.ks];omega,fun i hi=> ?_⟩
   obtain⟨b,off,d0,d1,d2,d3,ha,r⟩:=hkp i hi
   exact⟨b,off,d0,d1,d2,d3,by rw[ha],r⟩
theorem open_form {r:Reach}{b0:Nat}{v:Value}{d:DataW H}{p:List MemPlace}(hv:Value.okWide Tryz.prog w r b0 39 v)(h:DataW.Trod enc Tryz.prog w base spare held 39 v d p):
  ∃n f cs,v= .agg cs.toArray∧FLies w.heap.size w n f cs:=by
 obtain⟨cs,rfl,hsz⟩:=okWide_struct Tryz.underlying39 hv
 obtain⟨fuel,hf⟩:=h
 obtain⟨f,hl⟩:=open_form_cells fuel (Nat.le_refl _) hf
 refine⟨fuel,f,cs.toList,rfl, ?_⟩
 simpa [Value.cells]using hl
end
end
end Go.Proofs.YtipahfcaplbifaaGreatDoor
