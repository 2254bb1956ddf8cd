/- Parts of a proof. -/
import Derived.Test.YtipahfcaplbifaaGreatDoorProg
import Derived.WalkKit
import Derived.WalkSpells
import Derived.WalkLawsBesides
import Derived.Lib.Hide
import Derived.Deep.QuietTactic
import Derived.BigQuiet
import Derived.LaidEql
import Derived.Lib.QuietBelow
import Derived.Shelf.SlSortCmp.WholeK
import Derived.Ground.SlsfProg
set_option linter.unusedVariables false
set_option linter.unusedSimpArgs false
set_option maxHeartbeats 60000000
set_option maxRecDepth 100000
namespace Go.Proofs.YtipahfcaplbifaaGreatDoor
section
open Go.RowKit
theorem ret_int {k:IntKind}{a b:Int}(h:a=b):Ending.returned (.int k a)=Ending.returned (.int k b):=by rw[h]
theorem ret_bool {a b:Bool}(h:a=b):Ending.returned (.bool a)=Ending.returned (.bool b):=by rw[h]
theorem bcell {W w1:World}(hb:Below W.heap.size W w1):(∀b o,b<W.heap.size→w1.cell? ⟨b,o,none⟩=W.cell? ⟨b,o,none⟩)∧(∀b o,b<W.heap.size→w1.frozen? ⟨b,o,none⟩=W.frozen? ⟨b,o,none⟩):=
 ⟨fun b o h=>hb.cell (p:=⟨b,o,none⟩) h,fun b o h=>hb.frozen (p:=⟨b,o,none⟩) h⟩
def wi (n m:Int):Bool:=decide (-m≤n∧n≤m)
theorem wi_t {n m:Int}(h: -m≤n∧n≤m):wi n m=true:=by unfold wi;exact decide_eq_true h
theorem wi_f {n m:Int}(h:¬(-m≤n∧n≤m)):wi n m=false:=by unfold wi;exact decide_eq_false h
theorem within_any (n m:Int)(w:World)(h0:0≤m)(h1:m≤4294967296):
 Calls Tryz.prog 45 #[.int .i64 n,.int .i64 m] w fun e w'=>e= .returned (.bool (wi n m))∧w=w':=by
 by_cases a: -m≤n
 ·by_cases b:n≤m
  ·rw[wi_t ⟨a,b⟩]
   go_enter Tryz.func45,Tryz.ntmps45
   go_wp2
   go_ret
   exact⟨rfl,rfl⟩
  ·rw[wi_f (by omega)]
   go_enter Tryz.func45,Tryz.ntmps45
   go_wp2
   go_ret
   exact⟨rfl,rfl⟩
 ·rw[wi_f (by omega)]
  go_enter Tryz.func45,Tryz.ntmps45
  go_wp2
  go_ret
  exact⟨rfl,rfl⟩
theorem coef_any (n:Int)(w:World):
 Calls Tryz.prog 26 #[.int .i64 n] w fun e w'=>e= .returned (.bool (wi n 1073741824))∧w=w':=by
 by_cases a: -1073741824≤n
 ·by_cases b:n≤1073741824
  ·rw[wi_t ⟨a,b⟩]
   go_enter Tryz.func26,Tryz.ntmps26
   go_wp2
   go_ret
   exact⟨rfl,rfl⟩
  ·rw[wi_f (by omega)]
   go_enter Tryz.func26,Tryz.ntmps26
   go_wp2
   go_ret
   exact⟨rfl,rfl⟩
 ·rw[wi_f (by omega)]
  go_enter Tryz.func26,Tryz.ntmps26
  go_wp2
  go_ret
  exact⟨rfl,rfl⟩
end
section
open Go.RowKit
def Lies (B:Nat)(w:World)(a:Option Addr)(l:List (Int×Int)):Prop:=
 ∀i,i<l.length→∃b off,a=some ⟨b,off,none⟩∧b<B∧
  w.cell? ⟨b,off+i*2,none⟩=some (.int .i64 (l.getD i (0,0)).1)∧w.cell? ⟨b,off+i*2+1,none⟩=some (.int .i64 (l.getD i (0,0)).2)
theorem Lies.mono {B B':Nat}{w:World}{a:Option Addr}{l:List (Int×Int)}(h:Lies B w a l)(hb:B≤B'):Lies B' w a l:=fun i hi=>by
 obtain⟨b,off,ha,hlt,h1,h2⟩:=h i hi
 exact⟨b,off,ha,Nat.lt_of_lt_of_le hlt hb,h1,h2⟩
theorem Lies.below {B:Nat}{w w':World}{a:Option Addr}{l:List (Int×Int)}(h:Lies B w a l)(hb:Below B w w'):Lies B w' a l:=fun i hi=>by
 obtain⟨b,off,ha,hlt,h1,h2⟩:=h i hi
 exact⟨b,off,ha,hlt,by rw[hb.cell (p:=⟨b,_,none⟩) hlt];exact h1,by rw[hb.cell (p:=⟨b,_,none⟩) hlt];exact h2⟩
theorem all_yes (g:Nat)(cb:Array Value)(a:Option Addr)(n cap:Nat)(l:List (Int×Int))(w:World)(I:Nat→World→Prop)(r:Nat→Bool)
 (eg:∀args w,(callFunc g args).run Tryz.prog w= .ok (.enter g args) w)
 (hn:l.length=n) (hm:n≤9223372036854775807) (B:Nat) (hB:B≤w.heap.size) (hl:Lies B w a l) (h0:I 0 w) (hal:∀i W o,I i W→I i (W.alloc o))
 (hstep:∀i W,i<n→Below B w W→I i W→Calls Tryz.prog g (#[.agg #[.int .i64 (l.getD i (0,0)).1,.int .i64 (l.getD i (0,0)).2]] ++ cb) W
   fun e W'=>e= .returned (.bool (r i))∧I (i+1) W'∧Below B W W')
 (hr:∀i,i<n→r i=true):
 Calls Tryz.prog 46 #[.slice a n cap,.func (.func g) #[] cb] w fun e w'=>e= .returned (.bool true)∧I n w'∧Below B w w':=by
 have HS:=Lib.hid hstep
 have HL:=Lib.hid hl
 have HA:=Lib.hid hal
 have HI:=Lib.hid h0
 have HR:=Lib.hid hr
 have HN:=Lib.hid hn
 clear hstep hl hal h0 hr hn
 go_enter Tryz.func46,Tryz.ntmps46
 go_wp2
 go_loopw [9] (fun i wr=>∃k:Nat,k≤n∧i= .int .i64 k∧Hid (I k wr)∧Below B w wr) (fun i _=>n - (intOf i).toNat)
 case atStart=>exact⟨0,Nat.zero_le _,rfl,HI,Below.refl _ _⟩
 case round=>
  obtain⟨k,hk,rfl,hI,hb⟩:=hrel
  by_cases hlt:k<n
  ·obtain⟨b,off,rfl,hblt,c1,c2⟩:=HL.out k (by rw[HN.out];exact hlt)
   rw[←hb.cell (p:=⟨b,_,none⟩) hblt]at c1 c2
   have hs:∀W,Below B w W→I k W→Calls Tryz.prog g (#[.agg #[.int .i64 (l.getD k (0,0)).1,.int .i64 (l.getD k (0,0)).2]] ++ cb) W
    fun e W'=>e= .returned (.bool true)∧I (k+1) W'∧Below B W W':=fun W h1 h2=>by
     have:=HS.out k W hlt h1 h2
     rw[HR.out k hlt]at this
     exact this
   generalize (l.getD k (0,0)).1=v at hs c1
   generalize (l.getD k (0,0)).2=u at hs c2
   have HS1:=Lib.hid hs
   clear hs HS
   go_wp2_with fail
   have hb2:=(hb.alloc (Nat.le_trans hB hb.size) (.cells #[.int .i64 v,.int .i64 u] 92))
   refine(HS1.out _ hb2 (HA.out _ _ _ hI.out)).mono ?_
   rintro e w1 ⟨rfl,hI1,hb1⟩
   have HI1:=Lib.hid hI1
   clear hI1 hI HI c1 c2
   go_wp2
   go_roundw
   case rel=>exact⟨k+1,by omega,by go_num,HI1,hb2.trans hb1⟩
   case measure=>simp[intOf];omega
  ·go_wp2
   go_ret
   exact⟨rfl,by rw[show n=k by omega];exact hI.out,hb⟩
theorem all_no (g:Nat)(cb:Array Value)(a:Option Addr)(n cap:Nat)(l:List (Int×Int))(w:World)(I:Nat→World→Prop)(r:Nat→Bool)
 (eg:∀args w,(callFunc g args).run Tryz.prog w= .ok (.enter g args) w)
 (hn:l.length=n) (hm:n≤9223372036854775807) (B:Nat) (hB:B≤w.heap.size) (hl:Lies B w a l) (h0:I 0 w) (hal:∀i W o,I i W→I i (W.alloc o))
 (hstep:∀i W,i<n→Below B w W→I i W→Calls Tryz.prog g (#[.agg #[.int .i64 (l.getD i (0,0)).1,.int .i64 (l.getD i (0,0)).2]] ++ cb) W
   fun e W'=>e= .returned (.bool (r i))∧I (i+1) W'∧Below B W W')
 (j:Nat) (hj:j<n) (hr:∀i,i<j→r i=true) (hno:r j=false):
 Calls Tryz.prog 46 #[.slice a n cap,.func (.func g) #[] cb] w fun e w'=>e= .returned (.bool false)∧I (j+1) w'∧Below B w w':=by
 have HS:=Lib.hid hstep
 have HL:=Lib.hid hl
 have HA:=Lib.hid hal
 have HI:=Lib.hid h0
 have HR:=Lib.hid hr
 have HN:=Lib.hid hn
 have HO:=Lib.hid hno
 clear hstep hl hal h0 hr hn hno
 go_enter Tryz.func46,Tryz.ntmps46
 go_wp2
 go_loopw [9] (fun i wr=>∃k:Nat,k≤j∧i= .int .i64 k∧Hid (I k wr)∧Below B w wr) (fun i _=>n - (intOf i).toNat)
 case atStart=>exact⟨0,Nat.zero_le _,rfl,HI,Below.refl _ _⟩
 case round=>
  obtain⟨k,hk,rfl,hI,hb⟩:=hrel
  have hlt:k<n:=by omega
  by_cases hkj:k<j
  ·obtain⟨b,off,rfl,hblt,c1,c2⟩:=HL.out k (by rw[HN.out];exact hlt)
   rw[←hb.cell (p:=⟨b,_,none⟩) hblt]at c1 c2
   have hs:∀W,Below B w W→I k W→Calls Tryz.prog g (#[.agg #[.int .i64 (l.getD k (0,0)).1,.int .i64 (l.getD k (0,0)).2]] ++ cb) W
    fun e W'=>e= .returned (.bool true)∧I (k+1) W'∧Below B W W':=fun W h1 h2=>by
     have:=HS.out k W hlt h1 h2
     rw[HR.out k hkj]at this
     exact this
   generalize (l.getD k (0,0)).1=v at hs c1
   generalize (l.getD k (0,0)).2=u at hs c2
   have HS1:=Lib.hid hs
   clear hs HS
   go_wp2_with fail
   have hb2:=(hb.alloc (Nat.le_trans hB hb.size) (.cells #[.int .i64 v,.int .i64 u] 92))
   refine(HS1.out _ hb2 (HA.out _ _ _ hI.out)).mono ?_
   rintro e w1 ⟨rfl,hI1,hb1⟩
   have HI1:=Lib.hid hI1
   clear hI1 hI HI c1 c2
   go_wp2
   go_roundw
   case rel=>exact⟨k+1,by omega,by go_num,HI1,hb2.trans hb1⟩
   case measure=>simp[intOf];omega
  ·obtain⟨b,off,rfl,hblt,c1,c2⟩:=HL.out k (by rw[HN.out];exact hlt)
   rw[←hb.cell (p:=⟨b,_,none⟩) hblt]at c1 c2
   have hs:∀W,Below B w W→I k W→Calls Tryz.prog g (#[.agg #[.int .i64 (l.getD k (0,0)).1,.int .i64 (l.getD k (0,0)).2]] ++ cb) W
    fun e W'=>e= .returned (.bool false)∧I (k+1) W'∧Below B W W':=fun W h1 h2=>by
     have:=HS.out k W hlt h1 h2
     rw[show k=j by omega,HO.out]at this
     rw[show k=j by omega]
     exact this
   generalize (l.getD k (0,0)).1=v at hs c1
   generalize (l.getD k (0,0)).2=u at hs c2
   have HS1:=Lib.hid hs
   clear hs HS
   go_wp2_with fail
   have hb2:=(hb.alloc (Nat.le_trans hB hb.size) (.cells #[.int .i64 v,.int .i64 u] 92))
   refine(HS1.out _ hb2 (HA.out _ _ _ hI.out)).mono ?_
   rintro e w1 ⟨rfl,hI1,hb1⟩
   have HI1:=Lib.hid hI1
   clear hI1 hI HI c1 c2
   go_wp2
   go_ret
   exact⟨rfl,by rw[show j=k by omega];exact HI1.out,hb2.trans hb1⟩
end
section
open Go.RowKit
def mst (v k:Int):Bool:=decide (0≤v∧v<1048576) && wi k 1073741824
theorem mst_f1 {v k:Int}(h:¬(0≤v∧v<1048576)):mst v k=false:=by unfold mst;rw[decide_eq_false h];rfl
theorem mst_t1 {v k:Int}(h:0≤v∧v<1048576):mst v k=wi k 1073741824:=by unfold mst;rw[decide_eq_true h];rfl
theorem mayStand_any (v k:Int)(w:World):
 Calls Tryz.prog 48 #[.agg #[.int .i64 v,.int .i64 k]] w fun e w'=>e= .returned (.bool (mst v k))∧Below w.heap.size w w':=by
 by_cases a:0≤v
 ·by_cases b:v<1048576
  ·rw[mst_t1 ⟨a,b⟩]
   go_enter Tryz.func48,Tryz.ntmps48
   go_wp2_with (go_at_call 45;refine(within_any _ _ _ (by omega) (by omega)).mono ?_;rintro e w' ⟨rfl,rfl⟩)
   go_ret
   exact⟨rfl,(Below.refl _ _).alloc (Nat.le_refl _) _⟩
  ·rw[mst_f1 (by omega)]
   go_enter Tryz.func48,Tryz.ntmps48
   go_wp2
   go_ret
   exact⟨rfl,(Below.refl _ _).alloc (Nat.le_refl _) _⟩
 ·rw[mst_f1 (by omega)]
  go_enter Tryz.func48,Tryz.ntmps48
  go_wp2
  go_ret
  exact⟨rfl,(Below.refl _ _).alloc (Nat.le_refl _) _⟩
def chk (last v k:Int):Bool:=decide (last<v) && (decide (k≠0) && mst v k)
theorem chk_1 {last v k:Int}(h:¬last<v):chk last v k=false:=by unfold chk;rw[decide_eq_false h];rfl
theorem chk_2 {last v k:Int}(h:k=0):chk last v k=false:=by unfold chk;rw[decide_eq_false (p:=k≠0) (by omega)];simp
theorem chk_3 {last v k:Int}(h:last<v)(h2:k≠0):chk last v k=mst v k:=by unfold chk;rw[decide_eq_true h,decide_eq_true h2];simp
def Own (w:World)(p:Nat)(x:Int):Prop:=p<w.heap.size∧w.cell? ⟨p,0,none⟩=some (.int .i64 x)∧w.frozen? ⟨p,0,none⟩=false
theorem Own.alloc {w:World}{p:Nat}{x:Int}(h:Own w p x)(o:Obj):Own (w.alloc o) p x:=by
 have hb:=(Below.refl w.heap.size w).alloc (Nat.le_refl _) o
 exact⟨Nat.lt_of_lt_of_le h.1 hb.size,by rw[hb.cell (p:=⟨p,0,none⟩) h.1];exact h.2.1,by rw[hb.frozen (p:=⟨p,0,none⟩) h.1];exact h.2.2⟩
theorem Own.below {w w':World}{p:Nat}{x:Int}(h:Own w p x)(hb:Below w.heap.size w w'):Own w' p x:=
 ⟨Nat.lt_of_lt_of_le h.1 hb.size,by rw[hb.cell (p:=⟨p,0,none⟩) h.1];exact h.2.1,by rw[hb.frozen (p:=⟨p,0,none⟩) h.1];exact h.2.2⟩
theorem Own.drewN {w:World}{p:Nat}{x:Int}(h:Own w p x)(n:Nat):Own (w.drewN n) p x:=h
theorem Own.set {w:World}{p:Nat}{x:Int}(h:Own w p x)(y:Int):Own (w.setCell ⟨p,0,none⟩ (.int .i64 y)) p y:=
 ⟨by simpa [World.setCell]using h.1,World.cell?_setCell_same _ _ _ h.2.1,by rw[World.frozen?_setCell];exact h.2.2⟩
theorem checkLit_any (p:Nat)(last v k:Int)(w:World)(ho:Own w p last):
 Calls Tryz.prog 47 #[.agg #[.int .i64 v,.int .i64 k],.pointer (some ⟨p,0,none⟩)] w fun e w'=>e= .returned (.bool (chk last v k))∧Own w' p v∧Below p w w':=by
 have O1:=Lib.hid ((ho.set v).alloc (.cells #[.int .i64 v,.int .i64 k] 92))
 have B1:=Lib.hid (((Below.refl p w).setCell (p:=⟨p,0,none⟩) (Nat.le_refl _) (.int .i64 v)).alloc (Nat.le_of_lt (ho.set v).1) (.cells #[.int .i64 v,.int .i64 k] 92))
 obtain⟨h1,h2,h3⟩:=ho
 by_cases a:last<v
 ·by_cases b:k=0
  ·subst b
   rw[chk_2 rfl]
   go_enter Tryz.func47,Tryz.ntmps47
   go_wp2_with fail
   go_ret
   exact⟨rfl,O1.out,B1.out⟩
  ·rw[chk_3 a b]
   have hk:(k != 0)=true:=by simpa using b
   go_enter Tryz.func47,Tryz.ntmps47
   go_wp2_with (go_at_call 48;refine(mayStand_any _ _ _).mono ?_;rintro e w' ⟨rfl,hb⟩)
   go_ret
   exact⟨rfl,O1.out.below hb,B1.out.trans (hb.mono (Nat.le_of_lt O1.out.1))⟩
 ·rw[chk_1 a]
  go_enter Tryz.func47,Tryz.ntmps47
  go_wp2_with fail
  go_ret
  exact⟨rfl,O1.out,B1.out⟩
def com (a b:Int):Int:=if b=0 then(if a<0 then -a else a) else com b (a.tmod b)
termination_by b.natAbs
decreasing_by
 rename_i h
 have:=Int.natAbs_tmod a b
 rw[this]
 exact Nat.mod_lt _ (by omega)
theorem com_nat (a b:Int):com a b=(Nat.gcd a.natAbs b.natAbs:Nat):=by
 induction a,b using com.induct with
 | case1 a h=>rw[com,if_pos rfl,if_pos h];simp;omega
 | case2 a h=>rw[com,if_pos rfl,if_neg h];simp;omega
 | case3 a b h ih=>rw[com,if_neg h,ih,Int.natAbs_tmod,Nat.gcd_comm a.natAbs,Nat.gcd_rec b.natAbs a.natAbs,Nat.gcd_comm]
theorem tmod_in (a b:Int)(h1: -1073741824≤a)(h2:a≤1073741824)(_h3: -1073741824≤b)(_h4:b≤1073741824): -1073741824≤a.tmod b∧a.tmod b≤1073741824:=by
 have h:(a.tmod b).natAbs≤a.natAbs:=by rw[Int.natAbs_tmod];exact Nat.mod_le _ _
 omega
theorem tmod_lt (a b:Int)(h:b≠0):(a.tmod b).natAbs<b.natAbs:=by rw[Int.natAbs_tmod];exact Nat.mod_lt _ (by omega)
theorem common_any (a b:Int)(w:World)(ha: -1073741824≤a)(ha2:a≤1073741824)(hb: -1073741824≤b)(hb2:b≤1073741824):
 Calls Tryz.prog 154 #[.int .i64 a,.int .i64 b] w fun e w'=>e= .returned (.int .i64 (com a b))∧∃n,w'=w.drewN n:=by
 go_enter Tryz.func154,Tryz.ntmps154
 go_wp2
 go_loopw [0,1] (fun x y wr=>∃c d:Int,x= .int .i64 c∧y= .int .i64 d∧ -1073741824≤c∧c≤1073741824∧ -1073741824≤d∧d≤1073741824∧Hid (com c d=com a b)∧Hid (∃n,wr=w.drewN n)) (fun _ y _=>(intOf y).natAbs)
 case atStart=>exact⟨a,b,rfl,rfl,ha,ha2,hb,hb2,rfl,0,rfl⟩
 case round=>
  obtain⟨c,d,rfl,rfl,h1,h2,h3,h4,hc,hw⟩:=hrel
  by_cases hd:d=0
  ·subst hd
   by_cases hn:c<0
   ·go_wp2
    go_ret
    exact⟨ret_int (by rw[←hc.out,com,if_pos rfl,if_pos hn]),hw.out⟩
   ·go_wp2
    go_ret
    exact⟨ret_int (by rw[←hc.out,com,if_pos rfl,if_neg (by omega)]),hw.out⟩
  ·have hd2:(d != 0)=true:=by simpa using hd
   have ht:=tmod_in c d h1 h2 h3 h4
   have hlt:=tmod_lt c d hd
   go_wp2
   go_quiet (fail)
   go_roundw
   case rel=>
    refine⟨_,_,_,_,_,_,_,_,⟨d,c.tmod d,rfl,rfl,h3,h4,ht.1,ht.2, ?_, ?_⟩,rfl⟩
    ·show com _ _=_
     rw[←hc.out,com.eq_def c d,if_neg hd]
    ·obtain⟨m,hm⟩:=hw.out
     exact⟨_,by rw[hm,World.drewN_drewN]⟩
   case measure=>simpa [intOf]using hlt
theorem gcdLit_any (p:Nat)(g v k:Int)(w:World)(ho:Own w p g)(ha: -1073741824≤g)(ha2:g≤1073741824)(hb: -1073741824≤k)(hb2:k≤1073741824):
 Calls Tryz.prog 153 #[.agg #[.int .i64 v,.int .i64 k],.pointer (some ⟨p,0,none⟩)] w fun e w'=>e= .returned (.bool true)∧Own w' p (com g k)∧Below p w w':=by
 have hcom:=common_any g k
 have O1:=Lib.hid ho
 obtain⟨h1,h2,h3⟩:=ho
 generalize hc:com g k=c at*
 have C1:=Lib.hid hc
 clear hc
 go_enter Tryz.func153,Tryz.ntmps153
 go_wp2_with (go_at_call 154;refine(hcom _ ha ha2 hb hb2).mono ?_;rintro e w' ⟨rfl,n,rfl⟩)
 go_ret
 exact⟨rfl,by rw[←C1.out];exact((O1.out.alloc _).drewN n).set _,(below_drewN ((Below.refl p w).alloc (Nat.le_of_lt O1.out.1) _) n).setCell (p:=⟨p,0,none⟩) (Nat.le_refl _) _⟩
end
section
open Go.RowKit
def lastAt (l:List (Int×Int))(i:Nat):Int:=if i=0 then -1 else(l.getD (i - 1) (0,0)).1
def okAt (l:List (Int×Int))(i:Nat):Bool:=chk (lastAt l i) (l.getD i (0,0)).1 (l.getD i (0,0)).2
def snd (c:Int)(l:List (Int×Int)):Bool:=wi c 1073741824 && (decide (l.length≤64) && decide (∀i,i<l.length→okAt l i=true))
theorem lastAt_zero (l:List (Int×Int)):lastAt l 0= -1:=rfl
theorem lastAt_succ (l:List (Int×Int))(i:Nat):lastAt l (i+1)=(l.getD i (0,0)).1:=by unfold lastAt;rw[if_neg (by omega)];rfl
theorem snd_iff {c:Int}{l:List (Int×Int)}:snd c l=true↔wi c 1073741824=true∧l.length≤64∧∀i,i<l.length→okAt l i=true:=by
 unfold snd;simp[Bool.and_eq_true]
theorem first_no (r:Nat→Bool):∀n,¬(∀i,i<n→r i=true)→∃j,j<n∧(∀i,i<j→r i=true)∧r j=false
 | 0,h=>absurd (fun i hi=>absurd hi (Nat.not_lt_zero i)) h
 | n+1,h=>by
   by_cases hn:∀i,i<n→r i=true
   ·refine⟨n,Nat.lt_succ_self n,hn, ?_⟩
    cases hr:r n with
    | false=>rfl
    | true=>exact absurd (fun i hi=>by
       by_cases e:i=n
       ·rw[e];exact hr
       ·exact hn i (by omega)) h
   ·obtain⟨j,hj,h1,h2⟩:=first_no r n hn
    exact⟨j,by omega,h1,h2⟩
theorem Tryz.enters25:∀args w,(callFunc 47 args).run Tryz.prog w= .ok (.enter 47 args) w:=fun _ _=>by kernel_rfl
theorem Own.new (w:World)(t:TypeId)(x:Int):Own (w.alloc (.cells #[.int .i64 x] t)) w.heap.size x:=by
 refine⟨by simp, ?_, ?_⟩
 ·exact cell_of_one (heap_alloc_new w _)
 ·exact free_of_one (heap_alloc_new w _)
theorem checkAll_yes (p:Nat)(a:Option Addr)(n cap:Nat)(l:List (Int×Int))(w:World)(B:Nat)(hB:B≤p)(hn:l.length=n)(hm:n≤64)(hl:Lies B w a l)(ho:Own w p (-1))(h:∀i,i<n→okAt l i=true):
 Calls Tryz.prog 46 #[.slice a n cap,.func (.func 47) #[] #[.pointer (some ⟨p,0,none⟩)]] w fun e w'=>e= .returned (.bool true)∧Below B w w':=
 (all_yes 47 #[.pointer (some ⟨p,0,none⟩)] a n cap l w (fun i W=>Own W p (lastAt l i)) (okAt l) Tryz.enters25 hn (by omega) B (Nat.le_trans hB (Nat.le_of_lt ho.1)) hl ho
   (fun _ _ o h=>h.alloc o)
   (fun i W _ _ hI=>(checkLit_any p (lastAt l i) (l.getD i (0,0)).1 (l.getD i (0,0)).2 W hI).mono fun _ _ ⟨he,ho',hb⟩=>⟨he,by rw[lastAt_succ];exact ho',hb.mono hB⟩)
   h).mono fun _ _ ⟨he,_,hb⟩=>⟨he,hb⟩
theorem checkAll_no (p:Nat)(a:Option Addr)(n cap:Nat)(l:List (Int×Int))(w:World)(B:Nat)(hB:B≤p)(hn:l.length=n)(hm:n≤64)(hl:Lies B w a l)(ho:Own w p (-1))(h:¬ ∀i,i<n→okAt l i=true):
 Calls Tryz.prog 46 #[.slice a n cap,.func (.func 47) #[] #[.pointer (some ⟨p,0,none⟩)]] w fun e w'=>e= .returned (.bool false)∧Below B w w':=by
 obtain⟨j,hj,h1,h2⟩:=first_no _ _ h
 exact(all_no 47 #[.pointer (some ⟨p,0,none⟩)] a n cap l w (fun i W=>Own W p (lastAt l i)) (okAt l) Tryz.enters25 hn (by omega) B (Nat.le_trans hB (Nat.le_of_lt ho.1)) hl ho
  (fun _ _ o h=>h.alloc o)
  (fun i W _ _ hI=>(checkLit_any p (lastAt l i) (l.getD i (0,0)).1 (l.getD i (0,0)).2 W hI).mono fun _ _ ⟨he,ho',hb⟩=>⟨he,by rw[lastAt_succ];exact ho',hb.mono hB⟩)
  j hj h1 h2).mono fun _ _ ⟨he,_,hb⟩=>⟨he,hb⟩
theorem check_yes (c:Int)(a:Option Addr)(n cap:Nat)(l:List (Int×Int))(w:World)(hn:l.length=n)(hl:Lies w.heap.size w a l)(hs:snd c l=true):
 Calls Tryz.prog 22 #[.agg #[.int .i64 c,.slice a n cap]] w fun e w'=>e= .returned .nilIface∧Below w.heap.size w w':=by
 obtain⟨hc,h64,hall⟩:=snd_iff.1 hs
 have hwi:=fun w=>within_any c 1073741824 w (by omega) (by omega)
 rw[hc]at hwi
 have h64':n≤64:=by omega
 rw[hn]at hall
 have hb:Below w.heap.size w ((w.alloc (.cells #[.int .i64 c,.slice a n cap] 36)).alloc (.cells #[.int .i64 (-1)] 3)):=((Below.refl _ w).alloc (Nat.le_refl _) _).alloc (by simp) _
 have hal:=checkAll_yes (w.heap.size+1) a n cap l _ w.heap.size (by omega) hn h64' (hl.below hb) (by have:=Own.new (w.alloc (.cells #[.int .i64 c,.slice a n cap] 36)) 3 (-1);simpa using this) hall
 have HB:=Lib.hid hb
 clear hn hs hall hl hc h64 hb
 go_enter Tryz.func22,Tryz.ntmps22
 go_wp2_with (first | (go_at_call 45;refine(hwi _).mono ?_;rintro e w' ⟨rfl,rfl⟩) | (go_at_call 46;refine hal.mono ?_;rintro e w' ⟨rfl,hb2⟩))
 go_ret
 exact⟨rfl,HB.out.trans hb2⟩
theorem check_no (c:Int)(a:Option Addr)(n cap:Nat)(l:List (Int×Int))(w:World)(hn:l.length=n)(hm:n≤9223372036854775807)(hl:Lies w.heap.size w a l)(hs:snd c l=false):
 Calls Tryz.prog 22 #[.agg #[.int .i64 c,.slice a n cap]] w fun e w'=>e= .returned (.iface 60 (.int .i64 5))∧Below w.heap.size w w':=by
 have hwi:=fun w=>within_any c 1073741824 w (by omega) (by omega)
 have hb:Below w.heap.size w ((w.alloc (.cells #[.int .i64 c,.slice a n cap] 36)).alloc (.cells #[.int .i64 (-1)] 3)):=((Below.refl _ w).alloc (Nat.le_refl _) _).alloc (by simp) _
 by_cases hc:wi c 1073741824=true
 ·rw[hc]at hwi
  by_cases h64:n≤64
  ·have hno:¬ ∀i,i<n→okAt l i=true:=fun h=>by
    have:=(snd_iff (c:=c) (l:=l)).2 ⟨hc,by omega,by rw[hn];exact h⟩
    rw[hs]at this;cases this
   have hal:=checkAll_no (w.heap.size+1) a n cap l _ w.heap.size (by omega) hn h64 (hl.below hb) (by have:=Own.new (w.alloc (.cells #[.int .i64 c,.slice a n cap] 36)) 3 (-1);simpa using this) hno
   have HB:=Lib.hid hb
   clear hn hs hl hc hb hno
   go_enter Tryz.func22,Tryz.ntmps22
   go_wp2_with (first | (go_at_call 45;refine(hwi _).mono ?_;rintro e w' ⟨rfl,rfl⟩) | (go_at_call 46;refine hal.mono ?_;rintro e w' ⟨rfl,hb2⟩))
   go_ret
   exact⟨rfl,HB.out.trans hb2⟩
  ·clear hn hs hl hc hb
   go_enter Tryz.func22,Tryz.ntmps22
   go_wp2_with (go_at_call 45;refine(hwi _).mono ?_;rintro e w' ⟨rfl,rfl⟩)
   go_ret
   exact⟨rfl,(Below.refl _ w).alloc (Nat.le_refl _) _⟩
 ·have hc':wi c 1073741824=false:=by simpa using hc
  rw[hc']at hwi
  clear hn hs hl hc hc' hb
  go_enter Tryz.func22,Tryz.ntmps22
  go_wp2_with (go_at_call 45;refine(hwi _).mono ?_;rintro e w' ⟨rfl,rfl⟩)
  go_ret
  exact⟨rfl,(Below.refl _ w).alloc (Nat.le_refl _) _⟩
end
section
open Go.RowKit
def gAt (l:List (Int×Int)):Nat→Int
 | 0=>0
 | i+1=>(Nat.gcd (gAt l i).natAbs (l.getD i (0,0)).2.natAbs:Nat)
theorem gAt_com (l:List (Int×Int))(i:Nat):com (gAt l i) (l.getD i (0,0)).2=gAt l (i+1):=by rw[com_nat];rfl
theorem gcd_small {a b:Nat}(ha:a≤1073741824)(hb:b≤1073741824):Nat.gcd a b≤1073741824:=by
 by_cases h:a=0
 ·subst h;simpa using hb
 ·exact Nat.le_trans (Nat.gcd_le_left b (by omega)) ha
theorem gAt_in (l:List (Int×Int)):∀i,(∀j,j<i→ -1073741824≤(l.getD j (0,0)).2∧(l.getD j (0,0)).2≤1073741824)→0≤gAt l i∧gAt l i≤1073741824
 | 0,_=>by unfold gAt;omega
 | i+1,h=>by
   have h1:=gAt_in l i (fun j hj=>h j (by omega))
   have h2:=h i (by omega)
   have:=gcd_small (a:=(gAt l i).natAbs) (b:=(l.getD i (0,0)).2.natAbs) (by omega) (by omega)
   unfold gAt;omega
theorem okAt_in {l:List (Int×Int)}{i:Nat}(h:okAt l i=true):lastAt l i<(l.getD i (0,0)).1∧(l.getD i (0,0)).2≠0∧0≤(l.getD i (0,0)).1∧(l.getD i (0,0)).1<1048576∧ -1073741824≤(l.getD i (0,0)).2∧(l.getD i (0,0)).2≤1073741824:=by
 unfold okAt chk mst wi at h
 simp only[Bool.and_eq_true,decide_eq_true_eq]at h
 exact⟨h.1,h.2.1,h.2.2.1.1,h.2.2.1.2,h.2.2.2.1,h.2.2.2.2⟩
theorem Tryz.enters28:∀args w,(callFunc 153 args).run Tryz.prog w= .ok (.enter 153 args) w:=fun _ _=>by kernel_rfl
theorem gcdAll (p:Nat)(a:Option Addr)(n cap:Nat)(l:List (Int×Int))(w:World)(B:Nat)(hB:B≤p)(hn:l.length=n)(hm:n≤64)(hl:Lies B w a l)(ho:Own w p 0)
 (h:∀j,j<n→ -1073741824≤(l.getD j (0,0)).2∧(l.getD j (0,0)).2≤1073741824):
 Calls Tryz.prog 46 #[.slice a n cap,.func (.func 153) #[] #[.pointer (some ⟨p,0,none⟩)]] w fun e w'=>e= .returned (.bool true)∧Own w' p (gAt l n)∧Below B w w':=
 (all_yes 153 #[.pointer (some ⟨p,0,none⟩)] a n cap l w (fun i W=>Own W p (gAt l i)) (fun _=>true) Tryz.enters28 hn (by omega) B (Nat.le_trans hB (Nat.le_of_lt ho.1)) hl ho
   (fun _ _ o h=>h.alloc o)
   (fun i W hi _ hI=>by
     have hg:=gAt_in l i (fun j hj=>h j (by omega))
     have hk:=h i hi
     exact(gcdLit_any p (gAt l i) (l.getD i (0,0)).1 (l.getD i (0,0)).2 W hI (by omega) hg.2 hk.1 hk.2).mono fun _ _ ⟨he,ho',hb⟩=>⟨he,by rw[←gAt_com];exact ho',hb.mono hB⟩)
   (fun _ _=>rfl))
theorem gcd_yes (c:Int)(a:Option Addr)(n cap:Nat)(l:List (Int×Int))(w:World)(hn:l.length=n)(hl:Lies w.heap.size w a l)(hs:snd c l=true):
 Calls Tryz.prog 129 #[.agg #[.int .i64 c,.slice a n cap]] w fun e w'=>e= .returned (.int .i64 (gAt l n))∧Below w.heap.size w w':=by
 obtain⟨hwi,h64,hall⟩:=snd_iff.1 hs
 clear hwi
 have hb0:Below w.heap.size w (w.alloc (.cells #[.int .i64 c,.slice a n cap] 36)):=(Below.refl _ w).alloc (Nat.le_refl _) _
 have hck:=check_yes c a n cap l _ hn ((hl.below hb0).mono hb0.size) hs
 have hga:=fun(W:World) (p:Nat) (hB:w.heap.size≤p) (hb:Below w.heap.size w W) (ho:Own W p 0)=>gcdAll p a n cap l W w.heap.size hB hn (by omega) (hl.below hb) ho (fun j hj=>by have:=okAt_in (hall j (by omega));omega)
 generalize gAt l n=g at hga⊢
 have HG:=Lib.hid hga
 have HB:=Lib.hid hb0
 clear hn hs hall hl h64 hga hb0
 go_enter Tryz.func129,Tryz.ntmps129
 go_wp2_with (first | (go_at_call 22;refine hck.mono ?_;rintro e w1 ⟨rfl,hb1⟩;obtain⟨hc1,hf1⟩:=bcell hb1;have hz:w.heap.size<w1.heap.size:=(by have:=hb1.size;simp at this;omega);clear hck) | (go_at_call 46;refine(HG.out _ w1.heap.size (by omega) ((HB.out.trans (hb1.mono (by simp))).alloc (by omega) _) (Own.new _ _ _)).mono ?_;rintro e w2 ⟨rfl,ho,hb2⟩;obtain⟨ho1,ho2,ho3⟩:=ho))
 go_ret
 exact⟨rfl,((HB.out.trans (hb1.mono (by simp))).alloc (by omega) _).trans hb2⟩
theorem gcd_no (c:Int)(a:Option Addr)(n cap:Nat)(l:List (Int×Int))(w:World)(hn:l.length=n)(hm:n≤9223372036854775807)(hl:Lies w.heap.size w a l)(hs:snd c l=false):
 Calls Tryz.prog 129 #[.agg #[.int .i64 c,.slice a n cap]] w fun e w'=>e= .returned (.int .i64 0)∧Below w.heap.size w w':=by
 have hb0:Below w.heap.size w (w.alloc (.cells #[.int .i64 c,.slice a n cap] 36)):=(Below.refl _ w).alloc (Nat.le_refl _) _
 have hck:=check_no c a n cap l _ hn hm ((hl.below hb0).mono hb0.size) hs
 have HB:=Lib.hid hb0
 clear hn hs hl hb0
 go_enter Tryz.func129,Tryz.ntmps129
 go_wp2_with (go_at_call 22;refine hck.mono ?_;rintro e w1 ⟨rfl,hb1⟩)
 go_ret
 exact⟨rfl,HB.out.trans (hb1.mono (by simp))⟩
theorem gcd_step (a b:Int):Nat.gcd a.natAbs b.natAbs=Nat.gcd b.natAbs (a.tmod b).natAbs:=by
 rw[Int.natAbs_tmod,Nat.gcd_comm a.natAbs,Nat.gcd_rec b.natAbs a.natAbs,Nat.gcd_comm]
theorem gcd_emod {x y:Int}(hx:0≤x)(hy:0<y):(Nat.gcd x.natAbs y.natAbs:Int)=(Nat.gcd y.natAbs (x % y).natAbs:Nat)∧0≤x % y∧x % y<y∧x.tmod y=x % y:=by
 have h:=Int.tmod_eq_emod_of_nonneg (b:=y) hx
 refine⟨by rw[←h,←gcd_step],Int.emod_nonneg _ (by omega),Int.emod_lt_of_pos _ hy,h⟩
theorem two_step (a b x y r:Int)(w:World)(hx:x=if a<0 then -a else a)(hy:y=if b<0 then -b else b)(hx0:0≤x)(hx1:x≤1073741824)(hy0:0<y)(hy1:y≤1073741824)
 (hi:∀z,z=x % y→∀W,Calls Tryz.prog 141 #[.int .i64 y,.int .i64 z] W fun e w'=>e= .returned (.int .i64 r)∧W=w'):
 Calls Tryz.prog 141 #[.int .i64 a,.int .i64 b] w fun e w'=>e= .returned (.int .i64 r)∧w=w':=by
 have HI:=Lib.hid hi
 have HE:=Lib.hid (Int.tmod_eq_emod_of_nonneg (b:=y) hx0)
 clear hi
 have hyne:(y == 0)=false:=by simp;omega
 by_cases ha:a<0
 ·rw[if_pos ha]at hx
  by_cases hb:b<0
  ·rw[if_pos hb]at hy
   subst hx;subst hy
   go_enter Tryz.func141,Tryz.ntmps141
   go_wp2_with fail
   refine(HI.out _ (by first | rfl | exact(Int.emod_neg _ _).symm | exact HE.out | (rw[←HE.out,Int.neg_tmod,Int.tmod_neg]) | (rw[←HE.out,Int.neg_tmod]) | (rw[←HE.out,Int.tmod_neg])) _).mono ?_
   rintro e w' ⟨rfl,rfl⟩
   go_wp2_with fail
   go_ret
   exact⟨rfl,rfl⟩
  ·rw[if_neg hb]at hy
   subst hx;subst hy
   go_enter Tryz.func141,Tryz.ntmps141
   go_wp2_with fail
   refine(HI.out _ (by first | rfl | exact(Int.emod_neg _ _).symm | exact HE.out | (rw[←HE.out,Int.neg_tmod,Int.tmod_neg]) | (rw[←HE.out,Int.neg_tmod]) | (rw[←HE.out,Int.tmod_neg])) _).mono ?_
   rintro e w' ⟨rfl,rfl⟩
   go_wp2_with fail
   go_ret
   exact⟨rfl,rfl⟩
 ·rw[if_neg ha]at hx
  by_cases hb:b<0
  ·rw[if_pos hb]at hy
   subst hx;subst hy
   go_enter Tryz.func141,Tryz.ntmps141
   go_wp2_with fail
   refine(HI.out _ (by first | rfl | exact(Int.emod_neg _ _).symm | exact HE.out | (rw[←HE.out,Int.neg_tmod,Int.tmod_neg]) | (rw[←HE.out,Int.neg_tmod]) | (rw[←HE.out,Int.tmod_neg])) _).mono ?_
   rintro e w' ⟨rfl,rfl⟩
   go_wp2_with fail
   go_ret
   exact⟨rfl,rfl⟩
  ·rw[if_neg hb]at hy
   subst hx;subst hy
   go_enter Tryz.func141,Tryz.ntmps141
   go_wp2_with fail
   refine(HI.out _ (by first | rfl | exact(Int.emod_neg _ _).symm | exact HE.out | (rw[←HE.out,Int.neg_tmod,Int.tmod_neg]) | (rw[←HE.out,Int.neg_tmod]) | (rw[←HE.out,Int.tmod_neg])) _).mono ?_
   rintro e w' ⟨rfl,rfl⟩
   go_wp2_with fail
   go_ret
   exact⟨rfl,rfl⟩
theorem two_any (m:Nat):∀(a b r:Int) (w:World),b.natAbs≤m→ -1073741824≤a→a≤1073741824→ -1073741824≤b→b≤1073741824→r=(Nat.gcd a.natAbs b.natAbs:Nat)→
 Calls Tryz.prog 141 #[.int .i64 a,.int .i64 b] w fun e w'=>e= .returned (.int .i64 r)∧w=w':=by
 have zero:∀(a r:Int) (w:World), -1073741824≤a→a≤1073741824→r=(Nat.gcd a.natAbs (0:Int).natAbs:Nat)→
  Calls Tryz.prog 141 #[.int .i64 a,.int .i64 0] w fun e w'=>e= .returned (.int .i64 r)∧w=w':=by
  intro a r w h1 h2 hr
  by_cases ha:a<0
  ·obtain rfl:r= -a:=by rw[hr];simp;omega
   clear hr
   go_enter Tryz.func141,Tryz.ntmps141
   go_wp2_with fail
   go_ret
   exact⟨rfl,rfl⟩
  ·obtain rfl:r=a:=by rw[hr];simp;omega
   clear hr
   go_enter Tryz.func141,Tryz.ntmps141
   go_wp2_with fail
   go_ret
   exact⟨rfl,rfl⟩
 induction m with
 | zero=>
   intro a b r w hm h1 h2 _ _ hr
   obtain rfl:b=0:=by omega
   exact zero a r w h1 h2 hr
 | succ m ih=>
   intro a b r w hm h1 h2 h3 h4 hr
   by_cases hb0:b=0
   ·subst hb0;exact zero a r w h1 h2 hr
   ·obtain⟨x,hx,hx0,hx1⟩:∃x:Int,x=(if a<0 then -a else a)∧0≤x∧x≤1073741824:=⟨_,rfl,by split<;>omega,by split<;>omega⟩
    obtain⟨y,hy,hy0,hy1,hym⟩:∃y:Int,y=(if b<0 then -b else b)∧0<y∧y≤1073741824∧y.natAbs≤m+1:=⟨_,rfl,by split<;>omega,by split<;>omega,by split<;>omega⟩
    have hxa:x.natAbs=a.natAbs:=by rw[hx];split<;>omega
    have hyb:y.natAbs=b.natAbs:=by rw[hy];split<;>omega
    obtain⟨g1,g2,g3,g4⟩:=gcd_emod hx0 hy0
    rw[←hxa,←hyb,g1]at hr
    exact two_step a b x y r w hx hy hx0 hx1 hy0 hy1 fun z hz W=>ih y z r W (by omega) (by omega) hy1 (by omega) (by omega) (by rw[hz];exact hr)
end
section
open Go.RowKit
theorem rgcd_any (c:Int)(a:Option Addr)(n cap:Nat)(l:List (Int×Int))(w:World)(hn:l.length=n)(hm:n≤64)(hl:Lies w.heap.size w a l)
 (hk:∀j,j<n→ -1073741824≤(l.getD j (0,0)).2∧(l.getD j (0,0)).2≤1073741824):
 Calls Tryz.prog 123 #[.agg #[.int .i64 c,.slice a n cap]] w fun e w'=>e= .returned (.int .i64 (gAt l n))∧Below w.heap.size w w':=by
 have HL:=Lib.hid hl
 have HN:=Lib.hid hn
 have HK:=Lib.hid hk
 clear hn hl hk
 go_enter Tryz.func123,Tryz.ntmps123
 go_wp2
 go_loop [3,4] (fun g i=>∃k:Nat,k≤n∧i= .int .i64 k∧g= .int .i64 (gAt l k)) (fun _ i=>n - (intOf i).toNat)
 case atStart=>exact⟨0,Nat.zero_le _,rfl,rfl⟩
 case round=>
  obtain⟨k,hk,rfl,rfl⟩:=hrel
  by_cases hlt:k<n
  ·obtain⟨b,off,rfl,hblt,c1,c2⟩:=HL.out k (by rw[HN.out];exact hlt)
   have hg:=gAt_in l k (fun j hj=>HK.out j (by omega))
   have hkk:=HK.out k hlt
   have hst:gAt l (k+1)=(Nat.gcd (gAt l k).natAbs (l.getD k (0,0)).2.natAbs:Nat):=rfl
   have htw:=fun W=>two_any _ (gAt l k) (l.getD k (0,0)).2 (gAt l (k+1)) W (Nat.le_refl _) (by omega) hg.2 hkk.1 hkk.2 hst
   have HR:Hid (∃g1,g1=gAt l (k+1)):=⟨_,rfl⟩
   obtain⟨g1,hg1⟩:=HR.out
   rw[←hg1]at htw
   generalize hg0:gAt l k=g0 at htw hg
   generalize (l.getD k (0,0)).2=u at htw c2
   have HG1:=Lib.hid hg1
   clear hg1 hst c1 hkk HR
   go_wp2_with (go_at_call 141;refine(htw _).mono ?_;rintro e w' ⟨rfl,rfl⟩)
   go_round
   case rel=>exact⟨k+1,by omega,by go_num,by rw[HG1.out]⟩
   case measure=>simp[intOf];omega
  ·go_wp2
   go_ret
   exact⟨ret_int (by rw[show n=k by omega]),(Below.refl _ w).alloc (Nat.le_refl _) _⟩
theorem okAt_mk {l:List (Int×Int)}{i:Nat}(h:lastAt l i<(l.getD i (0,0)).1∧(l.getD i (0,0)).2≠0∧0≤(l.getD i (0,0)).1∧(l.getD i (0,0)).1<1048576∧ -1073741824≤(l.getD i (0,0)).2∧(l.getD i (0,0)).2≤1073741824):okAt l i=true:=by
 unfold okAt chk mst wi
 simp only[Bool.and_eq_true,decide_eq_true_eq]
 exact⟨h.1,h.2.1,⟨h.2.2.1,h.2.2.2.1⟩,h.2.2.2.2⟩
theorem coef_same (n:Int)(w:World):Calls Tryz.prog 26 #[.int .i64 n] w fun e w'=>e= .returned (.bool (wi n 1073741824))∧w'=w:=
 (coef_any n w).mono fun _ _ ⟨he,hw⟩=>⟨he,hw.symm⟩
theorem rcheck_any (c:Int)(a:Option Addr)(n cap:Nat)(l:List (Int×Int))(w:World)(hn:l.length=n)(hm:n≤9223372036854775807)(hl:Lies w.heap.size w a l):
 Calls Tryz.prog 24 #[.agg #[.int .i64 c,.slice a n cap]] w fun e w'=>e= .returned (.bool (snd c l))∧Below w.heap.size w w':=by
 have hco:=fun W=>coef_any c W
 by_cases hc:wi c 1073741824=true
 ·rw[hc]at hco
  by_cases h64:n≤64
  ·have HS:Hid (∀b,(b=true↔∀i,i<n→okAt l i=true)→snd c l=b):=fun b hb=>by
    rw[Bool.eq_iff_iff,snd_iff,hb,hn];exact⟨fun h=>h.2.2,fun h=>⟨hc,h64,h⟩⟩
   have HL:=Lib.hid hl
   have HN:=Lib.hid hn
   clear hn hl hc
   go_enter Tryz.func24,Tryz.ntmps24
   go_wp2_with (go_at_call 26;refine(hco _).mono ?_;rintro e w' ⟨rfl,rfl⟩)
   go_loopw [3,4] (fun i _ wr=>∃k:Nat,k≤n∧i= .int .i64 k∧Hid (∀j,j<k→okAt l j=true)∧Below (w.heap.size+1) (w.alloc (.cells #[.int .i64 c,.slice a n cap] 36)) wr) (fun i _ _=>n - (intOf i).toNat)
   case atStart=>exact⟨0,Nat.zero_le _,rfl,fun j hj=>absurd hj (Nat.not_lt_zero j),Below.refl _ _⟩
   case round=>
    obtain⟨k,hk,rfl,hok,hb⟩:=hrel
    have hz:w.heap.size<wr.heap.size:=by have:=hb.size;simp at this;omega
    have hc1:wr.cell? ⟨w.heap.size,1,none⟩=some (.slice a n cap):=by rw[hb.cell (p:=⟨_,_,none⟩) (by simp)];simp
    by_cases hlt:k<n
    ·have hbw:Below w.heap.size w wr:=((Below.refl _ w).alloc (Nat.le_refl _) _).trans (hb.mono (by omega))
     obtain⟨b,off,rfl,hblt,c1,c2⟩:=(HL.out.below hbw) k (by rw[HN.out];exact hlt)
     by_cases hA:(l.getD k (0,0)).1<0
     ·have hno:okAt l k=false:=by
       rw[Bool.eq_false_iff];intro h;have:=okAt_in h;omega
      have HF:=Lib.hid (HS.out false ⟨fun h=>absurd h (by decide),fun h=>by rw[h k hlt]at hno;exact hno.symm⟩)
      clear hno hok HS
      generalize (l.getD k (0,0)).1=v at c1 hA
      generalize (l.getD k (0,0)).2=u at c2 
      have hA':decide (v<0)=true:=by simpa using hA
      go_wp2_with fail
      go_quiet (fail)
      go_wp2
      go_ret
      exact⟨ret_bool HF.out.symm,below_drewN (hbw.alloc (Nat.le_of_lt hz) _) _⟩
     have hA':decide ((l.getD k (0,0)).1<0)=false:=by simpa using hA
     by_cases hB:1048576≤(l.getD k (0,0)).1
     ·have hno:okAt l k=false:=by
       rw[Bool.eq_false_iff];intro h;have:=okAt_in h;omega
      have HF:=Lib.hid (HS.out false ⟨fun h=>absurd h (by decide),fun h=>by rw[h k hlt]at hno;exact hno.symm⟩)
      clear hno hok HS
      generalize (l.getD k (0,0)).1=v at c1 hA hA' hB
      generalize (l.getD k (0,0)).2=u at c2 
      have hB':decide (1048576≤v)=true:=by simpa using hB
      go_wp2_with fail
      go_quiet (fail)
      go_wp2
      go_ret
      exact⟨ret_bool HF.out.symm,below_drewN (hbw.alloc (Nat.le_of_lt hz) _) _⟩
     have hB':decide (1048576≤(l.getD k (0,0)).1)=false:=by simpa using hB
     by_cases hC:(l.getD k (0,0)).2=0
     ·have hno:okAt l k=false:=by
       rw[Bool.eq_false_iff];intro h;have:=okAt_in h;exact this.2.1 hC
      have HF:=Lib.hid (HS.out false ⟨fun h=>absurd h (by decide),fun h=>by rw[h k hlt]at hno;exact hno.symm⟩)
      clear hno hok HS
      rw[hC]at c2
      generalize (l.getD k (0,0)).1=v at c1 hA hA' hB hB'
      clear hC
      go_wp2_with fail
      go_quiet (fail)
      go_wp2
      go_ret
      exact⟨ret_bool HF.out.symm,below_drewN (hbw.alloc (Nat.le_of_lt hz) _) _⟩
     have hC':((l.getD k (0,0)).2 == 0)=false:=by simpa using hC
     have hcu:=fun W=>coef_same (l.getD k (0,0)).2 W
     by_cases hD:wi (l.getD k (0,0)).2 1073741824=true
     ·have hD': -1073741824≤(l.getD k (0,0)).2∧(l.getD k (0,0)).2≤1073741824:=by unfold wi at hD;simpa using hD
      rw[hD]at hcu
      by_cases hk0:k=0
      ·have hyes:okAt l k=true:=okAt_mk ⟨by rw[hk0,lastAt_zero];rw[hk0]at hA;omega,hC,by omega,by omega,hD'.1,hD'.2⟩
       have hok2:Hid (∀j,j<k+1→okAt l j=true):=fun j hj=>by
        by_cases e:j=k
        ·rw[e];exact hyes
        ·exact hok.out j (by omega)
       clear hyes hok HS
       subst hk0
       simp only[Nat.zero_mul,Nat.add_zero]at c1 c2
       generalize (l.getD 0 (0,0)).1=v at c1 hA hA' hB hB'
       generalize (l.getD 0 (0,0)).2=u at c2 hC hC' hcu hD hD'
       clear hC hD hD'
       go_wp2_with fail
       go_quiet ((go_at_call 26;exact Calls.quiet_of_same (hcu _)))
       go_wp2
       go_roundw
       case rel=>exact⟨0+1,by omega,by go_num,hok2,below_drewN (hb.alloc (by omega) _) _⟩
       case measure=>simp[intOf];omega
      ·obtain⟨m,rfl⟩:∃m,k=m+1:=⟨k - 1,by omega⟩
       obtain⟨b',off',hab,_,p1,_⟩:=(HL.out.below hbw) m (by rw[HN.out];omega)
       obtain⟨rfl,rfl⟩:b=b'∧off=off':=by injection hab with h;injection h with h1 h2;exact⟨h1,h2⟩
       clear hab
       have hw1:IntKind.i64.wrap ((m:Int)+1 - 1)=m:=by rw[show(m:Int)+1 - 1=m by omega];exact IntWalk.i64_in _ (by omega)
       have hw2:IntKind.i64.wrap (m:Int)=m:=IntWalk.i64_in _ (by omega)
       have hmn:m<n:=by omega
       have hbwr:b<wr.heap.size:=by omega
       by_cases hE:(l.getD m (0,0)).1<(l.getD (m+1) (0,0)).1
       ·have hyes:okAt l (m+1)=true:=okAt_mk ⟨by rw[lastAt_succ];exact hE,hC,by omega,by omega,hD'.1,hD'.2⟩
        have hok2:Hid (∀j,j<m+1+1→okAt l j=true):=fun j hj=>by
         by_cases e:j=m+1
         ·rw[e];exact hyes
         ·exact hok.out j (by omega)
        clear hyes hok HS
        generalize (l.getD (m+1) (0,0)).1=v at c1 hA hA' hB hB' hE
        generalize (l.getD (m+1) (0,0)).2=u at c2 hC hC' hcu hD hD'
        generalize (l.getD m (0,0)).1=pv at p1 hE
        have hE':decide (v≤pv)=false:=by simpa using hE
        clear hC hD hD'
        go_wp2_with fail
        go_quiet ((go_at_call 26;exact Calls.quiet_of_same (hcu _)))
        go_wp2
        go_roundw
        case rel=>exact⟨m+1+1,by omega,by go_num,hok2,below_drewN (hb.alloc (by omega) _) _⟩
        case measure=>simp[intOf];omega
       ·have hno:okAt l (m+1)=false:=by
         rw[Bool.eq_false_iff];intro h;have:=okAt_in h;rw[lastAt_succ]at this;exact hE this.1
        have HF:=Lib.hid (HS.out false ⟨fun h=>absurd h (by decide),fun h=>by rw[h (m+1) hlt]at hno;exact hno.symm⟩)
        clear hno hok HS
        generalize (l.getD (m+1) (0,0)).1=v at c1 hA hA' hB hB' hE
        generalize (l.getD (m+1) (0,0)).2=u at c2 hC hC' hcu hD hD'
        generalize (l.getD m (0,0)).1=pv at p1 hE
        have hE':decide (v≤pv)=true:=by simpa using hE
        clear hC hD hD'
        go_wp2_with fail
        go_quiet ((go_at_call 26;exact Calls.quiet_of_same (hcu _)))
        go_wp2
        go_ret
        exact⟨ret_bool HF.out.symm,below_drewN (hbw.alloc (Nat.le_of_lt hz) _) _⟩
     ·have hD':wi (l.getD k (0,0)).2 1073741824=false:=by simpa using hD
      rw[hD']at hcu
      have hno:okAt l k=false:=by
       rw[Bool.eq_false_iff];intro h;have:=okAt_in h;exact hD (wi_t ⟨this.2.2.2.2.1,this.2.2.2.2.2⟩)
      have HF:=Lib.hid (HS.out false ⟨fun h=>absurd h (by decide),fun h=>by rw[h k hlt]at hno;exact hno.symm⟩)
      clear hno hok HS
      generalize (l.getD k (0,0)).1=v at c1 hA hA' hB hB'
      generalize (l.getD k (0,0)).2=u at c2 hC hC' hcu hD hD'
      clear hC hD hD'
      go_wp2_with fail
      go_quiet ((go_at_call 26;exact Calls.quiet_of_same (hcu _)))
      go_wp2
      go_ret
      exact⟨ret_bool HF.out.symm,below_drewN (hbw.alloc (Nat.le_of_lt hz) _) _⟩
    ·have HF:=Lib.hid (HS.out true ⟨fun _ i hi=>hok.out i (by omega),fun _=>rfl⟩)
     go_wp2
     go_ret
     exact⟨ret_bool HF.out.symm,((Below.refl _ w).alloc (Nat.le_refl _) _).trans (hb.mono (by omega))⟩
  ·rw[show snd c l=false by rw[Bool.eq_false_iff];intro h;have:=(snd_iff.1 h).2.1;omega]
   clear hn hl hc
   go_enter Tryz.func24,Tryz.ntmps24
   go_wp2_with (go_at_call 26;refine(hco _).mono ?_;rintro e w' ⟨rfl,rfl⟩)
   go_ret
   exact⟨rfl,(Below.refl _ w).alloc (Nat.le_refl _) _⟩
 ·have hc':wi c 1073741824=false:=by simpa using hc
  rw[hc']at hco
  rw[show snd c l=false by rw[Bool.eq_false_iff];intro h;exact hc (snd_iff.1 h).1]
  clear hn hl hc hc'
  go_enter Tryz.func24,Tryz.ntmps24
  go_wp2_with (go_at_call 26;refine(hco _).mono ?_;rintro e w' ⟨rfl,rfl⟩)
  go_ret
  exact⟨rfl,(Below.refl _ w).alloc (Nat.le_refl _) _⟩
end
section
open Go.RowKit
section
variable {P:Program} (w:World)
end
theorem regrown_trans {w:World}{B:Nat}{W:World}(h:Below B w W)(hB:B≤W.heap.size)(d:Nat)(os:Array Obj):Below B w (Go.Sort.grow (redrawn W d) os):=h.trans ((below_regrown W d os).mono hB)
end
section
open Go.RowKit
theorem Tryz.eqIfaceNil (k:Int)(w:World):(binOp .eql 26 (.iface 60 (.int .i64 k)) .nilIface).run Tryz.prog w= .ok (.bool false) w:=by simp[go_sem]
def same (c d:Int)(l m:List (Int×Int)):Bool:=decide (c=d) && decide (l=m)
theorem list_eq_of {l m:List (Int×Int)}(hl:l.length=m.length)(h:∀i,i<l.length→l.getD i (0,0)=m.getD i (0,0)):l=m:=by
 apply List.ext_getElem hl
 intro i h1 h2
 have:=h i h1
 rw[List.getD_eq_getElem?_getD,List.getElem?_eq_getElem h1,List.getD_eq_getElem?_getD,List.getElem?_eq_getElem h2]at this
 simpa using this
theorem Tryz.neMono (x y u v:Int)(w:World):(binOp .neq 92 (.agg #[.int .i64 x,.int .i64 y]) (.agg #[.int .i64 u,.int .i64 v])).run Tryz.prog w= .ok (.bool (!(x == u && y == v))) w:=by
 simp[go_sem]
 by_cases h1:x=u<;>by_cases h2:y=v<;>simp[h1,h2]
theorem same_any (c d:Int)(a b:Option Addr)(na nb capa capb:Nat)(l m:List (Int×Int))(w:World)(hna:l.length=na)(hnb:m.length=nb)(hma:na≤9223372036854775807)(hmb:nb≤9223372036854775807)(hla:Lies w.heap.size w a l)(hlb:Lies w.heap.size w b m):
 Calls Tryz.prog 27 #[.agg #[.int .i64 c,.slice a na capa],.agg #[.int .i64 d,.slice b nb capb]] w fun e w'=>e= .returned (.bool (same c d l m))∧Below w.heap.size w w':=by
 have HB0:Hid (Below w.heap.size w ((w.alloc (.cells #[.int .i64 c,.slice a na capa] 36)).alloc (.cells #[.int .i64 d,.slice b nb capb] 36))):=((Below.refl _ w).alloc (Nat.le_refl _) _).alloc (by simp) _
 by_cases hcd:c=d
 ·subst hcd
  have hcc:(c != c)=false:=by simp
  by_cases hnn:na=nb
  ·subst hnn
   have hnn':((na:Int) != (na:Int))=false:=by simp
   have HS:Hid (∀r,(r=true↔∀i,i<na→l.getD i (0,0)=m.getD i (0,0))→same c c l m=r):=fun r hr=>by
    unfold same
    rw[decide_eq_true rfl,Bool.true_and,Bool.eq_iff_iff,hr]
    simp only[decide_eq_true_eq]
    exact⟨fun h i _=>by rw[h],fun h=>list_eq_of (by omega) (fun i hi=>h i (by omega))⟩
   have HNA:=Lib.hid hna
   have HNB:=Lib.hid hnb
   have HLA:=Lib.hid hla
   have HLB:=Lib.hid hlb
   clear hna hnb hla hlb
   go_enter Tryz.func27,Tryz.ntmps27
   go_wp2
   go_loopw [5] (fun i wr=>∃k:Nat,k≤na∧i= .int .i64 k∧Hid (∀j,j<k→l.getD j (0,0)=m.getD j (0,0))∧Hid (∃q,wr=((w.alloc (.cells #[.int .i64 c,.slice a na capa] 36)).alloc (.cells #[.int .i64 c,.slice b na capb] 36)).drewN q)) (fun i _=>na - (intOf i).toNat)
   case atStart=>exact⟨0,Nat.zero_le _,rfl,fun j hj=>absurd hj (Nat.not_lt_zero j),0,rfl⟩
   case round=>
    obtain⟨k,hk,rfl,hok,hw⟩:=hrel
    obtain⟨q,hw⟩:=hw.out
    subst hw
    by_cases hlt:k<na
    ·obtain⟨ab,aoff,rfl,hab,a1,a2⟩:=(HLA.out.below HB0.out) k (by rw[HNA.out];exact hlt)
     obtain⟨bb,boff,rfl,hbb,b1,b2⟩:=(HLB.out.below HB0.out) k (by rw[HNB.out];exact hlt)
     have a1':∀q,(((w.alloc (.cells #[.int .i64 c,.slice (some ⟨ab,aoff,none⟩) na capa] 36)).alloc (.cells #[.int .i64 c,.slice (some ⟨bb,boff,none⟩) na capb] 36)).drewN q).cell? ⟨ab,aoff+k*2,none⟩=some (.int .i64 (l.getD k (0,0)).1):=fun _=>a1
     by_cases e:l.getD k (0,0)=m.getD k (0,0)
     ·have hok2:Hid (∀j,j<k+1→l.getD j (0,0)=m.getD j (0,0)):=fun j hj=>by
       by_cases ej:j=k
       ·rw[ej];exact e
       ·exact hok.out j (by omega)
      rw[←e]at b1 b2
      generalize l.getD k (0,0)=p at a1 a2 b1 b2 e a1'
      obtain⟨v,u⟩:=p
      clear e
      have hne:∀W,(binOp .neq 92 (.agg #[.int .i64 v,.int .i64 u]) (.agg #[.int .i64 v,.int .i64 u])).run Tryz.prog W= .ok (.bool false) W:=fun W=>by rw[Tryz.neMono];simp
      have hbw1:ab<w.heap.size:=hab
      have hbw2:bb<w.heap.size:=hbb
      go_wp2_with fail
      go_quiet (fail)
      go_wp2
      go_roundw
      case rel=>exact⟨k+1,by omega,by go_num,hok2,⟨_,rfl⟩⟩
      case measure=>simp[intOf];omega
     ·have hF:=Lib.hid (HS.out false ⟨fun h=>absurd h (by decide),fun h=>absurd (h k hlt) e⟩)
      generalize l.getD k (0,0)=p at a1 a2 e a1'
      generalize m.getD k (0,0)=p' at b1 b2 e
      obtain⟨v,u⟩:=p
      obtain⟨v',u'⟩:=p'
      have hne:∀W,(binOp .neq 92 (.agg #[.int .i64 v,.int .i64 u]) (.agg #[.int .i64 v',.int .i64 u'])).run Tryz.prog W= .ok (.bool true) W:=fun W=>by
       rw[Tryz.neMono]
       have:(v == v' && u == u')=false:=by
        rw[Bool.eq_false_iff]
        intro h
        simp only[Bool.and_eq_true,beq_iff_eq]at h
        exact e (by rw[h.1,h.2])
       rw[this];rfl
      clear e
      have hbw1:ab<w.heap.size:=hab
      have hbw2:bb<w.heap.size:=hbb
      go_wp2_with fail
      go_quiet (fail)
      go_wp2
      go_ret
      exact⟨ret_bool hF.out.symm,below_drewN (below_drewN HB0.out q) nq⟩
    ·have HF:=Lib.hid (HS.out true ⟨fun _ i hi=>hok.out i (by omega),fun _=>rfl⟩)
     go_wp2
     go_ret
     exact⟨ret_bool HF.out.symm,below_drewN HB0.out q⟩
  ·have hnn':((na:Int) != (nb:Int))=true:=by simp;omega
   have HS:Hid (same c c l m=false):=by
    show _=_
    unfold same
    rw[decide_eq_false (p:=l=m) (fun h=>by subst h;omega)];simp
   clear hna hnb hla hlb
   go_enter Tryz.func27,Tryz.ntmps27
   go_wp2
   go_ret
   exact⟨ret_bool HS.out.symm,HB0.out⟩
 ·have hcc:(c != d)=true:=by simpa using hcd
  have HS:Hid (same c d l m=false):=by
   show _=_
   unfold same
   rw[decide_eq_false hcd];rfl
  clear hna hnb hla hlb
  go_enter Tryz.func27,Tryz.ntmps27
  go_wp2
  go_ret
  exact⟨ret_bool HS.out.symm,HB0.out⟩
end
section
open Go.Shelf
def Tryz.sortMono_ren:Go.Shelf.Ren:=⟨fun | 6=>106 | 15=>126 | 14=>125 | 28=>150 | 29=>151 | 20=>142 | 21=>143 | 22=>144 | 23=>145 | 24=>146 | 25=>147 | 26=>148 | 27=>149 | 46=>159 | 47=>160 | 48=>161 | 49=>162 | 50=>163 | 57=>169 | n=>n,fun | 22=>34 | 24=>92 | 25=>179 | 3=>3 | 39=>196 | 0=>0 | 53=>215 | 55=>217 | 4=>4 | 46=>208 | 45=>207 | 50=>212 | 5=>5 | 9=>9 | 66=>220 | 70=>224 | 76=>232 | 77=>46 | n=>n,fun | n=>n⟩
theorem Tryz.sortMono:Go.Proofs.SlLaysF0.n6 Tryz.prog Tryz.sortMono_ren:={
 mixed:=by kernel_rfl
 f6:=⟨Tryz.f106.name,by decide,Tryz.func106.trans (congrArg some (by kernel_rfl))⟩
 f14:=⟨Tryz.f125.name,by decide,Tryz.func125.trans (congrArg some (by kernel_rfl))⟩
 f15:=Tryz.func126.trans (congrArg some (by kernel_rfl))
 f20:=⟨Tryz.f142.name,by decide,Tryz.func142.trans (congrArg some (by kernel_rfl))⟩
 f21:=⟨Tryz.f143.name,by decide,Tryz.func143.trans (congrArg some (by kernel_rfl))⟩
 f22:=⟨Tryz.f144.name,by decide,Tryz.func144.trans (congrArg some (by kernel_rfl))⟩
 f23:=⟨Tryz.f145.name,by decide,Tryz.func145.trans (congrArg some (by kernel_rfl))⟩
 f24:=⟨Tryz.f146.name,by decide,Tryz.func146.trans (congrArg some (by kernel_rfl))⟩
 f25:=⟨Tryz.f147.name,by decide,Tryz.func147.trans (congrArg some (by kernel_rfl))⟩
 f26:=⟨Tryz.f148.name,by decide,Tryz.func148.trans (congrArg some (by kernel_rfl))⟩
 f27:=⟨Tryz.f149.name,by decide,Tryz.func149.trans (congrArg some (by kernel_rfl))⟩
 f28:=Tryz.func150.trans (congrArg some (by kernel_rfl))
 f29:=Tryz.func151.trans (congrArg some (by kernel_rfl))
 f46:=⟨Tryz.f159.name,by decide,Tryz.func159.trans (congrArg some (by kernel_rfl))⟩
 f47:=Tryz.func160.trans (congrArg some (by kernel_rfl))
 f48:=Tryz.func161.trans (congrArg some (by kernel_rfl))
 f49:=⟨Tryz.f162.name,by decide,Tryz.func162.trans (congrArg some (by kernel_rfl))⟩
 f50:=⟨Tryz.f163.name,by decide,Tryz.func163.trans (congrArg some (by kernel_rfl))⟩
 f57:=⟨Tryz.f169.name,by decide,Tryz.func169.trans (congrArg some (by kernel_rfl))⟩
 t0:=Tryz.underlying0
 a0:=Tryz.isAgg0
 z0:=Tryz.sizeOf0
 v0:=Tryz.zeroValue0
 t3:=Tryz.underlying3
 a3:=Tryz.isAgg3
 z3:=Tryz.sizeOf3
 v3:=Tryz.zeroValue3
 t4:=Tryz.underlying4
 a4:=Tryz.isAgg4
 z4:=Tryz.sizeOf4
 v4:=Tryz.zeroValue4
 t5:=Tryz.underlying5
 a5:=Tryz.isAgg5
 z5:=Tryz.sizeOf5
 v5:=Tryz.zeroValue5
 t9:=Tryz.underlying9
 a9:=Tryz.isAgg9
 z9:=Tryz.sizeOf9
 v9:=Tryz.zeroValue9
 t22:=Tryz.underlying34
 a22:=Tryz.isAgg34
 z22:=Tryz.sizeOf34
 v22:=Tryz.zeroValue34
 t25:=Tryz.underlying179
 a25:=Tryz.isAgg179
 z25:=Tryz.sizeOf179
 v25:=Tryz.zeroValue179
 t39:=Tryz.underlying196
 a39:=Tryz.isAgg196
 z39:=Tryz.sizeOf196
 v39:=Tryz.zeroValue196
 t45:=Tryz.underlying207
 a45:=Tryz.isAgg207
 z45:=Tryz.sizeOf207
 v45:=Tryz.zeroValue207
 t46:=Tryz.underlying208
 a46:=Tryz.isAgg208
 z46:=Tryz.sizeOf208
 v46:=Tryz.zeroValue208
 t50:=Tryz.underlying212
 a50:=Tryz.isAgg212
 z50:=Tryz.sizeOf212
 v50:=Tryz.zeroValue212
 t53:=Tryz.underlying215
 a53:=Tryz.isAgg215
 z53:=Tryz.sizeOf215
 v53:=Tryz.zeroValue215
 t55:=Tryz.underlying217
 a55:=Tryz.isAgg217
 z55:=Tryz.sizeOf217
 v55:=Tryz.zeroValue217
 t66:=Tryz.underlying220
 a66:=Tryz.isAgg220
 z66:=Tryz.sizeOf220
 v66:=Tryz.zeroValue220
 t70:=Tryz.underlying224
 a70:=Tryz.isAgg224
 z70:=Tryz.sizeOf224
 v70:=Tryz.zeroValue224
 t76:=Tryz.underlying232
 a76:=Tryz.isAgg232
 z76:=Tryz.sizeOf232
 v76:=Tryz.zeroValue232
 t77:=Tryz.underlying46
 a77:=Tryz.isAgg46
 z77:=Tryz.sizeOf46
 v77:=Tryz.zeroValue46 }
end
section
open Go.RowKit
def Nums (B:Nat)(w:World)(a:Option Addr)(zs:List Int):Prop:=
 ∀i,i<zs.length→∃b off,a=some ⟨b,off,none⟩∧b<B∧w.cell? ⟨b,off+i,none⟩=some (.int .i64 (zs.getD i 0))
theorem Nums.mono {B B':Nat}{w:World}{a:Option Addr}{l:List Int}(h:Nums B w a l)(hb:B≤B'):Nums B' w a l:=fun i hi=>by
 obtain⟨b,off,ha,hlt,h1⟩:=h i hi
 exact⟨b,off,ha,Nat.lt_of_lt_of_le hlt hb,h1⟩
theorem Nums.below {B:Nat}{w w':World}{a:Option Addr}{l:List Int}(h:Nums B w a l)(hb:Below B w w'):Nums B w' a l:=fun i hi=>by
 obtain⟨b,off,ha,hlt,h1⟩:=h i hi
 exact⟨b,off,ha,hlt,by rw[hb.cell (p:=⟨b,_,none⟩) hlt];exact h1⟩
end
end Go.Proofs.YtipahfcaplbifaaGreatDoor
