/- Parts of a proof. -/
import Derived.Test.YtjbkhdbjdahbiaaGreatDoorProg
import Derived.WalkKit
import Derived.WalkSpells
import Derived.WalkLawsBesides
import Derived.Lib.Hide
import Derived.Deep.QuietTactic
import Derived.BigQuiet
import Derived.RegionTactic
import Derived.ChangeAlike
import Derived.Lib.SmallJoins
import Derived.StillTailTactics
import Derived.Shelf.SlSortCmp.WholeK
import Derived.Ground.SlsfProg
set_option linter.unusedVariables false
set_option linter.unusedSimpArgs false
set_option maxHeartbeats 60000000
set_option maxRecDepth 100000
namespace Go.Proofs.YtjbkhdbjdahbiaaGreatDoor
namespace Lf
open Go.RowKit
theorem ret_bool {a b:Bool}(h:a=b):Ending.returned (.bool a)=Ending.returned (.bool b):=by rw[h]
theorem bcell {W w1:World}(hb:Below W.heap.size W w1):(∀b o,b<W.heap.size→w1.cell? ⟨b,o,none⟩=W.cell? ⟨b,o,none⟩)∧(∀b o,b<W.heap.size→w1.frozen? ⟨b,o,none⟩=W.frozen? ⟨b,o,none⟩):=
 ⟨fun b o h=>hb.cell (p:=⟨b,o,none⟩) h,fun b o h=>hb.frozen (p:=⟨b,o,none⟩) h⟩
def wi (n m:Int):Bool:=decide (-m≤n∧n≤m)
theorem wi_t {n m:Int}(h: -m≤n∧n≤m):wi n m=true:=by unfold wi;exact decide_eq_true h
theorem wi_f {n m:Int}(h:¬(-m≤n∧n≤m)):wi n m=false:=by unfold wi;exact decide_eq_false h
theorem within_any (n m:Int)(w:World)(h0:0≤m)(h1:m≤4294967296):
 Calls Tryz.prog 52 #[.int .i64 n,.int .i64 m] w fun e w'=>e= .returned (.bool (wi n m))∧w=w':=by
 by_cases a: -m≤n
 ·by_cases b:n≤m
  ·rw[wi_t ⟨a,b⟩]
   go_enter Tryz.func52,Tryz.ntmps52
   go_wp2
   go_ret
   exact⟨rfl,rfl⟩
  ·rw[wi_f (by omega)]
   go_enter Tryz.func52,Tryz.ntmps52
   go_wp2
   go_ret
   exact⟨rfl,rfl⟩
 ·rw[wi_f (by omega)]
  go_enter Tryz.func52,Tryz.ntmps52
  go_wp2
  go_ret
  exact⟨rfl,rfl⟩
theorem coef_any (n:Int)(w:World):
 Calls Tryz.prog 59 #[.int .i64 n] w fun e w'=>e= .returned (.bool (wi n 1073741824))∧w=w':=by
 by_cases a: -1073741824≤n
 ·by_cases b:n≤1073741824
  ·rw[wi_t ⟨a,b⟩]
   go_enter Tryz.func59,Tryz.ntmps59
   go_wp2
   go_ret
   exact⟨rfl,rfl⟩
  ·rw[wi_f (by omega)]
   go_enter Tryz.func59,Tryz.ntmps59
   go_wp2
   go_ret
   exact⟨rfl,rfl⟩
 ·rw[wi_f (by omega)]
  go_enter Tryz.func59,Tryz.ntmps59
  go_wp2
  go_ret
  exact⟨rfl,rfl⟩
end Lf
namespace Lf
open Go.RowKit
def Lies (B:Nat)(w:World)(a:Option Addr)(l:List (Int×Int)):Prop:=
 ∀i,i<l.length→∃b off,a=some ⟨b,off,none⟩∧b<B∧
  w.cell? ⟨b,off+i*2,none⟩=some (.int .i64 (l.getD i (0,0)).1)∧w.cell? ⟨b,off+i*2+1,none⟩=some (.int .i64 (l.getD i (0,0)).2)
theorem Lies.mono {B B':Nat}{w:World}{a:Option Addr}{l:List (Int×Int)}(h:Lies B w a l)(hb:B≤B'):Lies B' w a l:=fun i hi=>by
 obtain⟨b,off,ha,hlt,h1,h2⟩:=h i hi
 exact⟨b,off,ha,Nat.lt_of_lt_of_le hlt hb,h1,h2⟩
theorem Lies.below {B:Nat}{w w':World}{a:Option Addr}{l:List (Int×Int)}(h:Lies B w a l)(hb:Below B w w'):Lies B w' a l:=fun i hi=>by
 obtain⟨b,off,ha,hlt,h1,h2⟩:=h i hi
 exact⟨b,off,ha,hlt,by rw[hb.cell (p:=⟨b,_,none⟩) hlt];exact h1,by rw[hb.cell (p:=⟨b,_,none⟩) hlt];exact h2⟩
theorem all_yes (g:Nat)(cb:Array Value)(a:Option Addr)(n cap:Nat)(l:List (Int×Int))(w:World)(I:Nat→World→Prop)(r:Nat→Bool)
 (eg:∀args w,(callFunc g args).run Tryz.prog w= .ok (.enter g args) w)
 (hn:l.length=n) (hm:n≤9223372036854775807) (B:Nat) (hB:B≤w.heap.size) (hl:Lies B w a l) (h0:I 0 w) (hal:∀i W o,I i W→I i (W.alloc o))
 (hstep:∀i W,i<n→Below B w W→I i W→Calls Tryz.prog g (#[.agg #[.int .i64 (l.getD i (0,0)).1,.int .i64 (l.getD i (0,0)).2]] ++ cb) W
   fun e W'=>e= .returned (.bool (r i))∧I (i+1) W'∧Below B W W')
 (hr:∀i,i<n→r i=true):
 Calls Tryz.prog 53 #[.slice a n cap,.func (.func g) #[] cb] w fun e w'=>e= .returned (.bool true)∧I n w'∧Below B w w':=by
 have HS:=Lib.hid hstep
 have HL:=Lib.hid hl
 have HA:=Lib.hid hal
 have HI:=Lib.hid h0
 have HR:=Lib.hid hr
 have HN:=Lib.hid hn
 clear hstep hl hal h0 hr hn
 go_enter Tryz.func53,Tryz.ntmps53
 go_wp2
 go_loopw [9] (fun i wr=>∃k:Nat,k≤n∧i= .int .i64 k∧Hid (I k wr)∧Below B w wr) (fun i _=>n - (intOf i).toNat)
 case atStart=>exact⟨0,Nat.zero_le _,rfl,HI,Below.refl _ _⟩
 case round=>
  obtain⟨k,hk,rfl,hI,hb⟩:=hrel
  by_cases hlt:k<n
  ·obtain⟨b,off,rfl,hblt,c1,c2⟩:=HL.out k (by rw[HN.out];exact hlt)
   rw[←hb.cell (p:=⟨b,_,none⟩) hblt]at c1 c2
   have hs:∀W,Below B w W→I k W→Calls Tryz.prog g (#[.agg #[.int .i64 (l.getD k (0,0)).1,.int .i64 (l.getD k (0,0)).2]] ++ cb) W
    fun e W'=>e= .returned (.bool true)∧I (k+1) W'∧Below B W W':=fun W h1 h2=>by
     have:=HS.out k W hlt h1 h2
     rw[HR.out k hlt]at this
     exact this
   generalize (l.getD k (0,0)).1=v at hs c1
   generalize (l.getD k (0,0)).2=u at hs c2
   have HS1:=Lib.hid hs
   clear hs HS
   go_wp2_with fail
   have hb2:=(hb.alloc (Nat.le_trans hB hb.size) (.cells #[.int .i64 v,.int .i64 u] 84))
   refine(HS1.out _ hb2 (HA.out _ _ _ hI.out)).mono ?_
   rintro e w1 ⟨rfl,hI1,hb1⟩
   have HI1:=Lib.hid hI1
   clear hI1 hI HI c1 c2
   go_wp2
   go_roundw
   case rel=>exact⟨k+1,by omega,by go_num,HI1,hb2.trans hb1⟩
   case measure=>simp[intOf];omega
  ·go_wp2
   go_ret
   exact⟨rfl,by rw[show n=k by omega];exact hI.out,hb⟩
theorem all_no (g:Nat)(cb:Array Value)(a:Option Addr)(n cap:Nat)(l:List (Int×Int))(w:World)(I:Nat→World→Prop)(r:Nat→Bool)
 (eg:∀args w,(callFunc g args).run Tryz.prog w= .ok (.enter g args) w)
 (hn:l.length=n) (hm:n≤9223372036854775807) (B:Nat) (hB:B≤w.heap.size) (hl:Lies B w a l) (h0:I 0 w) (hal:∀i W o,I i W→I i (W.alloc o))
 (hstep:∀i W,i<n→Below B w W→I i W→Calls Tryz.prog g (#[.agg #[.int .i64 (l.getD i (0,0)).1,.int .i64 (l.getD i (0,0)).2]] ++ cb) W
   fun e W'=>e= .returned (.bool (r i))∧I (i+1) W'∧Below B W W')
 (j:Nat) (hj:j<n) (hr:∀i,i<j→r i=true) (hno:r j=false):
 Calls Tryz.prog 53 #[.slice a n cap,.func (.func g) #[] cb] w fun e w'=>e= .returned (.bool false)∧I (j+1) w'∧Below B w w':=by
 have HS:=Lib.hid hstep
 have HL:=Lib.hid hl
 have HA:=Lib.hid hal
 have HI:=Lib.hid h0
 have HR:=Lib.hid hr
 have HN:=Lib.hid hn
 have HO:=Lib.hid hno
 clear hstep hl hal h0 hr hn hno
 go_enter Tryz.func53,Tryz.ntmps53
 go_wp2
 go_loopw [9] (fun i wr=>∃k:Nat,k≤j∧i= .int .i64 k∧Hid (I k wr)∧Below B w wr) (fun i _=>n - (intOf i).toNat)
 case atStart=>exact⟨0,Nat.zero_le _,rfl,HI,Below.refl _ _⟩
 case round=>
  obtain⟨k,hk,rfl,hI,hb⟩:=hrel
  have hlt:k<n:=by omega
  by_cases hkj:k<j
  ·obtain⟨b,off,rfl,hblt,c1,c2⟩:=HL.out k (by rw[HN.out];exact hlt)
   rw[←hb.cell (p:=⟨b,_,none⟩) hblt]at c1 c2
   have hs:∀W,Below B w W→I k W→Calls Tryz.prog g (#[.agg #[.int .i64 (l.getD k (0,0)).1,.int .i64 (l.getD k (0,0)).2]] ++ cb) W
    fun e W'=>e= .returned (.bool true)∧I (k+1) W'∧Below B W W':=fun W h1 h2=>by
     have:=HS.out k W hlt h1 h2
     rw[HR.out k hkj]at this
     exact this
   generalize (l.getD k (0,0)).1=v at hs c1
   generalize (l.getD k (0,0)).2=u at hs c2
   have HS1:=Lib.hid hs
   clear hs HS
   go_wp2_with fail
   have hb2:=(hb.alloc (Nat.le_trans hB hb.size) (.cells #[.int .i64 v,.int .i64 u] 84))
   refine(HS1.out _ hb2 (HA.out _ _ _ hI.out)).mono ?_
   rintro e w1 ⟨rfl,hI1,hb1⟩
   have HI1:=Lib.hid hI1
   clear hI1 hI HI c1 c2
   go_wp2
   go_roundw
   case rel=>exact⟨k+1,by omega,by go_num,HI1,hb2.trans hb1⟩
   case measure=>simp[intOf];omega
  ·obtain⟨b,off,rfl,hblt,c1,c2⟩:=HL.out k (by rw[HN.out];exact hlt)
   rw[←hb.cell (p:=⟨b,_,none⟩) hblt]at c1 c2
   have hs:∀W,Below B w W→I k W→Calls Tryz.prog g (#[.agg #[.int .i64 (l.getD k (0,0)).1,.int .i64 (l.getD k (0,0)).2]] ++ cb) W
    fun e W'=>e= .returned (.bool false)∧I (k+1) W'∧Below B W W':=fun W h1 h2=>by
     have:=HS.out k W hlt h1 h2
     rw[show k=j by omega,HO.out]at this
     rw[show k=j by omega]
     exact this
   generalize (l.getD k (0,0)).1=v at hs c1
   generalize (l.getD k (0,0)).2=u at hs c2
   have HS1:=Lib.hid hs
   clear hs HS
   go_wp2_with fail
   have hb2:=(hb.alloc (Nat.le_trans hB hb.size) (.cells #[.int .i64 v,.int .i64 u] 84))
   refine(HS1.out _ hb2 (HA.out _ _ _ hI.out)).mono ?_
   rintro e w1 ⟨rfl,hI1,hb1⟩
   have HI1:=Lib.hid hI1
   clear hI1 hI HI c1 c2
   go_wp2
   go_ret
   exact⟨rfl,by rw[show j=k by omega];exact HI1.out,hb2.trans hb1⟩
end Lf
namespace Lf
open Go.RowKit
def mst (v k:Int):Bool:=decide (0≤v∧v<1048576) && wi k 1073741824
theorem mst_f1 {v k:Int}(h:¬(0≤v∧v<1048576)):mst v k=false:=by unfold mst;rw[decide_eq_false h];rfl
theorem mst_t1 {v k:Int}(h:0≤v∧v<1048576):mst v k=wi k 1073741824:=by unfold mst;rw[decide_eq_true h];rfl
theorem mayStand_any (v k:Int)(w:World):
 Calls Tryz.prog 55 #[.agg #[.int .i64 v,.int .i64 k]] w fun e w'=>e= .returned (.bool (mst v k))∧Below w.heap.size w w':=by
 by_cases a:0≤v
 ·by_cases b:v<1048576
  ·rw[mst_t1 ⟨a,b⟩]
   go_enter Tryz.func55,Tryz.ntmps55
   go_wp2_with (go_at_call 52;refine(within_any _ _ _ (by omega) (by omega)).mono ?_;rintro e w' ⟨rfl,rfl⟩)
   go_ret
   exact⟨rfl,(Below.refl _ _).alloc (Nat.le_refl _) _⟩
  ·rw[mst_f1 (by omega)]
   go_enter Tryz.func55,Tryz.ntmps55
   go_wp2
   go_ret
   exact⟨rfl,(Below.refl _ _).alloc (Nat.le_refl _) _⟩
 ·rw[mst_f1 (by omega)]
  go_enter Tryz.func55,Tryz.ntmps55
  go_wp2
  go_ret
  exact⟨rfl,(Below.refl _ _).alloc (Nat.le_refl _) _⟩
def chk (last v k:Int):Bool:=decide (last<v) && (decide (k≠0) && mst v k)
theorem chk_1 {last v k:Int}(h:¬last<v):chk last v k=false:=by unfold chk;rw[decide_eq_false h];rfl
theorem chk_2 {last v k:Int}(h:k=0):chk last v k=false:=by unfold chk;rw[decide_eq_false (p:=k≠0) (by omega)];simp
theorem chk_3 {last v k:Int}(h:last<v)(h2:k≠0):chk last v k=mst v k:=by unfold chk;rw[decide_eq_true h,decide_eq_true h2];simp
def Own (w:World)(p:Nat)(x:Int):Prop:=p<w.heap.size∧w.cell? ⟨p,0,none⟩=some (.int .i64 x)∧w.frozen? ⟨p,0,none⟩=false
theorem Own.alloc {w:World}{p:Nat}{x:Int}(h:Own w p x)(o:Obj):Own (w.alloc o) p x:=by
 have hb:=(Below.refl w.heap.size w).alloc (Nat.le_refl _) o
 exact⟨Nat.lt_of_lt_of_le h.1 hb.size,by rw[hb.cell (p:=⟨p,0,none⟩) h.1];exact h.2.1,by rw[hb.frozen (p:=⟨p,0,none⟩) h.1];exact h.2.2⟩
theorem Own.below {w w':World}{p:Nat}{x:Int}(h:Own w p x)(hb:Below w.heap.size w w'):Own w' p x:=
 ⟨Nat.lt_of_lt_of_le h.1 hb.size,by rw[hb.cell (p:=⟨p,0,none⟩) h.1];exact h.2.1,by rw[hb.frozen (p:=⟨p,0,none⟩) h.1];exact h.2.2⟩
theorem Own.set {w:World}{p:Nat}{x:Int}(h:Own w p x)(y:Int):Own (w.setCell ⟨p,0,none⟩ (.int .i64 y)) p y:=
 ⟨by simpa [World.setCell]using h.1,World.cell?_setCell_same _ _ _ h.2.1,by rw[World.frozen?_setCell];exact h.2.2⟩
theorem checkLit_any (p:Nat)(last v k:Int)(w:World)(ho:Own w p last):
 Calls Tryz.prog 54 #[.agg #[.int .i64 v,.int .i64 k],.pointer (some ⟨p,0,none⟩)] w fun e w'=>e= .returned (.bool (chk last v k))∧Own w' p v∧Below p w w':=by
 have O1:=Lib.hid ((ho.set v).alloc (.cells #[.int .i64 v,.int .i64 k] 84))
 have B1:=Lib.hid (((Below.refl p w).setCell (p:=⟨p,0,none⟩) (Nat.le_refl _) (.int .i64 v)).alloc (Nat.le_of_lt (ho.set v).1) (.cells #[.int .i64 v,.int .i64 k] 84))
 obtain⟨h1,h2,h3⟩:=ho
 by_cases a:last<v
 ·by_cases b:k=0
  ·subst b
   rw[chk_2 rfl]
   go_enter Tryz.func54,Tryz.ntmps54
   go_wp2_with fail
   go_ret
   exact⟨rfl,O1.out,B1.out⟩
  ·rw[chk_3 a b]
   have hk:(k != 0)=true:=by simpa using b
   go_enter Tryz.func54,Tryz.ntmps54
   go_wp2_with (go_at_call 55;refine(mayStand_any _ _ _).mono ?_;rintro e w' ⟨rfl,hb⟩)
   go_ret
   exact⟨rfl,O1.out.below hb,B1.out.trans (hb.mono (Nat.le_of_lt O1.out.1))⟩
 ·rw[chk_1 a]
  go_enter Tryz.func54,Tryz.ntmps54
  go_wp2_with fail
  go_ret
  exact⟨rfl,O1.out,B1.out⟩
end Lf
namespace Lf
open Go.RowKit
def lastAt (l:List (Int×Int))(i:Nat):Int:=if i=0 then -1 else(l.getD (i - 1) (0,0)).1
def okAt (l:List (Int×Int))(i:Nat):Bool:=chk (lastAt l i) (l.getD i (0,0)).1 (l.getD i (0,0)).2
def snd (c:Int)(l:List (Int×Int)):Bool:=wi c 1073741824 && (decide (l.length≤64) && decide (∀i,i<l.length→okAt l i=true))
theorem lastAt_zero (l:List (Int×Int)):lastAt l 0= -1:=rfl
theorem lastAt_succ (l:List (Int×Int))(i:Nat):lastAt l (i+1)=(l.getD i (0,0)).1:=by unfold lastAt;rw[if_neg (by omega)];rfl
theorem snd_iff {c:Int}{l:List (Int×Int)}:snd c l=true↔wi c 1073741824=true∧l.length≤64∧∀i,i<l.length→okAt l i=true:=by
 unfold snd;simp[Bool.and_eq_true]
theorem first_no (r:Nat→Bool):∀n,¬(∀i,i<n→r i=true)→∃j,j<n∧(∀i,i<j→r i=true)∧r j=false
 | 0,h=>absurd (fun i hi=>absurd hi (Nat.not_lt_zero i)) h
 | n+1,h=>by
   by_cases hn:∀i,i<n→r i=true
   ·refine⟨n,Nat.lt_succ_self n,hn, ?_⟩
    cases hr:r n with
    | false=>rfl
    | true=>exact absurd (fun i hi=>by
       by_cases e:i=n
       ·rw[e];exact hr
       ·exact hn i (by omega)) h
   ·obtain⟨j,hj,h1,h2⟩:=first_no r n hn
    exact⟨j,by omega,h1,h2⟩
theorem Tryz.enters25:∀args w,(callFunc 54 args).run Tryz.prog w= .ok (.enter 54 args) w:=fun _ _=>by kernel_rfl
theorem Own.new (w:World)(t:TypeId)(x:Int):Own (w.alloc (.cells #[.int .i64 x] t)) w.heap.size x:=by
 refine⟨by simp, ?_, ?_⟩
 ·exact cell_of_one (heap_alloc_new w _)
 ·exact free_of_one (heap_alloc_new w _)
theorem checkAll_yes (p:Nat)(a:Option Addr)(n cap:Nat)(l:List (Int×Int))(w:World)(B:Nat)(hB:B≤p)(hn:l.length=n)(hm:n≤64)(hl:Lies B w a l)(ho:Own w p (-1))(h:∀i,i<n→okAt l i=true):
 Calls Tryz.prog 53 #[.slice a n cap,.func (.func 54) #[] #[.pointer (some ⟨p,0,none⟩)]] w fun e w'=>e= .returned (.bool true)∧Below B w w':=
 (all_yes 54 #[.pointer (some ⟨p,0,none⟩)] a n cap l w (fun i W=>Own W p (lastAt l i)) (okAt l) Tryz.enters25 hn (by omega) B (Nat.le_trans hB (Nat.le_of_lt ho.1)) hl ho
   (fun _ _ o h=>h.alloc o)
   (fun i W _ _ hI=>(checkLit_any p (lastAt l i) (l.getD i (0,0)).1 (l.getD i (0,0)).2 W hI).mono fun _ _ ⟨he,ho',hb⟩=>⟨he,by rw[lastAt_succ];exact ho',hb.mono hB⟩)
   h).mono fun _ _ ⟨he,_,hb⟩=>⟨he,hb⟩
theorem checkAll_no (p:Nat)(a:Option Addr)(n cap:Nat)(l:List (Int×Int))(w:World)(B:Nat)(hB:B≤p)(hn:l.length=n)(hm:n≤64)(hl:Lies B w a l)(ho:Own w p (-1))(h:¬ ∀i,i<n→okAt l i=true):
 Calls Tryz.prog 53 #[.slice a n cap,.func (.func 54) #[] #[.pointer (some ⟨p,0,none⟩)]] w fun e w'=>e= .returned (.bool false)∧Below B w w':=by
 obtain⟨j,hj,h1,h2⟩:=first_no _ _ h
 exact(all_no 54 #[.pointer (some ⟨p,0,none⟩)] a n cap l w (fun i W=>Own W p (lastAt l i)) (okAt l) Tryz.enters25 hn (by omega) B (Nat.le_trans hB (Nat.le_of_lt ho.1)) hl ho
  (fun _ _ o h=>h.alloc o)
  (fun i W _ _ hI=>(checkLit_any p (lastAt l i) (l.getD i (0,0)).1 (l.getD i (0,0)).2 W hI).mono fun _ _ ⟨he,ho',hb⟩=>⟨he,by rw[lastAt_succ];exact ho',hb.mono hB⟩)
  j hj h1 h2).mono fun _ _ ⟨he,_,hb⟩=>⟨he,hb⟩
theorem check_yes (c:Int)(a:Option Addr)(n cap:Nat)(l:List (Int×Int))(w:World)(hn:l.length=n)(hl:Lies w.heap.size w a l)(hs:snd c l=true):
 Calls Tryz.prog 30 #[.agg #[.int .i64 c,.slice a n cap]] w fun e w'=>e= .returned .nilIface∧Below w.heap.size w w':=by
 obtain⟨hc,h64,hall⟩:=snd_iff.1 hs
 have hwi:=fun w=>within_any c 1073741824 w (by omega) (by omega)
 rw[hc]at hwi
 have h64':n≤64:=by omega
 rw[hn]at hall
 have hb:Below w.heap.size w ((w.alloc (.cells #[.int .i64 c,.slice a n cap] 25)).alloc (.cells #[.int .i64 (-1)] 3)):=((Below.refl _ w).alloc (Nat.le_refl _) _).alloc (by simp) _
 have hal:=checkAll_yes (w.heap.size+1) a n cap l _ w.heap.size (by omega) hn h64' (hl.below hb) (by have:=Own.new (w.alloc (.cells #[.int .i64 c,.slice a n cap] 25)) 3 (-1);simpa using this) hall
 have HB:=Lib.hid hb
 clear hn hs hall hl hc h64 hb
 go_enter Tryz.func30,Tryz.ntmps30
 go_wp2_with (first | (go_at_call 52;refine(hwi _).mono ?_;rintro e w' ⟨rfl,rfl⟩) | (go_at_call 53;refine hal.mono ?_;rintro e w' ⟨rfl,hb2⟩))
 go_ret
 exact⟨rfl,HB.out.trans hb2⟩
theorem check_no (c:Int)(a:Option Addr)(n cap:Nat)(l:List (Int×Int))(w:World)(hn:l.length=n)(hm:n≤9223372036854775807)(hl:Lies w.heap.size w a l)(hs:snd c l=false):
 Calls Tryz.prog 30 #[.agg #[.int .i64 c,.slice a n cap]] w fun e w'=>e= .returned (.iface 89 (.int .i64 5))∧Below w.heap.size w w':=by
 have hwi:=fun w=>within_any c 1073741824 w (by omega) (by omega)
 have hb:Below w.heap.size w ((w.alloc (.cells #[.int .i64 c,.slice a n cap] 25)).alloc (.cells #[.int .i64 (-1)] 3)):=((Below.refl _ w).alloc (Nat.le_refl _) _).alloc (by simp) _
 by_cases hc:wi c 1073741824=true
 ·rw[hc]at hwi
  by_cases h64:n≤64
  ·have hno:¬ ∀i,i<n→okAt l i=true:=fun h=>by
    have:=(snd_iff (c:=c) (l:=l)).2 ⟨hc,by omega,by rw[hn];exact h⟩
    rw[hs]at this;cases this
   have hal:=checkAll_no (w.heap.size+1) a n cap l _ w.heap.size (by omega) hn h64 (hl.below hb) (by have:=Own.new (w.alloc (.cells #[.int .i64 c,.slice a n cap] 25)) 3 (-1);simpa using this) hno
   have HB:=Lib.hid hb
   clear hn hs hl hc hb hno
   go_enter Tryz.func30,Tryz.ntmps30
   go_wp2_with (first | (go_at_call 52;refine(hwi _).mono ?_;rintro e w' ⟨rfl,rfl⟩) | (go_at_call 53;refine hal.mono ?_;rintro e w' ⟨rfl,hb2⟩))
   go_ret
   exact⟨rfl,HB.out.trans hb2⟩
  ·clear hn hs hl hc hb
   go_enter Tryz.func30,Tryz.ntmps30
   go_wp2_with (go_at_call 52;refine(hwi _).mono ?_;rintro e w' ⟨rfl,rfl⟩)
   go_ret
   exact⟨rfl,(Below.refl _ w).alloc (Nat.le_refl _) _⟩
 ·have hc':wi c 1073741824=false:=by simpa using hc
  rw[hc']at hwi
  clear hn hs hl hc hc' hb
  go_enter Tryz.func30,Tryz.ntmps30
  go_wp2_with (go_at_call 52;refine(hwi _).mono ?_;rintro e w' ⟨rfl,rfl⟩)
  go_ret
  exact⟨rfl,(Below.refl _ w).alloc (Nat.le_refl _) _⟩
end Lf
namespace Lf
open Go.RowKit
theorem okAt_in {l:List (Int×Int)}{i:Nat}(h:okAt l i=true):lastAt l i<(l.getD i (0,0)).1∧(l.getD i (0,0)).2≠0∧0≤(l.getD i (0,0)).1∧(l.getD i (0,0)).1<1048576∧ -1073741824≤(l.getD i (0,0)).2∧(l.getD i (0,0)).2≤1073741824:=by
 unfold okAt chk mst wi at h
 simp only[Bool.and_eq_true,decide_eq_true_eq]at h
 exact⟨h.1,h.2.1,h.2.2.1.1,h.2.2.1.2,h.2.2.2.1,h.2.2.2.2⟩
end Lf
namespace Lf
open Go.RowKit
theorem okAt_mk {l:List (Int×Int)}{i:Nat}(h:lastAt l i<(l.getD i (0,0)).1∧(l.getD i (0,0)).2≠0∧0≤(l.getD i (0,0)).1∧(l.getD i (0,0)).1<1048576∧ -1073741824≤(l.getD i (0,0)).2∧(l.getD i (0,0)).2≤1073741824):okAt l i=true:=by
 unfold okAt chk mst wi
 simp only[Bool.and_eq_true,decide_eq_true_eq]
 exact⟨h.1,h.2.1,⟨h.2.2.1,h.2.2.2.1⟩,h.2.2.2.2⟩
theorem coef_same (n:Int)(w:World):Calls Tryz.prog 59 #[.int .i64 n] w fun e w'=>e= .returned (.bool (wi n 1073741824))∧w'=w:=
 (coef_any n w).mono fun _ _ ⟨he,hw⟩=>⟨he,hw.symm⟩
theorem rcheck_any (c:Int)(a:Option Addr)(n cap:Nat)(l:List (Int×Int))(w:World)(hn:l.length=n)(hm:n≤9223372036854775807)(hl:Lies w.heap.size w a l):
 Calls Tryz.prog 33 #[.agg #[.int .i64 c,.slice a n cap]] w fun e w'=>e= .returned (.bool (snd c l))∧Below w.heap.size w w':=by
 have hco:=fun W=>coef_any c W
 by_cases hc:wi c 1073741824=true
 ·rw[hc]at hco
  by_cases h64:n≤64
  ·have HS:Hid (∀b,(b=true↔∀i,i<n→okAt l i=true)→snd c l=b):=fun b hb=>by
    rw[Bool.eq_iff_iff,snd_iff,hb,hn];exact⟨fun h=>h.2.2,fun h=>⟨hc,h64,h⟩⟩
   have HL:=Lib.hid hl
   have HN:=Lib.hid hn
   clear hn hl hc
   go_enter Tryz.func33,Tryz.ntmps33
   go_wp2_with (go_at_call 59;refine(hco _).mono ?_;rintro e w' ⟨rfl,rfl⟩)
   go_loopw [3,4] (fun i _ wr=>∃k:Nat,k≤n∧i= .int .i64 k∧Hid (∀j,j<k→okAt l j=true)∧Below (w.heap.size+1) (w.alloc (.cells #[.int .i64 c,.slice a n cap] 25)) wr) (fun i _ _=>n - (intOf i).toNat)
   case atStart=>exact⟨0,Nat.zero_le _,rfl,fun j hj=>absurd hj (Nat.not_lt_zero j),Below.refl _ _⟩
   case round=>
    obtain⟨k,hk,rfl,hok,hb⟩:=hrel
    have hz:w.heap.size<wr.heap.size:=by have:=hb.size;simp at this;omega
    have hc1:wr.cell? ⟨w.heap.size,1,none⟩=some (.slice a n cap):=by rw[hb.cell (p:=⟨_,_,none⟩) (by simp)];simp
    by_cases hlt:k<n
    ·have hbw:Below w.heap.size w wr:=((Below.refl _ w).alloc (Nat.le_refl _) _).trans (hb.mono (by omega))
     obtain⟨b,off,rfl,hblt,c1,c2⟩:=(HL.out.below hbw) k (by rw[HN.out];exact hlt)
     by_cases hA:(l.getD k (0,0)).1<0
     ·have hno:okAt l k=false:=by
       rw[Bool.eq_false_iff];intro h;have:=okAt_in h;omega
      have HF:=Lib.hid (HS.out false ⟨fun h=>absurd h (by decide),fun h=>by rw[h k hlt]at hno;exact hno.symm⟩)
      clear hno hok HS
      generalize (l.getD k (0,0)).1=v at c1 hA
      generalize (l.getD k (0,0)).2=u at c2 
      have hA':decide (v<0)=true:=by simpa using hA
      go_wp2_with fail
      go_quiet (fail)
      go_wp2
      go_ret
      exact⟨ret_bool HF.out.symm,below_drewN (hbw.alloc (Nat.le_of_lt hz) _) _⟩
     have hA':decide ((l.getD k (0,0)).1<0)=false:=by simpa using hA
     by_cases hB:1048576≤(l.getD k (0,0)).1
     ·have hno:okAt l k=false:=by
       rw[Bool.eq_false_iff];intro h;have:=okAt_in h;omega
      have HF:=Lib.hid (HS.out false ⟨fun h=>absurd h (by decide),fun h=>by rw[h k hlt]at hno;exact hno.symm⟩)
      clear hno hok HS
      generalize (l.getD k (0,0)).1=v at c1 hA hA' hB
      generalize (l.getD k (0,0)).2=u at c2 
      have hB':decide (1048576≤v)=true:=by simpa using hB
      go_wp2_with fail
      go_quiet (fail)
      go_wp2
      go_ret
      exact⟨ret_bool HF.out.symm,below_drewN (hbw.alloc (Nat.le_of_lt hz) _) _⟩
     have hB':decide (1048576≤(l.getD k (0,0)).1)=false:=by simpa using hB
     by_cases hC:(l.getD k (0,0)).2=0
     ·have hno:okAt l k=false:=by
       rw[Bool.eq_false_iff];intro h;have:=okAt_in h;exact this.2.1 hC
      have HF:=Lib.hid (HS.out false ⟨fun h=>absurd h (by decide),fun h=>by rw[h k hlt]at hno;exact hno.symm⟩)
      clear hno hok HS
      rw[hC]at c2
      generalize (l.getD k (0,0)).1=v at c1 hA hA' hB hB'
      clear hC
      go_wp2_with fail
      go_quiet (fail)
      go_wp2
      go_ret
      exact⟨ret_bool HF.out.symm,below_drewN (hbw.alloc (Nat.le_of_lt hz) _) _⟩
     have hC':((l.getD k (0,0)).2 == 0)=false:=by simpa using hC
     have hcu:=fun W=>coef_same (l.getD k (0,0)).2 W
     by_cases hD:wi (l.getD k (0,0)).2 1073741824=true
     ·have hD': -1073741824≤(l.getD k (0,0)).2∧(l.getD k (0,0)).2≤1073741824:=by unfold wi at hD;simpa using hD
      rw[hD]at hcu
      by_cases hk0:k=0
      ·have hyes:okAt l k=true:=okAt_mk ⟨by rw[hk0,lastAt_zero];rw[hk0]at hA;omega,hC,by omega,by omega,hD'.1,hD'.2⟩
       have hok2:Hid (∀j,j<k+1→okAt l j=true):=fun j hj=>by
        by_cases e:j=k
        ·rw[e];exact hyes
        ·exact hok.out j (by omega)
       clear hyes hok HS
       subst hk0
       simp only[Nat.zero_mul,Nat.add_zero]at c1 c2
       generalize (l.getD 0 (0,0)).1=v at c1 hA hA' hB hB'
       generalize (l.getD 0 (0,0)).2=u at c2 hC hC' hcu hD hD'
       clear hC hD hD'
       go_wp2_with fail
       go_quiet ((go_at_call 59;exact Calls.quiet_of_same (hcu _)))
       go_wp2
       go_roundw
       case rel=>exact⟨0+1,by omega,by go_num,hok2,below_drewN (hb.alloc (by omega) _) _⟩
       case measure=>simp[intOf];omega
      ·obtain⟨m,rfl⟩:∃m,k=m+1:=⟨k - 1,by omega⟩
       obtain⟨b',off',hab,_,p1,_⟩:=(HL.out.below hbw) m (by rw[HN.out];omega)
       obtain⟨rfl,rfl⟩:b=b'∧off=off':=by injection hab with h;injection h with h1 h2;exact⟨h1,h2⟩
       clear hab
       have hw1:IntKind.i64.wrap ((m:Int)+1 - 1)=m:=by rw[show(m:Int)+1 - 1=m by omega];exact IntWalk.i64_in _ (by omega)
       have hw2:IntKind.i64.wrap (m:Int)=m:=IntWalk.i64_in _ (by omega)
       have hmn:m<n:=by omega
       have hbwr:b<wr.heap.size:=by omega
       by_cases hE:(l.getD m (0,0)).1<(l.getD (m+1) (0,0)).1
       ·have hyes:okAt l (m+1)=true:=okAt_mk ⟨by rw[lastAt_succ];exact hE,hC,by omega,by omega,hD'.1,hD'.2⟩
        have hok2:Hid (∀j,j<m+1+1→okAt l j=true):=fun j hj=>by
         by_cases e:j=m+1
         ·rw[e];exact hyes
         ·exact hok.out j (by omega)
        clear hyes hok HS
        generalize (l.getD (m+1) (0,0)).1=v at c1 hA hA' hB hB' hE
        generalize (l.getD (m+1) (0,0)).2=u at c2 hC hC' hcu hD hD'
        generalize (l.getD m (0,0)).1=pv at p1 hE
        have hE':decide (v≤pv)=false:=by simpa using hE
        clear hC hD hD'
        go_wp2_with fail
        go_quiet ((go_at_call 59;exact Calls.quiet_of_same (hcu _)))
        go_wp2
        go_roundw
        case rel=>exact⟨m+1+1,by omega,by go_num,hok2,below_drewN (hb.alloc (by omega) _) _⟩
        case measure=>simp[intOf];omega
       ·have hno:okAt l (m+1)=false:=by
         rw[Bool.eq_false_iff];intro h;have:=okAt_in h;rw[lastAt_succ]at this;exact hE this.1
        have HF:=Lib.hid (HS.out false ⟨fun h=>absurd h (by decide),fun h=>by rw[h (m+1) hlt]at hno;exact hno.symm⟩)
        clear hno hok HS
        generalize (l.getD (m+1) (0,0)).1=v at c1 hA hA' hB hB' hE
        generalize (l.getD (m+1) (0,0)).2=u at c2 hC hC' hcu hD hD'
        generalize (l.getD m (0,0)).1=pv at p1 hE
        have hE':decide (v≤pv)=true:=by simpa using hE
        clear hC hD hD'
        go_wp2_with fail
        go_quiet ((go_at_call 59;exact Calls.quiet_of_same (hcu _)))
        go_wp2
        go_ret
        exact⟨ret_bool HF.out.symm,below_drewN (hbw.alloc (Nat.le_of_lt hz) _) _⟩
     ·have hD':wi (l.getD k (0,0)).2 1073741824=false:=by simpa using hD
      rw[hD']at hcu
      have hno:okAt l k=false:=by
       rw[Bool.eq_false_iff];intro h;have:=okAt_in h;exact hD (wi_t ⟨this.2.2.2.2.1,this.2.2.2.2.2⟩)
      have HF:=Lib.hid (HS.out false ⟨fun h=>absurd h (by decide),fun h=>by rw[h k hlt]at hno;exact hno.symm⟩)
      clear hno hok HS
      generalize (l.getD k (0,0)).1=v at c1 hA hA' hB hB'
      generalize (l.getD k (0,0)).2=u at c2 hC hC' hcu hD hD'
      clear hC hD hD'
      go_wp2_with fail
      go_quiet ((go_at_call 59;exact Calls.quiet_of_same (hcu _)))
      go_wp2
      go_ret
      exact⟨ret_bool HF.out.symm,below_drewN (hbw.alloc (Nat.le_of_lt hz) _) _⟩
    ·have HF:=Lib.hid (HS.out true ⟨fun _ i hi=>hok.out i (by omega),fun _=>rfl⟩)
     go_wp2
     go_ret
     exact⟨ret_bool HF.out.symm,((Below.refl _ w).alloc (Nat.le_refl _) _).trans (hb.mono (by omega))⟩
  ·rw[show snd c l=false by rw[Bool.eq_false_iff];intro h;have:=(snd_iff.1 h).2.1;omega]
   clear hn hl hc
   go_enter Tryz.func33,Tryz.ntmps33
   go_wp2_with (go_at_call 59;refine(hco _).mono ?_;rintro e w' ⟨rfl,rfl⟩)
   go_ret
   exact⟨rfl,(Below.refl _ w).alloc (Nat.le_refl _) _⟩
 ·have hc':wi c 1073741824=false:=by simpa using hc
  rw[hc']at hco
  rw[show snd c l=false by rw[Bool.eq_false_iff];intro h;exact hc (snd_iff.1 h).1]
  clear hn hl hc hc'
  go_enter Tryz.func33,Tryz.ntmps33
  go_wp2_with (go_at_call 59;refine(hco _).mono ?_;rintro e w' ⟨rfl,rfl⟩)
  go_ret
  exact⟨rfl,(Below.refl _ w).alloc (Nat.le_refl _) _⟩
end Lf
namespace Lf
open Go.RowKit
def flat (l:List (Int×Int)):List Value:=l.flatMap fun m=>[.int .i64 m.1,.int .i64 m.2]
theorem flat_len (l:List (Int×Int)):(flat l).length=l.length*2:=by
 induction l with
 | nil=>rfl
 | cons a r ih=>simp[flat]at ih⊢;omega
theorem flat_append (l r:List (Int×Int)):flat (l ++ r)=flat l ++ flat r:=by simp[flat]
theorem flat_get:∀(l:List (Int×Int)) (i:Nat),i<l.length→(flat l)[i*2]? =some (.int .i64 (l.getD i (0,0)).1)∧(flat l)[i*2+1]? =some (.int .i64 (l.getD i (0,0)).2)
 | a :: r,0,_=>⟨rfl,rfl⟩
 | a :: r,i+1,h=>by
   have:=flat_get r i (by simpa using h)
   have e:flat (a :: r)= .int .i64 a.1 :: .int .i64 a.2 :: flat r:=rfl
   rw[e,show(i+1)*2=i*2+1+1 by omega]
   simpa using this
def Row (B:Nat)(l:List (Int×Int))(v:Value)(w:World):Prop:=w.ownsRow B 84 2 v l.length (flat l)
theorem Row.lies {B:Nat}{l:List (Int×Int)}{v:Value}{w:World}(h:Row B l v w):∃a cap,v= .slice a l.length cap∧Lies w.heap.size w a l∧(a=none→l.length=0∧cap=0):=by
 have hc:=fun g=>World.ownsRow.cells h (g:=g)
 have hlt:=World.ownsRow.lt h
 obtain⟨_,h1 | ⟨g,cap,cur,hv,h2⟩⟩:=h
 ·refine⟨none,0,by rw[h1.1,h1.2],fun i hi=>by omega,fun _=>⟨h1.2,rfl⟩⟩
 ·subst hv
  refine⟨some ⟨g,0,none⟩,cap,rfl,fun i hi=>⟨g,0,rfl,(hlt g rfl).2, ?_, ?_⟩,fun e=>by cases e⟩
  ·have:=hc g rfl (i*2) _ (flat_get l i hi).1
   rwa [show(⟨g,0,none⟩:Addr).add (i*2)=⟨g,0+i*2,none⟩ by unfold Addr.add;split<;>simp_all]at this
  ·have:=hc g rfl (i*2+1) _ (flat_get l i hi).2
   rwa [show(⟨g,0,none⟩:Addr).add (i*2+1)=⟨g,0+i*2+1,none⟩ by unfold Addr.add;simp]at this
theorem Tryz.infoMono:(Tryz.prog.info? 84).map (fun i=>(i.zero,i.size,i.bytes))=some (some (.agg #[.int .i64 0,.int .i64 0]),2,16):=by kernel_rfl
theorem Lies.news {B:Nat}{w:World}{a:Addr}{l:List (Int×Int)}(h:Lies B w (some a) l):∀j u,(flat l)[j]? =some u→w.cell? (a.add j)=some u:=by
 intro j u hj
 have hjl:j<l.length*2:=by rw[←flat_len];exact(List.getElem?_eq_some_iff.1 hj).1
 obtain⟨b,off,ha,_,h1,h2⟩:=h (j / 2) (by omega)
 injection ha with ha
 subst ha
 have hg:=flat_get l (j / 2) (by omega)
 rcases Nat.mod_two_eq_zero_or_one j with hm | hm
 ·have e:j / 2*2=j:=by omega
  rw[e]at hg h1
  rw[hg.1]at hj
  injection hj with hj
  subst hj
  unfold Addr.add
  split
  ·rename_i h0;subst h0;simpa using h1
  ·exact h1
 ·have e:j / 2*2+1=j:=by omega
  rw[Nat.add_assoc,e]at h2
  rw[e]at hg
  rw[hg.2]at hj
  injection hj with hj
  subst hj
  unfold Addr.add
  rw[if_neg (by omega)]
  exact h2
theorem flat_cells (l:List (Int×Int)):∀u∈flat l,u.oneCell'=true:=by
 intro u hu
 simp only[flat,List.mem_flatMap]at hu
 obtain⟨m,_,hm⟩:=hu
 simp at hm
 rcases hm with rfl | rfl<;>rfl
def RowEnd (B:Nat)(l:List (Int×Int))(w:World)(e:Ending)(w':World):Prop:=∃v,e= .returned v∧Row B l v w'∧Below B w w'
theorem clone_any (a:Option Addr)(n cap:Nat)(l:List (Int×Int))(w:World)(hn:l.length=n)(hm:n≤8192)(hl:Lies w.heap.size w a l)(hnil:a=none→n=0∧cap=0):
 Calls Tryz.prog 74 #[.slice a n cap] w (RowEnd w.heap.size l w):=by
 have he:=fun W:World=>Lib.run_eql_slice_nil (P:=Tryz.prog) W 23 84 a n cap 0 0 Tryz.underlying23
 cases a with
 | none=>
   obtain⟨rfl,rfl⟩:=hnil rfl
   have HN:=Lib.hid hn
   clear hn hl hnil
   go_enter Tryz.func74,Tryz.ntmps74
   go_wp2_with fail
   go_ret
   exact⟨_,rfl,by rw[List.eq_nil_of_length_eq_zero HN.out];exact World.ownsRow_nil _ _ _ _,Below.refl _ _⟩
 | some a=>
   obtain⟨i0,hi,hz0,hz1,hz2⟩:=info_parts Tryz.infoMono
   have HN:=Lib.hid hn
   have HL:=Lib.hid hl
   clear hn hl hnil
   go_enter Tryz.func74,Tryz.ntmps74
   have hown:(w.alloc (.cells #[] 84)).ownsRow w.heap.size 84 2 (.slice (some ⟨w.heap.size,0,none⟩) 0 0) 0 []:=World.ownsRow_made w #[] 0 (Nat.le_refl _) (by decide) rfl
   have HB:=Lib.hid ((Below.refl w.heap.size w).alloc (Nat.le_refl _) (.cells #[] 84))
   go_wp2_with (at_builtin;refine wpList_append_own _ rfl _ _ 23 rfl w.heap.size 84 i0 _ 2 16 Tryz.underlying23 hi hz0 hz1 hz2 rfl (by decide) _ _ _ rfl hown a n cap (flat l) rfl ?c1 ?c2 ?c3 ?c4 ?c5 ?c6 ?_)
   case c1=>rw[flat_len,HN.out]
   case c2=>exact(HL.out.below HB.out).news
   case c3=>exact flat_cells l
   case c4=>unfold maxLen;omega
   case c5=>omega
   case c6=>simp
   intro v' w1 hown' hgrow _
   go_wp2_with fail
   go_ret
   refine⟨_,rfl, ?_,HB.out.grown hgrow (by simp) (fun k hk=>(hown.lt k hk).1)⟩
   unfold Row
   rw[HN.out]
   simpa using hown'
theorem take_snoc (l:List (Int×Int))(k:Nat)(h:k<l.length):l.take (k+1)=l.take k ++ [l.getD k (0,0)]:=by
 rw[List.take_succ_eq_append_getElem h]
 simp[List.getD_eq_getElem?_getD,h]
theorem Row.alloc {B:Nat}{l:List (Int×Int)}{v:Value}{w:World}(h:Row B l v w)(o:Obj):Row B l v (w.alloc o):=World.ownsRow.alloc h o
theorem cell_two_new' (w:World)(x y:Value)(t:TypeId):∀j u,[x,y][j]? =some u→(w.alloc (.cells #[x,y] t)).cell? ((⟨w.heap.size,0,none⟩:Addr).add j)=some u:=by
 intro j u hj
 match j,hj with
 | 0,hj=>simp at hj;subst hj;simp[Addr.add]
 | 1,hj=>simp at hj;subst hj;simp[Addr.add]
theorem drop_any (a:Option Addr)(n cap:Nat)(l:List (Int×Int))(w:World)(hn:l.length=n)(hm:n≤8192)(hl:Lies w.heap.size w a l):
 Calls Tryz.prog 86 #[.slice a n cap] w (RowEnd w.heap.size (l.filter fun m=>m.2 != 0) w):=by
 obtain⟨i0,hi,hz0,hz1,hz2⟩:=info_parts Tryz.infoMono
 have HN:=Lib.hid hn
 have HL:=Lib.hid hl
 clear hn hl
 go_enter Tryz.func86,Tryz.ntmps86
 go_wp2
 go_loopw [3,8] (fun s i wr=>∃k:Nat,k≤n∧i= .int .i64 k∧Hid (Row w.heap.size ((l.take k).filter fun m=>m.2 != 0) s wr)∧Below w.heap.size w wr) (fun _ i _=>n - (intOf i).toNat)
 case atStart=>exact⟨0,Nat.zero_le _,rfl,World.ownsRow_nil _ _ _ _,Below.refl _ _⟩
 case round=>
  obtain⟨k,hk,rfl,hrow,hb⟩:=hrel
  by_cases hlt:k<n
  ·obtain⟨b,off,rfl,hblt,c1,c2⟩:=(HL.out.below hb) k (by rw[HN.out];exact hlt)
   have hts:=take_snoc l k (by rw[HN.out];exact hlt)
   have hlen:((l.take k).filter fun m=>m.2 != 0).length≤k:=Nat.le_trans (List.length_filter_le _ _) (by rw[List.length_take];omega)
   generalize hg:l.getD k (0,0)=m at c1 c2 hts
   obtain⟨v,u⟩:=m
   by_cases hu:u=0
   ·have HT:Hid ((l.take (k+1)).filter (fun m=>m.2 != 0)=(l.take k).filter fun m=>m.2 != 0):=by
     show _=_;rw[hts,List.filter_append];simp[hu]
    subst hu
    clear hts hg
    have hrow2:Hid (Row w.heap.size ((l.take (k+1)).filter fun m=>m.2 != 0) u3 wr):=by show Row _ _ _ _;rw[HT.out];exact hrow.out
    go_wp2
    go_roundw
    case rel=>exact⟨k+1,by omega,by go_num,hrow2.out.alloc _,hb.alloc hb.size _⟩
    case measure=>simp[intOf];omega
   ·have hu2:(u != 0)=true:=by simpa using hu
    have HT:Hid ((l.take (k+1)).filter (fun m=>m.2 != 0)=((l.take k).filter fun m=>m.2 != 0) ++ [(v,u)]):=by
     show _=_;rw[hts,List.filter_append];simp[hu]
    generalize (l.take k).filter (fun m=>m.2 != 0)=r at hrow hlen HT
    clear hts hg
    go_wp2_with (at_builtin;refine wpList_append_own _ rfl _ _ 23 rfl w.heap.size 84 i0 _ 2 16 Tryz.underlying23 hi hz0 hz1 hz2 rfl (by decide) u3 r.length (flat r) rfl ((hrow.out.alloc _).alloc _) ⟨wr.heap.size+1,0,none⟩ 1 1 [.int .i64 v,.int .i64 u] rfl rfl ?c2 ?c3 ?c4 ?c5 ?c6 ?_)
    case c3=>exact⟨rfl,rfl⟩
    case c4=>unfold maxLen;omega
    case c5=>omega
    case c6=>have:=hb.size;simp;omega
    intro v' w1 hown' hgrow _
    have HO:Hid (Row w.heap.size ((l.take (k+1)).filter fun m=>m.2 != 0) v' w1):=by
     show Row _ _ _ _
     rw[HT.out]
     unfold Row
     rw[List.length_append,flat_append]
     exact hown'
    have HB:Below w.heap.size w w1:=((hb.alloc hb.size _).alloc (by have:=hb.size;simp;omega) _).grown hgrow (by have:=hb.size;simp;omega) (fun k hk=>(World.ownsRow.lt hrow.out k hk).1)
    clear hown' hgrow hrow
    go_wp2
    go_roundw
    case rel=>exact⟨k+1,by omega,by go_num,HO,HB⟩
    case measure=>simp[intOf];omega
  ·have HT:Hid (Row w.heap.size (l.filter fun m=>m.2 != 0) u3 wr):=by
    have:=hrow.out
    rwa [List.take_of_length_le (by rw[HN.out];omega)]at this
   clear hrow
   go_wp2
   go_ret
   exact⟨_,rfl,HT.out,hb⟩
end Lf
namespace Lf
open Go.RowKit
def togStep (r:List (Int×Int))(m:Int×Int):List (Int×Int):=
 match r.getLast? with
 | some p=>if p.1=m.1 then r.dropLast ++ [(p.1,p.2+m.2)] else r ++ [m]
 | none=>r ++ [m]
theorem togStep_nil (m:Int×Int):togStep [] m=[m]:=rfl
theorem togStep_eq (r:List (Int×Int))(v k u:Int):togStep (r ++ [(v,k)]) (v,u)=r ++ [(v,k+u)]:=by
 unfold togStep;simp
theorem togStep_ne (r:List (Int×Int))(p:Int×Int)(m:Int×Int)(h:p.1≠m.1):togStep (r ++ [p]) m=(r ++ [p]) ++ [m]:=by
 unfold togStep;simp[h]
def tog (l:List (Int×Int)):List (Int×Int):=l.foldl togStep []
theorem tog_snoc (l:List (Int×Int))(m:Int×Int):tog (l ++ [m])=togStep (tog l) m:=by unfold tog;rw[List.foldl_append];rfl
theorem snoc_cases {α:Type}(r:List α):r=[]∨∃r' p,r=r' ++ [p]:=by
 rcases List.eq_nil_or_concat r with h | ⟨a,b,h⟩
 ·exact .inl h
 ·exact .inr ⟨a,b,by rw[h,List.concat_eq_append]⟩
def Bd (M:Int)(l:List (Int×Int)):Prop:=∀m∈l, -M≤m.2∧m.2≤M
theorem Bd.step {M B:Int}{r:List (Int×Int)}{m:Int×Int}(h:Bd M r)(hM:0≤M)(hB: -B≤m.2∧m.2≤B):Bd (M+B) (togStep r m):=by
 obtain⟨v,u⟩:=m
 rcases snoc_cases r with rfl | ⟨r',⟨pv,pk⟩,rfl⟩
 ·rw[togStep_nil];intro x hx;simp at hx;subst hx;simp only at hB⊢;omega
 ·have hp:=h (pv,pk) (by simp)
  by_cases e:pv=v
  ·subst e
   rw[togStep_eq]
   intro x hx
   rcases List.mem_append.1 hx with hx | hx
   ·have:=h x (by simp[hx]);simp only at hB;omega
   ·simp at hx;subst hx;simp only at hB hp⊢;omega
  ·rw[togStep_ne _ _ _ e]
   intro x hx
   rcases List.mem_append.1 hx with hx | hx
   ·have:=h x hx;simp only at hB;omega
   ·simp at hx;subst hx;simp only at hB⊢;omega
theorem tog_bd (B:Int)(hB:0≤B)(l:List (Int×Int))(h:Bd B l):∀k,k≤l.length→Bd (k*B) (tog (l.take k))
 | 0,_=>by intro m hm;simp[tog]at hm
 | k+1,hk=>by
   rw[take_snoc l k (by omega),tog_snoc]
   have h1:=tog_bd B hB l h k (by omega)
   have h2:=h (l.getD k (0,0)) (by rw[List.getD_eq_getElem?_getD,List.getElem?_eq_getElem (by omega)];simp)
   have:=h1.step (Int.mul_nonneg (by omega) hB) h2
   rwa [show((k+1:Nat):Int)*B=k*B+B by rw[Int.natCast_add,Int.add_mul];simp]
theorem tog_len (l:List (Int×Int)):∀k,k≤l.length→(tog (l.take k)).length≤k
 | 0,_=>by simp[tog]
 | k+1,hk=>by
   have h1:=tog_len l k (by omega)
   rw[take_snoc l k (by omega),tog_snoc]
   generalize tog (l.take k)=r at h1
   generalize l.getD k (0,0)=m
   obtain⟨v,u⟩:=m
   rcases snoc_cases r with rfl | ⟨r',⟨pv,pk⟩,rfl⟩
   ·simp[togStep_nil]
   ·simp at h1
    by_cases e:pv=v
    ·subst e;rw[togStep_eq];simp;omega
    ·rw[togStep_ne _ _ _ e];simp;omega
theorem flat_last (r:List (Int×Int))(v k:Int):(flat (r ++ [(v,k)]))[r.length*2]? =some (.int .i64 v)∧(flat (r ++ [(v,k)]))[r.length*2+1]? =some (.int .i64 k):=by
 have:=flat_get (r ++ [(v,k)]) r.length (by simp)
 simpa using this
theorem flat_set (r:List (Int×Int))(v k x:Int):(flat (r ++ [(v,k)])).set (r.length*2+1) (.int .i64 x)=flat (r ++ [(v,x)]):=by
 rw[flat_append,flat_append,List.set_append_right _ _ (by rw[flat_len];omega),flat_len,show r.length*2+1 - r.length*2=1 by omega]
 rfl
theorem two_at' (w:World)(o:Obj)(q:Nat)(x y:Value)(t:TypeId):∀j u,[x,y][j]? =some u→(((w.alloc o).drewN q).alloc (.cells #[x,y] t)).cell? ((⟨w.heap.size+1,0,none⟩:Addr).add j)=some u:=by
 intro j u hj
 have h:=cell_two_new' ((w.alloc o).drewN q) x y t j u hj
 have e:((w.alloc o).drewN q).heap.size=w.heap.size+1:=by
  show(w.alloc o).heap.size=_
  simp
 rwa [e]at h
theorem ownsRow_drewN {w:World}{base:Nat}{e:TypeId}{size:Nat}{v:Value}{n:Nat}{xs:List Value}(h:w.ownsRow base e size v n xs)(k:Nat):(w.drewN k).ownsRow base e size v n xs:=h
theorem together_any (a:Option Addr)(n cap:Nat)(l:List (Int×Int))(w:World)(hn:l.length=n)(hm:n≤8192)(hl:Lies w.heap.size w a l)(hbd:Bd 4398046511104 l):
 Calls Tryz.prog 87 #[.slice a n cap] w (RowEnd w.heap.size (tog l) w):=by
 obtain⟨i0,hi,hz0,hz1,hz2⟩:=info_parts Tryz.infoMono
 have HN:=Lib.hid hn
 have HL:=Lib.hid hl
 have HBD:=Lib.hid hbd
 clear hn hl hbd
 go_enter Tryz.func87,Tryz.ntmps87
 go_wp2
 go_loopw [3,9] (fun s i wr=>∃k:Nat,k≤n∧i= .int .i64 k∧Hid (Row w.heap.size (tog (l.take k)) s wr)∧Below w.heap.size w wr) (fun _ i _=>n - (intOf i).toNat)
 case atStart=>exact⟨0,Nat.zero_le _,rfl,World.ownsRow_nil _ _ _ _,Below.refl _ _⟩
 case round=>
  obtain⟨k,hk,rfl,hrow,hb⟩:=hrel
  by_cases hlt:k<n
  ·obtain⟨b,off,rfl,hblt,c1,c2⟩:=(HL.out.below hb) k (by rw[HN.out];exact hlt)
   have hts:=take_snoc l k (by rw[HN.out];exact hlt)
   have hbdk:=tog_bd _ (by decide) l HBD.out k (by rw[HN.out];exact hk)
   have hlen:=tog_len l k (by rw[HN.out];exact hk)
   have hbm:=HBD.out (l.getD k (0,0)) (by rw[List.getD_eq_getElem?_getD,List.getElem?_eq_getElem (by rw[HN.out];exact hlt)];simp)
   have htog:=tog_snoc (l.take k) (l.getD k (0,0))
   rw[←hts]at htog
   clear hts
   generalize hg:l.getD k (0,0)=m at c1 c2 hbm htog
   clear hg
   obtain⟨v,u⟩:=m
   generalize tog (l.take k)=r at hrow hlen hbdk htog
   rcases snoc_cases r with rfl | ⟨r',⟨pv,pk⟩,rfl⟩
   ·have HT:Hid (tog (l.take (k+1))=[] ++ [(v,u)]):=htog.trans (togStep_nil _)
    clear htog
    rcases Joins.ownsRow_forms hrow.out with ⟨rfl,_⟩ | ⟨g,cap',rfl⟩
    ·have HR:Hid (wr.ownsRow w.heap.size 84 2 (.slice none 0 0) 0 []):=hrow.out
     clear hrow
     go_wp2_with fail
     go_quiet (fail)
     go_wp2_with (at_builtin;refine wpList_append_own _ rfl _ _ 23 rfl w.heap.size 84 i0 _ 2 16 Tryz.underlying23 hi hz0 hz1 hz2 rfl (by decide) (.slice none 0 0) 0 (flat ([]:List (Int×Int))) rfl (World.ownsRow.alloc (ownsRow_drewN (World.ownsRow.alloc HR.out _) _) _) ⟨wr.heap.size+1,0,none⟩ 1 1 [.int .i64 v,.int .i64 u] rfl rfl ?c2 ?c3 ?c4 ?c5 ?c6 ?_)
     case c2=>exact fun j x hj=>two_at' wr _ nq _ _ _ j x hj
     case c3=>first | exact⟨rfl,rfl⟩ | exact flat_cells [(v,u)]
     case c4=>unfold maxLen;omega
     case c5=>omega
     case c6=>have:=hb.size;simp;omega
     intro v' w1 hown' hgrow _
     have HO:Hid (Row w.heap.size (tog (l.take (k+1))) v' w1):=by
      show Row _ _ _ _
      rw[HT.out]
      unfold Row
      rw[List.length_append,flat_append]
      exact hown'
     have HB:Below w.heap.size w w1:=((below_drewN (hb.alloc hb.size _) _).alloc (by have:=hb.size;simp;omega) _).grown hgrow (by have:=hb.size;simp;omega) (fun j hj=>(World.ownsRow.lt HR.out j hj).1)
     clear hown' hgrow HR
     go_wp2
     go_roundw
     case rel=>exact⟨k+1,by omega,by go_num,HO,HB⟩
     case measure=>simp[intOf];omega
    ·have HR:Hid (wr.ownsRow w.heap.size 84 2 (.slice (some ⟨g,0,none⟩) 0 cap') 0 []):=hrow.out
     clear hrow
     simp only[List.length_nil]
     go_wp2_with fail
     go_quiet (fail)
     go_wp2_with (at_builtin;refine wpList_append_own _ rfl _ _ 23 rfl w.heap.size 84 i0 _ 2 16 Tryz.underlying23 hi hz0 hz1 hz2 rfl (by decide) (.slice (some ⟨g,0,none⟩) 0 cap') 0 (flat ([]:List (Int×Int))) rfl (World.ownsRow.alloc (ownsRow_drewN (World.ownsRow.alloc HR.out _) _) _) ⟨wr.heap.size+1,0,none⟩ 1 1 [.int .i64 v,.int .i64 u] rfl rfl ?c2 ?c3 ?c4 ?c5 ?c6 ?_)
     case c2=>exact fun j x hj=>two_at' wr _ nq _ _ _ j x hj
     case c3=>first | exact⟨rfl,rfl⟩ | exact flat_cells [(v,u)]
     case c4=>unfold maxLen;omega
     case c5=>omega
     case c6=>have:=hb.size;simp;omega
     intro v' w1 hown' hgrow _
     have HO:Hid (Row w.heap.size (tog (l.take (k+1))) v' w1):=by
      show Row _ _ _ _
      rw[HT.out]
      unfold Row
      rw[List.length_append,flat_append]
      exact hown'
     have HB:Below w.heap.size w w1:=((below_drewN (hb.alloc hb.size _) _).alloc (by have:=hb.size;simp;omega) _).grown hgrow (by have:=hb.size;simp;omega) (fun j hj=>(World.ownsRow.lt HR.out j hj).1)
     clear hown' hgrow HR
     go_wp2
     go_roundw
     case rel=>exact⟨k+1,by omega,by go_num,HO,HB⟩
     case measure=>simp[intOf];omega
   ·obtain⟨g,cap',rfl⟩:=Joins.ownsRow_form hrow.out (by simp)
    have hrl:(r' ++ [(pv,pk)]).length=r'.length+1:=by simp
    obtain⟨q,hq⟩:∃q,q=r'.length:=⟨_,rfl⟩
    rw[hrl,←hq]at hlen
    have HR:Hid (wr.ownsRow w.heap.size 84 2 (.slice (some ⟨g,0,none⟩) (q+1) cap') (q+1) (flat (r' ++ [(pv,pk)]))):=by
     have:=hrow.out;unfold Row at this;rw[hrl,←hq]at this;exact this
    have hp1:=(World.ownsRow.cellAt HR.out (q*2) (by omega)).trans (hq ▸ (flat_last r' pv pk).1)
    have hp2:=(World.ownsRow.cellAt HR.out (q*2+1) (by omega)).trans (hq ▸ (flat_last r' pv pk).2)
    have hpf:=World.ownsRow.frozenAt HR.out (q*2+1)
    have hglt:=(World.ownsRow.lt HR.out g rfl)
    have hpk:=hbdk (pv,pk) (by simp)
    rw[hrl,←hq]
    have HQ:=Lib.hid hq
    clear hrow hq hrl
    have hw1:IntKind.i64.wrap ((q:Int)+1 - 1)=q:=by rw[show(q:Int)+1 - 1=q by omega];exact IntWalk.i64_in _ (by omega)
    have hw2:IntKind.i64.wrap (q:Int)=q:=IntWalk.i64_in _ (by omega)
    have hg2:g<wr.heap.size:=hglt.2
    by_cases e:pv=v
    ·subst e
     have HT:Hid (tog (l.take (k+1))=r' ++ [(pv,pk+u)]):=htog.trans (togStep_eq _ _ _ _)
     have hbk: -(8192*4398046511104)≤pk∧pk≤8192*4398046511104:=by
      simp only at hpk
      have:(k:Int)*4398046511104≤8192*4398046511104:=Int.mul_le_mul_of_nonneg_right (by omega) (by omega)
      omega
     clear htog hpk hbdk
     simp only at hbm
     go_wp2_with fail
     go_quiet (fail)
     go_wp2_with fail
     go_region
     have HO:Hid (∀W:World,W.ownsRow w.heap.size 84 2 (.slice (some ⟨g,0,none⟩) (q+1) cap') (q+1) (flat (r' ++ [(pv,pk)]))→Row w.heap.size (tog (l.take (k+1))) (.slice (some ⟨g,0,none⟩) (q+1) cap') (W.setCell ⟨g,q*2+1,none⟩ (.int .i64 (pk+u)))):=fun W hW=>by
      have h1:=(World.ownsRow.stored hW (q*2+1) (.int .i64 (pk+u))).1
      rw[HQ.out,flat_set]at h1
      rw[HT.out]
      unfold Row
      rw[List.length_append,HQ.out]
      exact h1
     go_wp2
     go_roundw
     case rel=>exact⟨k+1,by omega,by go_num,HO.out _ (ownsRow_drewN (World.ownsRow.alloc HR.out _) (nq+1)),(below_drewN (hb.alloc hb.size _) (nq+1)).setCell (p:=⟨g,q*2+1,none⟩) hglt.1 _⟩
     case measure=>simp[intOf];omega
    ·have HT:Hid (tog (l.take (k+1))=(r' ++ [(pv,pk)]) ++ [(v,u)]):=htog.trans (togStep_ne _ _ _ e)
     have e':(pv == v)=false:=by simpa using e
     clear htog e
     go_wp2_with fail
     go_quiet (fail)
     go_wp2_with (at_builtin;refine wpList_append_own _ rfl _ _ 23 rfl w.heap.size 84 i0 _ 2 16 Tryz.underlying23 hi hz0 hz1 hz2 rfl (by decide) (.slice (some ⟨g,0,none⟩) (q+1) cap') (q+1) (flat (r' ++ [(pv,pk)])) rfl (World.ownsRow.alloc (ownsRow_drewN (World.ownsRow.alloc HR.out _) _) _) ⟨wr.heap.size+1,0,none⟩ 1 1 [.int .i64 v,.int .i64 u] rfl rfl ?c2 ?c3 ?c4 ?c5 ?c6 ?_)
     case c2=>exact fun j x hj=>two_at' wr _ nq _ _ _ j x hj
     case c3=>first | exact⟨rfl,rfl⟩ | exact flat_cells [(v,u)]
     case c4=>unfold maxLen;omega
     case c5=>omega
     case c6=>have:=hb.size;simp;omega
     intro v' w1 hown' hgrow _
     have HO:Hid (Row w.heap.size (tog (l.take (k+1))) v' w1):=by
      show Row _ _ _ _
      rw[HT.out]
      unfold Row
      rw[List.length_append,flat_append,List.length_append,←HQ.out]
      exact hown'
     have HB:Below w.heap.size w w1:=((below_drewN (hb.alloc hb.size _) _).alloc (by have:=hb.size;simp;omega) _).grown hgrow (by have:=hb.size;simp;omega) (fun j hj=>(World.ownsRow.lt HR.out j hj).1)
     clear hown' hgrow HR
     go_wp2
     go_roundw
     case rel=>exact⟨k+1,by omega,by go_num,HO,HB⟩
     case measure=>simp[intOf];omega
  ·have HT:Hid (Row w.heap.size (tog l) u3 wr):=by
    have:=hrow.out
    rwa [List.take_of_length_le (by rw[HN.out];omega)]at this
   clear hrow
   go_wp2
   go_ret
   exact⟨_,rfl,HT.out,hb⟩
end Lf
section
open Go.Shelf
def Tryz.sortMono_ren:Go.Shelf.Ren:=⟨fun | 6=>83 | 15=>98 | 14=>97 | 28=>129 | 29=>130 | 20=>121 | 21=>122 | 22=>123 | 23=>124 | 24=>125 | 25=>126 | 26=>127 | 27=>128 | 46=>139 | 47=>140 | 48=>141 | 49=>142 | 50=>143 | 57=>144 | n=>n,fun | 22=>23 | 24=>84 | 25=>160 | 3=>3 | 39=>171 | 0=>0 | 53=>195 | 55=>197 | 4=>4 | 46=>189 | 45=>188 | 50=>72 | 5=>5 | 9=>9 | 66=>204 | 70=>208 | 76=>210 | 77=>63 | n=>n,fun | n=>n⟩
theorem Tryz.sortMono:Go.Proofs.SlLaysF0.n6 Tryz.prog Tryz.sortMono_ren:={
 mixed:=by kernel_rfl
 f6:=⟨Tryz.f83.name,by decide,Tryz.func83.trans (congrArg some (by kernel_rfl))⟩
 f14:=⟨Tryz.f97.name,by decide,Tryz.func97.trans (congrArg some (by kernel_rfl))⟩
 f15:=Tryz.func98.trans (congrArg some (by kernel_rfl))
 f20:=⟨Tryz.f121.name,by decide,Tryz.func121.trans (congrArg some (by kernel_rfl))⟩
 f21:=⟨Tryz.f122.name,by decide,Tryz.func122.trans (congrArg some (by kernel_rfl))⟩
 f22:=⟨Tryz.f123.name,by decide,Tryz.func123.trans (congrArg some (by kernel_rfl))⟩
 f23:=⟨Tryz.f124.name,by decide,Tryz.func124.trans (congrArg some (by kernel_rfl))⟩
 f24:=⟨Tryz.f125.name,by decide,Tryz.func125.trans (congrArg some (by kernel_rfl))⟩
 f25:=⟨Tryz.f126.name,by decide,Tryz.func126.trans (congrArg some (by kernel_rfl))⟩
 f26:=⟨Tryz.f127.name,by decide,Tryz.func127.trans (congrArg some (by kernel_rfl))⟩
 f27:=⟨Tryz.f128.name,by decide,Tryz.func128.trans (congrArg some (by kernel_rfl))⟩
 f28:=Tryz.func129.trans (congrArg some (by kernel_rfl))
 f29:=Tryz.func130.trans (congrArg some (by kernel_rfl))
 f46:=⟨Tryz.f139.name,by decide,Tryz.func139.trans (congrArg some (by kernel_rfl))⟩
 f47:=Tryz.func140.trans (congrArg some (by kernel_rfl))
 f48:=Tryz.func141.trans (congrArg some (by kernel_rfl))
 f49:=⟨Tryz.f142.name,by decide,Tryz.func142.trans (congrArg some (by kernel_rfl))⟩
 f50:=⟨Tryz.f143.name,by decide,Tryz.func143.trans (congrArg some (by kernel_rfl))⟩
 f57:=⟨Tryz.f144.name,by decide,Tryz.func144.trans (congrArg some (by kernel_rfl))⟩
 t0:=Tryz.underlying0
 a0:=Tryz.isAgg0
 z0:=Tryz.sizeOf0
 v0:=Tryz.zeroValue0
 t3:=Tryz.underlying3
 a3:=Tryz.isAgg3
 z3:=Tryz.sizeOf3
 v3:=Tryz.zeroValue3
 t4:=Tryz.underlying4
 a4:=Tryz.isAgg4
 z4:=Tryz.sizeOf4
 v4:=Tryz.zeroValue4
 t5:=Tryz.underlying5
 a5:=Tryz.isAgg5
 z5:=Tryz.sizeOf5
 v5:=Tryz.zeroValue5
 t9:=Tryz.underlying9
 a9:=Tryz.isAgg9
 z9:=Tryz.sizeOf9
 v9:=Tryz.zeroValue9
 t22:=Tryz.underlying23
 a22:=Tryz.isAgg23
 z22:=Tryz.sizeOf23
 v22:=Tryz.zeroValue23
 t25:=Tryz.underlying160
 a25:=Tryz.isAgg160
 z25:=Tryz.sizeOf160
 v25:=Tryz.zeroValue160
 t39:=Tryz.underlying171
 a39:=Tryz.isAgg171
 z39:=Tryz.sizeOf171
 v39:=Tryz.zeroValue171
 t45:=Tryz.underlying188
 a45:=Tryz.isAgg188
 z45:=Tryz.sizeOf188
 v45:=Tryz.zeroValue188
 t46:=Tryz.underlying189
 a46:=Tryz.isAgg189
 z46:=Tryz.sizeOf189
 v46:=Tryz.zeroValue189
 t50:=Tryz.underlying72
 a50:=Tryz.isAgg72
 z50:=Tryz.sizeOf72
 v50:=Tryz.zeroValue72
 t53:=Tryz.underlying195
 a53:=Tryz.isAgg195
 z53:=Tryz.sizeOf195
 v53:=Tryz.zeroValue195
 t55:=Tryz.underlying197
 a55:=Tryz.isAgg197
 z55:=Tryz.sizeOf197
 v55:=Tryz.zeroValue197
 t66:=Tryz.underlying204
 a66:=Tryz.isAgg204
 z66:=Tryz.sizeOf204
 v66:=Tryz.zeroValue204
 t70:=Tryz.underlying208
 a70:=Tryz.isAgg208
 z70:=Tryz.sizeOf208
 v70:=Tryz.zeroValue208
 t76:=Tryz.underlying210
 a76:=Tryz.isAgg210
 z76:=Tryz.sizeOf210
 v76:=Tryz.zeroValue210
 t77:=Tryz.underlying63
 a77:=Tryz.isAgg63
 z77:=Tryz.sizeOf63
 v77:=Tryz.zeroValue63 }
end
end Go.Proofs.YtjbkhdbjdahbiaaGreatDoor
