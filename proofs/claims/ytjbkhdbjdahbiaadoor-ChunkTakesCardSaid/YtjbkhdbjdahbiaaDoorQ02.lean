/- Parts of a proof. -/
import Derived.Test.YtjbkhdbjdahbiaaDoorProg
import Derived.WalkKit
import Derived.WalkSpells
import Derived.WalkLawsBesides
import Derived.Lib.Hide
import Derived.Deep.QuietTactic
import Derived.BigQuiet
import Derived.RegionTactic
import Derived.ChangeAlike
import Derived.Lib.SmallJoins
import Derived.StillTailTactics
import Derived.Shelf.SlSortCmp.WholeK
import Derived.Ground.SlsfProg
import Derived.LaidEql
import Derived.Lib.QuietBelow
set_option linter.unusedVariables false
set_option linter.unusedSimpArgs false
set_option maxHeartbeats 60000000
set_option maxRecDepth 100000
namespace Go.Proofs.YtjbkhdbjdahbiaaDoor
namespace Lf
open Go.RowKit
theorem ret_bool {a b:Bool}(h:a=b):Ending.returned (.bool a)=Ending.returned (.bool b):=by rw[h]
theorem bcell {W w1:World}(hb:Below W.heap.size W w1):(∀b o,b<W.heap.size→w1.cell? ⟨b,o,none⟩=W.cell? ⟨b,o,none⟩)∧(∀b o,b<W.heap.size→w1.frozen? ⟨b,o,none⟩=W.frozen? ⟨b,o,none⟩):=
 ⟨fun b o h=>hb.cell (p:=⟨b,o,none⟩) h,fun b o h=>hb.frozen (p:=⟨b,o,none⟩) h⟩
def wi (n m:Int):Bool:=decide (-m≤n∧n≤m)
theorem wi_t {n m:Int}(h: -m≤n∧n≤m):wi n m=true:=by unfold wi;exact decide_eq_true h
theorem wi_f {n m:Int}(h:¬(-m≤n∧n≤m)):wi n m=false:=by unfold wi;exact decide_eq_false h
theorem within_any (n m:Int)(w:World)(h0:0≤m)(h1:m≤4294967296):
 Calls Tryd.prog 27 #[.int .i64 n,.int .i64 m] w fun e w'=>e= .returned (.bool (wi n m))∧w=w':=by
 by_cases a: -m≤n
 ·by_cases b:n≤m
  ·rw[wi_t ⟨a,b⟩]
   go_enter Tryd.func27,Tryd.ntmps27
   go_wp2
   go_ret
   exact⟨rfl,rfl⟩
  ·rw[wi_f (by omega)]
   go_enter Tryd.func27,Tryd.ntmps27
   go_wp2
   go_ret
   exact⟨rfl,rfl⟩
 ·rw[wi_f (by omega)]
  go_enter Tryd.func27,Tryd.ntmps27
  go_wp2
  go_ret
  exact⟨rfl,rfl⟩
end Lf
namespace Lf
open Go.RowKit
def Lies (B:Nat)(w:World)(a:Option Addr)(l:List (Int×Int)):Prop:=
 ∀i,i<l.length→∃b off,a=some ⟨b,off,none⟩∧b<B∧
  w.cell? ⟨b,off+i*2,none⟩=some (.int .i64 (l.getD i (0,0)).1)∧w.cell? ⟨b,off+i*2+1,none⟩=some (.int .i64 (l.getD i (0,0)).2)
theorem Lies.mono {B B':Nat}{w:World}{a:Option Addr}{l:List (Int×Int)}(h:Lies B w a l)(hb:B≤B'):Lies B' w a l:=fun i hi=>by
 obtain⟨b,off,ha,hlt,h1,h2⟩:=h i hi
 exact⟨b,off,ha,Nat.lt_of_lt_of_le hlt hb,h1,h2⟩
theorem Lies.below {B:Nat}{w w':World}{a:Option Addr}{l:List (Int×Int)}(h:Lies B w a l)(hb:Below B w w'):Lies B w' a l:=fun i hi=>by
 obtain⟨b,off,ha,hlt,h1,h2⟩:=h i hi
 exact⟨b,off,ha,hlt,by rw[hb.cell (p:=⟨b,_,none⟩) hlt];exact h1,by rw[hb.cell (p:=⟨b,_,none⟩) hlt];exact h2⟩
theorem all_yes (g:Nat)(cb:Array Value)(a:Option Addr)(n cap:Nat)(l:List (Int×Int))(w:World)(I:Nat→World→Prop)(r:Nat→Bool)
 (eg:∀args w,(callFunc g args).run Tryd.prog w= .ok (.enter g args) w)
 (hn:l.length=n) (hm:n≤9223372036854775807) (B:Nat) (hB:B≤w.heap.size) (hl:Lies B w a l) (h0:I 0 w) (hal:∀i W o,I i W→I i (W.alloc o))
 (hstep:∀i W,i<n→Below B w W→I i W→Calls Tryd.prog g (#[.agg #[.int .i64 (l.getD i (0,0)).1,.int .i64 (l.getD i (0,0)).2]] ++ cb) W
   fun e W'=>e= .returned (.bool (r i))∧I (i+1) W'∧Below B W W')
 (hr:∀i,i<n→r i=true):
 Calls Tryd.prog 28 #[.slice a n cap,.func (.func g) #[] cb] w fun e w'=>e= .returned (.bool true)∧I n w'∧Below B w w':=by
 have HS:=Lib.hid hstep
 have HL:=Lib.hid hl
 have HA:=Lib.hid hal
 have HI:=Lib.hid h0
 have HR:=Lib.hid hr
 have HN:=Lib.hid hn
 clear hstep hl hal h0 hr hn
 go_enter Tryd.func28,Tryd.ntmps28
 go_wp2
 go_loopw [9] (fun i wr=>∃k:Nat,k≤n∧i= .int .i64 k∧Hid (I k wr)∧Below B w wr) (fun i _=>n - (intOf i).toNat)
 case atStart=>exact⟨0,Nat.zero_le _,rfl,HI,Below.refl _ _⟩
 case round=>
  obtain⟨k,hk,rfl,hI,hb⟩:=hrel
  by_cases hlt:k<n
  ·obtain⟨b,off,rfl,hblt,c1,c2⟩:=HL.out k (by rw[HN.out];exact hlt)
   rw[←hb.cell (p:=⟨b,_,none⟩) hblt]at c1 c2
   have hs:∀W,Below B w W→I k W→Calls Tryd.prog g (#[.agg #[.int .i64 (l.getD k (0,0)).1,.int .i64 (l.getD k (0,0)).2]] ++ cb) W
    fun e W'=>e= .returned (.bool true)∧I (k+1) W'∧Below B W W':=fun W h1 h2=>by
     have:=HS.out k W hlt h1 h2
     rw[HR.out k hlt]at this
     exact this
   generalize (l.getD k (0,0)).1=v at hs c1
   generalize (l.getD k (0,0)).2=u at hs c2
   have HS1:=Lib.hid hs
   clear hs HS
   go_wp2_with fail
   have hb2:=(hb.alloc (Nat.le_trans hB hb.size) (.cells #[.int .i64 v,.int .i64 u] 35))
   refine(HS1.out _ hb2 (HA.out _ _ _ hI.out)).mono ?_
   rintro e w1 ⟨rfl,hI1,hb1⟩
   have HI1:=Lib.hid hI1
   clear hI1 hI HI c1 c2
   go_wp2
   go_roundw
   case rel=>exact⟨k+1,by omega,by go_num,HI1,hb2.trans hb1⟩
   case measure=>simp[intOf];omega
  ·go_wp2
   go_ret
   exact⟨rfl,by rw[show n=k by omega];exact hI.out,hb⟩
theorem all_no (g:Nat)(cb:Array Value)(a:Option Addr)(n cap:Nat)(l:List (Int×Int))(w:World)(I:Nat→World→Prop)(r:Nat→Bool)
 (eg:∀args w,(callFunc g args).run Tryd.prog w= .ok (.enter g args) w)
 (hn:l.length=n) (hm:n≤9223372036854775807) (B:Nat) (hB:B≤w.heap.size) (hl:Lies B w a l) (h0:I 0 w) (hal:∀i W o,I i W→I i (W.alloc o))
 (hstep:∀i W,i<n→Below B w W→I i W→Calls Tryd.prog g (#[.agg #[.int .i64 (l.getD i (0,0)).1,.int .i64 (l.getD i (0,0)).2]] ++ cb) W
   fun e W'=>e= .returned (.bool (r i))∧I (i+1) W'∧Below B W W')
 (j:Nat) (hj:j<n) (hr:∀i,i<j→r i=true) (hno:r j=false):
 Calls Tryd.prog 28 #[.slice a n cap,.func (.func g) #[] cb] w fun e w'=>e= .returned (.bool false)∧I (j+1) w'∧Below B w w':=by
 have HS:=Lib.hid hstep
 have HL:=Lib.hid hl
 have HA:=Lib.hid hal
 have HI:=Lib.hid h0
 have HR:=Lib.hid hr
 have HN:=Lib.hid hn
 have HO:=Lib.hid hno
 clear hstep hl hal h0 hr hn hno
 go_enter Tryd.func28,Tryd.ntmps28
 go_wp2
 go_loopw [9] (fun i wr=>∃k:Nat,k≤j∧i= .int .i64 k∧Hid (I k wr)∧Below B w wr) (fun i _=>n - (intOf i).toNat)
 case atStart=>exact⟨0,Nat.zero_le _,rfl,HI,Below.refl _ _⟩
 case round=>
  obtain⟨k,hk,rfl,hI,hb⟩:=hrel
  have hlt:k<n:=by omega
  by_cases hkj:k<j
  ·obtain⟨b,off,rfl,hblt,c1,c2⟩:=HL.out k (by rw[HN.out];exact hlt)
   rw[←hb.cell (p:=⟨b,_,none⟩) hblt]at c1 c2
   have hs:∀W,Below B w W→I k W→Calls Tryd.prog g (#[.agg #[.int .i64 (l.getD k (0,0)).1,.int .i64 (l.getD k (0,0)).2]] ++ cb) W
    fun e W'=>e= .returned (.bool true)∧I (k+1) W'∧Below B W W':=fun W h1 h2=>by
     have:=HS.out k W hlt h1 h2
     rw[HR.out k hkj]at this
     exact this
   generalize (l.getD k (0,0)).1=v at hs c1
   generalize (l.getD k (0,0)).2=u at hs c2
   have HS1:=Lib.hid hs
   clear hs HS
   go_wp2_with fail
   have hb2:=(hb.alloc (Nat.le_trans hB hb.size) (.cells #[.int .i64 v,.int .i64 u] 35))
   refine(HS1.out _ hb2 (HA.out _ _ _ hI.out)).mono ?_
   rintro e w1 ⟨rfl,hI1,hb1⟩
   have HI1:=Lib.hid hI1
   clear hI1 hI HI c1 c2
   go_wp2
   go_roundw
   case rel=>exact⟨k+1,by omega,by go_num,HI1,hb2.trans hb1⟩
   case measure=>simp[intOf];omega
  ·obtain⟨b,off,rfl,hblt,c1,c2⟩:=HL.out k (by rw[HN.out];exact hlt)
   rw[←hb.cell (p:=⟨b,_,none⟩) hblt]at c1 c2
   have hs:∀W,Below B w W→I k W→Calls Tryd.prog g (#[.agg #[.int .i64 (l.getD k (0,0)).1,.int .i64 (l.getD k (0,0)).2]] ++ cb) W
    fun e W'=>e= .returned (.bool false)∧I (k+1) W'∧Below B W W':=fun W h1 h2=>by
     have:=HS.out k W hlt h1 h2
     rw[show k=j by omega,HO.out]at this
     rw[show k=j by omega]
     exact this
   generalize (l.getD k (0,0)).1=v at hs c1
   generalize (l.getD k (0,0)).2=u at hs c2
   have HS1:=Lib.hid hs
   clear hs HS
   go_wp2_with fail
   have hb2:=(hb.alloc (Nat.le_trans hB hb.size) (.cells #[.int .i64 v,.int .i64 u] 35))
   refine(HS1.out _ hb2 (HA.out _ _ _ hI.out)).mono ?_
   rintro e w1 ⟨rfl,hI1,hb1⟩
   have HI1:=Lib.hid hI1
   clear hI1 hI HI c1 c2
   go_wp2
   go_ret
   exact⟨rfl,by rw[show j=k by omega];exact HI1.out,hb2.trans hb1⟩
end Lf
namespace Lf
open Go.RowKit
def mst (v k:Int):Bool:=decide (0≤v∧v<1048576) && wi k 1073741824
theorem mst_f1 {v k:Int}(h:¬(0≤v∧v<1048576)):mst v k=false:=by unfold mst;rw[decide_eq_false h];rfl
theorem mst_t1 {v k:Int}(h:0≤v∧v<1048576):mst v k=wi k 1073741824:=by unfold mst;rw[decide_eq_true h];rfl
theorem mayStand_any (v k:Int)(w:World):
 Calls Tryd.prog 30 #[.agg #[.int .i64 v,.int .i64 k]] w fun e w'=>e= .returned (.bool (mst v k))∧Below w.heap.size w w':=by
 by_cases a:0≤v
 ·by_cases b:v<1048576
  ·rw[mst_t1 ⟨a,b⟩]
   go_enter Tryd.func30,Tryd.ntmps30
   go_wp2_with (go_at_call 27;refine(within_any _ _ _ (by omega) (by omega)).mono ?_;rintro e w' ⟨rfl,rfl⟩)
   go_ret
   exact⟨rfl,(Below.refl _ _).alloc (Nat.le_refl _) _⟩
  ·rw[mst_f1 (by omega)]
   go_enter Tryd.func30,Tryd.ntmps30
   go_wp2
   go_ret
   exact⟨rfl,(Below.refl _ _).alloc (Nat.le_refl _) _⟩
 ·rw[mst_f1 (by omega)]
  go_enter Tryd.func30,Tryd.ntmps30
  go_wp2
  go_ret
  exact⟨rfl,(Below.refl _ _).alloc (Nat.le_refl _) _⟩
def chk (last v k:Int):Bool:=decide (last<v) && (decide (k≠0) && mst v k)
theorem chk_1 {last v k:Int}(h:¬last<v):chk last v k=false:=by unfold chk;rw[decide_eq_false h];rfl
theorem chk_2 {last v k:Int}(h:k=0):chk last v k=false:=by unfold chk;rw[decide_eq_false (p:=k≠0) (by omega)];simp
theorem chk_3 {last v k:Int}(h:last<v)(h2:k≠0):chk last v k=mst v k:=by unfold chk;rw[decide_eq_true h,decide_eq_true h2];simp
def Own (w:World)(p:Nat)(x:Int):Prop:=p<w.heap.size∧w.cell? ⟨p,0,none⟩=some (.int .i64 x)∧w.frozen? ⟨p,0,none⟩=false
theorem Own.alloc {w:World}{p:Nat}{x:Int}(h:Own w p x)(o:Obj):Own (w.alloc o) p x:=by
 have hb:=(Below.refl w.heap.size w).alloc (Nat.le_refl _) o
 exact⟨Nat.lt_of_lt_of_le h.1 hb.size,by rw[hb.cell (p:=⟨p,0,none⟩) h.1];exact h.2.1,by rw[hb.frozen (p:=⟨p,0,none⟩) h.1];exact h.2.2⟩
theorem Own.below {w w':World}{p:Nat}{x:Int}(h:Own w p x)(hb:Below w.heap.size w w'):Own w' p x:=
 ⟨Nat.lt_of_lt_of_le h.1 hb.size,by rw[hb.cell (p:=⟨p,0,none⟩) h.1];exact h.2.1,by rw[hb.frozen (p:=⟨p,0,none⟩) h.1];exact h.2.2⟩
theorem Own.set {w:World}{p:Nat}{x:Int}(h:Own w p x)(y:Int):Own (w.setCell ⟨p,0,none⟩ (.int .i64 y)) p y:=
 ⟨by simpa [World.setCell]using h.1,World.cell?_setCell_same _ _ _ h.2.1,by rw[World.frozen?_setCell];exact h.2.2⟩
theorem checkLit_any (p:Nat)(last v k:Int)(w:World)(ho:Own w p last):
 Calls Tryd.prog 29 #[.agg #[.int .i64 v,.int .i64 k],.pointer (some ⟨p,0,none⟩)] w fun e w'=>e= .returned (.bool (chk last v k))∧Own w' p v∧Below p w w':=by
 have O1:=Lib.hid ((ho.set v).alloc (.cells #[.int .i64 v,.int .i64 k] 35))
 have B1:=Lib.hid (((Below.refl p w).setCell (p:=⟨p,0,none⟩) (Nat.le_refl _) (.int .i64 v)).alloc (Nat.le_of_lt (ho.set v).1) (.cells #[.int .i64 v,.int .i64 k] 35))
 obtain⟨h1,h2,h3⟩:=ho
 by_cases a:last<v
 ·by_cases b:k=0
  ·subst b
   rw[chk_2 rfl]
   go_enter Tryd.func29,Tryd.ntmps29
   go_wp2_with fail
   go_ret
   exact⟨rfl,O1.out,B1.out⟩
  ·rw[chk_3 a b]
   have hk:(k != 0)=true:=by simpa using b
   go_enter Tryd.func29,Tryd.ntmps29
   go_wp2_with (go_at_call 30;refine(mayStand_any _ _ _).mono ?_;rintro e w' ⟨rfl,hb⟩)
   go_ret
   exact⟨rfl,O1.out.below hb,B1.out.trans (hb.mono (Nat.le_of_lt O1.out.1))⟩
 ·rw[chk_1 a]
  go_enter Tryd.func29,Tryd.ntmps29
  go_wp2_with fail
  go_ret
  exact⟨rfl,O1.out,B1.out⟩
end Lf
namespace Lf
open Go.RowKit
def lastAt (l:List (Int×Int))(i:Nat):Int:=if i=0 then -1 else(l.getD (i - 1) (0,0)).1
def okAt (l:List (Int×Int))(i:Nat):Bool:=chk (lastAt l i) (l.getD i (0,0)).1 (l.getD i (0,0)).2
def snd (c:Int)(l:List (Int×Int)):Bool:=wi c 1073741824 && (decide (l.length≤64) && decide (∀i,i<l.length→okAt l i=true))
theorem lastAt_zero (l:List (Int×Int)):lastAt l 0= -1:=rfl
theorem lastAt_succ (l:List (Int×Int))(i:Nat):lastAt l (i+1)=(l.getD i (0,0)).1:=by unfold lastAt;rw[if_neg (by omega)];rfl
theorem snd_iff {c:Int}{l:List (Int×Int)}:snd c l=true↔wi c 1073741824=true∧l.length≤64∧∀i,i<l.length→okAt l i=true:=by
 unfold snd;simp[Bool.and_eq_true]
theorem first_no (r:Nat→Bool):∀n,¬(∀i,i<n→r i=true)→∃j,j<n∧(∀i,i<j→r i=true)∧r j=false
 | 0,h=>absurd (fun i hi=>absurd hi (Nat.not_lt_zero i)) h
 | n+1,h=>by
   by_cases hn:∀i,i<n→r i=true
   ·refine⟨n,Nat.lt_succ_self n,hn, ?_⟩
    cases hr:r n with
    | false=>rfl
    | true=>exact absurd (fun i hi=>by
       by_cases e:i=n
       ·rw[e];exact hr
       ·exact hn i (by omega)) h
   ·obtain⟨j,hj,h1,h2⟩:=first_no r n hn
    exact⟨j,by omega,h1,h2⟩
theorem Tryd.enters25:∀args w,(callFunc 29 args).run Tryd.prog w= .ok (.enter 29 args) w:=fun _ _=>by kernel_rfl
theorem Own.new (w:World)(t:TypeId)(x:Int):Own (w.alloc (.cells #[.int .i64 x] t)) w.heap.size x:=by
 refine⟨by simp, ?_, ?_⟩
 ·exact cell_of_one (heap_alloc_new w _)
 ·exact free_of_one (heap_alloc_new w _)
theorem checkAll_yes (p:Nat)(a:Option Addr)(n cap:Nat)(l:List (Int×Int))(w:World)(B:Nat)(hB:B≤p)(hn:l.length=n)(hm:n≤64)(hl:Lies B w a l)(ho:Own w p (-1))(h:∀i,i<n→okAt l i=true):
 Calls Tryd.prog 28 #[.slice a n cap,.func (.func 29) #[] #[.pointer (some ⟨p,0,none⟩)]] w fun e w'=>e= .returned (.bool true)∧Below B w w':=
 (all_yes 29 #[.pointer (some ⟨p,0,none⟩)] a n cap l w (fun i W=>Own W p (lastAt l i)) (okAt l) Tryd.enters25 hn (by omega) B (Nat.le_trans hB (Nat.le_of_lt ho.1)) hl ho
   (fun _ _ o h=>h.alloc o)
   (fun i W _ _ hI=>(checkLit_any p (lastAt l i) (l.getD i (0,0)).1 (l.getD i (0,0)).2 W hI).mono fun _ _ ⟨he,ho',hb⟩=>⟨he,by rw[lastAt_succ];exact ho',hb.mono hB⟩)
   h).mono fun _ _ ⟨he,_,hb⟩=>⟨he,hb⟩
theorem checkAll_no (p:Nat)(a:Option Addr)(n cap:Nat)(l:List (Int×Int))(w:World)(B:Nat)(hB:B≤p)(hn:l.length=n)(hm:n≤64)(hl:Lies B w a l)(ho:Own w p (-1))(h:¬ ∀i,i<n→okAt l i=true):
 Calls Tryd.prog 28 #[.slice a n cap,.func (.func 29) #[] #[.pointer (some ⟨p,0,none⟩)]] w fun e w'=>e= .returned (.bool false)∧Below B w w':=by
 obtain⟨j,hj,h1,h2⟩:=first_no _ _ h
 exact(all_no 29 #[.pointer (some ⟨p,0,none⟩)] a n cap l w (fun i W=>Own W p (lastAt l i)) (okAt l) Tryd.enters25 hn (by omega) B (Nat.le_trans hB (Nat.le_of_lt ho.1)) hl ho
  (fun _ _ o h=>h.alloc o)
  (fun i W _ _ hI=>(checkLit_any p (lastAt l i) (l.getD i (0,0)).1 (l.getD i (0,0)).2 W hI).mono fun _ _ ⟨he,ho',hb⟩=>⟨he,by rw[lastAt_succ];exact ho',hb.mono hB⟩)
  j hj h1 h2).mono fun _ _ ⟨he,_,hb⟩=>⟨he,hb⟩
theorem check_yes (c:Int)(a:Option Addr)(n cap:Nat)(l:List (Int×Int))(w:World)(hn:l.length=n)(hl:Lies w.heap.size w a l)(hs:snd c l=true):
 Calls Tryd.prog 18 #[.agg #[.int .i64 c,.slice a n cap]] w fun e w'=>e= .returned .nilIface∧Below w.heap.size w w':=by
 obtain⟨hc,h64,hall⟩:=snd_iff.1 hs
 have hwi:=fun w=>within_any c 1073741824 w (by omega) (by omega)
 rw[hc]at hwi
 have h64':n≤64:=by omega
 rw[hn]at hall
 have hb:Below w.heap.size w ((w.alloc (.cells #[.int .i64 c,.slice a n cap] 38)).alloc (.cells #[.int .i64 (-1)] 3)):=((Below.refl _ w).alloc (Nat.le_refl _) _).alloc (by simp) _
 have hal:=checkAll_yes (w.heap.size+1) a n cap l _ w.heap.size (by omega) hn h64' (hl.below hb) (by have:=Own.new (w.alloc (.cells #[.int .i64 c,.slice a n cap] 38)) 3 (-1);simpa using this) hall
 have HB:=Lib.hid hb
 clear hn hs hall hl hc h64 hb
 go_enter Tryd.func18,Tryd.ntmps18
 go_wp2_with (first | (go_at_call 27;refine(hwi _).mono ?_;rintro e w' ⟨rfl,rfl⟩) | (go_at_call 28;refine hal.mono ?_;rintro e w' ⟨rfl,hb2⟩))
 go_ret
 exact⟨rfl,HB.out.trans hb2⟩
theorem check_no (c:Int)(a:Option Addr)(n cap:Nat)(l:List (Int×Int))(w:World)(hn:l.length=n)(hm:n≤9223372036854775807)(hl:Lies w.heap.size w a l)(hs:snd c l=false):
 Calls Tryd.prog 18 #[.agg #[.int .i64 c,.slice a n cap]] w fun e w'=>e= .returned (.iface 49 (.int .i64 5))∧Below w.heap.size w w':=by
 have hwi:=fun w=>within_any c 1073741824 w (by omega) (by omega)
 have hb:Below w.heap.size w ((w.alloc (.cells #[.int .i64 c,.slice a n cap] 38)).alloc (.cells #[.int .i64 (-1)] 3)):=((Below.refl _ w).alloc (Nat.le_refl _) _).alloc (by simp) _
 by_cases hc:wi c 1073741824=true
 ·rw[hc]at hwi
  by_cases h64:n≤64
  ·have hno:¬ ∀i,i<n→okAt l i=true:=fun h=>by
    have:=(snd_iff (c:=c) (l:=l)).2 ⟨hc,by omega,by rw[hn];exact h⟩
    rw[hs]at this;cases this
   have hal:=checkAll_no (w.heap.size+1) a n cap l _ w.heap.size (by omega) hn h64 (hl.below hb) (by have:=Own.new (w.alloc (.cells #[.int .i64 c,.slice a n cap] 38)) 3 (-1);simpa using this) hno
   have HB:=Lib.hid hb
   clear hn hs hl hc hb hno
   go_enter Tryd.func18,Tryd.ntmps18
   go_wp2_with (first | (go_at_call 27;refine(hwi _).mono ?_;rintro e w' ⟨rfl,rfl⟩) | (go_at_call 28;refine hal.mono ?_;rintro e w' ⟨rfl,hb2⟩))
   go_ret
   exact⟨rfl,HB.out.trans hb2⟩
  ·clear hn hs hl hc hb
   go_enter Tryd.func18,Tryd.ntmps18
   go_wp2_with (go_at_call 27;refine(hwi _).mono ?_;rintro e w' ⟨rfl,rfl⟩)
   go_ret
   exact⟨rfl,(Below.refl _ w).alloc (Nat.le_refl _) _⟩
 ·have hc':wi c 1073741824=false:=by simpa using hc
  rw[hc']at hwi
  clear hn hs hl hc hc' hb
  go_enter Tryd.func18,Tryd.ntmps18
  go_wp2_with (go_at_call 27;refine(hwi _).mono ?_;rintro e w' ⟨rfl,rfl⟩)
  go_ret
  exact⟨rfl,(Below.refl _ w).alloc (Nat.le_refl _) _⟩
end Lf
namespace Lf
open Go.RowKit
theorem okAt_in {l:List (Int×Int)}{i:Nat}(h:okAt l i=true):lastAt l i<(l.getD i (0,0)).1∧(l.getD i (0,0)).2≠0∧0≤(l.getD i (0,0)).1∧(l.getD i (0,0)).1<1048576∧ -1073741824≤(l.getD i (0,0)).2∧(l.getD i (0,0)).2≤1073741824:=by
 unfold okAt chk mst wi at h
 simp only[Bool.and_eq_true,decide_eq_true_eq]at h
 exact⟨h.1,h.2.1,h.2.2.1.1,h.2.2.1.2,h.2.2.2.1,h.2.2.2.2⟩
end Lf
namespace Lf
open Go.RowKit
theorem okAt_mk {l:List (Int×Int)}{i:Nat}(h:lastAt l i<(l.getD i (0,0)).1∧(l.getD i (0,0)).2≠0∧0≤(l.getD i (0,0)).1∧(l.getD i (0,0)).1<1048576∧ -1073741824≤(l.getD i (0,0)).2∧(l.getD i (0,0)).2≤1073741824):okAt l i=true:=by
 unfold okAt chk mst wi
 simp only[Bool.and_eq_true,decide_eq_true_eq]
 exact⟨h.1,h.2.1,⟨h.2.2.1,h.2.2.2.1⟩,h.2.2.2.2⟩
end Lf
namespace Lf
open Go.RowKit
def flat (l:List (Int×Int)):List Value:=l.flatMap fun m=>[.int .i64 m.1,.int .i64 m.2]
theorem flat_len (l:List (Int×Int)):(flat l).length=l.length*2:=by
 induction l with
 | nil=>rfl
 | cons a r ih=>simp[flat]at ih⊢;omega
theorem flat_append (l r:List (Int×Int)):flat (l ++ r)=flat l ++ flat r:=by simp[flat]
theorem flat_get:∀(l:List (Int×Int)) (i:Nat),i<l.length→(flat l)[i*2]? =some (.int .i64 (l.getD i (0,0)).1)∧(flat l)[i*2+1]? =some (.int .i64 (l.getD i (0,0)).2)
 | a :: r,0,_=>⟨rfl,rfl⟩
 | a :: r,i+1,h=>by
   have:=flat_get r i (by simpa using h)
   have e:flat (a :: r)= .int .i64 a.1 :: .int .i64 a.2 :: flat r:=rfl
   rw[e,show(i+1)*2=i*2+1+1 by omega]
   simpa using this
def Row (B:Nat)(l:List (Int×Int))(v:Value)(w:World):Prop:=w.ownsRow B 35 2 v l.length (flat l)
theorem Row.lies {B:Nat}{l:List (Int×Int)}{v:Value}{w:World}(h:Row B l v w):∃a cap,v= .slice a l.length cap∧Lies w.heap.size w a l∧(a=none→l.length=0∧cap=0):=by
 have hc:=fun g=>World.ownsRow.cells h (g:=g)
 have hlt:=World.ownsRow.lt h
 obtain⟨_,h1 | ⟨g,cap,cur,hv,h2⟩⟩:=h
 ·refine⟨none,0,by rw[h1.1,h1.2],fun i hi=>by omega,fun _=>⟨h1.2,rfl⟩⟩
 ·subst hv
  refine⟨some ⟨g,0,none⟩,cap,rfl,fun i hi=>⟨g,0,rfl,(hlt g rfl).2, ?_, ?_⟩,fun e=>by cases e⟩
  ·have:=hc g rfl (i*2) _ (flat_get l i hi).1
   rwa [show(⟨g,0,none⟩:Addr).add (i*2)=⟨g,0+i*2,none⟩ by unfold Addr.add;split<;>simp_all]at this
  ·have:=hc g rfl (i*2+1) _ (flat_get l i hi).2
   rwa [show(⟨g,0,none⟩:Addr).add (i*2+1)=⟨g,0+i*2+1,none⟩ by unfold Addr.add;simp]at this
theorem Tryd.infoMono:(Tryd.prog.info? 35).map (fun i=>(i.zero,i.size,i.bytes))=some (some (.agg #[.int .i64 0,.int .i64 0]),2,16):=by kernel_rfl
theorem Lies.news {B:Nat}{w:World}{a:Addr}{l:List (Int×Int)}(h:Lies B w (some a) l):∀j u,(flat l)[j]? =some u→w.cell? (a.add j)=some u:=by
 intro j u hj
 have hjl:j<l.length*2:=by rw[←flat_len];exact(List.getElem?_eq_some_iff.1 hj).1
 obtain⟨b,off,ha,_,h1,h2⟩:=h (j / 2) (by omega)
 injection ha with ha
 subst ha
 have hg:=flat_get l (j / 2) (by omega)
 rcases Nat.mod_two_eq_zero_or_one j with hm | hm
 ·have e:j / 2*2=j:=by omega
  rw[e]at hg h1
  rw[hg.1]at hj
  injection hj with hj
  subst hj
  unfold Addr.add
  split
  ·rename_i h0;subst h0;simpa using h1
  ·exact h1
 ·have e:j / 2*2+1=j:=by omega
  rw[Nat.add_assoc,e]at h2
  rw[e]at hg
  rw[hg.2]at hj
  injection hj with hj
  subst hj
  unfold Addr.add
  rw[if_neg (by omega)]
  exact h2
theorem flat_cells (l:List (Int×Int)):∀u∈flat l,u.oneCell'=true:=by
 intro u hu
 simp only[flat,List.mem_flatMap]at hu
 obtain⟨m,_,hm⟩:=hu
 simp at hm
 rcases hm with rfl | rfl<;>rfl
def RowEnd (B:Nat)(l:List (Int×Int))(w:World)(e:Ending)(w':World):Prop:=∃v,e= .returned v∧Row B l v w'∧Below B w w'
theorem clone_any (a:Option Addr)(n cap:Nat)(l:List (Int×Int))(w:World)(hn:l.length=n)(hm:n≤8192)(hl:Lies w.heap.size w a l)(hnil:a=none→n=0∧cap=0):
 Calls Tryd.prog 16 #[.slice a n cap] w (RowEnd w.heap.size l w):=by
 have he:=fun W:World=>Lib.run_eql_slice_nil (P:=Tryd.prog) W 36 35 a n cap 0 0 Tryd.underlying36
 cases a with
 | none=>
   obtain⟨rfl,rfl⟩:=hnil rfl
   have HN:=Lib.hid hn
   clear hn hl hnil
   go_enter Tryd.func16,Tryd.ntmps16
   go_wp2_with fail
   go_ret
   exact⟨_,rfl,by rw[List.eq_nil_of_length_eq_zero HN.out];exact World.ownsRow_nil _ _ _ _,Below.refl _ _⟩
 | some a=>
   obtain⟨i0,hi,hz0,hz1,hz2⟩:=info_parts Tryd.infoMono
   have HN:=Lib.hid hn
   have HL:=Lib.hid hl
   clear hn hl hnil
   go_enter Tryd.func16,Tryd.ntmps16
   have hown:(w.alloc (.cells #[] 35)).ownsRow w.heap.size 35 2 (.slice (some ⟨w.heap.size,0,none⟩) 0 0) 0 []:=World.ownsRow_made w #[] 0 (Nat.le_refl _) (by decide) rfl
   have HB:=Lib.hid ((Below.refl w.heap.size w).alloc (Nat.le_refl _) (.cells #[] 35))
   go_wp2_with (at_builtin;refine wpList_append_own _ rfl _ _ 36 rfl w.heap.size 35 i0 _ 2 16 Tryd.underlying36 hi hz0 hz1 hz2 rfl (by decide) _ _ _ rfl hown a n cap (flat l) rfl ?c1 ?c2 ?c3 ?c4 ?c5 ?c6 ?_)
   case c1=>rw[flat_len,HN.out]
   case c2=>exact(HL.out.below HB.out).news
   case c3=>exact flat_cells l
   case c4=>unfold maxLen;omega
   case c5=>omega
   case c6=>simp
   intro v' w1 hown' hgrow _
   go_wp2_with fail
   go_ret
   refine⟨_,rfl, ?_,HB.out.grown hgrow (by simp) (fun k hk=>(hown.lt k hk).1)⟩
   unfold Row
   rw[HN.out]
   simpa using hown'
theorem take_snoc (l:List (Int×Int))(k:Nat)(h:k<l.length):l.take (k+1)=l.take k ++ [l.getD k (0,0)]:=by
 rw[List.take_succ_eq_append_getElem h]
 simp[List.getD_eq_getElem?_getD,h]
theorem Row.alloc {B:Nat}{l:List (Int×Int)}{v:Value}{w:World}(h:Row B l v w)(o:Obj):Row B l v (w.alloc o):=World.ownsRow.alloc h o
theorem cell_two_new' (w:World)(x y:Value)(t:TypeId):∀j u,[x,y][j]? =some u→(w.alloc (.cells #[x,y] t)).cell? ((⟨w.heap.size,0,none⟩:Addr).add j)=some u:=by
 intro j u hj
 match j,hj with
 | 0,hj=>simp at hj;subst hj;simp[Addr.add]
 | 1,hj=>simp at hj;subst hj;simp[Addr.add]
theorem drop_any (a:Option Addr)(n cap:Nat)(l:List (Int×Int))(w:World)(hn:l.length=n)(hm:n≤8192)(hl:Lies w.heap.size w a l):
 Calls Tryd.prog 45 #[.slice a n cap] w (RowEnd w.heap.size (l.filter fun m=>m.2 != 0) w):=by
 obtain⟨i0,hi,hz0,hz1,hz2⟩:=info_parts Tryd.infoMono
 have HN:=Lib.hid hn
 have HL:=Lib.hid hl
 clear hn hl
 go_enter Tryd.func45,Tryd.ntmps45
 go_wp2
 go_loopw [3,8] (fun s i wr=>∃k:Nat,k≤n∧i= .int .i64 k∧Hid (Row w.heap.size ((l.take k).filter fun m=>m.2 != 0) s wr)∧Below w.heap.size w wr) (fun _ i _=>n - (intOf i).toNat)
 case atStart=>exact⟨0,Nat.zero_le _,rfl,World.ownsRow_nil _ _ _ _,Below.refl _ _⟩
 case round=>
  obtain⟨k,hk,rfl,hrow,hb⟩:=hrel
  by_cases hlt:k<n
  ·obtain⟨b,off,rfl,hblt,c1,c2⟩:=(HL.out.below hb) k (by rw[HN.out];exact hlt)
   have hts:=take_snoc l k (by rw[HN.out];exact hlt)
   have hlen:((l.take k).filter fun m=>m.2 != 0).length≤k:=Nat.le_trans (List.length_filter_le _ _) (by rw[List.length_take];omega)
   generalize hg:l.getD k (0,0)=m at c1 c2 hts
   obtain⟨v,u⟩:=m
   by_cases hu:u=0
   ·have HT:Hid ((l.take (k+1)).filter (fun m=>m.2 != 0)=(l.take k).filter fun m=>m.2 != 0):=by
     show _=_;rw[hts,List.filter_append];simp[hu]
    subst hu
    clear hts hg
    have hrow2:Hid (Row w.heap.size ((l.take (k+1)).filter fun m=>m.2 != 0) u3 wr):=by show Row _ _ _ _;rw[HT.out];exact hrow.out
    go_wp2
    go_roundw
    case rel=>exact⟨k+1,by omega,by go_num,hrow2.out.alloc _,hb.alloc hb.size _⟩
    case measure=>simp[intOf];omega
   ·have hu2:(u != 0)=true:=by simpa using hu
    have HT:Hid ((l.take (k+1)).filter (fun m=>m.2 != 0)=((l.take k).filter fun m=>m.2 != 0) ++ [(v,u)]):=by
     show _=_;rw[hts,List.filter_append];simp[hu]
    generalize (l.take k).filter (fun m=>m.2 != 0)=r at hrow hlen HT
    clear hts hg
    go_wp2_with (at_builtin;refine wpList_append_own _ rfl _ _ 36 rfl w.heap.size 35 i0 _ 2 16 Tryd.underlying36 hi hz0 hz1 hz2 rfl (by decide) u3 r.length (flat r) rfl ((hrow.out.alloc _).alloc _) ⟨wr.heap.size+1,0,none⟩ 1 1 [.int .i64 v,.int .i64 u] rfl rfl ?c2 ?c3 ?c4 ?c5 ?c6 ?_)
    case c3=>exact⟨rfl,rfl⟩
    case c4=>unfold maxLen;omega
    case c5=>omega
    case c6=>have:=hb.size;simp;omega
    intro v' w1 hown' hgrow _
    have HO:Hid (Row w.heap.size ((l.take (k+1)).filter fun m=>m.2 != 0) v' w1):=by
     show Row _ _ _ _
     rw[HT.out]
     unfold Row
     rw[List.length_append,flat_append]
     exact hown'
    have HB:Below w.heap.size w w1:=((hb.alloc hb.size _).alloc (by have:=hb.size;simp;omega) _).grown hgrow (by have:=hb.size;simp;omega) (fun k hk=>(World.ownsRow.lt hrow.out k hk).1)
    clear hown' hgrow hrow
    go_wp2
    go_roundw
    case rel=>exact⟨k+1,by omega,by go_num,HO,HB⟩
    case measure=>simp[intOf];omega
  ·have HT:Hid (Row w.heap.size (l.filter fun m=>m.2 != 0) u3 wr):=by
    have:=hrow.out
    rwa [List.take_of_length_le (by rw[HN.out];omega)]at this
   clear hrow
   go_wp2
   go_ret
   exact⟨_,rfl,HT.out,hb⟩
end Lf
namespace Lf
open Go.RowKit
def togStep (r:List (Int×Int))(m:Int×Int):List (Int×Int):=
 match r.getLast? with
 | some p=>if p.1=m.1 then r.dropLast ++ [(p.1,p.2+m.2)] else r ++ [m]
 | none=>r ++ [m]
theorem togStep_nil (m:Int×Int):togStep [] m=[m]:=rfl
theorem togStep_eq (r:List (Int×Int))(v k u:Int):togStep (r ++ [(v,k)]) (v,u)=r ++ [(v,k+u)]:=by
 unfold togStep;simp
theorem togStep_ne (r:List (Int×Int))(p:Int×Int)(m:Int×Int)(h:p.1≠m.1):togStep (r ++ [p]) m=(r ++ [p]) ++ [m]:=by
 unfold togStep;simp[h]
def tog (l:List (Int×Int)):List (Int×Int):=l.foldl togStep []
theorem tog_snoc (l:List (Int×Int))(m:Int×Int):tog (l ++ [m])=togStep (tog l) m:=by unfold tog;rw[List.foldl_append];rfl
theorem snoc_cases {α:Type}(r:List α):r=[]∨∃r' p,r=r' ++ [p]:=by
 rcases List.eq_nil_or_concat r with h | ⟨a,b,h⟩
 ·exact .inl h
 ·exact .inr ⟨a,b,by rw[h,List.concat_eq_append]⟩
def Bd (M:Int)(l:List (Int×Int)):Prop:=∀m∈l, -M≤m.2∧m.2≤M
theorem Bd.step {M B:Int}{r:List (Int×Int)}{m:Int×Int}(h:Bd M r)(hM:0≤M)(hB: -B≤m.2∧m.2≤B):Bd (M+B) (togStep r m):=by
 obtain⟨v,u⟩:=m
 rcases snoc_cases r with rfl | ⟨r',⟨pv,pk⟩,rfl⟩
 ·rw[togStep_nil];intro x hx;simp at hx;subst hx;simp only at hB⊢;omega
 ·have hp:=h (pv,pk) (by simp)
  by_cases e:pv=v
  ·subst e
   rw[togStep_eq]
   intro x hx
   rcases List.mem_append.1 hx with hx | hx
   ·have:=h x (by simp[hx]);simp only at hB;omega
   ·simp at hx;subst hx;simp only at hB hp⊢;omega
  ·rw[togStep_ne _ _ _ e]
   intro x hx
   rcases List.mem_append.1 hx with hx | hx
   ·have:=h x hx;simp only at hB;omega
   ·simp at hx;subst hx;simp only at hB⊢;omega
theorem tog_bd (B:Int)(hB:0≤B)(l:List (Int×Int))(h:Bd B l):∀k,k≤l.length→Bd (k*B) (tog (l.take k))
 | 0,_=>by intro m hm;simp[tog]at hm
 | k+1,hk=>by
   rw[take_snoc l k (by omega),tog_snoc]
   have h1:=tog_bd B hB l h k (by omega)
   have h2:=h (l.getD k (0,0)) (by rw[List.getD_eq_getElem?_getD,List.getElem?_eq_getElem (by omega)];simp)
   have:=h1.step (Int.mul_nonneg (by omega) hB) h2
   rwa [show((k+1:Nat):Int)*B=k*B+B by rw[Int.natCast_add,Int.add_mul];simp]
theorem tog_len (l:List (Int×Int)):∀k,k≤l.length→(tog (l.take k)).length≤k
 | 0,_=>by simp[tog]
 | k+1,hk=>by
   have h1:=tog_len l k (by omega)
   rw[take_snoc l k (by omega),tog_snoc]
   generalize tog (l.take k)=r at h1
   generalize l.getD k (0,0)=m
   obtain⟨v,u⟩:=m
   rcases snoc_cases r with rfl | ⟨r',⟨pv,pk⟩,rfl⟩
   ·simp[togStep_nil]
   ·simp at h1
    by_cases e:pv=v
    ·subst e;rw[togStep_eq];simp;omega
    ·rw[togStep_ne _ _ _ e];simp;omega
theorem flat_last (r:List (Int×Int))(v k:Int):(flat (r ++ [(v,k)]))[r.length*2]? =some (.int .i64 v)∧(flat (r ++ [(v,k)]))[r.length*2+1]? =some (.int .i64 k):=by
 have:=flat_get (r ++ [(v,k)]) r.length (by simp)
 simpa using this
theorem flat_set (r:List (Int×Int))(v k x:Int):(flat (r ++ [(v,k)])).set (r.length*2+1) (.int .i64 x)=flat (r ++ [(v,x)]):=by
 rw[flat_append,flat_append,List.set_append_right _ _ (by rw[flat_len];omega),flat_len,show r.length*2+1 - r.length*2=1 by omega]
 rfl
theorem two_at' (w:World)(o:Obj)(q:Nat)(x y:Value)(t:TypeId):∀j u,[x,y][j]? =some u→(((w.alloc o).drewN q).alloc (.cells #[x,y] t)).cell? ((⟨w.heap.size+1,0,none⟩:Addr).add j)=some u:=by
 intro j u hj
 have h:=cell_two_new' ((w.alloc o).drewN q) x y t j u hj
 have e:((w.alloc o).drewN q).heap.size=w.heap.size+1:=by
  show(w.alloc o).heap.size=_
  simp
 rwa [e]at h
theorem ownsRow_drewN {w:World}{base:Nat}{e:TypeId}{size:Nat}{v:Value}{n:Nat}{xs:List Value}(h:w.ownsRow base e size v n xs)(k:Nat):(w.drewN k).ownsRow base e size v n xs:=h
theorem together_any (a:Option Addr)(n cap:Nat)(l:List (Int×Int))(w:World)(hn:l.length=n)(hm:n≤8192)(hl:Lies w.heap.size w a l)(hbd:Bd 4398046511104 l):
 Calls Tryd.prog 46 #[.slice a n cap] w (RowEnd w.heap.size (tog l) w):=by
 obtain⟨i0,hi,hz0,hz1,hz2⟩:=info_parts Tryd.infoMono
 have HN:=Lib.hid hn
 have HL:=Lib.hid hl
 have HBD:=Lib.hid hbd
 clear hn hl hbd
 go_enter Tryd.func46,Tryd.ntmps46
 go_wp2
 go_loopw [3,9] (fun s i wr=>∃k:Nat,k≤n∧i= .int .i64 k∧Hid (Row w.heap.size (tog (l.take k)) s wr)∧Below w.heap.size w wr) (fun _ i _=>n - (intOf i).toNat)
 case atStart=>exact⟨0,Nat.zero_le _,rfl,World.ownsRow_nil _ _ _ _,Below.refl _ _⟩
 case round=>
  obtain⟨k,hk,rfl,hrow,hb⟩:=hrel
  by_cases hlt:k<n
  ·obtain⟨b,off,rfl,hblt,c1,c2⟩:=(HL.out.below hb) k (by rw[HN.out];exact hlt)
   have hts:=take_snoc l k (by rw[HN.out];exact hlt)
   have hbdk:=tog_bd _ (by decide) l HBD.out k (by rw[HN.out];exact hk)
   have hlen:=tog_len l k (by rw[HN.out];exact hk)
   have hbm:=HBD.out (l.getD k (0,0)) (by rw[List.getD_eq_getElem?_getD,List.getElem?_eq_getElem (by rw[HN.out];exact hlt)];simp)
   have htog:=tog_snoc (l.take k) (l.getD k (0,0))
   rw[←hts]at htog
   clear hts
   generalize hg:l.getD k (0,0)=m at c1 c2 hbm htog
   clear hg
   obtain⟨v,u⟩:=m
   generalize tog (l.take k)=r at hrow hlen hbdk htog
   rcases snoc_cases r with rfl | ⟨r',⟨pv,pk⟩,rfl⟩
   ·have HT:Hid (tog (l.take (k+1))=[] ++ [(v,u)]):=htog.trans (togStep_nil _)
    clear htog
    rcases Joins.ownsRow_forms hrow.out with ⟨rfl,_⟩ | ⟨g,cap',rfl⟩
    ·have HR:Hid (wr.ownsRow w.heap.size 35 2 (.slice none 0 0) 0 []):=hrow.out
     clear hrow
     go_wp2_with fail
     go_quiet (fail)
     go_wp2_with (at_builtin;refine wpList_append_own _ rfl _ _ 36 rfl w.heap.size 35 i0 _ 2 16 Tryd.underlying36 hi hz0 hz1 hz2 rfl (by decide) (.slice none 0 0) 0 (flat ([]:List (Int×Int))) rfl (World.ownsRow.alloc (ownsRow_drewN (World.ownsRow.alloc HR.out _) _) _) ⟨wr.heap.size+1,0,none⟩ 1 1 [.int .i64 v,.int .i64 u] rfl rfl ?c2 ?c3 ?c4 ?c5 ?c6 ?_)
     case c2=>exact fun j x hj=>two_at' wr _ nq _ _ _ j x hj
     case c3=>first | exact⟨rfl,rfl⟩ | exact flat_cells [(v,u)]
     case c4=>unfold maxLen;omega
     case c5=>omega
     case c6=>have:=hb.size;simp;omega
     intro v' w1 hown' hgrow _
     have HO:Hid (Row w.heap.size (tog (l.take (k+1))) v' w1):=by
      show Row _ _ _ _
      rw[HT.out]
      unfold Row
      rw[List.length_append,flat_append]
      exact hown'
     have HB:Below w.heap.size w w1:=((below_drewN (hb.alloc hb.size _) _).alloc (by have:=hb.size;simp;omega) _).grown hgrow (by have:=hb.size;simp;omega) (fun j hj=>(World.ownsRow.lt HR.out j hj).1)
     clear hown' hgrow HR
     go_wp2
     go_roundw
     case rel=>exact⟨k+1,by omega,by go_num,HO,HB⟩
     case measure=>simp[intOf];omega
    ·have HR:Hid (wr.ownsRow w.heap.size 35 2 (.slice (some ⟨g,0,none⟩) 0 cap') 0 []):=hrow.out
     clear hrow
     simp only[List.length_nil]
     go_wp2_with fail
     go_quiet (fail)
     go_wp2_with (at_builtin;refine wpList_append_own _ rfl _ _ 36 rfl w.heap.size 35 i0 _ 2 16 Tryd.underlying36 hi hz0 hz1 hz2 rfl (by decide) (.slice (some ⟨g,0,none⟩) 0 cap') 0 (flat ([]:List (Int×Int))) rfl (World.ownsRow.alloc (ownsRow_drewN (World.ownsRow.alloc HR.out _) _) _) ⟨wr.heap.size+1,0,none⟩ 1 1 [.int .i64 v,.int .i64 u] rfl rfl ?c2 ?c3 ?c4 ?c5 ?c6 ?_)
     case c2=>exact fun j x hj=>two_at' wr _ nq _ _ _ j x hj
     case c3=>first | exact⟨rfl,rfl⟩ | exact flat_cells [(v,u)]
     case c4=>unfold maxLen;omega
     case c5=>omega
     case c6=>have:=hb.size;simp;omega
     intro v' w1 hown' hgrow _
     have HO:Hid (Row w.heap.size (tog (l.take (k+1))) v' w1):=by
      show Row _ _ _ _
      rw[HT.out]
      unfold Row
      rw[List.length_append,flat_append]
      exact hown'
     have HB:Below w.heap.size w w1:=((below_drewN (hb.alloc hb.size _) _).alloc (by have:=hb.size;simp;omega) _).grown hgrow (by have:=hb.size;simp;omega) (fun j hj=>(World.ownsRow.lt HR.out j hj).1)
     clear hown' hgrow HR
     go_wp2
     go_roundw
     case rel=>exact⟨k+1,by omega,by go_num,HO,HB⟩
     case measure=>simp[intOf];omega
   ·obtain⟨g,cap',rfl⟩:=Joins.ownsRow_form hrow.out (by simp)
    have hrl:(r' ++ [(pv,pk)]).length=r'.length+1:=by simp
    obtain⟨q,hq⟩:∃q,q=r'.length:=⟨_,rfl⟩
    rw[hrl,←hq]at hlen
    have HR:Hid (wr.ownsRow w.heap.size 35 2 (.slice (some ⟨g,0,none⟩) (q+1) cap') (q+1) (flat (r' ++ [(pv,pk)]))):=by
     have:=hrow.out;unfold Row at this;rw[hrl,←hq]at this;exact this
    have hp1:=(World.ownsRow.cellAt HR.out (q*2) (by omega)).trans (hq ▸ (flat_last r' pv pk).1)
    have hp2:=(World.ownsRow.cellAt HR.out (q*2+1) (by omega)).trans (hq ▸ (flat_last r' pv pk).2)
    have hpf:=World.ownsRow.frozenAt HR.out (q*2+1)
    have hglt:=(World.ownsRow.lt HR.out g rfl)
    have hpk:=hbdk (pv,pk) (by simp)
    rw[hrl,←hq]
    have HQ:=Lib.hid hq
    clear hrow hq hrl
    have hw1:IntKind.i64.wrap ((q:Int)+1 - 1)=q:=by rw[show(q:Int)+1 - 1=q by omega];exact IntWalk.i64_in _ (by omega)
    have hw2:IntKind.i64.wrap (q:Int)=q:=IntWalk.i64_in _ (by omega)
    have hg2:g<wr.heap.size:=hglt.2
    by_cases e:pv=v
    ·subst e
     have HT:Hid (tog (l.take (k+1))=r' ++ [(pv,pk+u)]):=htog.trans (togStep_eq _ _ _ _)
     have hbk: -(8192*4398046511104)≤pk∧pk≤8192*4398046511104:=by
      simp only at hpk
      have:(k:Int)*4398046511104≤8192*4398046511104:=Int.mul_le_mul_of_nonneg_right (by omega) (by omega)
      omega
     clear htog hpk hbdk
     simp only at hbm
     go_wp2_with fail
     go_quiet (fail)
     go_wp2_with fail
     go_region
     have HO:Hid (∀W:World,W.ownsRow w.heap.size 35 2 (.slice (some ⟨g,0,none⟩) (q+1) cap') (q+1) (flat (r' ++ [(pv,pk)]))→Row w.heap.size (tog (l.take (k+1))) (.slice (some ⟨g,0,none⟩) (q+1) cap') (W.setCell ⟨g,q*2+1,none⟩ (.int .i64 (pk+u)))):=fun W hW=>by
      have h1:=(World.ownsRow.stored hW (q*2+1) (.int .i64 (pk+u))).1
      rw[HQ.out,flat_set]at h1
      rw[HT.out]
      unfold Row
      rw[List.length_append,HQ.out]
      exact h1
     go_wp2
     go_roundw
     case rel=>exact⟨k+1,by omega,by go_num,HO.out _ (ownsRow_drewN (World.ownsRow.alloc HR.out _) (nq+1)),(below_drewN (hb.alloc hb.size _) (nq+1)).setCell (p:=⟨g,q*2+1,none⟩) hglt.1 _⟩
     case measure=>simp[intOf];omega
    ·have HT:Hid (tog (l.take (k+1))=(r' ++ [(pv,pk)]) ++ [(v,u)]):=htog.trans (togStep_ne _ _ _ e)
     have e':(pv == v)=false:=by simpa using e
     clear htog e
     go_wp2_with fail
     go_quiet (fail)
     go_wp2_with (at_builtin;refine wpList_append_own _ rfl _ _ 36 rfl w.heap.size 35 i0 _ 2 16 Tryd.underlying36 hi hz0 hz1 hz2 rfl (by decide) (.slice (some ⟨g,0,none⟩) (q+1) cap') (q+1) (flat (r' ++ [(pv,pk)])) rfl (World.ownsRow.alloc (ownsRow_drewN (World.ownsRow.alloc HR.out _) _) _) ⟨wr.heap.size+1,0,none⟩ 1 1 [.int .i64 v,.int .i64 u] rfl rfl ?c2 ?c3 ?c4 ?c5 ?c6 ?_)
     case c2=>exact fun j x hj=>two_at' wr _ nq _ _ _ j x hj
     case c3=>first | exact⟨rfl,rfl⟩ | exact flat_cells [(v,u)]
     case c4=>unfold maxLen;omega
     case c5=>omega
     case c6=>have:=hb.size;simp;omega
     intro v' w1 hown' hgrow _
     have HO:Hid (Row w.heap.size (tog (l.take (k+1))) v' w1):=by
      show Row _ _ _ _
      rw[HT.out]
      unfold Row
      rw[List.length_append,flat_append,List.length_append,←HQ.out]
      exact hown'
     have HB:Below w.heap.size w w1:=((below_drewN (hb.alloc hb.size _) _).alloc (by have:=hb.size;simp;omega) _).grown hgrow (by have:=hb.size;simp;omega) (fun j hj=>(World.ownsRow.lt HR.out j hj).1)
     clear hown' hgrow HR
     go_wp2
     go_roundw
     case rel=>exact⟨k+1,by omega,by go_num,HO,HB⟩
     case measure=>simp[intOf];omega
  ·have HT:Hid (Row w.heap.size (tog l) u3 wr):=by
    have:=hrow.out
    rwa [List.take_of_length_le (by rw[HN.out];omega)]at this
   clear hrow
   go_wp2
   go_ret
   exact⟨_,rfl,HT.out,hb⟩
end Lf
section
open Go.Shelf
def Tryd.sortMono_ren:Go.Shelf.Ren:=⟨fun | 6=>42 | 15=>69 | 14=>68 | 28=>87 | 29=>88 | 20=>79 | 21=>80 | 22=>81 | 23=>82 | 24=>83 | 25=>84 | 26=>85 | 27=>86 | 46=>89 | 47=>90 | 48=>91 | 49=>92 | 50=>93 | 57=>94 | n=>n,fun | 22=>36 | 24=>35 | 25=>97 | 3=>3 | 39=>116 | 0=>0 | 53=>132 | 55=>134 | 4=>4 | 46=>125 | 45=>124 | 50=>129 | 5=>5 | 9=>9 | 66=>135 | 70=>139 | 76=>141 | 77=>142 | n=>n,fun | n=>n⟩
theorem Tryd.sortMono:Go.Proofs.SlLaysF0.n6 Tryd.prog Tryd.sortMono_ren:={
 mixed:=by kernel_rfl
 f6:=⟨Tryd.f42.name,by decide,Tryd.func42.trans (congrArg some (by kernel_rfl))⟩
 f14:=⟨Tryd.f68.name,by decide,Tryd.func68.trans (congrArg some (by kernel_rfl))⟩
 f15:=Tryd.func69.trans (congrArg some (by kernel_rfl))
 f20:=⟨Tryd.f79.name,by decide,Tryd.func79.trans (congrArg some (by kernel_rfl))⟩
 f21:=⟨Tryd.f80.name,by decide,Tryd.func80.trans (congrArg some (by kernel_rfl))⟩
 f22:=⟨Tryd.f81.name,by decide,Tryd.func81.trans (congrArg some (by kernel_rfl))⟩
 f23:=⟨Tryd.f82.name,by decide,Tryd.func82.trans (congrArg some (by kernel_rfl))⟩
 f24:=⟨Tryd.f83.name,by decide,Tryd.func83.trans (congrArg some (by kernel_rfl))⟩
 f25:=⟨Tryd.f84.name,by decide,Tryd.func84.trans (congrArg some (by kernel_rfl))⟩
 f26:=⟨Tryd.f85.name,by decide,Tryd.func85.trans (congrArg some (by kernel_rfl))⟩
 f27:=⟨Tryd.f86.name,by decide,Tryd.func86.trans (congrArg some (by kernel_rfl))⟩
 f28:=Tryd.func87.trans (congrArg some (by kernel_rfl))
 f29:=Tryd.func88.trans (congrArg some (by kernel_rfl))
 f46:=⟨Tryd.f89.name,by decide,Tryd.func89.trans (congrArg some (by kernel_rfl))⟩
 f47:=Tryd.func90.trans (congrArg some (by kernel_rfl))
 f48:=Tryd.func91.trans (congrArg some (by kernel_rfl))
 f49:=⟨Tryd.f92.name,by decide,Tryd.func92.trans (congrArg some (by kernel_rfl))⟩
 f50:=⟨Tryd.f93.name,by decide,Tryd.func93.trans (congrArg some (by kernel_rfl))⟩
 f57:=⟨Tryd.f94.name,by decide,Tryd.func94.trans (congrArg some (by kernel_rfl))⟩
 t0:=Tryd.underlying0
 a0:=Tryd.isAgg0
 z0:=Tryd.sizeOf0
 v0:=Tryd.zeroValue0
 t3:=Tryd.underlying3
 a3:=Tryd.isAgg3
 z3:=Tryd.sizeOf3
 v3:=Tryd.zeroValue3
 t4:=Tryd.underlying4
 a4:=Tryd.isAgg4
 z4:=Tryd.sizeOf4
 v4:=Tryd.zeroValue4
 t5:=Tryd.underlying5
 a5:=Tryd.isAgg5
 z5:=Tryd.sizeOf5
 v5:=Tryd.zeroValue5
 t9:=Tryd.underlying9
 a9:=Tryd.isAgg9
 z9:=Tryd.sizeOf9
 v9:=Tryd.zeroValue9
 t22:=Tryd.underlying36
 a22:=Tryd.isAgg36
 z22:=Tryd.sizeOf36
 v22:=Tryd.zeroValue36
 t25:=Tryd.underlying97
 a25:=Tryd.isAgg97
 z25:=Tryd.sizeOf97
 v25:=Tryd.zeroValue97
 t39:=Tryd.underlying116
 a39:=Tryd.isAgg116
 z39:=Tryd.sizeOf116
 v39:=Tryd.zeroValue116
 t45:=Tryd.underlying124
 a45:=Tryd.isAgg124
 z45:=Tryd.sizeOf124
 v45:=Tryd.zeroValue124
 t46:=Tryd.underlying125
 a46:=Tryd.isAgg125
 z46:=Tryd.sizeOf125
 v46:=Tryd.zeroValue125
 t50:=Tryd.underlying129
 a50:=Tryd.isAgg129
 z50:=Tryd.sizeOf129
 v50:=Tryd.zeroValue129
 t53:=Tryd.underlying132
 a53:=Tryd.isAgg132
 z53:=Tryd.sizeOf132
 v53:=Tryd.zeroValue132
 t55:=Tryd.underlying134
 a55:=Tryd.isAgg134
 z55:=Tryd.sizeOf134
 v55:=Tryd.zeroValue134
 t66:=Tryd.underlying135
 a66:=Tryd.isAgg135
 z66:=Tryd.sizeOf135
 v66:=Tryd.zeroValue135
 t70:=Tryd.underlying139
 a70:=Tryd.isAgg139
 z70:=Tryd.sizeOf139
 v70:=Tryd.zeroValue139
 t76:=Tryd.underlying141
 a76:=Tryd.isAgg141
 z76:=Tryd.sizeOf141
 v76:=Tryd.zeroValue141
 t77:=Tryd.underlying142
 a77:=Tryd.isAgg142
 z77:=Tryd.sizeOf142
 v77:=Tryd.zeroValue142 }
end
namespace Lf
def coef (l:List (Int×Int))(v:Int):Int:=(l.map fun m=>if m.1=v then m.2 else 0).sum
theorem coef_nil (v:Int):coef [] v=0:=rfl
theorem coef_cons (m:Int×Int)(l:List (Int×Int))(v:Int):coef (m :: l) v=(if m.1=v then m.2 else 0)+coef l v:=by simp[coef]
theorem coef_append (l r:List (Int×Int))(v:Int):coef (l ++ r) v=coef l v+coef r v:=by simp[coef,List.sum_append]
theorem coef_perm {l r:List (Int×Int)}(h:l.Perm r)(v:Int):coef l v=coef r v:=by
 induction h with
 | nil=>rfl
 | cons x _ ih=>rw[coef_cons,coef_cons,ih]
 | swap x y l=>simp only[coef_cons];omega
 | trans _ _ h1 h2=>exact h1.trans h2
theorem coef_none {l:List (Int×Int)}{v:Int}(h:∀m∈l,m.1≠v):coef l v=0:=by
 induction l with
 | nil=>rfl
 | cons m r ih=>rw[coef_cons,if_neg (h m (by simp)),ih (fun x hx=>h x (by simp[hx]))];rfl
def Up (l:List (Int×Int)):Prop:=l.Pairwise fun a b=>a.1<b.1
structure IsSum (l R:List (Int×Int)):Prop where
 up:Up R
 nz:∀m∈R,m.2≠0
 eq:∀v,coef R v=coef l v
theorem up_head {m:Int×Int}{r:List (Int×Int)}(h:Up (m :: r)):coef r m.1=0:=
 coef_none fun x hx=>by have:=(List.pairwise_cons.1 h).1 x hx;omega
theorem sum_unique:∀ {R S:List (Int×Int)},Up R→Up S→(∀m∈R,m.2≠0)→(∀m∈S,m.2≠0)→(∀v,coef R v=coef S v)→R=S
 | [],[],_,_,_,_,_=>rfl
 | [],b :: s,_,hS,_,nS,h=>by
   have:=h b.1
   rw[coef_nil,coef_cons,if_pos rfl,up_head hS]at this
   have:=nS b (by simp)
   omega
 | a :: r,[],hR,_,nR,_,h=>by
   have:=h a.1
   rw[coef_nil,coef_cons,if_pos rfl,up_head hR]at this
   have:=nR a (by simp)
   omega
 | a :: r,b :: s,hR,hS,nR,nS,h=>by
   have na:=nR a (by simp)
   have nb:=nS b (by simp)
   have hr:=List.pairwise_cons.1 hR
   have hs:=List.pairwise_cons.1 hS
   have e1:a.1=b.1:=by
    by_cases hlt:a.1<b.1
    ·have:=h a.1
     rw[coef_cons,if_pos rfl,up_head hR,coef_cons,if_neg (by omega),coef_none (fun x hx=>by have:=hs.1 x hx;omega)]at this
     omega
    ·by_cases hgt:b.1<a.1
     ·have:=h b.1
      rw[coef_cons,if_neg (by omega),coef_none (fun x hx=>by have:=hr.1 x hx;omega),coef_cons,if_pos rfl,up_head hS]at this
      omega
     ·omega
   have e2:a.2=b.2:=by
    have:=h a.1
    rw[coef_cons,if_pos rfl,up_head hR,coef_cons,if_pos e1.symm,e1,up_head hS]at this
    omega
   have e:a=b:=Prod.ext e1 e2
   subst e
   rw[sum_unique hr.2 hs.2 (fun x hx=>nR x (by simp[hx])) (fun x hx=>nS x (by simp[hx])) (fun v=>by
    have:=h v
    rw[coef_cons,coef_cons]at this
    omega)]
theorem IsSum.unique {l R S:List (Int×Int)}(h:IsSum l R)(k:IsSum l S):R=S:=sum_unique h.up k.up h.nz k.nz fun v=>(h.eq v).trans (k.eq v).symm
theorem IsSum.perm {l l' R:List (Int×Int)}(h:IsSum l R)(hp:l.Perm l'):IsSum l' R:=⟨h.up,h.nz,fun v=>(h.eq v).trans (coef_perm hp v)⟩
theorem coef_up {R:List (Int×Int)}(h:Up R){m:Int×Int}(hm:m∈R):coef R m.1=m.2:=by
 induction R with
 | nil=>cases hm
 | cons a r ih=>
   rcases List.mem_cons.1 hm with rfl | hm
   ·rw[coef_cons,if_pos rfl,up_head h];omega
   ·have hr:=List.pairwise_cons.1 h
    rw[coef_cons,if_neg (by have:=hr.1 m hm;omega),ih hr.2 hm];omega
theorem IsSum.comes {l R:List (Int×Int)}(h:IsSum l R){m:Int×Int}(hm:m∈R):∃x∈l,x.1=m.1:=by
 by_cases hx:∃x∈l,x.1=m.1
 ·exact hx
 ·have h1:=coef_up h.up hm
  rw[h.eq,coef_none (fun x hx1 hx2=>hx ⟨x,hx1,hx2⟩)]at h1
  exact absurd h1.symm (h.nz m hm)
theorem togStep_up {r:List (Int×Int)}{m:Int×Int}(h:Up r)(hle:∀p∈r,p.1≤m.1):
 Up (togStep r m)∧(∀p∈togStep r m,p.1≤m.1)∧∀v,coef (togStep r m) v=coef r v+(if m.1=v then m.2 else 0):=by
 obtain⟨mv,mk⟩:=m
 rcases snoc_cases r with rfl | ⟨r',⟨pv,pk⟩,rfl⟩
 ·refine⟨by rw[togStep_nil];simp[Up],fun p hp=> ?_,fun v=> ?_⟩
  ·rw[togStep_nil]at hp;simp at hp;subst hp;exact Int.le_refl _
  ·rw[togStep_nil,coef_cons,coef_nil];omega
 ·have hp:=hle (pv,pk) (by simp)
  have hpair:=List.pairwise_append.1 h
  by_cases e:pv=mv
  ·subst e
   rw[togStep_eq]
   refine⟨List.pairwise_append.2 ⟨hpair.1,by simp,fun a ha b hb=> ?_⟩,fun p hp=> ?_,fun v=> ?_⟩
   ·simp at hb;subst hb;exact hpair.2.2 a ha (pv,pk) (by simp)
   ·rcases List.mem_append.1 hp with hp | hp
    ·exact hle p (by simp[hp])
    ·simp at hp;subst hp;exact Int.le_refl _
   ·rw[coef_append,coef_append,coef_cons,coef_cons,coef_nil]
    by_cases hv:pv=v<;>simp[hv]<;>omega
  ·rw[togStep_ne _ _ _ e]
   refine⟨List.pairwise_append.2 ⟨h,by simp,fun a ha b hb=> ?_⟩,fun p hp=> ?_,fun v=> ?_⟩
   ·simp at hb;subst hb
    rcases List.mem_append.1 ha with ha | ha
    ·have:=hpair.2.2 a ha (pv,pk) (by simp);simp only at this hp⊢;omega
    ·simp at ha;subst ha;simp only at hp⊢;omega
   ·rcases List.mem_append.1 hp with hp | hp
    ·exact hle p hp
    ·simp at hp;subst hp;exact Int.le_refl _
   ·rw[coef_append,coef_cons,coef_nil];omega
def Asc (l:List (Int×Int)):Prop:=∀i j,i<j→j<l.length→(l.getD i (0,0)).1≤(l.getD j (0,0)).1
theorem tog_up (l:List (Int×Int))(h:Asc l):∀k,k≤l.length→Up (tog (l.take k))∧(∀p∈tog (l.take k),∀j,k≤j→j<l.length→p.1≤(l.getD j (0,0)).1)∧∀v,coef (tog (l.take k)) v=coef (l.take k) v
 | 0,_=>⟨by simp[tog,Up],fun p hp=>by simp[tog]at hp,fun v=>by simp[tog]⟩
 | k+1,hk=>by
   obtain⟨h1,h2,h3⟩:=tog_up l h k (by omega)
   obtain⟨g1,g2,g3⟩:=togStep_up (m:=l.getD k (0,0)) h1 (fun p hp=>h2 p hp k (Nat.le_refl _) (by omega))
   rw[take_snoc l k (by omega),tog_snoc]
   refine⟨g1,fun p hp j hj hjl=> ?_,fun v=> ?_⟩
   ·exact Int.le_trans (g2 p hp) (h k j (by omega) hjl)
   ·rw[g3,coef_append,h3,coef_cons,coef_nil];omega
theorem coef_filter (l:List (Int×Int))(v:Int):coef (l.filter fun m=>m.2 != 0) v=coef l v:=by
 induction l with
 | nil=>rfl
 | cons m r ih=>
   by_cases h:m.2=0
   ·rw[List.filter_cons_of_neg (by simp[h]),ih,coef_cons];simp[h]
   ·rw[List.filter_cons_of_pos (by simp[h]),coef_cons,coef_cons,ih]
theorem tog_isSum (l:List (Int×Int))(h:Asc l):IsSum l ((tog l).filter fun m=>m.2 != 0):=by
 have:=tog_up l h l.length (Nat.le_refl _)
 rw[List.take_length]at this
 exact⟨this.1.filter _,fun m hm=>by have:=(List.mem_filter.1 hm).2;simpa using this,fun v=>(coef_filter _ v).trans (this.2.2 v)⟩
theorem exists_sum (l:List (Int×Int)):∃R,IsSum l R:=by
 refine⟨_,(tog_isSum (l.mergeSort fun a b=>decide (a.1≤b.1)) ?_).perm (List.mergeSort_perm _ _)⟩
 intro i j hij hj
 have hs:=List.pairwise_mergeSort (le:=fun a b:Int×Int=>decide (a.1≤b.1)) (fun a b c h1 h2=>by simp at *; omega) (fun a b=>by simp;omega) l
 have:=List.pairwise_iff_getElem.1 hs i j (by omega) hj hij
 simp only[List.getD_eq_getElem?_getD]
 rw[List.getElem?_eq_getElem hj,List.getElem?_eq_getElem (by omega)]
 simpa using this
end Lf
namespace Lf
open Go.RowKit
section
variable {P:Program} (w:World)
theorem run_equalIn_iface_int (d:Nat){ti tn:TypeId}{ms:Array (String×TypeId)}{i:TypeInfo}{k:IntKind}(a b:Int)
 (hi:P.underlying ti=some (.interface ms)) (hn:P.underlying tn=some (.int k)) (hinfo:P.info? tn=some i) (hcomp:i.comparable=true):
 (Op.equalIn (d+2) ti (.iface tn (.int k a)) (.iface tn (.int k b))).run P w= .ok (a == b) w:=by
 simp[Op.equalIn,run_underlying hi,run_underlying hn,typeInfo,hinfo,hcomp]
end
end Lf
end Go.Proofs.YtjbkhdbjdahbiaaDoor
