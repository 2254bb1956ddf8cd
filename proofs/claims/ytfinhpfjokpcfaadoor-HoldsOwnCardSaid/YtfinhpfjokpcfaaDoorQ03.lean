/- Parts of a proof. -/
import Derived.Test.YtfinhpfjokpcfaaDoorQ02
import Derived.Deep.RegionHeld3
import Derived.Deep.RegionLaw
set_option linter.unusedVariables false
set_option linter.unusedSimpArgs false
set_option maxHeartbeats 60000000
set_option maxRecDepth 100000
namespace Go.Proofs.YtfinhpfjokpcfaaDoor
section
open Go.RowKit
theorem regrown_trV {w:World}{B:Nat}{W:World}(h:Below B w W)(hB:B≤W.heap.size)(d:Nat)(os:Array Obj):Below B w (Go.Sort.grow (redrawn W d) os):=h.trans ((below_regrown W d os).mono hB)
def SegEnd (B g n cap:Nat)(xs:List HC)(a b:Nat)(W:World)(e:Ending)(w':World):Prop:=e= .returned (.tuple #[])∧∃ys,RowAt B g n cap ys w'∧Seg xs ys a b∧SortedSeg ys a b∧Below B W w'
theorem ifacts (j:Nat)(h:j<1000):IntKind.i64.wrap (((j+1:Nat):Int) - 1)=(j:Int)∧IntKind.i64.wrap ((j:Int)+1 - 1)=(j:Int)∧IntKind.i64.wrap (j:Int)=(j:Int)∧wrap64 (j:Int)=(j:Int)∧IntKind.i64.wrap ((j:Int)+1)=(j:Int)+1∧wrap64 ((j:Int)+1)=(j:Int)+1:=by
 have e1:((j+1:Nat):Int) - 1=(j:Int):=by omega
 have e2:(j:Int)+1 - 1=(j:Int):=by omega
 have e3:IntKind.i64.wrap (j:Int)=(j:Int):=IntWalk.i64_in _ (by omega)
 exact⟨by rw[e1];exact e3,by rw[e2];exact e3,e3,by unfold wrap64;omega,IntWalk.i64_in _ (by omega),by unfold wrap64;omega⟩
theorem isort_any (B g n cap:Nat)(xs:List HC)(a b:Nat)(w:World)(h:RowAt B g n cap xs w)(hab:a≤b)(hbn:b≤n)(hn:n≤200):
 Calls Tryd.prog 46 #[.slice (some ⟨g,0,none⟩) n cap,.int .i64 a,.int .i64 b,.func (.func 22) #[] #[]] w (SegEnd B g n cap xs a b w):=by
 have HH:=Lib.hid h
 have HJ:=Lib.hid (fun x y W=>jcmp_any x y W)
 clear h
 have hwa:IntKind.i64.wrap ((a:Int)+1)=(a:Int)+1:=IntWalk.i64_in _ (by omega)
 go_enter Tryd.func46,Tryd.ntmps46
 go_wp2_with fail
 go_loopw [8] (fun i wr=>∃(k:Nat) (ys:List HC),i= .int .i64 ((k:Int)+1)∧a≤k∧Hid (k=a∨k<b)∧Hid (RowAt B g n cap ys wr∧Seg xs ys a b∧SortedSeg ys a (k+1)∧Below B w wr)) (fun i _=>b - (intOf i).toNat)
 case atStart=>exact⟨a,xs,rfl,Nat.le_refl _,.inl rfl,HH.out,Seg.refl _ _ _,fun p q h1 h2 h3=>by omega,Below.refl _ _⟩
 case round=>
  obtain⟨k,ys,rfl,hak,hkb,hrel⟩:=hrel
  by_cases hlt:k+1<b
  ·have hlti:(k:Int)+1<(b:Int):=by omega
   obtain⟨h1,h2,h3,h4⟩:=hrel.out
   have hst:=Lib.hid (Ins.start h3)
   have hr0:Hid (RowAt B g n cap ys wr∧Seg xs ys a b∧Ins ys a (k+1) (k+1)∧Below B w wr):=⟨h1,h2,hst.out,h4⟩
   clear h1 h2 h3 h4 hst hrel hkb
   have hkn:k+1<n:=by omega
   clear hwa
   go_wp2_with fail
   go_loopw [9] (fun j wr=>∃(q:Nat) (zs:List HC),j= .int .i64 q∧a≤q∧q≤k+1∧Hid (RowAt B g n cap zs wr∧Seg xs zs a b∧Ins zs a (k+1) q∧Below B w wr)) (fun j _=>(intOf j).toNat)
   case atStart=>exact⟨k+1,ys,by go_num,by omega,Nat.le_refl _,hr0⟩
   case round=>
    obtain⟨q,zs,rfl,haq,hqk,hrel⟩:=hrel
    clear hr0
    have HEX:Hid ((q=a∨le (at' zs (q - 1)) (at' zs q))→RowAt B g n cap zs wr∧Seg xs zs a b∧SortedSeg zs a (k+1+1)∧Below B w wr):=fun hx=>⟨hrel.out.1,hrel.out.2.1,hrel.out.2.2.1.done haq hqk hx,hrel.out.2.2.2⟩
    by_cases hqa:q=a
    ·have hqi:¬(q:Int) > (a:Int):=by omega
     have hqj:¬(a:Int)<(q:Int):=by omega
     have HE2:=Lib.hid (HEX.out (.inl hqa))
     clear HEX hrel
     go_wp2_with fail
     refine wp_region_quiet_below (by kernel_rfl) (by kernel_rfl) ?_
     repeat (go_big_quiet_step (fail))
     refine wpQuiet_nil ?_
     intro _ hw'
     obtain⟨⟨dq,osq⟩,hw''⟩:=hw'
     subst hw''
     have HE3:Hid (RowAt B g n cap zs (Go.Sort.grow (redrawn wr dq) osq)∧Seg xs zs a b∧SortedSeg zs a (k+1+1)∧Below B w (Go.Sort.grow (redrawn wr dq) osq)):=by
      obtain⟨r1,r2,r3,r4⟩:=HE2.out
      exact⟨r1.below (below_regrown _ _ _),r2,r3,regrown_trV r4 (Nat.le_of_lt (Nat.lt_of_le_of_lt r1.low.1 r1.low.2)) _ _⟩
     clear HE2
     go_wp2_with fail
     go_roundw
     case rel=>exact⟨k+1,zs,by go_num,by omega,.inr hlt,HE3⟩
     case measure=>simp[intOf];omega
    ·obtain⟨q,rfl⟩:∃q',q=q'+1:=⟨q - 1,by omega⟩
     have hqi:((q+1:Nat):Int) > (a:Int):=by omega
     have hqj:(a:Int)<(q:Int)+1:=by omega
     have hqn:q+1<n:=by omega
     have hqni:(q:Int)+1<(n:Int):=by omega
     have hqn2:(q:Int)<(n:Int):=by omega
     have hq0:(0:Int)≤(q:Int)+1:=by omega
     have hq1:¬((q:Int)+1<0):=by omega
     obtain⟨c1,c2,c3⟩:=hrel.out.1.cells (i:=q+1) hqn
     obtain⟨d1,d2,d3⟩:=hrel.out.1.cells (i:=q) (by omega)
     have HSW:Hid (∀W,RowAt B g n cap zs W→RowAt B g n cap (swp zs (q+1) q) (put3 (put3 W g (q+1) (at' zs q)) g q (at' zs (q+1)))∧Below B W (put3 (put3 W g (q+1) (at' zs q)) g q (at' zs (q+1)))):=fun W hW=>hW.swap (i:=q+1) (j:=q) hqn (by omega)
     have HLT:Hid (ordK (hkey (at' zs (q+1))) (hkey (at' zs q))<0→∀W,RowAt B g n cap (swp zs (q+1) q) W→Below B wr W→RowAt B g n cap (swp zs (q+1) q) W∧Seg xs (swp zs (q+1) q) a b∧Ins (swp zs (q+1) q) a (k+1) q∧Below B w W):=fun hl W hR hB=>
      ⟨hR,hrel.out.2.1.swap (by rw[hrel.out.1.len];omega) (by rw[hrel.out.1.len];omega) ⟨by omega,by omega⟩ ⟨by omega,by omega⟩,hrel.out.2.2.1.step (by rw[hrel.out.1.len];omega) (by omega) hqk (ordK_lt.1 hl),hrel.out.2.2.2.trans hB⟩
     have HGE:Hid (¬ordK (hkey (at' zs (q+1))) (hkey (at' zs q))<0→RowAt B g n cap zs wr∧Seg xs zs a b∧SortedSeg zs a (k+1+1)∧Below B w wr):=fun hl=>HEX.out (.inr (by rw[Nat.add_sub_cancel];exact fun h=>hl (ordK_lt.2 h)))
     have HBL:Hid (B≤wr.heap.size):=Nat.le_of_lt (Nat.lt_of_le_of_lt hrel.out.1.low.1 hrel.out.1.low.2)
     have HRO:=Lib.hid hrel.out.1
     have HC:=Lib.hid (HJ.out (at' zs (q+1)) (at' zs q))
     have HC:Hid (∀W,Calls Tryd.prog 22 #[.agg #[.int .i64 (at' zs (q+1)).a,.string (at' zs (q+1)).f,.int .i64 (at' zs (q+1)).v],.agg #[.int .i64 (at' zs q).a,.string (at' zs q).f,.int .i64 (at' zs q).v]] W fun e w'=>e= .returned (.int .i64 (ordK (hkey (at' zs (q+1))) (hkey (at' zs q))))∧Below W.heap.size W w'):=HC.out
     clear hrel HEX
     generalize ordK (hkey (at' zs (q+1))) (hkey (at' zs q))=o at HC HLT HGE
     generalize at' zs (q+1)=x at c1 c2 c3 HC HSW
     generalize at' zs q=y at d1 d2 d3 HC HSW
     obtain⟨xa,xf,xv⟩:=x
     obtain⟨ya,yf,yv⟩:=y
     simp only at c1 c2 c3 d1 d2 d3
     have hq1000:q<1000:=by omega
     have i1:∀k:Nat,k<1000→IntKind.i64.wrap (((k+1:Nat):Int) - 1)=(k:Int):=fun k h=>(ifacts k h).1
     have i2:∀k:Nat,k<1000→IntKind.i64.wrap ((k:Int)+1 - 1)=(k:Int):=fun k h=>(ifacts k h).2.1
     have i3:∀k:Nat,k<1000→IntKind.i64.wrap (k:Int)=(k:Int):=fun k h=>(ifacts k h).2.2.1
     have i4:∀k:Nat,k<1000→wrap64 (k:Int)=(k:Int):=fun k h=>(ifacts k h).2.2.2.1
     have cJ:=fun d os=>Calls.regrown_of (HC.out (Go.Sort.grow (redrawn wr d) os))
     have r1:=fun d os=>cell_regrown c1 d os
     have r2:=fun d os=>cell_regrown c2 d os
     have r3:=fun d os=>cell_regrown c3 d os
     have r4:=fun d os=>cell_regrown d1 d os
     have r5:=fun d os=>cell_regrown d2 d os
     have r6:=fun d os=>cell_regrown d3 d os
     have HKW:Hid (IntKind.i64.wrap ((k:Int)+1+1)=(k:Int)+1+1):=IntWalk.i64_in _ (by omega)
     have HFA:Hid (a≤q∧q≤k+1∧a≤k+1∧k+1<b):=⟨by omega,by omega,by omega,by omega⟩
     clear hn hbn hab hak hqk hqa hlti hlt hkn haq
     go_wp2_with fail
     refine wp_region_quiet_below (by kernel_rfl) (by kernel_rfl) ?_
     repeat (go_big_quiet_step (with_reducible exact cJ _ _))
     refine wpQuiet_nil ?_
     intro _ hw'
     obtain⟨⟨dq,osq⟩,hw''⟩:=hw'
     subst hw''
     have HBG:Hid (Below B wr (Go.Sort.grow (redrawn wr dq) osq)):=(below_regrown wr dq osq).mono HBL.out
     have HRG:=Lib.hid (HRO.out.below (below_regrown wr dq osq))
     have q1:=r1 dq osq
     have q2:=r2 dq osq
     have q3:=r3 dq osq
     have q4:=r4 dq osq
     have q5:=r5 dq osq
     have q6:=r6 dq osq
     clear r1 r2 r3 r4 r5 r6 cJ HC c1 c2 c3 d1 d2 d3 HRO
     by_cases ho:o<0
     ·have HL2:=Lib.hid (HLT.out ho)
      clear HLT HGE
      generalize Go.Sort.grow (redrawn wr dq) osq=W0 at HBG HRG q1 q2 q3 q4 q5 q6⊢
      have f1:=HRG.out.frozen
      obtain⟨s1,s2⟩:=HSW.out W0 HRG.out
      have HFIN:=Lib.hid (HL2.out _ (s1.below (Below.refl _ _).drew) (HBG.out.trans s2).drew)
      clear s1 s2 HL2 HSW HRG HBG
      go_wp2_with fail
      go_region
      all_goals
       clear f1 i1 i2 i3 i4 q1 q2 q3 q4 q5 q6
       go_wp2_with fail
       go_roundw
       case rel=>exact⟨q,_,by go_num,HFA.out.1,HFA.out.2.1,HFIN⟩
       case measure=>simp[intOf]
     ·have HE3:Hid (RowAt B g n cap zs (Go.Sort.grow (redrawn wr dq) osq)∧Seg xs zs a b∧SortedSeg zs a (k+1+1)∧Below B w (Go.Sort.grow (redrawn wr dq) osq)):=by
       obtain⟨e1,e2,e3,e4⟩:=HGE.out (by first | exact ho | omega)
       exact⟨HRG.out,e2,e3,e4.trans HBG.out⟩
      have hkw:IntKind.i64.wrap ((k:Int)+1+1)=(k:Int)+1+1:=HKW.out
      clear HLT HGE HRG q1 q2 q3 q4 q5 q6 i1 i2 i3 i4
      go_wp2_with fail
      go_roundw
      case rel=>exact⟨k+1,zs,by simp,HFA.out.2.2.1,.inr HFA.out.2.2.2,HE3⟩
      case measure=>have h9:=HFA.out;clear hkw;simp[intOf];omega
  ·have hlti:¬(k:Int)+1<(b:Int):=by omega
   have HE:Hid (∀W,Below wr.heap.size wr W→SegEnd B g n cap xs a b w (.returned (.tuple #[])) W):=fun W hW=>by
    obtain⟨h1,h2,h3,h4⟩:=hrel.out
    exact⟨rfl,ys,h1.below hW,h2,fun p q e1 e2 e3=>h3 p q e1 e2 (by omega),h4.trans (hW.mono (Nat.le_of_lt (Nat.lt_of_le_of_lt h1.low.1 h1.low.2)))⟩
   clear hrel
   go_wp2_with fail
   go_end0
   exact HE.out _ (Below.refl _ _)
end
section
open Go.RowKit
def swI (a b n t:Nat):Nat:=if a≤t∧t<a+n then t - a+b else if b≤t∧t<b+n then t - b+a else t
def rotI (a m b k:Nat):Nat:=if k<a∨b≤k then k else if k<a+(b - m) then k+(m - a) else k - (b - m)
theorem rot_big {m k i j:Nat}(hm:m≤1000)(hi:i≤m)(h:j<i)(hj:0<j):swI (m - i) m j (rotI (m - (i - j)) m (m+j) k)=rotI (m - i) m (m+j) k:=by
 unfold swI rotI
 repeat' split
 all_goals omega
theorem rot_small {m k i j:Nat}(hm:m≤1000)(hi:i≤m)(h:i<j)(hj:0<i):swI (m - i) (m+j - i) i (rotI (m - i) m (m+(j - i)) k)=rotI (m - i) m (m+j) k:=by
 unfold swI rotI
 repeat' split
 all_goals omega
theorem rot_same {m k i:Nat}(hi:i≤m):swI (m - i) m i k=rotI (m - i) m (m+i) k:=by
 unfold swI rotI
 repeat' split
 all_goals omega
def Mov (xs ys:List HC)(f:Nat→Nat):Prop:=∀t,at' ys t=at' xs (f t)
theorem swI_zero (a b t:Nat):swI a b 0 t=t:=by
 unfold swI
 rw[if_neg (by omega),if_neg (by omega)]
theorem Mov.step {xs zs:List HC}{a b i n:Nat}(h:Mov xs zs (swI a b i))(hin:i<n)(hab:a+n≤b)(hl:b+n≤zs.length):Mov xs (swp zs (a+i) (b+i)) (swI a b (i+1)):=fun t=>by
 rw[swp_at (by omega) (by omega)]
 split
 ·rename_i e;subst e
  rw[h (a+i)]
  congr 1
  unfold swI
  repeat' split
  all_goals omega
 ·split
  ·rename_i e;subst e
   rw[h (b+i)]
   congr 1
   unfold swI
   repeat' split
   all_goals omega
  ·rw[h t]
   congr 1
   unfold swI
   repeat' split
   all_goals omega
def MovEnd (B g n cap:Nat)(xs:List HC)(f:Nat→Nat)(a b:Nat)(W:World)(e:Ending)(w':World):Prop:=e= .returned (.tuple #[])∧∃ys,RowAt B g n cap ys w'∧Seg xs ys a b∧Mov xs ys f∧Below B W w'
theorem wrap_add (p q:Nat)(h1:p<1000)(h2:q<1000):IntKind.i64.wrap ((p:Int)+(q:Int))=(p:Int)+(q:Int):=IntWalk.i64_in _ (by omega)
theorem srange_any (B g n cap:Nat)(xs:List HC)(a b m:Nat)(w:World)(h:RowAt B g n cap xs w)(hab:a+m≤b)(hbn:b+m≤n)(hn:n≤200):
 Calls Tryd.prog 83 #[.slice (some ⟨g,0,none⟩) n cap,.int .i64 a,.int .i64 b,.int .i64 m,.func (.func 22) #[] #[]] w (MovEnd B g n cap xs (swI a b m) a (b+m) w):=by
 have HH:=Lib.hid h
 clear h
 go_enter Tryd.func83,Tryd.ntmps83
 go_wp2_with fail
 go_loopw [10] (fun i wr=>∃(k:Nat) (zs:List HC),i= .int .i64 k∧k≤m∧Hid (RowAt B g n cap zs wr∧Seg xs zs a (b+m)∧Mov xs zs (swI a b k)∧Below B w wr)) (fun i _=>m - (intOf i).toNat)
 case atStart=>exact⟨0,xs,rfl,Nat.zero_le _,HH.out,Seg.refl _ _ _,fun t=>by rw[swI_zero],Below.refl _ _⟩
 case round=>
  obtain⟨k,zs,rfl,hkm,hrel⟩:=hrel
  by_cases hlt:k<m
  ·have hlti:(k:Int)<(m:Int):=by omega
   have hak:a+k<n:=by omega
   have hbk:b+k<n:=by omega
   have haki:(a:Int)+(k:Int)<(n:Int):=by omega
   have hbki:(b:Int)+(k:Int)<(n:Int):=by omega
   have ha1:¬(a:Int)+(k:Int)<0:=by omega
   have hb1:¬(b:Int)+(k:Int)<0:=by omega
   have hk1:a<1000:=by omega
   have hk2:b<1000:=by omega
   have hk3:k<1000:=by omega
   have HFIN:Hid (RowAt B g n cap (swp zs (a+k) (b+k)) (put3 (put3 wr g (a+k) (at' zs (b+k))) g (b+k) (at' zs (a+k)))∧Seg xs (swp zs (a+k) (b+k)) a (b+m)∧Mov xs (swp zs (a+k) (b+k)) (swI a b (k+1))∧Below B w (put3 (put3 wr g (a+k) (at' zs (b+k))) g (b+k) (at' zs (a+k)))):=by
    obtain⟨h1,h2,h3,h4⟩:=hrel.out
    obtain⟨s1,s2⟩:=h1.swap hak hbk
    exact⟨s1,h2.swap (by rw[h1.len];omega) (by rw[h1.len];omega) ⟨by omega,by omega⟩ ⟨by omega,by omega⟩,h3.step hlt hab (by rw[h1.len];omega),h4.trans s2⟩
   have HFIN:Hid (RowAt B g n cap (swp zs (a+k) (b+k)) (put3 (put3 wr g (a+k) (at' zs (b+k))) g (b+k) (at' zs (a+k))).drew∧Seg xs (swp zs (a+k) (b+k)) a (b+m)∧Mov xs (swp zs (a+k) (b+k)) (swI a b (k+1))∧Below B w (put3 (put3 wr g (a+k) (at' zs (b+k))) g (b+k) (at' zs (a+k))).drew):=by
    obtain⟨h1,h2,h3,h4⟩:=HFIN.out
    exact⟨h1.below (Below.refl _ _).drew,h2,h3,h4.drew⟩
   obtain⟨c1,c2,c3⟩:=hrel.out.1.cells (i:=a+k) hak
   obtain⟨d1,d2,d3⟩:=hrel.out.1.cells (i:=b+k) hbk
   have f1:=hrel.out.1.frozen
   have hpq:a+k<b+k:=by omega
   have n1:¬(a+k)*3=(b+k)*3:=by omega
   have n2:¬(a+k)*3+1=(b+k)*3:=by omega
   have n3:¬(a+k)*3+2=(b+k)*3:=by omega
   clear hrel HH hab hbn hn
   generalize swp zs (a+k) (b+k)=zs' at HFIN
   generalize at' zs (a+k)=x at c1 c2 c3 HFIN
   generalize at' zs (b+k)=y at d1 d2 d3 HFIN
   obtain⟨xa,xf,xv⟩:=x
   obtain⟨ya,yf,yv⟩:=y
   simp only at c1 c2 c3 d1 d2 d3
   have hkw:=wrap_add
   go_wp2_with fail
   go_region
   all_goals
    clear f1 c1 c2 c3 d1 d2 d3 hkw
    go_wp2_with fail
    go_roundw
    case rel=>exact⟨k+1,_,by go_num,hlt,HFIN.out⟩
    case measure=>simp[intOf];omega
  ·obtain rfl:k=m:=by omega
   go_wp2_with fail
   go_end0
   exact⟨rfl,zs,hrel.out⟩
end
section
open Go.RowKit
def Str (l:List HC):Prop:=l.Pairwise fun x y=>kl (hkey x) (hkey y)=true
def tot:List HC→Key→Int
 | [],_=>0
 | x :: l,k=>(if hkey x=k then x.v else 0)+tot l k
def Hs (l:List HC)(k:Key):Prop:=∃c,c∈l∧hkey c=k
theorem tot_append:∀(l m:List HC) (k:Key),tot (l ++ m) k=tot l k+tot m k
 | [],m,k=>by simp[tot]
 | x :: l,m,k=>by
   show(if hkey x=k then x.v else 0)+tot (l ++ m) k=(if hkey x=k then x.v else 0)+tot l k+tot m k
   rw[tot_append l m k]
   omega
theorem tot_perm {l m:List HC}(h:l.Perm m)(k:Key):tot l k=tot m k:=by
 induction h with
 | nil=>rfl
 | cons x _ ih=>simp only[tot];rw[ih]
 | swap x y l=>simp only[tot];omega
 | trans _ _ h1 h2=>exact h1.trans h2
theorem hs_perm {l m:List HC}(h:l.Perm m)(k:Key):Hs l k↔Hs m k:=⟨fun⟨c,h1,h2⟩=>⟨c,h.mem_iff.1 h1,h2⟩,fun⟨c,h1,h2⟩=>⟨c,h.mem_iff.2 h1,h2⟩⟩
theorem tot_none {l:List HC}{k:Key}(h:¬Hs l k):tot l k=0:=by
 induction l with
 | nil=>rfl
 | cons x l ih=>
   show(if hkey x=k then x.v else 0)+tot l k=0
   rw[if_neg (fun e=>h ⟨x,List.mem_cons_self,e⟩),ih (fun⟨c,h1,h2⟩=>h ⟨c,List.mem_cons_of_mem _ h1,h2⟩)]
   rfl
theorem str_not {x:HC}{l:List HC}(h:Str (x :: l)):¬Hs l (hkey x):=fun⟨c,h1,h2⟩=>kl_ne ((List.pairwise_cons.1 h).1 c h1) h2.symm
theorem str_unique:∀ {l m:List HC},Str l→Str m→(∀k,Hs l k↔Hs m k)→(∀k,tot l k=tot m k)→l=m
 | [],[],_,_,_,_=>rfl
 | [],y :: m,_,_,h,_=>absurd ((h (hkey y)).2 ⟨y,List.mem_cons_self,rfl⟩) (fun⟨c,h1,_⟩=>by cases h1)
 | x :: l,[],_,_,h,_=>absurd ((h (hkey x)).1 ⟨x,List.mem_cons_self,rfl⟩) (fun⟨c,h1,_⟩=>by cases h1)
 | x :: l,y :: m,h1,h2,h,ht=>by
   have e:hkey x=hkey y:=by
    obtain⟨c,c1,c2⟩:=(h (hkey x)).1 ⟨x,List.mem_cons_self,rfl⟩
    obtain⟨d,d1,d2⟩:=(h (hkey y)).2 ⟨y,List.mem_cons_self,rfl⟩
    rcases List.mem_cons.1 c1 with rfl | c1
    ·exact c2.symm
    ·rcases List.mem_cons.1 d1 with rfl | d1
     ·exact d2
     ·have k1:=(List.pairwise_cons.1 h2).1 c c1
      have k2:=(List.pairwise_cons.1 h1).1 d d1
      rw[c2]at k1
      rw[d2]at k2
      exact absurd k2 (kl_asymm k1)
   have ev:x.v=y.v:=by
    have:=ht (hkey x)
    simp only[tot]at this
    rw[if_pos e.symm,tot_none (str_not h1),tot_none (e ▸ str_not h2),if_pos trivial]at this
    omega
   have exy:x=y:=HC.ext' e ev
   subst exy
   congr 1
   refine str_unique (List.pairwise_cons.1 h1).2 (List.pairwise_cons.1 h2).2 (fun k=> ?_) (fun k=> ?_)
   ·by_cases ek:hkey x=k
    ·subst ek
     exact⟨fun h=>absurd h (str_not h1),fun h=>absurd h (str_not h2)⟩
    ·constructor
     ·rintro⟨c,c1,c2⟩
      obtain⟨d,d1,d2⟩:=(h k).1 ⟨c,List.mem_cons_of_mem _ c1,c2⟩
      rcases List.mem_cons.1 d1 with rfl | d1
      ·exact absurd d2 ek
      ·exact⟨d,d1,d2⟩
     ·rintro⟨c,c1,c2⟩
      obtain⟨d,d1,d2⟩:=(h k).2 ⟨c,List.mem_cons_of_mem _ c1,c2⟩
      rcases List.mem_cons.1 d1 with rfl | d1
      ·exact absurd d2 ek
      ·exact⟨d,d1,d2⟩
   ·have:=ht k
    simp only[tot]at this
    omega
def addD (s:HC):Bool→List HC→List HC
 | d,[]=>if d=true then[] else[s]
 | d,x :: l=>if hkey x=hkey s then⟨s.a,s.f,x.v+s.v⟩ :: addD s true l else if(!d && kl (hkey s) (hkey x))=true then s :: x :: addD s true l else x :: addD s d l
theorem addD_done {s:HC}:∀ {l:List HC},(∀c,c∈l→kl (hkey s) (hkey c)=true)→addD s true l=l
 | [],_=>rfl
 | x :: l,h=>by
   unfold addD
   rw[if_neg (fun e=>kl_ne (h x List.mem_cons_self) e.symm),if_neg (by simp),addD_done (fun c hc=>h c (List.mem_cons_of_mem _ hc))]
structure Added (l m:List HC)(s:HC):Prop where
 str:Str m
 hs:∀k,Hs m k↔Hs l k∨hkey s=k
 tot:∀k,tot m k=tot l k+if hkey s=k then s.v else 0
theorem hs_cons {x:HC}{l:List HC}{k:Key}:Hs (x :: l) k↔hkey x=k∨Hs l k:=by
 constructor
 ·rintro⟨c,h1,h2⟩
  rcases List.mem_cons.1 h1 with rfl | h1
  ·exact .inl h2
  ·exact .inr ⟨c,h1,h2⟩
 ·rintro(h | ⟨c,h1,h2⟩)
  ·exact⟨x,List.mem_cons_self,h⟩
  ·exact⟨c,List.mem_cons_of_mem _ h1,h2⟩
theorem hs_nil {k:Key}:¬Hs [] k:=fun⟨c,h,_⟩=>by cases h
theorem addD_is {s:HC}:∀ {l:List HC},Str l→Added l (addD s false l) s
 | [],_=>⟨List.pairwise_singleton _ _,fun k=>by
     show Hs [s] k↔_
     rw[hs_cons]
     exact⟨fun h=>h.elim .inr .inl,fun h=>h.elim .inr .inl⟩,fun k=>by
     show(if hkey s=k then s.v else 0)+0=0+_
     omega⟩
 | x :: l,h=>by
   obtain⟨h1,h2⟩:=List.pairwise_cons.1 h
   by_cases e:hkey x=hkey s
   ·have ed:addD s false (x :: l)=⟨s.a,s.f,x.v+s.v⟩ :: l:=by
     unfold addD
     rw[if_pos e,addD_done (fun c hc=>by rw[←e];exact h1 c hc)]
    have ek:hkey (⟨s.a,s.f,x.v+s.v⟩:HC)=hkey s:=rfl
    rw[ed]
    refine⟨List.pairwise_cons.2 ⟨fun c hc=>by rw[ek,←e];exact h1 c hc,h2⟩,fun k=> ?_,fun k=> ?_⟩
    ·rw[hs_cons,hs_cons,ek,e]
     exact⟨fun h=>h.elim .inr (fun h=> .inl (.inr h)),fun h=>h.elim id .inl⟩
    ·simp only[tot]
     rw[ek,e]
     split<;>omega
   ·by_cases lt:kl (hkey s) (hkey x)=true
    ·have ed:addD s false (x :: l)=s :: x :: l:=by
      unfold addD
      rw[if_neg e,if_pos (by simp[lt]),addD_done (fun c hc=>kl_trans lt (h1 c hc))]
     rw[ed]
     refine⟨List.pairwise_cons.2 ⟨fun c hc=> ?_,h⟩,fun k=> ?_,fun k=> ?_⟩
     ·rcases List.mem_cons.1 hc with rfl | hc
      ·exact lt
      ·exact kl_trans lt (h1 c hc)
     ·rw[hs_cons]
      exact⟨fun h=>h.elim .inr .inl,fun h=>h.elim .inr .inl⟩
     ·simp only[tot]
      omega
    ·have ed:addD s false (x :: l)=x :: addD s false l:=by
      conv=>lhs;unfold addD
      rw[if_neg e,if_neg (by simp[lt])]
     obtain⟨i1,i2,i3⟩:=addD_is (s:=s) h2
     rw[ed]
     refine⟨List.pairwise_cons.2 ⟨fun c hc=> ?_,i1⟩,fun k=> ?_,fun k=> ?_⟩
     ·rcases(i2 (hkey c)).1 ⟨c,hc,rfl⟩with ⟨d,d1,d2⟩ | d
      ·rw[←d2];exact h1 d d1
      ·rw[←d]
       rcases kl_total e with k1 | k1
       ·exact k1
       ·exact absurd k1 lt
     ·rw[hs_cons,hs_cons,i2 k]
      constructor
      ·rintro(h | h | h)
       ·exact .inl (.inl h)
       ·exact .inl (.inr h)
       ·exact .inr h
      ·rintro((h | h) | h)
       ·exact .inl h
       ·exact .inr (.inl h)
       ·exact .inr (.inr h)
     ·simp only[tot]
      rw[i3 k]
      omega
def joinD (ys:List HC):List HC:=ys.foldl (fun l s=>addD s false l) []
theorem fold_is:∀(ys:List HC) {l:List HC},Str l→Str (ys.foldl (fun l s=>addD s false l) l)∧(∀k,Hs (ys.foldl (fun l s=>addD s false l) l) k↔Hs l k∨Hs ys k)∧(∀k,tot (ys.foldl (fun l s=>addD s false l) l) k=tot l k+tot ys k)
 | [],l,h=>⟨h,fun k=>⟨.inl,fun h=>h.elim id (fun h=>absurd h hs_nil)⟩,fun k=>by simp[tot]⟩
 | y :: ys,l,h=>by
   obtain⟨i1,i2,i3⟩:=addD_is (s:=y) h
   obtain⟨j1,j2,j3⟩:=fold_is ys i1
   refine⟨j1,fun k=> ?_,fun k=> ?_⟩
   ·show Hs (ys.foldl _ (addD y false l)) k↔_
    rw[j2 k,i2 k,hs_cons]
    constructor
    ·rintro((h | h) | h)
     ·exact .inl h
     ·exact .inr (.inl h)
     ·exact .inr (.inr h)
    ·rintro(h | h | h)
     ·exact .inl (.inl h)
     ·exact .inl (.inr h)
     ·exact .inr h
   ·show tot (ys.foldl _ (addD y false l)) k=_
    rw[j3 k,i3 k]
    simp only[tot]
    omega
theorem snoc_of {l:List HC}(h:0<l.length):l=l.take (l.length - 1) ++ [l.getD (l.length - 1) hc0]:=by
 have:=take_snocH l (l.length - 1) (by omega)
 rw[show l.length - 1+1=l.length by omega,List.take_length]at this
 exact this
theorem addLast_is {l:List HC}{s:HC}(h:Str l)(hle:∀c,c∈l→¬kl (hkey s) (hkey c)=true):Added l (addLast l s) s:=by
 by_cases e:0<l.length∧hkey (l.getD (l.length - 1) hc0)=hkey s
 ·unfold addLast
  rw[if_pos e]
  have el:=snoc_of e.1
  generalize l.take (l.length - 1)=m at el⊢
  obtain⟨_,e2⟩:=e
  generalize l.getD (l.length - 1) hc0=x at el e2⊢
  subst el
  have ek:hkey (⟨x.a,x.f,x.v+s.v⟩:HC)=hkey x:=rfl
  obtain⟨p1,_,p3⟩:=List.pairwise_append.1 h
  refine⟨List.pairwise_append.2 ⟨p1,List.pairwise_singleton _ _,fun a ha b hb=> ?_⟩,fun k=> ?_,fun k=> ?_⟩
  ·rw[List.mem_singleton.1 hb,ek]
   exact p3 a ha x (List.mem_singleton.2 rfl)
  ·constructor
   ·rintro⟨c,c1,c2⟩
    rcases List.mem_append.1 c1 with c1 | c1
    ·exact .inl ⟨c,List.mem_append_left _ c1,c2⟩
    ·rw[List.mem_singleton.1 c1,ek,e2]at c2
     exact .inr c2
   ·rintro(⟨c,c1,c2⟩ | c)
    ·rcases List.mem_append.1 c1 with c1 | c1
     ·exact⟨c,List.mem_append_left _ c1,c2⟩
     ·rw[List.mem_singleton.1 c1]at c2
      exact⟨_,List.mem_append_right _ (List.mem_singleton.2 rfl),c2⟩
    ·exact⟨_,List.mem_append_right _ (List.mem_singleton.2 rfl),by rw[ek,e2,c]⟩
  ·rw[tot_append,tot_append]
   simp only[tot]
   rw[ek,e2]
   split<;>omega
 ·unfold addLast
  rw[if_neg e]
  refine⟨List.pairwise_append.2 ⟨h,List.pairwise_singleton _ _,fun a ha b hb=> ?_⟩,fun k=> ?_,fun k=> ?_⟩
  ·rw[List.mem_singleton.1 hb]
   have hpos:0<l.length:=List.length_pos_of_mem ha
   have hne:hkey (l.getD (l.length - 1) hc0)≠hkey s:=fun h=>e ⟨hpos,h⟩
   have hlast:=hle _ (getD_memH (l:=l) (i:=l.length - 1) (by omega))
   have hls:kl (hkey (l.getD (l.length - 1) hc0)) (hkey s)=true:=by
    rcases kl_total hne with k1 | k1
    ·exact k1
    ·exact absurd k1 hlast
   have el:=snoc_of hpos
   rw[el]at ha
   rcases List.mem_append.1 ha with h1 | h1
   ·have h3:Str (l.take (l.length - 1) ++ [l.getD (l.length - 1) hc0]):=by rw[←el];exact h
    exact kl_trans ((List.pairwise_append.1 h3).2.2 a h1 _ (List.mem_singleton.2 rfl)) hls
   ·rw[List.mem_singleton.1 h1];exact hls
  ·constructor
   ·rintro⟨c,c1,c2⟩
    rcases List.mem_append.1 c1 with c1 | c1
    ·exact .inl ⟨c,c1,c2⟩
    ·rw[List.mem_singleton.1 c1]at c2;exact .inr c2
   ·rintro(⟨c,c1,c2⟩ | c)
    ·exact⟨c,List.mem_append_left _ c1,c2⟩
    ·exact⟨s,List.mem_append_right _ (List.mem_singleton.2 rfl),c⟩
  ·rw[tot_append]
   simp only[tot]
   omega
theorem joinTo_is {zs:List HC}(hs:∀i j,i<j→j<zs.length→¬kl (hkey (zs.getD j hc0)) (hkey (zs.getD i hc0))=true):∀k,k≤zs.length→Str (joinTo zs k)∧(∀q,Hs (joinTo zs k) q↔Hs (zs.take k) q)∧(∀q,tot (joinTo zs k) q=tot (zs.take k) q)
 | 0,_=>⟨List.Pairwise.nil,fun q=>Iff.rfl,fun q=>rfl⟩
 | k+1,hk=>by
   obtain⟨i1,i2,i3⟩:=joinTo_is hs k (by omega)
   obtain⟨j1,j2,j3⟩:=addLast_is (l:=joinTo zs k) (s:=zs.getD k hc0) i1 (fun c hc=>by
    obtain⟨d,d1,d2⟩:=(i2 (hkey c)).1 ⟨c,hc,rfl⟩
    obtain⟨i,hi,e⟩:=List.mem_iff_getElem.1 d1
    rw[List.length_take]at hi
    have h3:=hs i k (by omega) (by omega)
    have h4:zs.getD i hc0=d:=by
     rw[←e,List.getElem_take,List.getD_eq_getElem?_getD,List.getElem?_eq_getElem (by omega)]
     rfl
    rw[h4,d2]at h3
    exact h3)
   refine⟨j1,fun q=> ?_,fun q=> ?_⟩
   ·show Hs (addLast _ _) q↔_
    rw[j2 q,i2 q,take_snocH zs k (by omega)]
    constructor
    ·rintro(⟨c,c1,c2⟩ | c)
     ·exact⟨c,List.mem_append_left _ c1,c2⟩
     ·exact⟨_,List.mem_append_right _ (List.mem_singleton.2 rfl),c⟩
    ·rintro⟨c,c1,c2⟩
     rcases List.mem_append.1 c1 with c1 | c1
     ·exact .inl ⟨c,c1,c2⟩
     ·rw[List.mem_singleton.1 c1]at c2;exact .inr c2
   ·show tot (addLast _ _) q=_
    rw[j3 q,i3 q,take_snocH zs k (by omega),tot_append]
    simp only[tot]
    omega
theorem join_is {xs zs:List HC}(h:SortIs xs zs):joinTo zs zs.length=joinD xs:=by
 obtain⟨i1,i2,i3⟩:=joinTo_is h.sorted zs.length (Nat.le_refl _)
 obtain⟨j1,j2,j3⟩:=fold_is xs (l:=[]) List.Pairwise.nil
 have j2:∀k,Hs (joinD xs) k↔Hs [] k∨Hs xs k:=j2
 have j3:∀k,tot (joinD xs) k=tot [] k+tot xs k:=j3
 rw[List.take_length]at i2 i3
 refine str_unique i1 j1 (fun k=> ?_) (fun k=> ?_)
 ·rw[i2 k,j2 k,hs_perm h.perm k]
  exact⟨.inr,fun h=>h.elim (fun h=>absurd h hs_nil) id⟩
 ·rw[i3 k,j3 k,tot_perm h.perm k]
  simp[tot]
end
section
open Go.RowKit
theorem wrap_sub (p q:Nat)(h1:p<1000)(h2:q<1000):IntKind.i64.wrap ((p:Int) - (q:Int))=(p:Int) - (q:Int):=IntWalk.i64_in _ (by omega)
theorem wrap_addsub (p q r:Nat)(h1:p<1000)(h2:q<1000)(h3:r<1000):IntKind.i64.wrap ((p:Int)+(q:Int) - (r:Int))=(p:Int)+(q:Int) - (r:Int):=IntWalk.i64_in _ (by omega)
theorem rotate_any (B g n cap:Nat)(xs:List HC)(a m b:Nat)(w:World)(h:RowAt B g n cap xs w)(ham:a<m)(hmb:m<b)(hbn:b≤n)(hn:n≤200):
 Calls Tryd.prog 73 #[.slice (some ⟨g,0,none⟩) n cap,.int .i64 a,.int .i64 m,.int .i64 b,.func (.func 22) #[] #[]] w (MovEnd B g n cap xs (rotI a m b) a b w):=by
 have HH:=Lib.hid h
 clear h
 have hm1:m<1000:=by omega
 have ha1:a<1000:=by omega
 have hb1:b<1000:=by omega
 have HJ:=Lib.hid (fun zs p q r W h h1 h2 h3=>srange_any B g n cap zs p q r W h h1 h2 h3)
 go_enter Tryd.func73,Tryd.ntmps73
 have hws:=wrap_sub
 have hwa:=wrap_add
 have hwx:=wrap_addsub
 have HF:Hid (a<m∧m<b∧b≤n∧n≤200):=⟨ham,hmb,hbn,hn⟩
 clear ham hmb hbn hn
 go_wp2_with fail
 go_loopw [10,11] (fun vi vj wr=>∃(i j:Nat) (zs:List HC),vi= .int .i64 i∧vj= .int .i64 j∧i<1000∧j<1000∧Hid (0<i∧0<j∧a≤m - i∧i≤m∧m+j≤b)∧Hid (RowAt B g n cap zs wr∧Seg xs zs a b∧(∀k,at' zs (rotI (m - i) m (m+j) k)=at' xs (rotI a m b k))∧Below B w wr)) (fun vi vj _=>(intOf vi).toNat+(intOf vj).toNat)
 case atStart=>
  clear hws hwa hwx
  have hf:=HF.out
  refine⟨m - a,b - m,xs, ?_, ?_,by omega,by omega,⟨by omega,by omega,by omega,by omega,by omega⟩,HH.out,Seg.refl _ _ _,fun k=> ?_,Below.refl _ _⟩
  ·rw[show((m - a:Nat):Int)=(m:Int) - (a:Int) by omega]
  ·rw[show((b - m:Nat):Int)=(b:Int) - (m:Int) by omega]
  ·rw[show m - (m - a)=a by omega,show m+(b - m)=b by omega]
 case round=>
  obtain⟨i,j,zs,rfl,rfl,hi1,hj1,hij,hrel⟩:=hrel
  by_cases heq:i=j
  ·subst heq
   have HC:Hid (Calls Tryd.prog 83 #[.slice (some ⟨g,0,none⟩) n cap,.int .i64 ((m:Int) - (i:Int)),.int .i64 m,.int .i64 i,.func (.func 22) #[] #[]] wr (MovEnd B g n cap zs (swI (m - i) m i) (m - i) (m+i) wr)):=by
    have h1:=hij.out
    have h2:=HF.out
    have h3:=HJ.out zs (m - i) m i wr hrel.out.1 (by omega) (by omega) h2.2.2.2
    rw[show((m - i:Nat):Int)=(m:Int) - (i:Int) by omega]at h3
    exact h3
   have HFIN:Hid (∀w',MovEnd B g n cap zs (swI (m - i) m i) (m - i) (m+i) wr (.returned (.tuple #[])) w'→MovEnd B g n cap xs (rotI a m b) a b w (.returned (.tuple #[])) w'):=fun w'=>by
    rintro⟨_,ys,r1,r2,r3,r4⟩
    obtain⟨t1,t2,t3,t4⟩:=hrel.out
    have h1:=hij.out
    exact⟨rfl,ys,r1,t2.trans (r2.mono (by omega) (by omega)),fun t=>by rw[r3 t,rot_same h1.2.2.2.1,t3 t],t4.trans r4⟩
   clear hrel HH HJ
   go_wp2_with fail
   refine HC.out.mono ?_
   rintro e w5 ⟨rfl,h5⟩
   have H5:=Lib.hid (HFIN.out w5 ⟨rfl,h5⟩)
   clear h5 HC HFIN
   go_wp2_with fail
   go_end0
   exact H5.out
  ·have heqi:¬(i:Int)=(j:Int):=by omega
   by_cases hgt:j<i
   ·have hgti:(j:Int)<(i:Int):=by omega
    have HC:Hid (Calls Tryd.prog 83 #[.slice (some ⟨g,0,none⟩) n cap,.int .i64 ((m:Int) - (i:Int)),.int .i64 m,.int .i64 j,.func (.func 22) #[] #[]] wr (MovEnd B g n cap zs (swI (m - i) m j) (m - i) (m+j) wr)):=by
     have h1:=hij.out
     have h2:=HF.out
     have h3:=HJ.out zs (m - i) m j wr hrel.out.1 (by omega) (by omega) h2.2.2.2
     rw[show((m - i:Nat):Int)=(m:Int) - (i:Int) by omega]at h3
     exact h3
    have HFIN:Hid (∀w',MovEnd B g n cap zs (swI (m - i) m j) (m - i) (m+j) wr (.returned (.tuple #[])) w'→∃ys,Hid (0<i - j∧0<j∧a≤m - (i - j)∧i - j≤m∧m+j≤b)∧Hid (RowAt B g n cap ys w'∧Seg xs ys a b∧(∀k,at' ys (rotI (m - (i - j)) m (m+j) k)=at' xs (rotI a m b k))∧Below B w w')):=fun w'=>by
     rintro⟨_,ys,r1,r2,r3,r4⟩
     obtain⟨t1,t2,t3,t4⟩:=hrel.out
     have h1:=hij.out
     exact⟨ys,⟨by omega,by omega,by omega,by omega,by omega⟩,r1,t2.trans (r2.mono (by omega) (by omega)),fun t=>by rw[r3 _,rot_big (by omega) h1.2.2.2.1 hgt h1.2.1,t3 t],t4.trans r4⟩
    clear hrel HH HJ
    go_wp2_with fail
    refine HC.out.mono ?_
    rintro e w5 ⟨rfl,h5⟩
    obtain⟨ys,H5,H6⟩:=HFIN.out w5 ⟨rfl,h5⟩
    clear h5 HC HFIN
    have hjp:0<j:=H5.out.2.1
    go_wp2_with fail
    clear hws hwa hwx
    go_roundw
    case rel=>exact⟨i - j,j,ys,by rw[show((i - j:Nat):Int)=(i:Int) - (j:Int) by omega],rfl,by omega,hj1,H5,H6⟩
    case measure=>simp[intOf];omega
   ·have hgti:¬(j:Int)<(i:Int):=by omega
    have hlt:i<j:=by omega
    have HC:Hid (Calls Tryd.prog 83 #[.slice (some ⟨g,0,none⟩) n cap,.int .i64 ((m:Int) - (i:Int)),.int .i64 ((m:Int)+(j:Int) - (i:Int)),.int .i64 i,.func (.func 22) #[] #[]] wr (MovEnd B g n cap zs (swI (m - i) (m+j - i) i) (m - i) (m+j - i+i) wr)):=by
     have h1:=hij.out
     have h2:=HF.out
     have h3:=HJ.out zs (m - i) (m+j - i) i wr hrel.out.1 (by omega) (by omega) h2.2.2.2
     rw[show((m - i:Nat):Int)=(m:Int) - (i:Int) by omega,show((m+j - i:Nat):Int)=(m:Int)+(j:Int) - (i:Int) by omega]at h3
     exact h3
    have HFIN:Hid (∀w',MovEnd B g n cap zs (swI (m - i) (m+j - i) i) (m - i) (m+j - i+i) wr (.returned (.tuple #[])) w'→∃ys,Hid (0<i∧0<j - i∧a≤m - i∧i≤m∧m+(j - i)≤b)∧Hid (RowAt B g n cap ys w'∧Seg xs ys a b∧(∀k,at' ys (rotI (m - i) m (m+(j - i)) k)=at' xs (rotI a m b k))∧Below B w w')):=fun w'=>by
     rintro⟨_,ys,r1,r2,r3,r4⟩
     obtain⟨t1,t2,t3,t4⟩:=hrel.out
     have h1:=hij.out
     exact⟨ys,⟨by omega,by omega,by omega,by omega,by omega⟩,r1,t2.trans (r2.mono (by omega) (by omega)),fun t=>by rw[r3 _,rot_small (by omega) h1.2.2.2.1 hlt h1.1,t3 t],t4.trans r4⟩
    clear hrel HH HJ
    go_wp2_with fail
    refine HC.out.mono ?_
    rintro e w5 ⟨rfl,h5⟩
    obtain⟨ys,H5,H6⟩:=HFIN.out w5 ⟨rfl,h5⟩
    clear h5 HC HFIN
    have hip:0<i:=H5.out.1
    go_wp2_with fail
    clear hws hwa hwx
    go_roundw
    case rel=>exact⟨i,j - i,ys,rfl,by rw[show((j - i:Nat):Int)=(j:Int) - (i:Int) by omega],hi1,by omega,H5,H6⟩
    case measure=>simp[intOf];omega
end
section
open Go.RowKit
theorem step_append_run {P:Program}{ops:Array Oper}{o:Oper}{a:Act}{w:World}{K:Act→World→Prop}{Q:Exit→Act→World→Prop}{E:Prop}
 (hg:o.guard=none) (s x:Operand) (t:TypeId) (hop:o.op=Op.call { callee:=Callee.builtin Builtin.append,args:= #[s,x],argTypes:= #[t,t] })
 (v1 v2 v':Value) (w':World) (h1:a.eval s=v1) (h2:a.eval x=v2) (hr:∀ty,(Builtin.append_ #[t,t] ty #[v1,v2]).run P w= .ok v' w') (hK:K (a.put o.dst v') w'):
 if Region.wanted o (yielded ops a.tmps)=true then Oper.wp P o a w K Q else E:=by
 have hw:Region.wanted o (yielded ops a.tmps)=true:=by simp[Region.wanted,hg]
 rw[if_pos hw]
 unfold Oper.wp
 simp[execOp,hop,resolve,invoke,builtin,h1,h2,hr,Result.andThen]
 exact hK
end
section
open Go.RowKit
theorem seg_le {xs:List HC}{a b u v:Nat}(h:SortedSeg xs a b)(h1:a≤u)(h2:u≤v)(h3:v<b):le (at' xs u) (at' xs v):=by
 by_cases e:u=v
 ·subst e;exact le_refl _
 ·exact h u v h1 (by omega) h3
theorem rotI_out {s m e k:Nat}(h:k<s∨e≤k):rotI s m e k=k:=by unfold rotI;rw[if_pos h]
theorem rotI_lo {s m e k:Nat}(h:s≤k)(h1:k<s+(e - m))(h2:s≤m)(h3:m≤e):rotI s m e k=k+(m - s):=by unfold rotI;rw[if_neg (by omega),if_pos h1]
theorem rotI_hi {s m e k:Nat}(h:s+(e - m)≤k)(h1:k<e):rotI s m e k=k - (e - m):=by unfold rotI;rw[if_neg (by omega),if_neg (by omega)]
theorem one_right {xs ys:List HC}{a b i:Nat}(hs:SortedSeg xs (a+1) b)(hi:a+1≤i)(hib:i≤b)(hlo:a+1<i→le (at' xs (i - 1)) (at' xs a))(hhi:i<b→le (at' xs a) (at' xs i))(hm:Mov xs ys (rotI a (a+1) i)):SortedSeg ys a b:=fun p q h1 h2 h3=>by
 rw[hm p,hm q]
 by_cases hq:i≤q
 ·rw[rotI_out (k:=q) (.inr hq)]
  by_cases hp:i≤p
  ·rw[rotI_out (k:=p) (.inr hp)];exact hs p q (by omega) h2 h3
  ·by_cases hp1:p+1=i
   ·rw[rotI_hi (k:=p) (by omega) (by omega),show p - (i - (a+1))=a by omega]
    exact le_trans (hhi (by omega)) (seg_le hs hi hq h3)
   ·rw[rotI_lo (k:=p) h1 (by omega) (by omega) hi]
    exact seg_le hs (by omega) (by omega) h3
 ·by_cases hq1:q+1=i
  ·rw[rotI_hi (k:=q) (by omega) (by omega),show q - (i - (a+1))=a by omega,rotI_lo (k:=p) h1 (by omega) (by omega) hi]
   exact le_trans (seg_le hs (u:=p+(a+1 - a)) (v:=i - 1) (by omega) (by omega) (by omega)) (hlo (by omega))
  ·rw[rotI_lo (k:=q) (by omega) (by omega) (by omega) hi,rotI_lo (k:=p) h1 (by omega) (by omega) hi]
   exact seg_le hs (by omega) (by omega) (by omega)
theorem one_left {xs ys:List HC}{a m i:Nat}(hs:SortedSeg xs a m)(hi:a≤i)(him:i≤m)(hlo:a<i→le (at' xs (i - 1)) (at' xs m))(hhi:i<m→le (at' xs m) (at' xs i))(hm:Mov xs ys (rotI i m (m+1))):SortedSeg ys a (m+1):=fun p q h1 h2 h3=>by
 rw[hm p,hm q]
 by_cases hp:p<i
 ·rw[rotI_out (k:=p) (.inl hp)]
  by_cases hq:q<i
  ·rw[rotI_out (k:=q) (.inl hq)];exact hs p q h1 h2 (by omega)
  ·by_cases hq1:q=i
   ·rw[rotI_lo (k:=q) (by omega) (by omega) him (by omega),show q+(m - i)=m by omega]
    exact le_trans (seg_le hs (u:=p) (v:=i - 1) h1 (by omega) (by omega)) (hlo (by omega))
   ·rw[rotI_hi (k:=q) (by omega) (by omega)]
    exact seg_le hs h1 (by omega) (by omega)
 ·by_cases hp1:p=i
  ·rw[rotI_lo (k:=p) (by omega) (by omega) him (by omega),show p+(m - i)=m by omega,rotI_hi (k:=q) (by omega) (by omega)]
   exact le_trans (hhi (by omega)) (seg_le hs hi (by omega) (by omega))
  ·rw[rotI_hi (k:=p) (by omega) (by omega),rotI_hi (k:=q) (by omega) (by omega)]
   exact seg_le hs (by omega) (by omega) (by omega)
structure Cross (ys:List HC)(a s mid e b:Nat):Prop where
 s1:SortedSeg ys a s
 s2:SortedSeg ys s mid
 s3:SortedSeg ys mid e
 s4:SortedSeg ys e b
 cr:∀p q,a≤p→p<mid→mid≤q→q<b→le (at' ys p) (at' ys q)
theorem cross_of {xs ys:List HC}{a s m e b:Nat}(h1:SortedSeg xs a m)(h2:SortedSeg xs m b)(has:a≤s)(hsm:s≤m)(hme:m≤e)(heb:e≤b)(c1:a<s→e<b→le (at' xs (s - 1)) (at' xs e))(c2:s<m→m<e→le (at' xs (e - 1)) (at' xs s))(hm:Mov xs ys (rotI s m e)):Cross ys a s (s+(e - m)) e b:=by
 refine⟨fun p q i1 i2 i3=> ?_,fun p q i1 i2 i3=> ?_,fun p q i1 i2 i3=> ?_,fun p q i1 i2 i3=> ?_,fun p q i1 i2 i3 i4=> ?_⟩
 ·rw[hm p,hm q,rotI_out (.inl (by omega)),rotI_out (.inl i3)];exact h1 p q i1 i2 (by omega)
 ·rw[hm p,hm q,rotI_lo i1 (by omega) hsm hme,rotI_lo (by omega) i3 hsm hme];exact h2 _ _ (by omega) (by omega) (by omega)
 ·rw[hm p,hm q,rotI_hi i1 (by omega),rotI_hi (by omega) i3];exact h1 _ _ (by omega) (by omega) (by omega)
 ·rw[hm p,hm q,rotI_out (.inr i1),rotI_out (.inr (by omega))];exact h2 p q (by omega) i2 i3
 ·rw[hm p,hm q]
  by_cases hp:p<s
  ·rw[rotI_out (k:=p) (.inl hp)]
   by_cases hq:q<e
   ·rw[rotI_hi (k:=q) i3 hq];exact seg_le h1 i1 (by omega) (by omega)
   ·rw[rotI_out (k:=q) (.inr (by omega))]
    exact le_trans (seg_le h1 (u:=p) (v:=s - 1) i1 (by omega) (by omega)) (le_trans (c1 (by omega) (by omega)) (seg_le h2 (u:=e) (v:=q) hme (by omega) i4))
  ·rw[rotI_lo (k:=p) (by omega) i2 hsm hme]
   by_cases hq:q<e
   ·rw[rotI_hi (k:=q) i3 hq]
    exact le_trans (seg_le h2 (u:=p+(m - s)) (v:=e - 1) (by omega) (by omega) (by omega)) (le_trans (c2 (by omega) (by omega)) (seg_le h1 (u:=s) (v:=q - (e - m)) has (by omega) (by omega)))
   ·rw[rotI_out (k:=q) (.inr (by omega))];exact seg_le h2 (by omega) (by omega) i4
theorem Mov.none {xs:List HC}{s m e:Nat}(h:s=m∨e=m)(hsm:s≤m)(hme:m≤e):Mov xs xs (rotI s m e):=fun t=>by
 congr 1
 unfold rotI
 repeat' split
 all_goals omega
theorem Cross.lo {ys:List HC}{a s mid e b:Nat}(h:Cross ys a s mid e b)(hn:¬(a<s∧s<mid))(h1:a≤s)(h2:s≤mid):SortedSeg ys a mid:=by
 by_cases e1:s=a
 ·have:=h.s2;rw[e1]at this;exact this
 ·obtain rfl:s=mid:=by omega
  exact h.s1
theorem Cross.hi {ys:List HC}{a s mid e b:Nat}(h:Cross ys a s mid e b)(hn:¬(mid<e∧e<b))(h1:mid≤e)(h2:e≤b):SortedSeg ys mid b:=by
 by_cases e1:e=b
 ·have:=h.s3;rw[e1]at this;exact this
 ·obtain rfl:e=mid:=by omega
  exact h.s4
theorem SortedSeg.seg {xs ys:List HC}{a b c d:Nat}(h:SortedSeg xs a b)(hs:Seg xs ys c d)(hd:b≤c∨d≤a):SortedSeg ys a b:=fun p q h1 h2 h3=>by
 rw[hs.out p (by omega),hs.out q (by omega)];exact h p q h1 h2 h3
theorem merged {ys z1 z2:List HC}{a mid b:Nat}(hc:∀p q,a≤p→p<mid→mid≤q→q<b→le (at' ys p) (at' ys q))(h1:Seg ys z1 a mid)(h2:Seg z1 z2 mid b)(k1:SortedSeg z1 a mid)(k2:SortedSeg z2 mid b):SortedSeg z2 a b:=fun p q i1 i2 i3=>by
 by_cases hq:q<mid
 ·rw[h2.out p (.inl (by omega)),h2.out q (.inl hq)];exact k1 p q i1 i2 hq
 ·by_cases hp:mid≤p
  ·exact k2 p q hp i2 i3
  ·obtain⟨p',p1,p2,p3⟩:=h1.inn p i1 (by omega)
   obtain⟨q',q1,q2,q3⟩:=h2.inn q (by omega) i3
   rw[h2.out p (.inl (by omega)),p3,q3,h1.out q' (.inr q1)]
   exact hc p' q' p1 p2 q1 q2
theorem Mov.stepR {xs zs:List HC}{a k:Nat}(h:Mov xs zs (rotI a (a+1) (k+1)))(hak:a≤k)(hl:k+1<zs.length):Mov xs (swp zs k (k+1)) (rotI a (a+1) (k+1+1)):=fun t=>by
 rw[swp_at (by omega) hl]
 repeat' split
 all_goals
  first
   | rw[h k]
   | rw[h (k+1)]
   | rw[h t]
  congr 1
  unfold rotI
  repeat' split
  all_goals omega
theorem Mov.stepL {xs zs:List HC}{m k:Nat}(h:Mov xs zs (rotI (k+1) m (m+1)))(hak:k+1≤m)(hl:m<zs.length):Mov xs (swp zs (k+1) k) (rotI k m (m+1)):=fun t=>by
 rw[swp_at (by omega) (by omega)]
 repeat' split
 all_goals
  first
   | rw[h (k+1)]
   | rw[h k]
   | rw[h t]
  congr 1
  unfold rotI
  repeat' split
  all_goals omega
end
section
open Go.RowKit
def SymSaid (B g n cap d:Nat):Prop:=∀(xs:List HC) (a m b:Nat) (W:World),b - a<d→RowAt B g n cap xs W→a<m→m<b→b≤n→SortedSeg xs a m→SortedSeg xs m b→Calls Tryd.prog 47 #[.slice (some ⟨g,0,none⟩) n cap,.int .i64 a,.int .i64 m,.int .i64 b,.func (.func 22) #[] #[]] W (SegEnd B g n cap xs a b W)
end
section
open Go.RowKit
theorem symm_left (B g n cap:Nat)(xs:List HC)(a m:Nat)(w:World)(h:RowAt B g n cap xs w)(ham:a+1<m)(hmn:m<n)(hn:n≤200)(hs:SortedSeg xs a m):
 Calls Tryd.prog 47 #[.slice (some ⟨g,0,none⟩) n cap,.int .i64 a,.int .i64 m,.int .i64 ((m:Int)+1),.func (.func 22) #[] #[]] w (SegEnd B g n cap xs a (m+1) w):=by
 have HH:=Lib.hid h
 have HS:=Lib.hid hs
 have HJ:=Lib.hid (fun x y W=>jcmp_any x y W)
 clear h hs
 have ha1:a<1000:=by omega
 have hm1:m<1000:=by omega
 have hone:IntKind.i64.wrap ((m:Int)+1 - (m:Int))=1:=by rw[show(m:Int)+1 - (m:Int)=1 by omega];rfl
 have hsb:IntKind.i64.wrap ((m:Int) - (a:Int))=(m:Int) - (a:Int):=IntWalk.i64_in _ (by omega)
 have hne:((m:Int) - (a:Int) == 1)=false:=by rw[beq_eq_false_iff_ne];omega
 go_enter Tryd.func47,Tryd.ntmps47
 go_wp2_with fail
 clear hone hsb hne
 have hi0:∀k:Nat,k<1000→IntKind.i64.wrap (((k+1:Nat):Int) - 1)=(k:Int):=fun k h=>(ifacts k h).1
 have hi1:∀k:Nat,k<1000→IntKind.i64.wrap ((k:Int)+1)=(k:Int)+1:=fun k h=>(ifacts k h).2.2.2.2.1
 have hi2:∀k:Nat,k<1000→IntKind.i64.wrap ((k:Int)+1 - 1)=(k:Int):=fun k h=>(ifacts k h).2.1
 have hi3:∀k:Nat,k<1000→IntKind.i64.wrap (k:Int)=(k:Int):=fun k h=>(ifacts k h).2.2.1
 have hi4:∀k:Nat,k<1000→wrap64 (k:Int)=(k:Int):=fun k h=>(ifacts k h).2.2.2.1
 have hwa:=wrap_add
 have HF:Hid (a+1<m∧m<n∧n≤200):=⟨ham,hmn,hn⟩
 clear ham hn
 go_loopw [14,15] (fun vi vj wr=>∃(p q:Nat),vi= .int .i64 p∧vj= .int .i64 q∧p<1000∧q<1000∧Hid (a≤p∧p≤q∧q≤m∧(a<p→le (at' xs (p - 1)) (at' xs m))∧(q<m→le (at' xs m) (at' xs q)))∧Hid (RowAt B g n cap xs wr∧Below B w wr)) (fun vi vj _=>(intOf vj - intOf vi).toNat)
 case atStart=>exact⟨a,m,rfl,rfl,ha1,hm1,⟨Nat.le_refl _,by have:=HF.out;omega,Nat.le_refl _,fun h=>absurd h (Nat.lt_irrefl _),fun h=>absurd h (Nat.lt_irrefl _)⟩,HH.out,Below.refl _ _⟩
 case round=>
  obtain⟨p,q,rfl,rfl,hp1,hq1,hpq,hrel⟩:=hrel
  by_cases hlt:p<q
  ·have hlti:(p:Int)<(q:Int):=by omega
   obtain⟨h,hh⟩:∃h,(p+q) / 2=h:=⟨_,rfl⟩
   have hhi:((p:Int)+(q:Int)) / 2=(h:Int):=by omega
   have hsum:IntKind.i64.wrap ((p:Int)+(q:Int))=(p:Int)+(q:Int):=IntWalk.i64_in _ (by omega)
   have HHB:Hid (p≤h∧h<q):=⟨by omega,by omega⟩
   have hh1:h<1000:=by omega
   have hhn:h<n:=by have:=HF.out;have:=hpq.out;omega
   have hhni:(h:Int)<(n:Int):=by omega
   have hmni:(m:Int)<(n:Int):=by omega
   have hh0:¬(h:Int)<0:=by omega
   have hm0:¬(m:Int)<0:=by omega
   obtain⟨c1,c2,c3⟩:=hrel.out.1.cells (i:=h) hhn
   obtain⟨d1,d2,d3⟩:=hrel.out.1.cells (i:=m) hmn
   have HC:Hid (∀W,Calls Tryd.prog 22 #[.agg #[.int .i64 (at' xs m).a,.string (at' xs m).f,.int .i64 (at' xs m).v],.agg #[.int .i64 (at' xs h).a,.string (at' xs h).f,.int .i64 (at' xs h).v]] W fun e w'=>e= .returned (.int .i64 (ordK (hkey (at' xs m)) (hkey (at' xs h))))∧Below W.heap.size W w'):=HJ.out _ _
   have HGE:Hid (¬ordK (hkey (at' xs m)) (hkey (at' xs h))<0→a≤h+1∧h+1≤q∧q≤m∧(a<h+1→le (at' xs h) (at' xs m))∧(q<m→le (at' xs m) (at' xs q))):=fun ho=>by
    have h1:=hpq.out
    have h2:=HHB.out
    exact⟨by omega,by omega,h1.2.2.1,fun _=>fun hk=>ho (ordK_lt.2 hk),h1.2.2.2.2⟩
   have HLT:Hid (ordK (hkey (at' xs m)) (hkey (at' xs h))<0→a≤p∧p≤h∧h≤m∧(a<p→le (at' xs (p - 1)) (at' xs m))∧(h<m→le (at' xs m) (at' xs h))):=fun ho=>by
    have h1:=hpq.out
    have h2:=HHB.out
    exact⟨h1.1,h2.1,by omega,h1.2.2.2.1,fun _=>le_of_lt (ordK_lt.1 ho)⟩
   have HRB:=Lib.hid (fun d os=>(⟨hrel.out.1.below (below_regrown wr d os),regrown_trV hrel.out.2 (Nat.le_of_lt (Nat.lt_of_le_of_lt hrel.out.1.low.1 hrel.out.1.low.2)) d os⟩:RowAt B g n cap xs (Go.Sort.grow (redrawn wr d) os)∧Below B w (Go.Sort.grow (redrawn wr d) os)))
   clear hrel HH HS HJ
   generalize ordK (hkey (at' xs m)) (hkey (at' xs h))=o at HC HLT HGE
   generalize at' xs h=x at c1 c2 c3 HC
   generalize at' xs m=y at d1 d2 d3 HC HLT HGE
   obtain⟨xa,xf,xv⟩:=x
   obtain⟨ya,yf,yv⟩:=y
   simp only at c1 c2 c3 d1 d2 d3
   have cJ:=fun d os=>Calls.regrown_of (HC.out (Go.Sort.grow (redrawn wr d) os))
   have r1:=fun d os=>cell_regrown c1 d os
   have r2:=fun d os=>cell_regrown c2 d os
   have r3:=fun d os=>cell_regrown c3 d os
   have r4:=fun d os=>cell_regrown d1 d os
   have r5:=fun d os=>cell_regrown d2 d os
   have r6:=fun d os=>cell_regrown d3 d os
   go_wp2_with fail
   refine wp_region_quiet_below (by kernel_rfl) (by kernel_rfl) ?_
   repeat (go_big_quiet_step (with_reducible exact cJ _ _))
   refine wpQuiet_nil ?_
   intro _ hw'
   obtain⟨⟨dq,osq⟩,hw''⟩:=hw'
   subst hw''
   have HRB:=Lib.hid (HRB.out dq osq)
   clear r1 r2 r3 r4 r5 r6 c1 c2 c3 d1 d2 d3 cJ HC
   by_cases ho:o<0
   ·have HL2:=Lib.hid (HLT.out ho)
    have hob:(!decide (o<0))=false:=by rw[decide_eq_true (show o<0 by omega)];rfl
    clear HLT HGE
    generalize Go.Sort.grow (redrawn wr dq) osq=W0 at HRB⊢
    go_wp2_with fail
    all_goals try (exfalso;rename_i hd;rw[hob]at hd;exact Bool.noConfusion hd)
    clear hsum hi0 hi1 hi2 hi3 hi4 hwa
    go_roundw
    case rel=>exact⟨p,h,rfl,rfl,hp1,hh1,HL2,HRB⟩
    case measure=>have:=HHB.out;simp[intOf];omega
   ·have HL2:=Lib.hid (HGE.out (by first | exact ho | omega))
    have hob:(!decide (o<0))=true:=by rw[decide_eq_false (show ¬o<0 by omega)];rfl
    clear HLT HGE
    generalize Go.Sort.grow (redrawn wr dq) osq=W0 at HRB⊢
    go_wp2_with fail
    all_goals try (exfalso;rename_i hd;rw[hob]at hd;exact Bool.noConfusion hd)
    clear hsum hi0 hi1 hi2 hi3 hi4 hwa
    go_roundw
    case rel=>exact⟨h+1,q,by go_num,rfl,by have:=HHB.out;omega,hq1,HL2,HRB⟩
    case measure=>have:=HHB.out;simp[intOf];omega
  ·have hlti:¬(p:Int)<(q:Int):=by omega
   have HP:Hid (a≤p∧p≤m∧(a<p→le (at' xs (p - 1)) (at' xs m))∧(p<m→le (at' xs m) (at' xs p))):=by
    have h1:=hpq.out
    obtain rfl:q=p:=by omega
    exact⟨h1.1,h1.2.2.1,h1.2.2.2.1,h1.2.2.2.2⟩
   go_wp2_with fail
   clear hpq
   go_loopw [17] (fun vk wk=>∃(k:Nat) (zs:List HC),vk= .int .i64 k∧p≤k∧Hid (k≤m)∧Hid (RowAt B g n cap zs wk∧Seg xs zs a (m+1)∧Mov xs zs (rotI k m (m+1))∧Below B w wk)) (fun vk _=>(intOf vk).toNat)
   case atStart=>exact⟨m,xs,rfl,HP.out.2.1,Nat.le_refl _,hrel.out.1,Seg.refl _ _ _,Mov.none (.inl rfl) (Nat.le_refl _) (by omega),hrel.out.2⟩
   case round=>
    obtain⟨k,zs,rfl,hkp,hkm,hrelk⟩:=hrel
    by_cases hk:p<k
    ·obtain⟨k,rfl⟩:∃k',k=k'+1:=⟨k - 1,by omega⟩
     have hki:(p:Int)<(k:Int)+1:=by omega
     have hkn:k+1<n:=by have:=hkm.out;omega
     have hkni:(k:Int)+1<(n:Int):=by omega
     have hkni2:(k:Int)<(n:Int):=by omega
     have hk0:¬(k:Int)+1<0:=by omega
     have hk1:k<1000:=by have:=HF.out;omega
     have HFIN:Hid (RowAt B g n cap (swp zs (k+1) k) (put3 (put3 wr g (k+1) (at' zs k)) g k (at' zs (k+1))).drew∧Seg xs (swp zs (k+1) k) a (m+1)∧Mov xs (swp zs (k+1) k) (rotI k m (m+1))∧Below B w (put3 (put3 wr g (k+1) (at' zs k)) g k (at' zs (k+1))).drew):=by
      obtain⟨t1,t2,t3,t4⟩:=hrelk.out
      have h0:=HF.out
      have h1:=HP.out
      have h2:=hkm.out
      obtain⟨s1,s2⟩:=t1.swap (i:=k+1) (j:=k) hkn (by omega)
      exact⟨s1.below (Below.refl _ _).drew,t2.swap (by rw[t1.len];omega) (by rw[t1.len];omega) ⟨by omega,by omega⟩ ⟨by omega,by omega⟩,t3.stepL h2 (by rw[t1.len];exact hmn),t4.trans s2.drew⟩
     have HKM:Hid (k≤m):=Nat.le_of_succ_le hkm.out
     obtain⟨c1,c2,c3⟩:=hrelk.out.1.cells (i:=k+1) hkn
     obtain⟨d1,d2,d3⟩:=hrelk.out.1.cells (i:=k) (by omega)
     have f1:=hrelk.out.1.frozen
     clear hrelk HP HH HS HJ hkm
     generalize swp zs (k+1) k=zs' at HFIN
     generalize at' zs (k+1)=x at c1 c2 c3 HFIN
     generalize at' zs k=y at d1 d2 d3 HFIN
     obtain⟨xa,xf,xv⟩:=x
     obtain⟨ya,yf,yv⟩:=y
     simp only at c1 c2 c3 d1 d2 d3
     go_wp2_with fail
     go_region
     all_goals
      clear f1 c1 c2 c3 d1 d2 d3
      go_wp2_with fail
      clear hi0 hi1 hi2 hi3 hi4 hwa
      go_roundw
      case rel=>exact⟨k,_,by go_num,by omega,HKM,HFIN⟩
      case measure=>simp[intOf]
    ·obtain rfl:k=p:=by omega
     have hki:¬(k:Int)<(k:Int):=by omega
     have HE:Hid (SegEnd B g n cap xs a (m+1) w (.returned (.tuple #[])) wr):=by
      obtain⟨t1,t2,t3,t4⟩:=hrelk.out
      obtain⟨u1,u2,u3,u4⟩:=HP.out
      exact⟨rfl,zs,t1,t2,one_left HS.out u1 u2 u3 u4 t3,t4⟩
     clear hrelk HP
     go_wp2_with fail
     go_end0
     exact HE.out
end
section
open Go.RowKit
theorem SRow.lies {B:Nat}{xs:List HC}{v:Value}{w:World}(h:SRow B xs v w):∃a cap,v= .slice a xs.length cap∧xs.length≤cap∧cap≤9223372036854775807∧HLies w.heap.size w a xs:=by
 obtain⟨a,cap,e,h3,h4,h5,_⟩:=own_hlies rfl h
 exact⟨a,cap,e,h3,h4,h5⟩
theorem addD_len (s:HC):∀(d:Bool) (l:List HC),(addD s d l).length≤l.length+1
 | d,[]=>by unfold addD;split<;>simp
 | d,x :: l=>by
   unfold addD
   split
   ·have:=addD_len s true l;simp;omega
   ·split
    ·rename_i h1 h2
     have h3:∀m:List HC,(addD s true m).length=m.length:=fun m=>by
      induction m with
      | nil=>simp[addD]
      | cons y m ih=>
        unfold addD
        split
        ·simp[ih]
        ·rw[if_neg (by simp)];simp[ih]
     simp[h3]
    ·have:=addD_len s d l;simp;omega
theorem fold_len:∀(zs l:List HC),(zs.foldl (fun l s=>addD s false l) l).length≤l.length+zs.length
 | [],l=>by simp
 | z :: zs,l=>by
   have h1:=fold_len zs (addD z false l)
   have h2:=addD_len z false l
   show(zs.foldl _ (addD z false l)).length≤_
   simp only[List.length_cons]
   omega
theorem joinD_len (zs:List HC):(joinD zs).length≤zs.length:=by
 have:=fold_len zs []
 simpa [joinD]using this
end
end Go.Proofs.YtfinhpfjokpcfaaDoor
