/- Parts of a proof. -/
import Derived.Test.YtfcaclmcnlflfaaGreatDoorQ01
import Derived.Test.YtfcaclmcnlflfaaGreatDoorQ02
import Derived.Deep.WholeRow
import Derived.Deep.QuietTactic
import Derived.BigQuiet
import Derived.Shelf.Abstract
import Derived.Deep.AppendLies
set_option linter.unusedVariables false
set_option linter.unusedSimpArgs false
set_option maxHeartbeats 60000000
set_option maxRecDepth 100000
namespace Go.Proofs.YtfcaclmcnlflfaaGreatDoor
section
open Go.RowKit
theorem assn_form {n:Nat}{S:Nat→Prop}{w:World}{cs:List Value}{a:AT}(h:(assnSh (n+1)).rel S w cs a):
 ∃k a1 c1 a2 c2 a3 c3 a4 c4 a5 c5,n=k+1∧cs=[.int .i64 a.kind,.int .i64 a.c.kind,.slice a1 a.c.es.length c1,.slice a2 a.c.ks.length c2,.int .i64 a.e.kind,.int .i64 a.e.n,.string a.e.name,.slice a3 a.e.ks.length c3,.int .i64 a.v.kind,.int .i64 a.v.n,.string a.v.name,.slice a4 a.v.ks.length c4,.string a.field,.int .i64 a.n,.slice a5 a.ks.length c5]∧(i64 a.kind∧i64 a.n∧a.field.size≤maxLen)∧
  (condSh (k+1)).rel S w [.int .i64 a.c.kind,.slice a1 a.c.es.length c1,.slice a2 a.c.ks.length c2] a.c∧(exprSh (k+1)).rel S w [.int .i64 a.e.kind,.int .i64 a.e.n,.string a.e.name,.slice a3 a.e.ks.length c3] a.e∧(exprSh (k+1)).rel S w [.int .i64 a.v.kind,.int .i64 a.v.n,.string a.v.name,.slice a4 a.v.ks.length c4] a.v∧Pak.Sits (assnSh (k+1)) S w a5 a.ks:=by
 obtain⟨cc,ce,cv,v,rfl,h0,hc,he,hv,a5,c5,rfl,hs⟩:=h
 cases n with
 | zero=>exact hc.elim
 | succ k=>
   have hc':=hc
   have he':=he
   have hv':=hv
   obtain⟨u1,u2,rfl,_,⟨a1,c1,rfl,_⟩,⟨a2,c2,rfl,_⟩⟩:=hc'
   obtain⟨u3,rfl,_,a3,c3,rfl,_⟩:=he'
   obtain⟨u4,rfl,_,a4,c4,rfl,_⟩:=hv'
   exact⟨k,a1,c1,a2,c2,a3,c3,a4,c4,a5,c5,rfl,rfl,h0,hc,he,hv,hs⟩
theorem rel_low {T:Type}{sh:Pak.Sh T}{w w':World}{cs:List Value}{x:T}(h:sh.rel (Pak.Lo w.heap.size) w cs x)(hb:Below w.heap.size w w'):sh.rel (Pak.Lo w'.heap.size) w' cs x:=
 sh.keep (fun b (h:b<w.heap.size)=>Nat.lt_of_lt_of_le h hb.size) (fun b o (h:b<w.heap.size)=>hb.cell (p:=⟨b,o,none⟩) h) h
theorem deepA_any:∀(n m:Nat) (a:AT) (cs:List Value) (w:World),m≤1000000→(assnSh n).rel (Pak.Lo w.heap.size) w cs a→
 Calls Tryz.prog 31 #[.agg cs.toArray,.int .i64 m] w fun r w'=>r= .returned (.bool (dpA m a))∧Below w.heap.size w w'
 | 0,_,_,_,_,_,h=>h.elim
 | n+1,m,a,cs,w,hm,h=>by
   have IH:=deepA_any n
   obtain⟨k,a1,c1,a2,c2,a3,c3,a4,c4,a5,c5,rfl,rfl,_,hc,he,hv,hs⟩:=assn_form h
   have hA:Below w.heap.size w (w.alloc (.cells #[.int .i64 a.kind,.int .i64 a.c.kind,.slice a1 a.c.es.length c1,.slice a2 a.c.ks.length c2,.int .i64 a.e.kind,.int .i64 a.e.n,.string a.e.name,.slice a3 a.e.ks.length c3,.int .i64 a.v.kind,.int .i64 a.v.n,.string a.v.name,.slice a4 a.v.ks.length c4,.string a.field,.int .i64 a.n,.slice a5 a.ks.length c5] 44)):=box_low
   have HA:=Lib.hid hA
   cases m with
   | zero=>
     have hd:dpA 0 a=true:=rfl
     rw[hd]
     clear hs IH hd hA hc he hv h
     go_enter Tryz.func31,Tryz.ntmps31
     go_wp2_with fail
     go_ret
     exact⟨rfl,HA.out⟩
   | succ m=>
     have HS1:=Lib.hid (fun W (hb:Below w.heap.size w W)=>deepC_any (k+1) m a.c _ W (by omega) (rel_low hc hb))
     have HS2:=Lib.hid (fun W (hb:Below w.heap.size w W)=>deepE_any (k+1) m a.e _ W (by omega) (rel_low he hb))
     have HS3:=Lib.hid (fun W (hb:Below w.heap.size w W)=>deepE_any (k+1) m a.v _ W (by omega) (rel_low hv hb))
     have HS4:=Lib.hid (fun W (hb:Below w.heap.size w W)=>someA_any (k+1) 31 m (dpA m) a5 a.ks.length c5 a.ks W (fun args w=>by kernel_rfl) rfl (hs.below hb hb.size) (fun cs x W hx hb hr=>IH m x cs W (by omega) hr))
     have hd:dpA (m+1) a=(dpC m a.c || dpE m a.e || dpE m a.v || a.ks.any (dpA m)):=rfl
     rw[hd]
     have hk0:((m:Int)+1 == 0)=false:=by simp;omega
     have HCL:Hid (∀W,Below (w.alloc (.cells #[.int .i64 a.kind,.int .i64 a.c.kind,.slice a1 a.c.es.length c1,.slice a2 a.c.ks.length c2,.int .i64 a.e.kind,.int .i64 a.e.n,.string a.e.name,.slice a3 a.e.ks.length c3,.int .i64 a.v.kind,.int .i64 a.v.n,.string a.v.name,.slice a4 a.v.ks.length c4,.string a.field,.int .i64 a.n,.slice a5 a.ks.length c5] 44)).heap.size (w.alloc (.cells #[.int .i64 a.kind,.int .i64 a.c.kind,.slice a1 a.c.es.length c1,.slice a2 a.c.ks.length c2,.int .i64 a.e.kind,.int .i64 a.e.n,.string a.e.name,.slice a3 a.e.ks.length c3,.int .i64 a.v.kind,.int .i64 a.v.n,.string a.v.name,.slice a4 a.v.ks.length c4,.string a.field,.int .i64 a.n,.slice a5 a.ks.length c5] 44)) W→W.cell? ⟨w.heap.size,4,none⟩=some (.int .i64 a.e.kind)∧W.cell? ⟨w.heap.size,5,none⟩=some (.int .i64 a.e.n)∧W.cell? ⟨w.heap.size,6,none⟩=some (.string a.e.name)∧W.cell? ⟨w.heap.size,7,none⟩=some (.slice a3 a.e.ks.length c3)∧W.cell? ⟨w.heap.size,8,none⟩=some (.int .i64 a.v.kind)∧W.cell? ⟨w.heap.size,9,none⟩=some (.int .i64 a.v.n)∧W.cell? ⟨w.heap.size,10,none⟩=some (.string a.v.name)∧W.cell? ⟨w.heap.size,11,none⟩=some (.slice a4 a.v.ks.length c4)∧W.cell? ⟨w.heap.size,12,none⟩=some (.string a.field)∧W.cell? ⟨w.heap.size,13,none⟩=some (.int .i64 a.n)∧W.cell? ⟨w.heap.size,14,none⟩=some (.slice a5 a.ks.length c5)):=fun W hb=>by
      have hn:=heap_alloc_new w (.cells #[.int .i64 a.kind,.int .i64 a.c.kind,.slice a1 a.c.es.length c1,.slice a2 a.c.ks.length c2,.int .i64 a.e.kind,.int .i64 a.e.n,.string a.e.name,.slice a3 a.e.ks.length c3,.int .i64 a.v.kind,.int .i64 a.v.n,.string a.v.name,.slice a4 a.v.ks.length c4,.string a.field,.int .i64 a.n,.slice a5 a.ks.length c5] 44)
      have hl:w.heap.size<(w.alloc (.cells #[.int .i64 a.kind,.int .i64 a.c.kind,.slice a1 a.c.es.length c1,.slice a2 a.c.ks.length c2,.int .i64 a.e.kind,.int .i64 a.e.n,.string a.e.name,.slice a3 a.e.ks.length c3,.int .i64 a.v.kind,.int .i64 a.v.n,.string a.v.name,.slice a4 a.v.ks.length c4,.string a.field,.int .i64 a.n,.slice a5 a.ks.length c5] 44)).heap.size:=by simp
      exact⟨(hb.cell (p:=⟨w.heap.size,4,none⟩) hl).trans ((cell_of_row _ _ _ _ _ _ hn).trans rfl),(hb.cell (p:=⟨w.heap.size,5,none⟩) hl).trans ((cell_of_row _ _ _ _ _ _ hn).trans rfl),(hb.cell (p:=⟨w.heap.size,6,none⟩) hl).trans ((cell_of_row _ _ _ _ _ _ hn).trans rfl),(hb.cell (p:=⟨w.heap.size,7,none⟩) hl).trans ((cell_of_row _ _ _ _ _ _ hn).trans rfl),(hb.cell (p:=⟨w.heap.size,8,none⟩) hl).trans ((cell_of_row _ _ _ _ _ _ hn).trans rfl),(hb.cell (p:=⟨w.heap.size,9,none⟩) hl).trans ((cell_of_row _ _ _ _ _ _ hn).trans rfl),(hb.cell (p:=⟨w.heap.size,10,none⟩) hl).trans ((cell_of_row _ _ _ _ _ _ hn).trans rfl),(hb.cell (p:=⟨w.heap.size,11,none⟩) hl).trans ((cell_of_row _ _ _ _ _ _ hn).trans rfl),(hb.cell (p:=⟨w.heap.size,12,none⟩) hl).trans ((cell_of_row _ _ _ _ _ _ hn).trans rfl),(hb.cell (p:=⟨w.heap.size,13,none⟩) hl).trans ((cell_of_row _ _ _ _ _ _ hn).trans rfl),(hb.cell (p:=⟨w.heap.size,14,none⟩) hl).trans ((cell_of_row _ _ _ _ _ _ hn).trans rfl)⟩
     generalize dpC m a.c=z1 at HS1
     generalize dpE m a.e=z2 at HS2
     generalize dpE m a.v=z3 at HS3
     generalize a.ks.any (dpA m)=z4 at HS4
     clear hs IH hd hA hc he hv h
     go_enter Tryz.func31,Tryz.ntmps31
     have HX1:=Lib.hid (HS1.out _ HA.out)
     cases z1 with
     | true=>
       go_wp2_with fail
       refine HX1.out.mono ?_
       rintro r w2 ⟨rfl,hb⟩
       have HB:=Lib.hid (HA.out.trans (hb.mono HA.out.size))
       clear hb HX1 HS1 HS2 HS3 HS4 HCL 
       go_wp2_with fail
       go_ret
       exact⟨rfl,HB.out⟩
     | false=>
       go_wp2_with fail
       refine HX1.out.mono ?_
       rintro r w2 ⟨rfl,hb⟩
       have HB2:=Lib.hid (HA.out.trans (hb.mono HA.out.size))
       have HN2:Hid (Below (w.alloc (.cells #[.int .i64 a.kind,.int .i64 a.c.kind,.slice a1 a.c.es.length c1,.slice a2 a.c.ks.length c2,.int .i64 a.e.kind,.int .i64 a.e.n,.string a.e.name,.slice a3 a.e.ks.length c3,.int .i64 a.v.kind,.int .i64 a.v.n,.string a.v.name,.slice a4 a.v.ks.length c4,.string a.field,.int .i64 a.n,.slice a5 a.ks.length c5] 44)).heap.size (w.alloc (.cells #[.int .i64 a.kind,.int .i64 a.c.kind,.slice a1 a.c.es.length c1,.slice a2 a.c.ks.length c2,.int .i64 a.e.kind,.int .i64 a.e.n,.string a.e.name,.slice a3 a.e.ks.length c3,.int .i64 a.v.kind,.int .i64 a.v.n,.string a.v.name,.slice a4 a.v.ks.length c4,.string a.field,.int .i64 a.n,.slice a5 a.ks.length c5] 44)) w2):=hb
       clear hb HX1
       have HX2:=Lib.hid (HS2.out _ HB2.out)
       obtain⟨q4,q5,q6,q7,q8,q9,q10,q11,q12,q13,q14⟩:=HCL.out _ HN2.out
       cases z2 with
       | true=>
         go_wp2_with fail
         refine HX2.out.mono ?_
         rintro r w2 ⟨rfl,hb⟩
         have HB:=Lib.hid (HB2.out.trans (hb.mono HB2.out.size))
         clear hb HX2 HS1 HS2 HS3 HS4 HCL q4 q5 q6 q7 q8 q9 q10 q11 q12 q13 q14
         go_wp2_with fail
         go_ret
         exact⟨rfl,HB.out⟩
       | false=>
         go_wp2_with fail
         refine HX2.out.mono ?_
         rintro r w3 ⟨rfl,hb⟩
         have HB3:=Lib.hid (HB2.out.trans (hb.mono HB2.out.size))
         have HN3:Hid (Below (w.alloc (.cells #[.int .i64 a.kind,.int .i64 a.c.kind,.slice a1 a.c.es.length c1,.slice a2 a.c.ks.length c2,.int .i64 a.e.kind,.int .i64 a.e.n,.string a.e.name,.slice a3 a.e.ks.length c3,.int .i64 a.v.kind,.int .i64 a.v.n,.string a.v.name,.slice a4 a.v.ks.length c4,.string a.field,.int .i64 a.n,.slice a5 a.ks.length c5] 44)).heap.size (w.alloc (.cells #[.int .i64 a.kind,.int .i64 a.c.kind,.slice a1 a.c.es.length c1,.slice a2 a.c.ks.length c2,.int .i64 a.e.kind,.int .i64 a.e.n,.string a.e.name,.slice a3 a.e.ks.length c3,.int .i64 a.v.kind,.int .i64 a.v.n,.string a.v.name,.slice a4 a.v.ks.length c4,.string a.field,.int .i64 a.n,.slice a5 a.ks.length c5] 44)) w3):=HN2.out.trans (hb.mono HN2.out.size)
         clear hb HX2 q4 q5 q6 q7 q8 q9 q10 q11 q12 q13 q14
         have HX3:=Lib.hid (HS3.out _ HB3.out)
         obtain⟨q4,q5,q6,q7,q8,q9,q10,q11,q12,q13,q14⟩:=HCL.out _ HN3.out
         cases z3 with
         | true=>
           go_wp2_with fail
           refine HX3.out.mono ?_
           rintro r w2 ⟨rfl,hb⟩
           have HB:=Lib.hid (HB3.out.trans (hb.mono HB3.out.size))
           clear hb HX3 HS1 HS2 HS3 HS4 HCL q4 q5 q6 q7 q8 q9 q10 q11 q12 q13 q14
           go_wp2_with fail
           go_ret
           exact⟨rfl,HB.out⟩
         | false=>
           go_wp2_with fail
           refine HX3.out.mono ?_
           rintro r w4 ⟨rfl,hb⟩
           have HB4:=Lib.hid (HB3.out.trans (hb.mono HB3.out.size))
           have HN4:Hid (Below (w.alloc (.cells #[.int .i64 a.kind,.int .i64 a.c.kind,.slice a1 a.c.es.length c1,.slice a2 a.c.ks.length c2,.int .i64 a.e.kind,.int .i64 a.e.n,.string a.e.name,.slice a3 a.e.ks.length c3,.int .i64 a.v.kind,.int .i64 a.v.n,.string a.v.name,.slice a4 a.v.ks.length c4,.string a.field,.int .i64 a.n,.slice a5 a.ks.length c5] 44)).heap.size (w.alloc (.cells #[.int .i64 a.kind,.int .i64 a.c.kind,.slice a1 a.c.es.length c1,.slice a2 a.c.ks.length c2,.int .i64 a.e.kind,.int .i64 a.e.n,.string a.e.name,.slice a3 a.e.ks.length c3,.int .i64 a.v.kind,.int .i64 a.v.n,.string a.v.name,.slice a4 a.v.ks.length c4,.string a.field,.int .i64 a.n,.slice a5 a.ks.length c5] 44)) w4):=HN3.out.trans (hb.mono HN3.out.size)
           clear hb HX3 q4 q5 q6 q7 q8 q9 q10 q11 q12 q13 q14
           have HX4:=Lib.hid (HS4.out _ HB4.out)
           obtain⟨q4,q5,q6,q7,q8,q9,q10,q11,q12,q13,q14⟩:=HCL.out _ HN4.out
           go_wp2_with fail
           refine HX4.out.mono ?_
           rintro r w5 ⟨rfl,hb⟩
           have HB:=Lib.hid (HB4.out.trans (hb.mono HB4.out.size))
           clear hb HX4 HS1 HS2 HS3 HS4 HCL q4 q5 q6 q7 q8 q9 q10 q11 q12 q13 q14
           go_wp2_with fail
           go_ret
           exact⟨rfl,HB.out⟩
end
section
open Go.RowKit
theorem nat_eq0 (l:Nat):((l:Int) == 0)=(l == 0):=by cases l<;>simp<;>omega
def noE (e:ET):Bool:=e.kind == 0 && e.n == 0 && e.name.toList.isEmpty && e.ks.length == 0
theorem noE_any (n:Nat)(e:ET)(cs:List Value)(w:World)(h:(exprSh n).rel (Pak.Lo w.heap.size) w cs e):
 Calls Tryz.prog 109 #[.agg cs.toArray] w fun r w'=>r= .returned (.bool (noE e))∧Below w.heap.size w w':=by
 cases n with
 | zero=>exact h.elim
 | succ n=>
   obtain⟨v,rfl,_,a,cap,rfl,hs⟩:=h
   have hA:Below w.heap.size w (w.alloc (.cells #[.int .i64 e.kind,.int .i64 e.n,.string e.name,.slice a e.ks.length cap] 37)):=box_low
   have HA:=Lib.hid hA
   unfold noE
   generalize e.kind=k at*
   generalize e.n=m at*
   generalize e.name=s at*
   generalize e.ks.length=l at*
   clear hs hA
   go_enter Tryz.func109,Tryz.ntmps109
   go_wp2_with fail
   all_goals
    go_ret
    refine⟨?_,box_low⟩
    simp_all [nat_eq0]
def noC (c:CT):Bool:=c.kind == 0 && c.es.length == 0 && c.ks.length == 0
theorem noC_any (n:Nat)(c:CT)(cs:List Value)(w:World)(h:(condSh n).rel (Pak.Lo w.heap.size) w cs c):
 Calls Tryz.prog 104 #[.agg cs.toArray] w fun r w'=>r= .returned (.bool (noC c))∧Below w.heap.size w w':=by
 cases n with
 | zero=>exact h.elim
 | succ n=>
   obtain⟨u,v,rfl,_,⟨a1,c1,rfl,hs1⟩,⟨a2,c2,rfl,hs2⟩⟩:=h
   unfold noC
   generalize c.kind=k at*
   generalize c.es.length=l1 at*
   generalize c.ks.length=l2 at*
   clear hs1 hs2
   go_enter Tryz.func104,Tryz.ntmps104
   go_wp2_with fail
   all_goals
    go_ret
    refine⟨?_,box_low⟩
    simp_all [nat_eq0]
def inB (n:Int):Bool:=decide (-1073741824≤n) && decide (n≤1073741824)
theorem inB_any (n:Int)(w:World):Calls Tryz.prog 133 #[.int .i64 n] w fun r w'=>r= .returned (.bool (inB n))∧w'=w:=by
 unfold inB
 go_enter Tryz.func133,Tryz.ntmps133
 go_wp2_with fail
 all_goals
  go_ret
  refine⟨?_,rfl⟩
  simp_all<;>(intros;omega)
structure NameLaw (nm:ByteArray→Bool)(L:World→Prop):Prop where
 run:∀s w,s.size≤maxLen→L w→Calls Tryz.prog 69 #[.string s] w fun r w'=>r= .returned (.bool (nm s))∧Below w.heap.size w w'
 keep:∀ {w w'},L w→Below w.heap.size w w'→L w'
def kidsE (k:Int):Nat:=if k=2∨k=3 then 2 else if k=4 then 1 else 0
def snE (nm:ByteArray→Bool):Nat→ET→Bool
 | 0,_=>false
 | n+1,e=>
   if e.kind=1 then nm e.name && e.n == 0 && e.ks.length == 0
   else if 0≤e.kind∧e.kind≤4 then
    (e.n == 0 || (decide (e.kind=0∨e.kind=4) && inB e.n)) && e.name.toList.isEmpty && e.ks.length == kidsE e.kind && e.ks.all (snE nm n)
   else false
end
section
open Go.RowKit
def SoundEnd (b:Bool)(w:World)(r:Ending)(w':World):Prop:=r= .returned (.bool b)∧Below w.heap.size w w'
theorem soundE_0 (m:Int)(s:ByteArray)(a:Option Addr)(l cap:Nat)(z:Bool)(w:World)
 (hall:Calls Tryz.prog 129 #[.slice a l cap,.func (.func 108) #[] #[]] (w.alloc (.cells #[.int .i64 0,.int .i64 m,.string s,.slice a l cap] 37)) fun r w'=>r= .returned (.bool z)∧Below (w.alloc (.cells #[.int .i64 0,.int .i64 m,.string s,.slice a l cap] 37)).heap.size (w.alloc (.cells #[.int .i64 0,.int .i64 m,.string s,.slice a l cap] 37)) w'):
 Calls Tryz.prog 108 #[.agg #[.int .i64 0,.int .i64 m,.string s,.slice a l cap]] w (SoundEnd ((m == 0 || (true && inB m)) && s.toList.isEmpty && l == 0 && z) w):=by
 have HAL:=Lib.hid hall
 clear hall
 have HA:Hid (Below w.heap.size w (w.alloc (.cells #[.int .i64 0,.int .i64 m,.string s,.slice a l cap] 37))):=box_low
 by_cases hm:m=0
 ·subst hm
  have HZ:Hid (s.toList.isEmpty=true→l=0→(((0:Int) == 0 || (true && inB 0)) && s.toList.isEmpty && l == 0 && z)=z):=fun h1 h2=>by simp[h1,h2]
  have HNO:Hid (¬s.toList=[]∨¬l=0→(((0:Int) == 0 || (true && inB 0)) && s.toList.isEmpty && l == 0 && z)=false):=fun h=>by rcases h with h | h<;>simp[h]
  by_cases hs:s.toList=[]
  ·by_cases hl:l=0
   ·have hl2:((l:Int) == 0)=true:=by rw[hl];rfl
    have hz:=HZ.out (by simp[hs]) hl
    rw[hz]
    clear hl HZ HNO hz
    go_enter Tryz.func108,Tryz.ntmps108
    go_wp2_with fail
    refine HAL.out.mono ?_
    rintro r w2 ⟨rfl,hb⟩
    have HB:=Lib.hid (HA.out.trans (hb.mono HA.out.size))
    clear hb HAL
    go_wp2_with fail
    go_ret
    exact⟨rfl,HB.out⟩
   ·have hl2:((l:Int) == 0)=false:=by simp;omega
    have hz:=HNO.out (.inr hl)
    rw[hz]
    clear hl HZ HNO hz
    go_enter Tryz.func108,Tryz.ntmps108
    go_wp2_with fail
    go_ret
    exact⟨rfl,box_low⟩
  ·have hz:=HNO.out (.inl hs)
   rw[hz]
   go_enter Tryz.func108,Tryz.ntmps108
   go_wp2_with fail
   go_ret
   exact⟨rfl,box_low⟩
 ·have hm0:(m == 0)=false:=by simp[hm]
  have HIN:=Lib.hid (inB_any m (w.alloc (.cells #[.int .i64 0,.int .i64 m,.string s,.slice a l cap] 37)))
  cases hb0:inB m with
  | false=>
    rw[hb0]at HIN
    have hz:((m == 0 || (true && false)) && s.toList.isEmpty && l == 0 && z)=false:=by rw[hm0];rfl
    rw[hz]
    go_enter Tryz.func108,Tryz.ntmps108
    go_wp2_with fail
    refine HIN.out.mono ?_
    rintro r w2 ⟨rfl,rfl⟩
    go_wp2_with fail
    go_ret
    exact⟨rfl,box_low⟩
  | true=>
    rw[hb0]at HIN
    have HZ:Hid (s.toList.isEmpty=true→l=0→((m == 0 || (true && true)) && s.toList.isEmpty && l == 0 && z)=z):=fun h1 h2=>by simp[h1,h2]
    have HNO:Hid (¬s.toList=[]∨¬l=0→((m == 0 || (true && true)) && s.toList.isEmpty && l == 0 && z)=false):=fun h=>by rcases h with h | h<;>simp[h]
    by_cases hs:s.toList=[]
    ·by_cases hl:l=0
     ·have hl2:((l:Int) == 0)=true:=by rw[hl];rfl
      have hz:=HZ.out (by simp[hs]) hl
      rw[hz]
      clear hl HZ HNO hz
      go_enter Tryz.func108,Tryz.ntmps108
      go_wp2_with fail
      refine HIN.out.mono ?_
      rintro r w9 ⟨rfl,rfl⟩
      go_wp2_with fail
      refine HAL.out.mono ?_
      rintro r w2 ⟨rfl,hb⟩
      have HB:=Lib.hid (HA.out.trans (hb.mono HA.out.size))
      clear hb HAL
      go_wp2_with fail
      go_ret
      exact⟨rfl,HB.out⟩
     ·have hl2:((l:Int) == 0)=false:=by simp;omega
      have hz:=HNO.out (.inr hl)
      rw[hz]
      clear hl HZ HNO hz
      go_enter Tryz.func108,Tryz.ntmps108
      go_wp2_with fail
      refine HIN.out.mono ?_
      rintro r w9 ⟨rfl,rfl⟩
      go_wp2_with fail
      go_ret
      exact⟨rfl,box_low⟩
    ·have hz:=HNO.out (.inl hs)
     rw[hz]
     go_enter Tryz.func108,Tryz.ntmps108
     go_wp2_with fail
     refine HIN.out.mono ?_
     rintro r w9 ⟨rfl,rfl⟩
     go_wp2_with fail
     go_ret
     exact⟨rfl,box_low⟩
theorem soundE_2 (m:Int)(s:ByteArray)(a:Option Addr)(l cap:Nat)(z:Bool)(w:World)
 (hall:Calls Tryz.prog 129 #[.slice a l cap,.func (.func 108) #[] #[]] (w.alloc (.cells #[.int .i64 2,.int .i64 m,.string s,.slice a l cap] 37)) fun r w'=>r= .returned (.bool z)∧Below (w.alloc (.cells #[.int .i64 2,.int .i64 m,.string s,.slice a l cap] 37)).heap.size (w.alloc (.cells #[.int .i64 2,.int .i64 m,.string s,.slice a l cap] 37)) w'):
 Calls Tryz.prog 108 #[.agg #[.int .i64 2,.int .i64 m,.string s,.slice a l cap]] w (SoundEnd ((m == 0 || (false && inB m)) && s.toList.isEmpty && l == 2 && z) w):=by
 have HAL:=Lib.hid hall
 clear hall
 have HA:Hid (Below w.heap.size w (w.alloc (.cells #[.int .i64 2,.int .i64 m,.string s,.slice a l cap] 37))):=box_low
 by_cases hm:m=0
 ·subst hm
  have HZ:Hid (s.toList.isEmpty=true→l=2→(((0:Int) == 0 || (false && inB 0)) && s.toList.isEmpty && l == 2 && z)=z):=fun h1 h2=>by simp[h1,h2]
  have HNO:Hid (¬s.toList=[]∨¬l=2→(((0:Int) == 0 || (false && inB 0)) && s.toList.isEmpty && l == 2 && z)=false):=fun h=>by rcases h with h | h<;>simp[h]
  by_cases hs:s.toList=[]
  ·by_cases hl:l=2
   ·have hl2:((l:Int) == 2)=true:=by rw[hl];rfl
    have hz:=HZ.out (by simp[hs]) hl
    rw[hz]
    clear hl HZ HNO hz
    go_enter Tryz.func108,Tryz.ntmps108
    go_wp2_with fail
    refine HAL.out.mono ?_
    rintro r w2 ⟨rfl,hb⟩
    have HB:=Lib.hid (HA.out.trans (hb.mono HA.out.size))
    clear hb HAL
    go_wp2_with fail
    go_ret
    exact⟨rfl,HB.out⟩
   ·have hl2:((l:Int) == 2)=false:=by simp;omega
    have hz:=HNO.out (.inr hl)
    rw[hz]
    clear hl HZ HNO hz
    go_enter Tryz.func108,Tryz.ntmps108
    go_wp2_with fail
    go_ret
    exact⟨rfl,box_low⟩
  ·have hz:=HNO.out (.inl hs)
   rw[hz]
   go_enter Tryz.func108,Tryz.ntmps108
   go_wp2_with fail
   go_ret
   exact⟨rfl,box_low⟩
 ·have hm0:(m == 0)=false:=by simp[hm]
  have hz:((m == 0 || (false && inB m)) && s.toList.isEmpty && l == 2 && z)=false:=by rw[hm0];rfl
  rw[hz]
  go_enter Tryz.func108,Tryz.ntmps108
  go_wp2_with fail
  go_ret
  exact⟨rfl,box_low⟩
theorem soundE_3 (m:Int)(s:ByteArray)(a:Option Addr)(l cap:Nat)(z:Bool)(w:World)
 (hall:Calls Tryz.prog 129 #[.slice a l cap,.func (.func 108) #[] #[]] (w.alloc (.cells #[.int .i64 3,.int .i64 m,.string s,.slice a l cap] 37)) fun r w'=>r= .returned (.bool z)∧Below (w.alloc (.cells #[.int .i64 3,.int .i64 m,.string s,.slice a l cap] 37)).heap.size (w.alloc (.cells #[.int .i64 3,.int .i64 m,.string s,.slice a l cap] 37)) w'):
 Calls Tryz.prog 108 #[.agg #[.int .i64 3,.int .i64 m,.string s,.slice a l cap]] w (SoundEnd ((m == 0 || (false && inB m)) && s.toList.isEmpty && l == 2 && z) w):=by
 have HAL:=Lib.hid hall
 clear hall
 have HA:Hid (Below w.heap.size w (w.alloc (.cells #[.int .i64 3,.int .i64 m,.string s,.slice a l cap] 37))):=box_low
 by_cases hm:m=0
 ·subst hm
  have HZ:Hid (s.toList.isEmpty=true→l=2→(((0:Int) == 0 || (false && inB 0)) && s.toList.isEmpty && l == 2 && z)=z):=fun h1 h2=>by simp[h1,h2]
  have HNO:Hid (¬s.toList=[]∨¬l=2→(((0:Int) == 0 || (false && inB 0)) && s.toList.isEmpty && l == 2 && z)=false):=fun h=>by rcases h with h | h<;>simp[h]
  by_cases hs:s.toList=[]
  ·by_cases hl:l=2
   ·have hl2:((l:Int) == 2)=true:=by rw[hl];rfl
    have hz:=HZ.out (by simp[hs]) hl
    rw[hz]
    clear hl HZ HNO hz
    go_enter Tryz.func108,Tryz.ntmps108
    go_wp2_with fail
    refine HAL.out.mono ?_
    rintro r w2 ⟨rfl,hb⟩
    have HB:=Lib.hid (HA.out.trans (hb.mono HA.out.size))
    clear hb HAL
    go_wp2_with fail
    go_ret
    exact⟨rfl,HB.out⟩
   ·have hl2:((l:Int) == 2)=false:=by simp;omega
    have hz:=HNO.out (.inr hl)
    rw[hz]
    clear hl HZ HNO hz
    go_enter Tryz.func108,Tryz.ntmps108
    go_wp2_with fail
    go_ret
    exact⟨rfl,box_low⟩
  ·have hz:=HNO.out (.inl hs)
   rw[hz]
   go_enter Tryz.func108,Tryz.ntmps108
   go_wp2_with fail
   go_ret
   exact⟨rfl,box_low⟩
 ·have hm0:(m == 0)=false:=by simp[hm]
  have hz:((m == 0 || (false && inB m)) && s.toList.isEmpty && l == 2 && z)=false:=by rw[hm0];rfl
  rw[hz]
  go_enter Tryz.func108,Tryz.ntmps108
  go_wp2_with fail
  go_ret
  exact⟨rfl,box_low⟩
theorem soundE_4 (m:Int)(s:ByteArray)(a:Option Addr)(l cap:Nat)(z:Bool)(w:World)
 (hall:Calls Tryz.prog 129 #[.slice a l cap,.func (.func 108) #[] #[]] (w.alloc (.cells #[.int .i64 4,.int .i64 m,.string s,.slice a l cap] 37)) fun r w'=>r= .returned (.bool z)∧Below (w.alloc (.cells #[.int .i64 4,.int .i64 m,.string s,.slice a l cap] 37)).heap.size (w.alloc (.cells #[.int .i64 4,.int .i64 m,.string s,.slice a l cap] 37)) w'):
 Calls Tryz.prog 108 #[.agg #[.int .i64 4,.int .i64 m,.string s,.slice a l cap]] w (SoundEnd ((m == 0 || (true && inB m)) && s.toList.isEmpty && l == 1 && z) w):=by
 have HAL:=Lib.hid hall
 clear hall
 have HA:Hid (Below w.heap.size w (w.alloc (.cells #[.int .i64 4,.int .i64 m,.string s,.slice a l cap] 37))):=box_low
 by_cases hm:m=0
 ·subst hm
  have HZ:Hid (s.toList.isEmpty=true→l=1→(((0:Int) == 0 || (true && inB 0)) && s.toList.isEmpty && l == 1 && z)=z):=fun h1 h2=>by simp[h1,h2]
  have HNO:Hid (¬s.toList=[]∨¬l=1→(((0:Int) == 0 || (true && inB 0)) && s.toList.isEmpty && l == 1 && z)=false):=fun h=>by rcases h with h | h<;>simp[h]
  by_cases hs:s.toList=[]
  ·by_cases hl:l=1
   ·have hl2:((l:Int) == 1)=true:=by rw[hl];rfl
    have hz:=HZ.out (by simp[hs]) hl
    rw[hz]
    clear hl HZ HNO hz
    go_enter Tryz.func108,Tryz.ntmps108
    go_wp2_with fail
    refine HAL.out.mono ?_
    rintro r w2 ⟨rfl,hb⟩
    have HB:=Lib.hid (HA.out.trans (hb.mono HA.out.size))
    clear hb HAL
    go_wp2_with fail
    go_ret
    exact⟨rfl,HB.out⟩
   ·have hl2:((l:Int) == 1)=false:=by simp;omega
    have hz:=HNO.out (.inr hl)
    rw[hz]
    clear hl HZ HNO hz
    go_enter Tryz.func108,Tryz.ntmps108
    go_wp2_with fail
    go_ret
    exact⟨rfl,box_low⟩
  ·have hz:=HNO.out (.inl hs)
   rw[hz]
   go_enter Tryz.func108,Tryz.ntmps108
   go_wp2_with fail
   go_ret
   exact⟨rfl,box_low⟩
 ·have hm0:(m == 0)=false:=by simp[hm]
  have HIN:=Lib.hid (inB_any m (w.alloc (.cells #[.int .i64 4,.int .i64 m,.string s,.slice a l cap] 37)))
  cases hb0:inB m with
  | false=>
    rw[hb0]at HIN
    have hz:((m == 0 || (true && false)) && s.toList.isEmpty && l == 1 && z)=false:=by rw[hm0];rfl
    rw[hz]
    go_enter Tryz.func108,Tryz.ntmps108
    go_wp2_with fail
    refine HIN.out.mono ?_
    rintro r w2 ⟨rfl,rfl⟩
    go_wp2_with fail
    go_ret
    exact⟨rfl,box_low⟩
  | true=>
    rw[hb0]at HIN
    have HZ:Hid (s.toList.isEmpty=true→l=1→((m == 0 || (true && true)) && s.toList.isEmpty && l == 1 && z)=z):=fun h1 h2=>by simp[h1,h2]
    have HNO:Hid (¬s.toList=[]∨¬l=1→((m == 0 || (true && true)) && s.toList.isEmpty && l == 1 && z)=false):=fun h=>by rcases h with h | h<;>simp[h]
    by_cases hs:s.toList=[]
    ·by_cases hl:l=1
     ·have hl2:((l:Int) == 1)=true:=by rw[hl];rfl
      have hz:=HZ.out (by simp[hs]) hl
      rw[hz]
      clear hl HZ HNO hz
      go_enter Tryz.func108,Tryz.ntmps108
      go_wp2_with fail
      refine HIN.out.mono ?_
      rintro r w9 ⟨rfl,rfl⟩
      go_wp2_with fail
      refine HAL.out.mono ?_
      rintro r w2 ⟨rfl,hb⟩
      have HB:=Lib.hid (HA.out.trans (hb.mono HA.out.size))
      clear hb HAL
      go_wp2_with fail
      go_ret
      exact⟨rfl,HB.out⟩
     ·have hl2:((l:Int) == 1)=false:=by simp;omega
      have hz:=HNO.out (.inr hl)
      rw[hz]
      clear hl HZ HNO hz
      go_enter Tryz.func108,Tryz.ntmps108
      go_wp2_with fail
      refine HIN.out.mono ?_
      rintro r w9 ⟨rfl,rfl⟩
      go_wp2_with fail
      go_ret
      exact⟨rfl,box_low⟩
    ·have hz:=HNO.out (.inl hs)
     rw[hz]
     go_enter Tryz.func108,Tryz.ntmps108
     go_wp2_with fail
     refine HIN.out.mono ?_
     rintro r w9 ⟨rfl,rfl⟩
     go_wp2_with fail
     go_ret
     exact⟨rfl,box_low⟩
end
section
open Go.RowKit
theorem soundE_1 (m:Int)(s:ByteArray)(a:Option Addr)(l cap:Nat)(z:Bool)(w:World)
 (hnm:Calls Tryz.prog 69 #[.string s] (w.alloc (.cells #[.int .i64 1,.int .i64 m,.string s,.slice a l cap] 37)) fun r w'=>r= .returned (.bool z)∧Below (w.alloc (.cells #[.int .i64 1,.int .i64 m,.string s,.slice a l cap] 37)).heap.size (w.alloc (.cells #[.int .i64 1,.int .i64 m,.string s,.slice a l cap] 37)) w'):
 Calls Tryz.prog 108 #[.agg #[.int .i64 1,.int .i64 m,.string s,.slice a l cap]] w (SoundEnd (z && m == 0 && l == 0) w):=by
 have HNM:=Lib.hid hnm
 have HA:Hid (Below w.heap.size w (w.alloc (.cells #[.int .i64 1,.int .i64 m,.string s,.slice a l cap] 37))):=box_low
 have HCL:Hid (∀W,Below (w.alloc (.cells #[.int .i64 1,.int .i64 m,.string s,.slice a l cap] 37)).heap.size (w.alloc (.cells #[.int .i64 1,.int .i64 m,.string s,.slice a l cap] 37)) W→W.cell? ⟨w.heap.size,1,none⟩=some (.int .i64 m)∧W.cell? ⟨w.heap.size,3,none⟩=some (.slice a l cap)):=fun W hb=>by
  have hn:=heap_alloc_new w (.cells #[.int .i64 1,.int .i64 m,.string s,.slice a l cap] 37)
  have hl:w.heap.size<(w.alloc (.cells #[.int .i64 1,.int .i64 m,.string s,.slice a l cap] 37)).heap.size:=by simp
  exact⟨(hb.cell (p:=⟨w.heap.size,1,none⟩) hl).trans ((cell_of_row _ _ _ _ _ _ hn).trans rfl),(hb.cell (p:=⟨w.heap.size,3,none⟩) hl).trans ((cell_of_row _ _ _ _ _ _ hn).trans rfl)⟩
 clear hnm
 go_enter Tryz.func108,Tryz.ntmps108
 go_wp2_with fail
 refine HNM.out.mono ?_
 rintro r w2 ⟨rfl,hb⟩
 obtain⟨q1,q2⟩:=HCL.out _ hb
 have HB:=Lib.hid (HA.out.trans (hb.mono HA.out.size))
 clear hb HNM HCL HA
 cases z with
 | false=>
   go_wp2_with fail
   go_ret
   exact⟨rfl,HB.out⟩
 | true=>
   go_wp2_with fail
   all_goals
    go_ret
    refine⟨?_,HB.out⟩
    simp_all [nat_eq0]
theorem soundE_x (k m:Int)(s:ByteArray)(a:Option Addr)(l cap:Nat)(w:World)(h:¬(0≤k∧k≤4)):
 Calls Tryz.prog 108 #[.agg #[.int .i64 k,.int .i64 m,.string s,.slice a l cap]] w (SoundEnd false w):=by
 have h0:(k == 0)=false:=by simp;omega
 have h1:(k == 1)=false:=by simp;omega
 have h2:(k == 2)=false:=by simp;omega
 have h3:(k == 3)=false:=by simp;omega
 have h4:(k == 4)=false:=by simp;omega
 clear h
 go_enter Tryz.func108,Tryz.ntmps108
 go_wp2_with fail
 go_ret
 exact⟨rfl,box_low⟩
theorem soundE_any {nm:ByteArray→Bool}{L:World→Prop}(hN:NameLaw nm L):∀(n:Nat) (e:ET) (cs:List Value) (w:World),(exprSh n).rel (Pak.Lo w.heap.size) w cs e→L w→
 Calls Tryz.prog 108 #[.agg cs.toArray] w (SoundEnd (snE nm n e) w)
 | 0,_,_,_,h,_=>h.elim
 | n+1,e,cs,w,h,hL=>by
   obtain⟨v,rfl,⟨_,_,hsz⟩,a,cap,rfl,hs⟩:=h
   have hA:Below w.heap.size w (w.alloc (.cells #[.int .i64 e.kind,.int .i64 e.n,.string e.name,.slice a e.ks.length cap] 37)):=box_low
   have hall:=allE_any n 108 (snE nm n) a e.ks.length cap e.ks _ (fun args w=>by kernel_rfl) rfl (hs.below hA hA.size) (fun cs x W hx hb hr=>soundE_any hN n x cs W hr (hN.keep (hN.keep hL hA) hb))
   have hnm:=hN.run e.name _ hsz (hN.keep hL hA)
   unfold snE
   by_cases h1:e.kind=1
   ·rw[if_pos h1]
    rw[h1]at hnm⊢
    exact soundE_1 e.n e.name a e.ks.length cap _ w hnm
   ·rw[if_neg h1]
    by_cases h2:0≤e.kind∧e.kind≤4
    ·rw[if_pos h2]
     have hk:e.kind=0∨e.kind=2∨e.kind=3∨e.kind=4:=by omega
     rcases hk with hk | hk | hk | hk
     ·rw[hk]at hall⊢
      exact soundE_0 e.n e.name a e.ks.length cap _ w hall
     ·rw[hk]at hall⊢
      exact soundE_2 e.n e.name a e.ks.length cap _ w hall
     ·rw[hk]at hall⊢
      exact soundE_3 e.n e.name a e.ks.length cap _ w hall
     ·rw[hk]at hall⊢
      exact soundE_4 e.n e.name a e.ks.length cap _ w hall
    ·rw[if_neg h2]
     exact soundE_x _ _ _ _ _ _ w h2
end
section
theorem size_l (s:ByteArray):s.data.toList.length=s.size:=by rw[Array.length_toList];rfl
theorem get_l (s:ByteArray)(i:Nat)(h:i<s.size):s[i]'h=s.data.toList[i]'(by rw[size_l];exact h):=rfl
theorem get_bang (s:ByteArray)(i:Nat)(h:i<s.size):s.get! i=s[i]'h:=by
 simp[ByteArray.get!,getElem!_pos,h]
 rfl
theorem decode_bytes (s:ByteArray)(pos:Nat)(h:pos<s.size)(ha:128≤(s[pos]'h).toNat):pos+(Utf8.decode s pos).2≤s.size∧∀j,j<(Utf8.decode s pos).2→∀hj:pos+j<s.size,128≤(s[pos+j]'hj).toNat:=by
 have e0:s.get! (pos+0)=s[pos]'h:=get_bang s pos h
 have hn:¬(s[pos]'h).toNat<128:=by omega
 have w1:∀j,j<1→∀hj:pos+j<s.size,128≤(s[pos+j]'hj).toNat:=fun j hj h2=>by
  obtain rfl:j=0:=by omega
  exact ha
 have key:∀k,(decide (pos+k<s.size) && (s.get! (pos+k)).toNat / 64 == 2)=true→pos+k<s.size∧∀hj:pos+k<s.size,128≤(s[pos+k]'hj).toNat:=fun k hk=>by
  simp only[Bool.and_eq_true,decide_eq_true_eq,beq_iff_eq]at hk
  refine⟨hk.1,fun hj=> ?_⟩
  have h2:=hk.2
  rw[get_bang s _ hj]at h2
  omega
 simp only[Utf8.decode,e0,hn,if_false]
 split
 ·next hc=>
  rw[Bool.and_eq_true]at hc
  obtain⟨k1,k2⟩:=key 1 hc.2
  split
  ·refine⟨by simp only;omega,fun j hj h2=> ?_⟩
   simp only at hj
   rcases(by omega:j=0∨j=1)with rfl | rfl
   ·exact ha
   ·exact k2 _
  ·exact⟨by simp only;omega,w1⟩
 ·split
  ·next hc=>
   rw[Bool.and_eq_true,Bool.and_eq_true]at hc
   obtain⟨k1,k2⟩:=key 1 hc.1.2
   obtain⟨m1,m2⟩:=key 2 hc.2
   split
   ·refine⟨by simp only;omega,fun j hj h2=> ?_⟩
    simp only at hj
    rcases(by omega:j=0∨j=1∨j=2)with rfl | rfl | rfl
    ·exact ha
    ·exact k2 _
    ·exact m2 _
   ·exact⟨by simp only;omega,w1⟩
  ·split
   ·next hc=>
    rw[Bool.and_eq_true,Bool.and_eq_true,Bool.and_eq_true]at hc
    obtain⟨k1,k2⟩:=key 1 hc.1.1.2
    obtain⟨m1,m2⟩:=key 2 hc.1.2
    obtain⟨n1,n2⟩:=key 3 hc.2
    split
    ·refine⟨by simp only;omega,fun j hj h2=> ?_⟩
     simp only at hj
     rcases(by omega:j=0∨j=1∨j=2∨j=3)with rfl | rfl | rfl | rfl
     ·exact ha
     ·exact k2 _
     ·exact m2 _
     ·exact n2 _
    ·exact⟨by simp only;omega,w1⟩
   ·exact⟨by simp only;omega,w1⟩
structure RuneBy (q:Int→Bool)(p:UInt8→Bool):Prop where
 low:∀c:UInt8,c.toNat<128→q (c.toNat:Int)=p c
 high:∀(r:Int) (c:UInt8),128≤r→128≤c.toNat→q r=p c
theorem runN_ge {p:UInt8→Bool}{l:List UInt8}{k:Nat}(hk:k≤l.length)(h1:∀j (h:j<l.length),j<k→p l[j]=true):k≤runN p l:=by
 refine Classical.byContradiction fun h=> ?_
 have:=runN_at (p:=p) (l:=l) (by omega)
 rw[h1 _ _ (by omega)]at this;cases this
theorem run_stop {q:Int→Bool}{p:UInt8→Bool}(hq:RuneBy q p)(s:ByteArray)(pos:Nat)(h:pos<s.size)(hp:pos≤runN p s.data.toList)(hf:q ((Utf8.decode s pos).1:Nat)=false):runN p s.data.toList=pos:=by
 have hl:=size_l s
 have hpf:p (s[pos]'h)=false:=by
  by_cases ha:(s[pos]'h).toNat<128
  ·rw[decode_ascii s pos h ha]at hf
   rw[←hq.low _ ha];exact hf
  ·have:=decode_high s pos h (by omega)
   rw[←hq.high ((Utf8.decode s pos).1:Nat) _ (by omega) (by omega)];exact hf
 refine runN_is (by omega) (fun j hj hjk=> ?_) (fun _=>hpf)
 obtain⟨_,h2⟩:=runN_lt (p:=p) (l:=s.data.toList) (k:=j) (by omega)
 exact h2
theorem run_on {q:Int→Bool}{p:UInt8→Bool}(hq:RuneBy q p)(s:ByteArray)(pos:Nat)(h:pos<s.size)(hp:pos≤runN p s.data.toList)(hf:q ((Utf8.decode s pos).1:Nat)=true):pos+(Utf8.decode s pos).2≤runN p s.data.toList∧1≤(Utf8.decode s pos).2∧pos+(Utf8.decode s pos).2≤s.size:=by
 have hl:=size_l s
 by_cases ha:(s[pos]'h).toNat<128
 ·have e:=decode_ascii s pos h ha
  rw[e]at hf⊢
  refine⟨runN_ge (by simp only;omega) fun j hj hjk=> ?_,Nat.le_refl _,by simp only;omega⟩
  simp only at hjk
  by_cases hjp:j<pos
  ·obtain⟨_,h2⟩:=runN_lt (p:=p) (l:=s.data.toList) (k:=j) (by omega)
   exact h2
  ·obtain rfl:j=pos:=by omega
   have:=hq.low (s[j]'h) ha
   rw[←get_l s j h,←this];exact hf
 ·have hw:=decode_high s pos h (by omega)
  obtain⟨b1,b2⟩:=decode_bytes s pos h (by omega)
  refine⟨runN_ge (by omega) fun j hj hjk=> ?_,hw.2,b1⟩
  by_cases hjp:j<pos
  ·obtain⟨_,h2⟩:=runN_lt (p:=p) (l:=s.data.toList) (k:=j) (by omega)
   exact h2
  ·have hj2:j<s.size:=by omega
   obtain⟨d,rfl⟩:∃d,j=pos+d:=⟨j - pos,by omega⟩
   have h3:=b2 d (by omega) hj2
   rw[←get_l s (pos+d) hj2,←hq.high ((Utf8.decode s pos).1:Nat) _ (by omega) h3]
   exact hf
theorem run_fin {p:UInt8→Bool}(s:ByteArray)(pos:Nat)(h:¬pos<s.size)(hp:pos≤runN p s.data.toList):runN p s.data.toList=s.size:=by
 have:=runN_le p s.data.toList
 rw[size_l]at this
 omega
def qDig (r:Int):Bool:=decide (48≤r) && decide (r≤57)
def qIn (r:Int):Bool:=(decide (97≤r) && decide (r≤122)) || (decide (65≤r) && decide (r≤90)) || decide (r=95) || qDig r
theorem byDig:RuneBy qDig isDig:=⟨fun c h=>by simp only[qDig,isDig];rw[Bool.eq_iff_iff];simp only[Bool.and_eq_true,decide_eq_true_eq];omega,fun r c h1 h2=>by simp only[qDig,isDig];rw[Bool.eq_iff_iff];simp only[Bool.and_eq_true,decide_eq_true_eq];omega⟩
theorem byIn:RuneBy qIn isIn:=⟨fun c h=>by simp only[qIn,qDig,isIn,isLet,isDig];rw[Bool.eq_iff_iff];simp only[Bool.or_eq_true,Bool.and_eq_true,decide_eq_true_eq];omega,fun r c h1 h2=>by simp only[qIn,qDig,isIn,isLet,isDig];rw[Bool.eq_iff_iff];simp only[Bool.or_eq_true,Bool.and_eq_true,decide_eq_true_eq];omega⟩
end
section
theorem keyB_hit {l:List UInt8}{i:Nat}(hi:i<keysL.length)(h:keysL[i]=l):keyB l=true:=by
 unfold keyB
 rw[List.contains_iff_mem,←h]
 exact List.getElem_mem hi
theorem keyB_miss {l:List UInt8}(h:∀i (hi:i<keysL.length),keysL[i]≠l):keyB l=false:=by
 unfold keyB
 rw[Bool.eq_false_iff,ne_eq,List.contains_iff_mem]
 intro hm
 obtain⟨i,hi,e⟩:=List.getElem_of_mem hm
 exact h i hi e
end
section
open Go.RowKit
section
variable {P:Program}
theorem wpList_load_w {ops:Array Oper}{rest:List Oper}{o:Oper}{a:Act}{w:World}{Q:Exit→Act→World→Prop}(hw:Region.wanted o (yielded ops a.tmps)=true)(ty:TypeId)(x:Operand)(ho:o.op= .load ty x)
 (g:Addr) (hx:a.eval x= .pointer (some g)) (cs:List Value) (d:TypeDesc) (hc:∀j v,cs[j]? =some v→w.cell? (g.add j)=some v)
 (hu:P.underlying ty=some d) (hd:(match d with | .struct _ | .array _ _=>true | _=>false)=true) (hi:(P.info? ty).map (·.size)=some cs.length)
 (h:wpList P ops Q rest (a.put o.dst (.agg cs.toArray)) w):wpList P ops Q (o :: rest) a w:=
 wpList_step fun K hK=>by
  rw[if_pos hw]
  unfold Oper.wp execOp
  simp only[ho,hx,Instr.loadAt,Instr.sureAddr,Sem.run_bind,Sem.run_pure,Result.andThen_ok,run_loadVar_list w g ty cs d hc hu hd hi]
  exact hK _ _ h
theorem wpList_store_new {ops:Array Oper}{rest:List Oper}{o:Oper}{a:Act}{w:World}{Q:Exit→Act→World→Prop}(hw:Region.wanted o (yielded ops a.tmps)=true)(ty:TypeId)(x y:Operand)(ho:o.op= .store ty x y)
 (c:Array Value) (hx:a.eval x= .pointer (some ⟨w.heap.size,0,none⟩)) (cs:List Value) (hy:a.eval y= .agg cs.toArray) (hi:(P.info? ty).map (·.size)=some cs.length) (hc:c.size=cs.length) (h1:∀u∈cs,u.oneCell'=true)
 (h:wpList P ops Q rest (a.put o.dst undef) (w.alloc (.cells cs.toArray ty))):wpList P ops Q (o :: rest) a (w.alloc (.cells c ty)):=
 wpList_step fun K hK=>by
  rw[if_pos hw]
  unfold Oper.wp execOp
  have:=run_storeAt_new (P:=P) w ty c cs.toArray (by simpa using hi) (by simpa using hc) (Array.all_eq_true_iff_forall_mem.2 (fun u hu=>h1 u (by simpa using hu)))
  simp only[ho,hx,hy,Sem.run_bind,this,Result.andThen_ok]
  exact hK _ _ h
end
def Part (cs:List Value)(o:Nat)(l:List Value):Prop:=∀j v,l[j]? =some v→cs[o+j]? =some v
theorem part_right (l r:List Value):Part (l ++ r) l.length r:=fun j v h=>by
 rw[List.getElem?_append_right (Nat.le_add_right _ _),Nat.add_sub_cancel_left];exact h
theorem part_left (l r:List Value):Part (l ++ r) 0 l:=fun j v h=>by
 rw[Nat.zero_add,List.getElem?_append_left (List.getElem?_eq_some_iff.1 h).1];exact h
theorem Part.of {cs l m:List Value}{o p:Nat}(h:Part cs o l)(h2:Part l p m):Part cs (o+p) m:=fun j v hv=>by
 rw[Nat.add_assoc];exact h _ _ (h2 _ _ hv)
theorem Part.at {cs l:List Value}{o:Nat}(h:Part cs o l){j:Nat}{v:Value}(hv:l[j]? =some v):cs[o+j]? =some v:=h j v hv
theorem box_part {cs l:List Value}{o:Nat}{w W:World}{t:TypeId}(hp:Part cs o l)(hb:Below (w.alloc (.cells cs.toArray t)).heap.size (w.alloc (.cells cs.toArray t)) W):∀j v,l[j]? =some v→W.cell? ((⟨w.heap.size,o,none⟩:Addr).add j)=some v:=fun j v hv=>by
 rw[show(⟨w.heap.size,o,none⟩:Addr).add j=⟨w.heap.size,o+j,none⟩ by unfold Addr.add;split<;>simp_all]
 refine(hb.cell (p:=⟨w.heap.size,o+j,none⟩) (show w.heap.size<(w.alloc (.cells cs.toArray t)).heap.size by simp)).trans ((cell_of_row _ _ _ _ _ _ (heap_alloc_new w _)).trans ?_)
 rw[List.getElem?_toArray];exact hp _ _ hv
theorem box_at {cs:List Value}{o:Nat}{v:Value}{w W:World}{t:TypeId}(hv:cs[o]? =some v)(hb:Below (w.alloc (.cells cs.toArray t)).heap.size (w.alloc (.cells cs.toArray t)) W):W.cell? ⟨w.heap.size,o,none⟩=some v:=
 (hb.cell (p:=⟨w.heap.size,o,none⟩) (show w.heap.size<(w.alloc (.cells cs.toArray t)).heap.size by simp)).trans ((cell_of_row _ _ _ _ _ _ (heap_alloc_new w _)).trans (by rw[List.getElem?_toArray];exact hv))
structure StmtIs (n:Nat)(S:Nat→Prop)(w:World)(cs:List Value)(s:ST)(ce cv cc ca:List Value)(a1 a2 a3 a4 a5:Option Addr)(c1 c2 c3 c4 c5:Nat):Prop where
 len:cs.length=35
 one:∀u∈cs,u.oneCell'=true
 nums:i64 s.p.kind∧s.p.name.size≤maxLen∧s.p.field.size≤maxLen∧s.p.callee.size≤maxLen
 kind:cs[0]? =some (.int .i64 s.p.kind)
 name:cs[1]? =some (.string s.p.name)
 field:cs[2]? =some (.string s.p.field)
 callee:cs[3]? =some (.string s.p.callee)
 pe:Part cs 4 ce
 pv:Part cs 8 cv
 pc:Part cs 12 cc
 pa:Part cs 15 ca
 args:cs[30]? =some (.slice a1 s.p.args.length c1)
 ghosts:cs[31]? =some (.slice a2 s.p.ghosts.length c2)
 fields:cs[32]? =some (.slice a3 s.p.fields.length c3)
 body:cs[33]? =some (.slice a4 s.body.length c4)
 els:cs[34]? =some (.slice a5 s.els.length c5)
 re:(exprSh n).rel S w ce s.p.e
 rv:(exprSh n).rel S w cv s.p.v
 rc:(condSh n).rel S w cc s.p.c
 ra:(assnSh n).rel S w ca s.p.a
 rargs:Pak.Sits (exprSh n) S w a1 s.p.args
 rghosts:Pak.Sits (exprSh n) S w a2 s.p.ghosts
 rfields:Pak.Sits strSh S w a3 s.p.fields
 rbody:Pak.Sits (stmtSh n) S w a4 s.body
 rels:Pak.Sits (stmtSh n) S w a5 s.els
theorem stmt_is {n:Nat}{S:Nat→Prop}{w:World}{cs:List Value}{s:ST}(h:(stmtSh (n+1)).rel S w cs s):∃ce cv cc ca a1 a2 a3 a4 a5 c1 c2 c3 c4 c5,StmtIs n S w cs s ce cv cc ca a1 a2 a3 a4 a5 c1 c2 c3 c4 c5:=by
 have hlen:=(stmtSh (n+1)).len h
 have hone:=(stmtSh (n+1)).one h
 rw[stmtSh_k]at hlen
 obtain⟨ce,cv,cc,ca,v1,v2,v3,v4,v5,e,hn,⟨h1,h2,h3,h4⟩,⟨⟨a1,c1,rfl,s1⟩,⟨a2,c2,rfl,s2⟩,⟨a3,c3,rfl,s3⟩⟩,⟨a4,c4,rfl,s4⟩,⟨a5,c5,rfl,s5⟩⟩:=h
 have l1:=(exprSh n).len h1
 have l2:=(exprSh n).len h2
 have l3:=(condSh n).len h3
 have l4:=(assnSh n).len h4
 rw[exprSh_k]at l1 l2
 rw[condSh_k]at l3
 rw[assnSh_k]at l4
 have p1:Part cs 4 (ce ++ (cv ++ (cc ++ (ca ++ [.slice a1 s.p.args.length c1,.slice a2 s.p.ghosts.length c2,.slice a3 s.p.fields.length c3,.slice a4 s.body.length c4,.slice a5 s.els.length c5])))):=by rw[e];exact part_right [_,_,_,_] _
 have p2:=p1.of (part_right ce _)
 rw[l1]at p2
 have p3:=p2.of (part_right cv _)
 rw[l2]at p3
 have p4:=p3.of (part_right cc _)
 rw[l3]at p4
 have p5:=p4.of (part_right ca _)
 rw[l4]at p5
 exact⟨ce,cv,cc,ca,a1,a2,a3,a4,a5,c1,c2,c3,c4,c5,hlen,hone,hn,by rw[e];rfl,by rw[e];rfl,by rw[e];rfl,by rw[e];rfl,p1.of (part_left ce _),p2.of (part_left cv _),p3.of (part_left cc _),p4.of (part_left ca _),p5.at (j:=0) rfl,p5.at (j:=1) rfl,p5.at (j:=2) rfl,p5.at (j:=3) rfl,p5.at (j:=4) rfl,h1,h2,h3,h4,s1,s2,s3,s4,s5⟩
structure ProcIs (n:Nat)(S:Nat→Prop)(w:World)(cs:List Value)(q:QT)(ca cb:List Value)(a1 a2 a3:Option Addr)(c1 c2 c3:Nat):Prop where
 len:cs.length=34
 one:∀u∈cs,u.oneCell'=true
 num:q.name.size≤maxLen
 name:cs[0]? =some (.string q.name)
 params:cs[1]? =some (.slice a1 q.params.length c1)
 ghosts:cs[2]? =some (.slice a2 q.ghosts.length c2)
 pre:Part cs 3 ca
 post:Part cs 18 cb
 body:cs[33]? =some (.slice a3 q.body.length c3)
 rparams:Pak.Sits strSh S w a1 q.params
 rghosts:Pak.Sits strSh S w a2 q.ghosts
 rpre:(assnSh n).rel S w ca q.pre
 rpost:(assnSh n).rel S w cb q.post
 rbody:Pak.Sits (stmtSh n) S w a3 q.body
theorem proc_is {n:Nat}{S:Nat→Prop}{w:World}{cs:List Value}{q:QT}(h:(procSh n).rel S w cs q):∃ca cb a1 a2 a3 c1 c2 c3,ProcIs n S w cs q ca cb a1 a2 a3 c1 c2 c3:=by
 have hlen:=(procSh n).len h
 have hone:=(procSh n).one h
 rw[procSh_k]at hlen
 obtain⟨v1,v2,ca,cb,v3,e,hn,⟨a1,c1,rfl,s1⟩,⟨a2,c2,rfl,s2⟩,h3,h4,⟨a3,c3,rfl,s3⟩⟩:=h
 have l3:=(assnSh n).len h3
 have l4:=(assnSh n).len h4
 rw[assnSh_k]at l3 l4
 have p1:Part cs 3 (ca ++ (cb ++ [.slice a3 q.body.length c3])):=by rw[e];exact part_right [_,_,_] _
 have p2:=p1.of (part_right ca _)
 rw[l3]at p2
 have p3:=p2.of (part_right cb _)
 rw[l4]at p3
 exact⟨ca,cb,a1,a2,a3,c1,c2,c3,hlen,hone,hn,by rw[e];rfl,by rw[e];rfl,by rw[e];rfl,p1.of (part_left ca _),p2.of (part_left cb _),p3.at (j:=0) rfl,s1,s2,h3,h4,s3⟩
end
section
open Go.RowKit
theorem digit_any (r:Int)(w:World):Calls Tryz.prog 127 #[.int .i32 r] w fun e w'=>e= .returned (.bool (qDig r))∧w=w':=by
 unfold qDig
 by_cases h1:48≤r
 ·have e1:decide (48≤r)=true:=by simpa using h1
  have E:Hid ((decide (48≤r) && decide (r≤57))=decide (r≤57)):=by show _=_;rw[e1];rfl
  go_enter Tryz.func127,Tryz.ntmps127
  go_wp2
  go_ret
  exact⟨by rw[E.out];rfl,rfl⟩
 ·have e1:decide (48≤r)=false:=by simpa using h1
  go_enter Tryz.func127,Tryz.ntmps127
  go_wp2
  go_ret
  exact⟨rfl,rfl⟩
theorem inner_any (r:Int)(w:World):Calls Tryz.prog 128 #[.int .i32 r] w fun e w'=>e= .returned (.bool (qIn r))∧w=w':=by
 have HD:=Lib.hid (fun W=>digit_any r W)
 have e97:(decide (97≤r)=true∨decide (97≤r)=false):=by cases decide (97≤r)<;>simp
 have e122:(decide (r≤122)=true∨decide (r≤122)=false):=by cases decide (r≤122)<;>simp
 have e65:(decide (65≤r)=true∨decide (65≤r)=false):=by cases decide (65≤r)<;>simp
 have e90:(decide (r≤90)=true∨decide (r≤90)=false):=by cases decide (r≤90)<;>simp
 have e95:((r == 95)=true∨(r == 95)=false):=by cases (r == 95)<;>simp
 have q95:decide (r=95)=(r == 95):=by rw[Bool.eq_iff_iff];simp
 have E:Hid (qIn r=((decide (97≤r) && decide (r≤122)) || (decide (65≤r) && decide (r≤90)) || (r == 95) || qDig r)):=by
  show _=_
  unfold qIn;rw[q95]
 clear q95
 generalize qDig r=d at HD E
 have go:∀(b1 b2 b3 b4 b5:Bool),decide (97≤r)=b1→decide (r≤122)=b2→decide (65≤r)=b3→decide (r≤90)=b4→(r == 95)=b5→Calls Tryz.prog 128 #[.int .i32 r] w fun e w'=>e= .returned (.bool ((b1 && b2) || (b3 && b4) || b5 || d))∧w=w':=fun b1 b2 b3 b4 b5 h1 h2 h3 h4 h5=>by
  clear E e97 e122 e65 e90 e95
  cases b1<;>cases b2<;>cases b3<;>cases b4<;>cases b5
  all_goals
   go_enter Tryz.func128,Tryz.ntmps128
   first
    | (go_wp2;go_ret;exact⟨rfl,rfl⟩)
    | (go_wp2_with fail;refine(HD.out _).mono ?_;rintro e w1 ⟨rfl,rfl⟩;go_wp2;go_ret;exact⟨rfl,rfl⟩)
 rw[E.out]
 exact go _ _ _ _ _ rfl rfl rfl rfl rfl
theorem run_any (g:Nat)(q:Int→Bool)(p:UInt8→Bool)(hq:RuneBy q p)(eg:∀args w,(callFunc g args).run Tryz.prog w= .ok (.enter g args) w)(hf:∀r W,Calls Tryz.prog g #[.int .i32 r] W fun e w'=>e= .returned (.bool (q r))∧W=w')(s:ByteArray)(w:World):
 Calls Tryz.prog 126 #[.string s,.func (.func g) #[] #[]] w fun e w'=>e= .returned (.int .i64 (runN p s.data.toList))∧Below w.heap.size w w':=by
 have HS:=Lib.hid (run_stop hq s)
 have HO:=Lib.hid (run_on hq s)
 have HE:=Lib.hid (run_fin (p:=p) s)
 have HF:=Lib.hid hf
 have HB:=Lib.hid (fun pos=>(show Below w.heap.size w (w.iter s pos) from(Below.refl _ w).alloc (Nat.le_refl _) _))
 clear hq hf
 generalize runN p s.data.toList=N at HS HO HE
 go_enter Tryz.func126,Tryz.ntmps126
 go_wp2
 go_loopw [5] (fun _ wr=>∃pos:Nat,wr=w.iter s pos∧pos≤N) (fun _ wr=>s.size - wr.iterPos w.heap.size)
 case atStart=>exact⟨0,rfl,Nat.zero_le _⟩
 case round=>
  obtain⟨pos,rfl,hp⟩:=hrel
  by_cases hlt:pos<s.size
  ·have hnx:∀ty,(Instr.next (.pointer (some ⟨w.heap.size,0,none⟩)) true ty).run Tryz.prog (w.iter s pos)=_:=fun ty=>run_next_any w s pos ty hlt
   have HC:=Lib.hid (HF.out ((Utf8.decode s pos).1:Nat) (w.iter s (pos+(Utf8.decode s pos).2)))
   have HS1:=Lib.hid (HS.out pos hlt hp)
   have HO1:=Lib.hid (HO.out pos hlt hp)
   cases hv:q ((Utf8.decode s pos).1:Nat)with
   | true=>
     have HC2:Hid (Calls Tryz.prog g #[.int .i32 ((Utf8.decode s pos).1:Nat)] (w.iter s (pos+(Utf8.decode s pos).2)) fun e w'=>e= .returned (.bool true)∧w.iter s (pos+(Utf8.decode s pos).2)=w'):=by
      show Calls _ _ _ _ _
      rw[←hv];exact HC.out
     obtain⟨h1,h2,h3⟩:=HO1.out hv
     clear hv HC HS1 HO1
     go_wp2_with fail
     refine HC2.out.mono ?_
     rintro e w1 ⟨rfl,rfl⟩
     go_wp2_with fail
     go_roundw
     case rel=>exact⟨_,rfl,h1⟩
     case measure=>simp;omega
   | false=>
     have HC2:Hid (Calls Tryz.prog g #[.int .i32 ((Utf8.decode s pos).1:Nat)] (w.iter s (pos+(Utf8.decode s pos).2)) fun e w'=>e= .returned (.bool false)∧w.iter s (pos+(Utf8.decode s pos).2)=w'):=by
      show Calls _ _ _ _ _
      rw[←hv];exact HC.out
     obtain rfl:=HS1.out hv
     clear hv HC HS1 HO1
     go_wp2_with fail
     refine HC2.out.mono ?_
     rintro e w1 ⟨rfl,rfl⟩
     go_wp2_with fail
     go_ret
     exact⟨rfl,HB.out _⟩
  ·have hnx:∀ty,(Instr.next (.pointer (some ⟨w.heap.size,0,none⟩)) true ty).run Tryz.prog (w.iter s pos)=_:=fun ty=>run_next_end w s pos ty hlt
   obtain rfl:=HE.out pos hlt hp
   go_wp2
   go_ret
   exact⟨rfl,HB.out _⟩
theorem rdigit_run (s:ByteArray)(w:World):Calls Tryz.prog 126 #[.string s,.func (.func 127) #[] #[]] w fun e w'=>e= .returned (.int .i64 (runN isDig s.data.toList))∧Below w.heap.size w w':=
 run_any _ qDig isDig byDig (enters_of Tryz.func127 (by kernel_rfl) rfl) (fun r W=>digit_any r W) s w
theorem rinner_run (s:ByteArray)(w:World):Calls Tryz.prog 126 #[.string s,.func (.func 128) #[] #[]] w fun e w'=>e= .returned (.int .i64 (runN isIn s.data.toList))∧Below w.heap.size w w':=
 run_any _ qIn isIn byIn (enters_of Tryz.func128 (by kernel_rfl) rfl) (fun r W=>inner_any r W) s w
theorem word_any (s:ByteArray)(w:World):Calls Tryz.prog 99 #[.string s] w fun e w'=>e= .returned (.int .i64 (wordN s.data.toList))∧Below w.heap.size w w':=by
 have HD:=Lib.hid (fun W=>rdigit_run s W)
 have HI:=Lib.hid (fun W=>rinner_run s W)
 unfold wordN
 by_cases h:0<runN isDig s.data.toList
 ·rw[if_pos h]
  have hi:(0:Int)<(runN isDig s.data.toList:Int):=by omega
  generalize runN isDig s.data.toList=N at*
  go_enter Tryz.func99,Tryz.ntmps99
  go_wp2_with fail
  refine(HD.out _).mono ?_
  rintro e w1 ⟨rfl,hb⟩
  go_wp2_with fail
  go_ret
  exact⟨rfl,hb⟩
 ·rw[if_neg h]
  have hi:¬(0:Int)<(runN isDig s.data.toList:Int):=by omega
  generalize runN isDig s.data.toList=N at*
  go_enter Tryz.func99,Tryz.ntmps99
  go_wp2_with fail
  refine(HD.out _).mono ?_
  rintro e w1 ⟨rfl,hb⟩
  have HB:=Lib.hid hb
  clear hb
  go_wp2_with fail
  refine(HI.out _).mono ?_
  rintro e w2 ⟨rfl,hb2⟩
  have HB2:=Lib.hid (HB.out.trans (hb2.mono HB.out.size))
  clear hb2
  go_wp2_with fail
  go_ret
  exact⟨rfl,HB2.out⟩
end
section
open Go.RowKit
section
variable {T:Type}
structure OwnL (sh:Pak.Sh T)(e:TypeId)(B:Nat)(xs:List T)(v:Value)(w:World):Prop where
 row:∃css:List (List Value),css.length=xs.length∧w.ownsRow B e sh.k v xs.length css.flatten∧∀i (h:i<xs.length) (h2:i<css.length),sh.rel (fun b=>b<w.heap.size∧v.ownBlock≠some b) w css[i] xs[i]
theorem OwnL.nil (sh:Pak.Sh T)(e:TypeId)(B:Nat)(w:World):OwnL sh e B [] (.slice none 0 0) w:=⟨⟨[],rfl,World.ownsRow_nil _ _ _ _,fun i hi=>absurd hi (Nat.not_lt_zero i)⟩⟩
theorem OwnL.below {sh:Pak.Sh T}{e:TypeId}{B:Nat}{xs:List T}{v:Value}{w w':World}(h:OwnL sh e B xs v w)(hb:Below w.heap.size w w'):OwnL sh e B xs v w':=by
 obtain⟨css,h1,h2,h3⟩:=h.row
 exact⟨⟨css,h1,World.ownsRow.kept (row:=none) h2 ⟨hb.os,hb.tape,hb.output,hb.size,fun q hq _=>hb.block q hq⟩ (by cases v.ownBlock<;>simp),fun i hi hi2=>sh.keep (fun b ⟨a2,a3⟩=>⟨Nat.lt_of_lt_of_le a2 hb.size,a3⟩) (fun b o ⟨a2,_⟩=>hb.cell (p:=⟨b,o,none⟩) a2) (h3 i hi hi2)⟩⟩
theorem OwnL.sits {sh:Pak.Sh T}{e:TypeId}{B:Nat}{xs:List T}{v:Value}{w:World}(h:OwnL sh e B xs v w)(hm:xs.length≤9223372036854775807):Pak.Slot sh (Pak.Lo w.heap.size) w v xs:=by
 obtain⟨css,h1,h2,h3⟩:=h.row
 have hk:∀cs∈css,cs.length=sh.k:=fun cs hc=>by
  obtain⟨i,hi,rfl⟩:=List.getElem_of_mem hc
  exact sh.len (h3 i (by omega) hi)
 have hc:=fun g=>World.ownsRow.cells h2 (g:=g)
 have hlt:=World.ownsRow.lt h2
 obtain⟨_,⟨rfl,h0⟩ | ⟨g,cap,cur,rfl,_⟩⟩:=h2
 ·exact⟨none,0,by rw[h0],hm,fun i hi=>by omega⟩
 ·refine⟨some ⟨g,0,none⟩,cap,rfl,hm,fun i hi=>⟨g,0,css[i]'(by omega),rfl,(hlt g rfl).2,fun j u hu=> ?_,sh.keep (fun b ⟨a2,_⟩=>a2) (fun b o _=>rfl) (h3 i hi (by omega))⟩⟩
  have hj:j<sh.k:=by
   have:=(List.getElem?_eq_some_iff.1 hu).1
   rwa [hk _ (List.getElem_mem _)]at this
  have:=hc g rfl (i*sh.k+j) u (by rw[Pak.flatten_get hk i j (by omega) hj];exact hu)
  rwa [show(⟨g,0,none⟩:Addr).add (i*sh.k+j)=⟨g,0+i*sh.k+j,none⟩ by unfold Addr.add;split<;>simp_all]at this
end
end
end Go.Proofs.YtfcaclmcnlflfaaGreatDoor
