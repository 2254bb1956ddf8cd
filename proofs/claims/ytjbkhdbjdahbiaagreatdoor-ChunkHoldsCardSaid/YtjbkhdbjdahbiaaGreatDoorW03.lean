/- Parts of a proof. -/
import Derived.Test.YtjbkhdbjdahbiaaGreatDoorW01
import Derived.Deep.RegionHeld3
import Derived.Deep.RegionLaw
import Derived.Test.YtjbkhdbjdahbiaaGreatDoorQ05
set_option linter.unusedVariables false
set_option linter.unusedSimpArgs false
set_option maxHeartbeats 60000000
set_option maxRecDepth 100000
namespace Go.Proofs.YtjbkhdbjdahbiaaGreatDoor
section
open Go.RowKit
theorem step_append_run {P:Program}{ops:Array Oper}{o:Oper}{a:Act}{w:World}{K:Act→World→Prop}{Q:Exit→Act→World→Prop}{E:Prop}
 (hg:o.guard=none) (s x:Operand) (t:TypeId) (hop:o.op=Op.call { callee:=Callee.builtin Builtin.append,args:= #[s,x],argTypes:= #[t,t] })
 (v1 v2 v':Value) (w':World) (h1:a.eval s=v1) (h2:a.eval x=v2) (hr:∀ty,(Builtin.append_ #[t,t] ty #[v1,v2]).run P w= .ok v' w') (hK:K (a.put o.dst v') w'):
 if Region.wanted o (yielded ops a.tmps)=true then Oper.wp P o a w K Q else E:=by
 have hw:Region.wanted o (yielded ops a.tmps)=true:=by simp[Region.wanted,hg]
 rw[if_pos hw]
 unfold Oper.wp
 simp[execOp,hop,resolve,invoke,builtin,h1,h2,hr,Result.andThen]
 exact hK
def stpJ (s:HC)(p:List HC×Bool)(x:HC):List HC×Bool:=if hkey x=hkey s then(p.1 ++ [⟨s.a,s.f,x.v+s.v⟩],true) else if(!p.2 && kl (hkey s) (hkey x))=true then(p.1 ++ [s] ++ [x],true) else(p.1 ++ [x],p.2)
def addTo (l:List HC)(s:HC)(k:Nat):List HC×Bool:=(l.take k).foldl (stpJ s) ([],false)
def fin (s:HC)(p:List HC×Bool):List HC:=if p.2=true then p.1 else p.1 ++ [s]
theorem addTo_succ (l:List HC)(s:HC)(k:Nat)(h:k<l.length):addTo l s (k+1)=stpJ s (addTo l s k) (l.getD k hc0):=by
 unfold addTo
 rw[take_snocH l k h,List.foldl_append]
 rfl
theorem fold_fin (s:HC):∀(l o:List HC) (d:Bool),fin s (l.foldl (stpJ s) (o,d))=o ++ addD s d l
 | [],o,d=>by
   cases d<;>simp[fin,addD]
 | x :: l,o,d=>by
   show fin s (l.foldl (stpJ s) (stpJ s (o,d) x))=o ++ addD s d (x :: l)
   rw[show stpJ s (o,d) x=if hkey x=hkey s then(o ++ [⟨s.a,s.f,x.v+s.v⟩],true) else if(!d && kl (hkey s) (hkey x))=true then(o ++ [s] ++ [x],true) else(o ++ [x],d) from rfl,show addD s d (x :: l)=if hkey x=hkey s then⟨s.a,s.f,x.v+s.v⟩ :: addD s true l else if(!d && kl (hkey s) (hkey x))=true then s :: x :: addD s true l else x :: addD s d l from rfl]
   by_cases h1:hkey x=hkey s
   ·rw[if_pos h1,if_pos h1,fold_fin s l];simp
   ·rw[if_neg h1,if_neg h1]
    by_cases h2:(!d && kl (hkey s) (hkey x))=true
    ·rw[if_pos h2,if_pos h2,fold_fin s l];simp
    ·rw[if_neg h2,if_neg h2,fold_fin s l];simp
theorem addTo_fin (l:List HC)(s:HC):fin s (addTo l s l.length)=addD s false l:=by
 unfold addTo
 rw[List.take_length,fold_fin s l [] false,List.nil_append]
theorem addTo_len (l:List HC)(s:HC):∀k,k≤l.length→(addTo l s k).1.length≤2*k
 | 0,_=>by simp[addTo]
 | k+1,h=>by
   have:=addTo_len l s k (by omega)
   rw[addTo_succ l s k (by omega)]
   unfold stpJ
   split
   ·simp;omega
   ·split<;>simp<;>omega
def SRowEnd (xs:List HC)(w:World)(e:Ending)(w':World):Prop:=∃v,e= .returned v∧SRow w.heap.size xs v w'∧Below w.heap.size w w'
theorem add_any (l:List HC)(s:HC)(ad:Option Addr)(n cap:Nat)(w:World)(hn:l.length=n)(hnm:n≤30000)(hl:HLies w.heap.size w ad l)(hsum:∀c,c∈l→ -9223372036854775808≤c.v+s.v∧c.v+s.v≤9223372036854775807):
 Calls Tryz.prog 50 #[.slice ad n cap,.agg #[.int .i64 s.a,.string s.f,.int .i64 s.v]] w (SRowEnd (addD s false l) w):=by
 have HB1:Hid (Below w.heap.size w (w.alloc (.cells #[.int .i64 s.a,.string s.f,.int .i64 s.v] 77))):=(Below.refl _ w).alloc (Nat.le_refl _) _
 have hnew:=heap_alloc_new w (.cells #[.int .i64 s.a,.string s.f,.int .i64 s.v] 77)
 have HSC:Hid (∀W,Below (w.alloc (.cells #[.int .i64 s.a,.string s.f,.int .i64 s.v] 77)).heap.size (w.alloc (.cells #[.int .i64 s.a,.string s.f,.int .i64 s.v] 77)) W→W.cell? ⟨w.heap.size,0,none⟩=some (.int .i64 s.a)∧W.cell? ⟨w.heap.size,1,none⟩=some (.string s.f)∧W.cell? ⟨w.heap.size,2,none⟩=some (.int .i64 s.v)):=fun W hW=>
  ⟨(hW.cell (p:=⟨w.heap.size,_,none⟩) (lt_of_some hnew)).trans ((cell_of_row _ _ _ _ _ _ hnew).trans rfl),(hW.cell (p:=⟨w.heap.size,_,none⟩) (lt_of_some hnew)).trans ((cell_of_row _ _ _ _ _ _ hnew).trans rfl),(hW.cell (p:=⟨w.heap.size,_,none⟩) (lt_of_some hnew)).trans ((cell_of_row _ _ _ _ _ _ hnew).trans rfl)⟩
 have HL:Hid (HLies (w.alloc (.cells #[.int .i64 s.a,.string s.f,.int .i64 s.v] 77)).heap.size (w.alloc (.cells #[.int .i64 s.a,.string s.f,.int .i64 s.v] 77)) ad l):=hl.up HB1.out
 have HN:=Lib.hid hn
 have HSUM:=Lib.hid hsum
 have HFI:=Lib.hid (addTo_fin l s)
 have HB:=Lib.hid (fun a f b g W=>rbelow_any a f b g W)
 clear hl hn hsum hnew
 obtain⟨sa,sf,sv⟩:=s
 go_enter Tryz.func50,Tryz.ntmps50
 go_wp2_with fail
 generalize w.alloc (.cells #[.int .i64 sa,.string sf,.int .i64 sv] 77)=w1 at HB1 HSC HL⊢
 have HG0:Hid (∃g,g=w.heap.size):=⟨_,rfl⟩
 go_loopw [5,6,7] (fun o d i wr=>∃k:Nat,i= .int .i64 k∧d= .bool (addTo l ⟨sa,sf,sv⟩ k).2∧k≤n∧Hid (SRow w1.heap.size (addTo l ⟨sa,sf,sv⟩ k).1 o wr)∧Hid (Below w1.heap.size w1 wr)) (fun _ _ i _=>n - (intOf i).toNat)
 case atStart=>exact⟨0,rfl,rfl,Nat.zero_le _,SRow.nil _ _,Below.refl _ _⟩
 case round=>
  obtain⟨k,rfl,rfl,hk,hrow,hb⟩:=hrel
  have HTL:Hid ((addTo l ⟨sa,sf,sv⟩ k).1.length≤2*k):=addTo_len l ⟨sa,sf,sv⟩ k (by rw[HN.out];exact hk)
  by_cases hlt:k<n
  ·have hlti:(k:Int)<(n:Int):=by omega
   obtain⟨b3,off3,rfl,hb3,c1,c2,c3⟩:=HL.out k (by rw[HN.out];exact hlt)
   have HCL:Hid (∀W,Below w1.heap.size w1 W→W.cell? ⟨b3,off3+k*3,none⟩=some (.int .i64 (l.getD k hc0).a)∧W.cell? ⟨b3,off3+k*3+1,none⟩=some (.string (l.getD k hc0).f)∧W.cell? ⟨b3,off3+k*3+2,none⟩=some (.int .i64 (l.getD k hc0).v)):=fun W hW=>⟨(hW.cell (p:=⟨b3,_,none⟩) hb3).trans c1,(hW.cell (p:=⟨b3,_,none⟩) hb3).trans c2,(hW.cell (p:=⟨b3,_,none⟩) hb3).trans c3⟩
   have HT:Hid (addTo l ⟨sa,sf,sv⟩ (k+1)=stpJ ⟨sa,sf,sv⟩ (addTo l ⟨sa,sf,sv⟩ k) (l.getD k hc0)):=addTo_succ l ⟨sa,sf,sv⟩ k (by rw[HN.out];exact hlt)
   have HSM:Hid (-9223372036854775808≤(l.getD k hc0).v+sv∧(l.getD k hc0).v+sv≤9223372036854775807):=HSUM.out _ (getD_memH (by rw[HN.out];exact hlt))
   obtain⟨q1,q2,q3⟩:=HCL.out wr hb.out
   obtain⟨p1,p2,p3⟩:=HSC.out wr hb.out
   clear c1 c2 c3
   generalize addTo l ⟨sa,sf,sv⟩ k=p at HT HTL hrow
   obtain⟨xs,d⟩:=p
   simp only at HT HTL hrow
   generalize l.getD k hc0=x at HCL HT HSM q1 q2 q3
   obtain⟨xa,xf,xv⟩:=x
   simp only at HCL HSM q1 q2 q3
   by_cases e1:xa=sa∧xf.toList=sf.toList
   ·have he1:(xa == sa)=true:=by simp[e1.1]
    have he2:(xf.toList == sf.toList)=true:=by simp[e1.2]
    have HT:Hid (addTo l ⟨sa,sf,sv⟩ (k+1)=(xs ++ [⟨sa,sf,xv+sv⟩],true)):=by
     show _=_
     rw[HT.out]
     unfold stpJ
     rw[if_pos (by unfold hkey;rw[e1.1,e1.2])]
    clear e1
    go_wp2_with fail
    go_quiet (fail)
    have HB0:Hid (Below w1.heap.size w1 (wr.drewN nq)):=below_drewN2 hb.out _
    have HR0:Hid (SRow w1.heap.size xs u5 (wr.drewN nq)):=hrow.out.below (below_drewN2 (Below.refl _ wr) _)
    generalize wr.drewN nq=W0 at HB0 HR0
    clear q1 q2 q3 p1 p2 p3
    obtain⟨q1,q2,q3⟩:=HCL.out W0 HB0.out
    obtain⟨p1,p2,p3⟩:=HSC.out W0 HB0.out
    have HB2:Hid (Below w1.heap.size w1 W0.drew):=HB0.out.drew
    have HR2:Hid (SRow w1.heap.size xs u5 W0.drew):=HR0.out.below (Below.refl _ _).drew
    have hw:∀p q:Int,p=xv→q=sv→IntKind.i64.wrap (p+q)=p+q:=fun p q e1 e2=>by rw[e1,e2];exact IntWalk.i64_in _ (by have:=HSM.out;omega)
    go_wp2_with fail
    obtain⟨v6,w6,hr6,hrow6,hb6⟩:=run_append_share (w:=W0.drew) 71 w1.heap.size xs u5 ⟨sa,sf,xv+sv⟩ HR2.out HB2.out.size (by have:=HTL.out;omega)
    have HR6:Hid (SRow w1.heap.size (addTo l ⟨sa,sf,sv⟩ (k+1)).1 v6 w6):=by show SRow _ _ _ _;rw[HT.out];exact hrow6
    have HB6:=Lib.hid (HB2.out.trans hb6)
    have hd6:(addTo l ⟨sa,sf,sv⟩ (k+1)).2=true:=by rw[HT.out]
    have HRUN:Hid (∀ty,(Builtin.append_ #[71,71] ty #[u5,.slice (some ⟨W0.heap.size,0,none⟩) 1 1]).run Tryz.prog (W0.alloc (.cells #[.int .i64 sa,.string sf,.int .i64 (xv+sv)] 77)).drew= .ok v6 w6):=fun ty=>hr6
    have HS6:Hid (w6.cell? ⟨w.heap.size,0,none⟩=some (.int .i64 sa)∧w6.cell? ⟨w.heap.size,1,none⟩=some (.string sf)∧w6.cell? ⟨w.heap.size,2,none⟩=some (.int .i64 sv)∧w6.cell? ⟨b3,off3+k*3+2,none⟩=some (.int .i64 xv)):=⟨(HSC.out w6 HB6.out).1,(HSC.out w6 HB6.out).2.1,(HSC.out w6 HB6.out).2.2,(HCL.out w6 HB6.out).2.2⟩
    clear hr6 hrow6 hb6 HT HTL HR0 HR2 hrow hb
    go_region_held3 (fun w'=>w'.cell? ⟨w.heap.size,0,none⟩=some (.int .i64 sa)∧w'.cell? ⟨w.heap.size,1,none⟩=some (.string sf)∧w'.cell? ⟨w.heap.size,2,none⟩=some (.int .i64 sv)∧w'.cell? ⟨b3,off3+k*3+2,none⟩=some (.int .i64 xv))
     (first | go_keep | exact HS6.out)
     ((refine step_append_run (by rfl) _ _ _ (by rfl) _ _ v6 w6 (by rfl) (by rfl) HRUN.out ?_))
    clear q1 q2 q3 p1 p2 p3
    go_wp2
    clear hw
    go_roundw
    case rel=>exact⟨k+1,by go_num,by rw[hd6],by omega,HR6,HB6⟩
    case measure=>simp[intOf];omega
   ·have HT:Hid (addTo l ⟨sa,sf,sv⟩ (k+1)=if(!d && kl (sa,sf.toList) (xa,xf.toList))=true then(xs ++ [⟨sa,sf,sv⟩] ++ [⟨xa,xf,xv⟩],true) else(xs ++ [⟨xa,xf,xv⟩],d)):=by
     show _=_
     rw[HT.out]
     unfold stpJ
     rw[if_neg (show ¬hkey (⟨xa,xf,xv⟩:HC)=hkey ⟨sa,sf,sv⟩ from fun h=>e1 (hkey_eq.1 h))]
     rfl
    have HC:Hid (∀W,Calls Tryz.prog 49 #[.int .i64 sa,.string sf,.int .i64 xa,.string xf] W fun e w'=>e= .returned (.bool (kl (sa,sf.toList) (xa,xf.toList)))∧w'=W):=HB.out sa sf xa xf
    generalize kl (sa,sf.toList) (xa,xf.toList)=z at HC HT
    clear HSM
    by_cases e2:xa=sa
    ·have he1:(xa == sa)=true:=by simp[e2]
     have he2:(xf.toList == sf.toList)=false:=by simp;exact fun h=>e1 ⟨e2,h⟩
     clear e1 e2
     go_wp2_with fail
     go_quiet (fail)
     have HB0:Hid (Below w1.heap.size w1 (wr.drewN nq)):=below_drewN2 hb.out _
     have HR0:Hid (SRow w1.heap.size xs u5 (wr.drewN nq)):=hrow.out.below (below_drewN2 (Below.refl _ wr) _)
     generalize wr.drewN nq=W0 at HB0 HR0
     clear q1 q2 q3 p1 p2 p3 hrow hb
     obtain⟨q1,q2,q3⟩:=HCL.out W0 HB0.out
     obtain⟨p1,p2,p3⟩:=HSC.out W0 HB0.out
     go_wp2_with fail
     go_quiet ((go_at_call 49;exact Calls.quiet_of_same (HC.out _)))
     have HB4:Hid (Below w1.heap.size w1 (W0.drewN nq)):=below_drewN2 HB0.out _
     have HR4:Hid (SRow w1.heap.size xs u5 (W0.drewN nq)):=HR0.out.below (below_drewN2 (Below.refl _ W0) _)
     generalize W0.drewN nq=W4 at HB4 HR4
     clear HB0 HR0 q1 q2 q3 p1 p2 p3
     obtain⟨q1,q2,q3⟩:=HCL.out W4 HB4.out
     obtain⟨p1,p2,p3⟩:=HSC.out W4 HB4.out
     cases d with
     | true=>
       simp only[Bool.not_true,Bool.false_and,Bool.false_eq_true,if_false]at HT
       obtain⟨v6,w6,hr6,hrow6,hb6⟩:=run_append_share (w:=W4) 71 w1.heap.size xs u5 ⟨xa,xf,xv⟩ HR4.out HB4.out.size (by have:=HTL.out;omega)
       have HR6:Hid (SRow w1.heap.size (addTo l ⟨sa,sf,sv⟩ (k+1)).1 v6 w6):=by show SRow _ _ _ _;rw[HT.out];exact hrow6
       have HB6:=Lib.hid (HB4.out.trans hb6)
       have hd6:(addTo l ⟨sa,sf,sv⟩ (k+1)).2=true:=by rw[HT.out]
       have hr6:∀ty,(Builtin.append_ #[71,71] ty #[u5,.slice (some ⟨W4.heap.size,0,none⟩) 1 1]).run Tryz.prog (W4.alloc (.cells #[.int .i64 xa,.string xf,.int .i64 xv] 77))= .ok v6 w6:=fun ty=>hr6
       clear hrow6 hb6 HT HTL HR4
       go_wp2_with (at_builtin;refine Lib.wpList_append_run _ rfl _ _ _ _ rfl _ _ rfl rfl _ _ (hr6 _) ?_)
       go_roundw
       case rel=>exact⟨k+1,by go_num,by rw[hd6],by omega,HR6,HB6⟩
       case measure=>simp[intOf];omega
     | false=>
       cases z with
       | false=>
         simp only[Bool.not_false,Bool.true_and,Bool.false_eq_true,if_false]at HT
         obtain⟨v6,w6,hr6,hrow6,hb6⟩:=run_append_share (w:=W4) 71 w1.heap.size xs u5 ⟨xa,xf,xv⟩ HR4.out HB4.out.size (by have:=HTL.out;omega)
         have HR6:Hid (SRow w1.heap.size (addTo l ⟨sa,sf,sv⟩ (k+1)).1 v6 w6):=by show SRow _ _ _ _;rw[HT.out];exact hrow6
         have HB6:=Lib.hid (HB4.out.trans hb6)
         have hd6:(addTo l ⟨sa,sf,sv⟩ (k+1)).2=false:=by rw[HT.out]
         have hr6:∀ty,(Builtin.append_ #[71,71] ty #[u5,.slice (some ⟨W4.heap.size,0,none⟩) 1 1]).run Tryz.prog (W4.alloc (.cells #[.int .i64 xa,.string xf,.int .i64 xv] 77))= .ok v6 w6:=fun ty=>hr6
         clear hrow6 hb6 HT HTL HR4
         go_wp2_with (at_builtin;refine Lib.wpList_append_run _ rfl _ _ _ _ rfl _ _ rfl rfl _ _ (hr6 _) ?_)
         go_roundw
         case rel=>exact⟨k+1,by go_num,by rw[hd6],by omega,HR6,HB6⟩
         case measure=>simp[intOf];omega
       | true=>
         simp only[Bool.not_false,Bool.true_and,if_true]at HT
         obtain⟨v5,w5,hr5,hrow5,hb5⟩:=run_append_share (w:=W4) 71 w1.heap.size xs u5 ⟨sa,sf,sv⟩ HR4.out HB4.out.size (by have:=HTL.out;omega)
         have HB5:=Lib.hid (HB4.out.trans hb5)
         obtain⟨v6,w6,hr6,hrow6,hb6⟩:=run_append_share (w:=w5) 71 w1.heap.size (xs ++ [⟨sa,sf,sv⟩]) v5 ⟨xa,xf,xv⟩ hrow5 HB5.out.size (by have:=HTL.out;rw[List.length_append];simp;omega)
         have HR6:Hid (SRow w1.heap.size (addTo l ⟨sa,sf,sv⟩ (k+1)).1 v6 w6):=by show SRow _ _ _ _;rw[HT.out];exact hrow6
         have HB6:=Lib.hid (HB5.out.trans hb6)
         have hd6:(addTo l ⟨sa,sf,sv⟩ (k+1)).2=true:=by rw[HT.out]
         have hr5:∀ty,(Builtin.append_ #[71,71] ty #[u5,.slice (some ⟨W4.heap.size,0,none⟩) 1 1]).run Tryz.prog (W4.alloc (.cells #[.int .i64 sa,.string sf,.int .i64 sv] 77))= .ok v5 w5:=fun ty=>hr5
         have hr6:∀ty,(Builtin.append_ #[71,71] ty #[v5,.slice (some ⟨w5.heap.size,0,none⟩) 1 1]).run Tryz.prog (w5.alloc (.cells #[.int .i64 xa,.string xf,.int .i64 xv] 77))= .ok v6 w6:=fun ty=>hr6
         obtain⟨y1,y2,y3⟩:=HCL.out w5 HB5.out
         clear hrow5 hb5 hrow6 hb6 HT HTL HR4 HB4
         go_wp2_with (at_builtin;first | refine Lib.wpList_append_run _ rfl _ _ _ _ rfl _ _ rfl rfl _ _ (hr5 _) ?_ | refine Lib.wpList_append_run _ rfl _ _ _ _ rfl _ _ rfl rfl _ _ (hr6 _) ?_)
         go_roundw
         case rel=>exact⟨k+1,by go_num,by rw[hd6],by omega,HR6,HB6⟩
         case measure=>simp[intOf];omega
    ·have he1:(xa == sa)=false:=by simp[e2]
     clear e1 e2
     go_wp2_with fail
     go_quiet (fail)
     have HB0:Hid (Below w1.heap.size w1 (wr.drewN nq)):=below_drewN2 hb.out _
     have HR0:Hid (SRow w1.heap.size xs u5 (wr.drewN nq)):=hrow.out.below (below_drewN2 (Below.refl _ wr) _)
     generalize wr.drewN nq=W0 at HB0 HR0
     clear q1 q2 q3 p1 p2 p3 hrow hb
     obtain⟨q1,q2,q3⟩:=HCL.out W0 HB0.out
     obtain⟨p1,p2,p3⟩:=HSC.out W0 HB0.out
     go_wp2_with fail
     go_quiet ((go_at_call 49;exact Calls.quiet_of_same (HC.out _)))
     have HB4:Hid (Below w1.heap.size w1 (W0.drewN nq)):=below_drewN2 HB0.out _
     have HR4:Hid (SRow w1.heap.size xs u5 (W0.drewN nq)):=HR0.out.below (below_drewN2 (Below.refl _ W0) _)
     generalize W0.drewN nq=W4 at HB4 HR4
     clear HB0 HR0 q1 q2 q3 p1 p2 p3
     obtain⟨q1,q2,q3⟩:=HCL.out W4 HB4.out
     obtain⟨p1,p2,p3⟩:=HSC.out W4 HB4.out
     cases d with
     | true=>
       simp only[Bool.not_true,Bool.false_and,Bool.false_eq_true,if_false]at HT
       obtain⟨v6,w6,hr6,hrow6,hb6⟩:=run_append_share (w:=W4) 71 w1.heap.size xs u5 ⟨xa,xf,xv⟩ HR4.out HB4.out.size (by have:=HTL.out;omega)
       have HR6:Hid (SRow w1.heap.size (addTo l ⟨sa,sf,sv⟩ (k+1)).1 v6 w6):=by show SRow _ _ _ _;rw[HT.out];exact hrow6
       have HB6:=Lib.hid (HB4.out.trans hb6)
       have hd6:(addTo l ⟨sa,sf,sv⟩ (k+1)).2=true:=by rw[HT.out]
       have hr6:∀ty,(Builtin.append_ #[71,71] ty #[u5,.slice (some ⟨W4.heap.size,0,none⟩) 1 1]).run Tryz.prog (W4.alloc (.cells #[.int .i64 xa,.string xf,.int .i64 xv] 77))= .ok v6 w6:=fun ty=>hr6
       clear hrow6 hb6 HT HTL HR4
       go_wp2_with (at_builtin;refine Lib.wpList_append_run _ rfl _ _ _ _ rfl _ _ rfl rfl _ _ (hr6 _) ?_)
       go_roundw
       case rel=>exact⟨k+1,by go_num,by rw[hd6],by omega,HR6,HB6⟩
       case measure=>simp[intOf];omega
     | false=>
       cases z with
       | false=>
         simp only[Bool.not_false,Bool.true_and,Bool.false_eq_true,if_false]at HT
         obtain⟨v6,w6,hr6,hrow6,hb6⟩:=run_append_share (w:=W4) 71 w1.heap.size xs u5 ⟨xa,xf,xv⟩ HR4.out HB4.out.size (by have:=HTL.out;omega)
         have HR6:Hid (SRow w1.heap.size (addTo l ⟨sa,sf,sv⟩ (k+1)).1 v6 w6):=by show SRow _ _ _ _;rw[HT.out];exact hrow6
         have HB6:=Lib.hid (HB4.out.trans hb6)
         have hd6:(addTo l ⟨sa,sf,sv⟩ (k+1)).2=false:=by rw[HT.out]
         have hr6:∀ty,(Builtin.append_ #[71,71] ty #[u5,.slice (some ⟨W4.heap.size,0,none⟩) 1 1]).run Tryz.prog (W4.alloc (.cells #[.int .i64 xa,.string xf,.int .i64 xv] 77))= .ok v6 w6:=fun ty=>hr6
         clear hrow6 hb6 HT HTL HR4
         go_wp2_with (at_builtin;refine Lib.wpList_append_run _ rfl _ _ _ _ rfl _ _ rfl rfl _ _ (hr6 _) ?_)
         go_roundw
         case rel=>exact⟨k+1,by go_num,by rw[hd6],by omega,HR6,HB6⟩
         case measure=>simp[intOf];omega
       | true=>
         simp only[Bool.not_false,Bool.true_and,if_true]at HT
         obtain⟨v5,w5,hr5,hrow5,hb5⟩:=run_append_share (w:=W4) 71 w1.heap.size xs u5 ⟨sa,sf,sv⟩ HR4.out HB4.out.size (by have:=HTL.out;omega)
         have HB5:=Lib.hid (HB4.out.trans hb5)
         obtain⟨v6,w6,hr6,hrow6,hb6⟩:=run_append_share (w:=w5) 71 w1.heap.size (xs ++ [⟨sa,sf,sv⟩]) v5 ⟨xa,xf,xv⟩ hrow5 HB5.out.size (by have:=HTL.out;rw[List.length_append];simp;omega)
         have HR6:Hid (SRow w1.heap.size (addTo l ⟨sa,sf,sv⟩ (k+1)).1 v6 w6):=by show SRow _ _ _ _;rw[HT.out];exact hrow6
         have HB6:=Lib.hid (HB5.out.trans hb6)
         have hd6:(addTo l ⟨sa,sf,sv⟩ (k+1)).2=true:=by rw[HT.out]
         have hr5:∀ty,(Builtin.append_ #[71,71] ty #[u5,.slice (some ⟨W4.heap.size,0,none⟩) 1 1]).run Tryz.prog (W4.alloc (.cells #[.int .i64 sa,.string sf,.int .i64 sv] 77))= .ok v5 w5:=fun ty=>hr5
         have hr6:∀ty,(Builtin.append_ #[71,71] ty #[v5,.slice (some ⟨w5.heap.size,0,none⟩) 1 1]).run Tryz.prog (w5.alloc (.cells #[.int .i64 xa,.string xf,.int .i64 xv] 77))= .ok v6 w6:=fun ty=>hr6
         obtain⟨y1,y2,y3⟩:=HCL.out w5 HB5.out
         clear hrow5 hb5 hrow6 hb6 HT HTL HR4 HB4
         go_wp2_with (at_builtin;first | refine Lib.wpList_append_run _ rfl _ _ _ _ rfl _ _ rfl rfl _ _ (hr5 _) ?_ | refine Lib.wpList_append_run _ rfl _ _ _ _ rfl _ _ rfl rfl _ _ (hr6 _) ?_)
         go_roundw
         case rel=>exact⟨k+1,by go_num,by rw[hd6],by omega,HR6,HB6⟩
         case measure=>simp[intOf];omega
  ·have hlti:¬(k:Int)<(n:Int):=by omega
   obtain rfl:k=n:=by omega
   have hkl:Hid (l.length=k):=HN.out
   have HI:Hid (fin ⟨sa,sf,sv⟩ (addTo l ⟨sa,sf,sv⟩ k)=addD ⟨sa,sf,sv⟩ false l):=by
    have:=HFI.out
    rw[HN.out]at this
    exact this
   have BB:=Lib.hid (HB1.out.trans (hb.out.mono HB1.out.size))
   obtain⟨p1,p2,p3⟩:=HSC.out wr hb.out
   generalize addTo l ⟨sa,sf,sv⟩ k=p at HI hrow HTL
   obtain⟨xs,d⟩:=p
   simp only at HI hrow HTL
   cases d with
   | true=>
     have HE:Hid (SRowEnd (addD ⟨sa,sf,sv⟩ false l) w (.returned u5) wr):=⟨_,rfl,by rw[←HI.out];unfold fin;rw[if_pos rfl];exact ownsRow_lower hrow.out HB1.out.size,BB.out⟩
     clear HI hrow HTL hb
     go_wp2_with fail
     go_ret
     exact HE.out
   | false=>
     obtain⟨v6,w6,hr6,hrow6,hb6⟩:=run_append_share (w:=wr) 71 w1.heap.size xs u5 ⟨sa,sf,sv⟩ hrow.out hb.out.size (by have:=HTL.out;omega)
     have HE:Hid (SRowEnd (addD ⟨sa,sf,sv⟩ false l) w (.returned v6) w6):=⟨_,rfl,by rw[←HI.out];unfold fin;rw[if_neg (by simp)];exact ownsRow_lower hrow6 HB1.out.size,HB1.out.trans ((hb.out.trans hb6).mono HB1.out.size)⟩
     have hr6:∀ty,(Builtin.append_ #[71,71] ty #[u5,.slice (some ⟨wr.heap.size,0,none⟩) 1 1]).run Tryz.prog (wr.alloc (.cells #[.int .i64 sa,.string sf,.int .i64 sv] 77))= .ok v6 w6:=fun ty=>hr6
     clear HI hrow HTL hb hrow6 hb6
     go_wp2_with (at_builtin;refine Lib.wpList_append_run _ rfl _ _ _ _ rfl _ _ rfl rfl _ _ (hr6 _) ?_)
     go_ret
     exact HE.out
end
namespace Lf
open Go.RowKit
def ccV (d s:Nat)(b:Bool):Int:=if 64<d then 4 else if 4096<s then 2 else if b then 0 else 5
def cc (n:Nat)(f:FT):Int:=ccV (dep n f) (siz n f) (sndF n f)
def codeV (k:Int):Value:=if k=0 then .nilIface else .iface 89 (.int .i64 k)
theorem fcheck_any (n:Nat)(f:FT)(cs:List Value)(w:World)(h:FLies w.heap.size w n f cs):
 Calls Tryz.prog 46 #[.agg cs.toArray] w fun e w'=>e= .returned (codeV (cc n f))∧Below w.heap.size w w':=by
 have FL:=fun W (hb:Below w.heap.size w W)=>(h.below hb).mono hb.size
 cases n with
 | zero=>exact h.elim
 | succ n=>
   obtain⟨ta,tcap,ka,kcap,rfl,_⟩:=h
   have hd:=Lib.hid (fun W hb=>deeper_any (n+1) f _ 64 W (by omega) (by omega) (FL W hb))
   have hc:=Lib.hid (fun W hb=>count_any (n+1) f _ 4096 W (by omega) (by omega) (FL W hb))
   have hs:=Lib.hid (fun W hb=>sound_any (n+1) f _ W (FL W hb))
   have T0:=Lib.hid (box_start w f.kind f.c ta ka f.t.length tcap f.ks.length kcap)
   unfold cc
   clear FL
   generalize dep (n+1) f=d at hd
   generalize siz (n+1) f=s at hc
   generalize sndF (n+1) f=b at hs
   generalize f.kind=fk at T0 hd hc hs
   generalize f.c=fc at T0 hd hc hs
   generalize f.t.length=ft at T0 hd hc hs
   generalize f.ks.length=fl at T0 hd hc hs
   by_cases h1:64<d
   ·have e1:decide ((64:Int)<(d:Int))=true:=by simp;omega
    have er:codeV (ccV d s b)= .iface 89 (.int .i64 4):=by unfold ccV;rw[if_pos h1];rfl
    rw[er]
    rw[e1]at hd
    clear er e1 h1 hc hs
    go_enter Tryz.func46,Tryz.ntmps46
    go_wp2_with fail
    refine(hd.out _ T0.out.bel).mono ?_
    rintro e w1 ⟨rfl,hb1⟩
    have T1:=Lib.hid (T0.out.below hb1 T0.out.lt)
    clear hb1
    go_wp2_with fail
    go_ret
    exact⟨rfl,T1.out.bel⟩
   ·have e1:decide ((64:Int)<(d:Int))=false:=by simp;omega
    rw[e1]at hd
    by_cases h2:4096<s
    ·have er:codeV (ccV d s b)= .iface 89 (.int .i64 2):=by unfold ccV;rw[if_neg h1,if_pos h2];rfl
     have e2:cnt s 4096=4097:=by unfold cnt;rw[if_neg (by omega)];rfl
     rw[er]
     rw[e2]at hc
     clear er e1 e2 h1 h2 hs
     go_enter Tryz.func46,Tryz.ntmps46
     go_wp2_with fail
     refine(hd.out _ T0.out.bel).mono ?_
     rintro e w1 ⟨rfl,hb1⟩
     have T1:=Lib.hid (T0.out.below hb1 T0.out.lt)
     clear hb1
     obtain⟨l1,p0,p1,p2,p3,_⟩:=T1.out
     go_wp2_with fail
     refine(hc.out _ T1.out.bel).mono ?_
     rintro e w2 ⟨rfl,hb2⟩
     have T2:=Lib.hid (T1.out.below hb2 T1.out.lt)
     clear hb2 l1 p0 p1 p2 p3
     go_wp2_with fail
     go_ret
     exact⟨rfl,T2.out.bel⟩
    ·have e2:cnt s 4096=s:=by unfold cnt;rw[if_pos (by omega)]
     have er:codeV (ccV d s b)=errV b:=by unfold ccV;rw[if_neg h1,if_neg h2];cases b<;>rfl
     have hs4:(s:Int)≤4096:=by omega
     rw[er]
     rw[e2]at hc
     clear er e1 e2 h1 h2
     go_enter Tryz.func46,Tryz.ntmps46
     go_wp2_with fail
     refine(hd.out _ T0.out.bel).mono ?_
     rintro e w1 ⟨rfl,hb1⟩
     have T1:=Lib.hid (T0.out.below hb1 T0.out.lt)
     clear hb1
     obtain⟨l1,p0,p1,p2,p3,_⟩:=T1.out
     go_wp2_with fail
     refine(hc.out _ T1.out.bel).mono ?_
     rintro e w2 ⟨rfl,hb2⟩
     have T2:=Lib.hid (T1.out.below hb2 T1.out.lt)
     clear hb2 l1 p0 p1 p2 p3
     obtain⟨l2,p0,p1,p2,p3,_⟩:=T2.out
     go_wp2_with fail
     refine(hs.out _ T2.out.bel).mono ?_
     rintro e w3 ⟨rfl,hb3⟩
     have T3:=Lib.hid (T2.out.below hb3 T2.out.lt)
     clear hb3 l2 p0 p1 p2 p3
     cases b with
     | true=>
       go_wp2_with fail
       go_ret
       exact⟨rfl,T3.out.bel⟩
     | false=>
       go_wp2_with fail
       go_ret
       exact⟨rfl,T3.out.bel⟩
theorem Tryz.neNil (w:World):(binOp .neq 32 .nilIface .nilIface).run Tryz.prog w= .ok (.bool false) w:=by simp[go_sem]
theorem Tryz.neCode (k:Int)(w:World):(binOp .neq 32 (.iface 89 (.int .i64 k)) .nilIface).run Tryz.prog w= .ok (.bool true) w:=by simp[go_sem]
end Lf
namespace Lf
open Go.RowKit
def vStep (b:Bool)(p q:Bool×Bool):Bool×Bool:=(if(q.1 != b)=true then !b else p.1,p.2 && q.2)
def vOf (zs:List Int):Nat→FT→Bool×Bool
 | 0,_=>(false,false)
 | n+1,f=>
   if f.kind=0 then(true,true)
   else if f.kind=1 then(false,true)
   else if f.kind=2∨f.kind=3 then
    if ∀i,i<f.t.length→near f.t zs i=true then(decide (sAt f.c f.t zs f.t.length=0) || (decide (sAt f.c f.t zs f.t.length<0) && decide (f.kind=2)),true) else(true,false)
   else if f.kind=4 then(!(vOf zs n (f.ks.getD 0 default)).1,(vOf zs n (f.ks.getD 0 default)).2)
   else(f.ks.map (vOf zs n)).foldl (vStep (f.kind == 5)) (f.kind == 5,true)
def vTo (zs:List Int)(n:Nat)(b:Bool)(ks:List FT)(k:Nat):Bool×Bool:=((ks.take k).map (vOf zs n)).foldl (vStep b) (b,true)
theorem vTo_succ (zs:List Int)(n:Nat)(b:Bool)(ks:List FT)(k:Nat)(h:k<ks.length):vTo zs n b ks (k+1)=vStep b (vTo zs n b ks k) (vOf zs n (ks.getD k default)):=by
 unfold vTo
 rw[List.take_succ_eq_append_getElem h,List.map_append,List.foldl_append]
 simp[List.getD_eq_getElem?_getD,h]
theorem ownF_form {f:FT}(h:ownF f=true)(hk:f.kind=2∨f.kind=3):snd f.c f.t=true:=by
 unfold ownF ownV at h
 rw[if_neg (by omega),if_pos hk]at h
 simp at h
 exact h.1
theorem ownF_not {f:FT}(h:ownF f=true)(hk:f.kind=4):f.ks.length=1:=by
 unfold ownF ownV at h
 rw[if_neg (by omega),if_neg (by omega),if_pos hk]at h
 simp at h
 omega
theorem ownF_kind {f:FT}(h:ownF f=true):f.kind=0∨f.kind=1∨(f.kind=2∨f.kind=3)∨f.kind=4∨f.kind=5∨f.kind=6:=by
 by_cases hk:f.kind=0∨f.kind=1∨(f.kind=2∨f.kind=3)∨f.kind=4∨f.kind=5∨f.kind=6
 ·exact hk
 ·unfold ownF ownV at h
  rw[if_neg (by omega),if_neg (by omega),if_neg (by omega),if_neg (by omega)]at h
  cases h
theorem sndF_split {n:Nat}{f:FT}(h:sndF (n+1) f=true):ownF f=true∧∀i,i<f.ks.length→sndF n (f.ks.getD i default)=true:=by
 have:(ownF f && decide (∀i,i<f.ks.length→sndF n (f.ks.getD i default)=true))=true:=h
 rw[Bool.and_eq_true]at this
 exact⟨this.1,of_decide_eq_true this.2⟩
def ValEnd (B:Nat)(p:Bool×Bool)(w:World)(e:Ending)(w':World):Prop:=e= .returned (.tuple #[.bool p.1,.bool p.2])∧Below B w w'
end Lf
namespace Lf
open Go.RowKit
theorem value_0 (n:Nat)(f:FT)(cs:List Value)(a2:Option Addr)(n2 cap2:Nat)(zs:List Int)(w:World)(IH:∀(f:FT) (cs:List Value) (a2:Option Addr) (n2 cap2:Nat) (zs:List Int) (w:World),FLies w.heap.size w n f cs→sndF n f=true→zs.length=n2→Nums w.heap.size w a2 zs→Calls Tryz.prog 47 #[.agg cs.toArray,.slice a2 n2 cap2] w (ValEnd w.heap.size (vOf zs n f) w))
 (h:FLies w.heap.size w (n+1) f cs) (hs:sndF (n+1) f=true) (hn2:zs.length=n2) (hz:Nums w.heap.size w a2 zs) (hk:f.kind=0):
 Calls Tryz.prog 47 #[.agg cs.toArray,.slice a2 n2 cap2] w (ValEnd w.heap.size (vOf zs (n+1) f) w):=by
 obtain⟨hown,hkids⟩:=sndF_split hs
 obtain⟨ta,tcap,ka,kcap,rfl,hlt,ht4,hk4,hks⟩:=h
 have B0:=Lib.hid (box_start w f.kind f.c ta ka f.t.length tcap f.ks.length kcap)
 have hv:vOf zs (n+1) f=(true,true):=by show(if f.kind=0 then _ else _)=_;rw[if_pos hk]
 rw[hv]
 rw[hk]at B0⊢
 generalize f.c=fc at B0
 generalize f.t.length=ft at B0
 generalize f.ks.length=len at B0
 clear IH hks hkids hlt hown hk hs hz hv hn2 hk4
 go_enter Tryz.func47,Tryz.ntmps47
 go_wp2_with fail
 refine bodyPost_ret (v:= .tuple #[.bool true,.bool true]) ?_ rfl ⟨rfl,B0.out.bel⟩
 simp[results,Tryz.results47,go_sem]
theorem value_1 (n:Nat)(f:FT)(cs:List Value)(a2:Option Addr)(n2 cap2:Nat)(zs:List Int)(w:World)(IH:∀(f:FT) (cs:List Value) (a2:Option Addr) (n2 cap2:Nat) (zs:List Int) (w:World),FLies w.heap.size w n f cs→sndF n f=true→zs.length=n2→Nums w.heap.size w a2 zs→Calls Tryz.prog 47 #[.agg cs.toArray,.slice a2 n2 cap2] w (ValEnd w.heap.size (vOf zs n f) w))
 (h:FLies w.heap.size w (n+1) f cs) (hs:sndF (n+1) f=true) (hn2:zs.length=n2) (hz:Nums w.heap.size w a2 zs) (hk:f.kind=1):
 Calls Tryz.prog 47 #[.agg cs.toArray,.slice a2 n2 cap2] w (ValEnd w.heap.size (vOf zs (n+1) f) w):=by
 obtain⟨hown,hkids⟩:=sndF_split hs
 obtain⟨ta,tcap,ka,kcap,rfl,hlt,ht4,hk4,hks⟩:=h
 have B0:=Lib.hid (box_start w f.kind f.c ta ka f.t.length tcap f.ks.length kcap)
 have hv:vOf zs (n+1) f=(false,true):=by show(if f.kind=0 then _ else if f.kind=1 then _ else _)=_;rw[if_neg (by omega),if_pos hk]
 rw[hv]
 rw[hk]at B0⊢
 generalize f.c=fc at B0
 generalize f.t.length=ft at B0
 generalize f.ks.length=len at B0
 clear IH hks hkids hlt hown hk hs hz hv hn2 hk4
 go_enter Tryz.func47,Tryz.ntmps47
 go_wp2_with fail
 refine bodyPost_ret (v:= .tuple #[.bool false,.bool true]) ?_ rfl ⟨rfl,B0.out.bel⟩
 simp[results,Tryz.results47,go_sem]
theorem value_2 (n:Nat)(f:FT)(cs:List Value)(a2:Option Addr)(n2 cap2:Nat)(zs:List Int)(w:World)(IH:∀(f:FT) (cs:List Value) (a2:Option Addr) (n2 cap2:Nat) (zs:List Int) (w:World),FLies w.heap.size w n f cs→sndF n f=true→zs.length=n2→Nums w.heap.size w a2 zs→Calls Tryz.prog 47 #[.agg cs.toArray,.slice a2 n2 cap2] w (ValEnd w.heap.size (vOf zs n f) w))
 (h:FLies w.heap.size w (n+1) f cs) (hs:sndF (n+1) f=true) (hn2:zs.length=n2) (hz:Nums w.heap.size w a2 zs) (hk:f.kind=2∨f.kind=3):
 Calls Tryz.prog 47 #[.agg cs.toArray,.slice a2 n2 cap2] w (ValEnd w.heap.size (vOf zs (n+1) f) w):=by
 obtain⟨hown,hkids⟩:=sndF_split hs
 obtain⟨ta,tcap,ka,kcap,rfl,hlt,ht4,hk4,hks⟩:=h
 have B0:=Lib.hid (box_start w f.kind f.c ta ka f.t.length tcap f.ks.length kcap)
 have hsn:=ownF_form hown hk
 have hv:vOf zs (n+1) f=if ∀i,i<f.t.length→near f.t zs i=true then(decide (sAt f.c f.t zs f.t.length=0) || (decide (sAt f.c f.t zs f.t.length<0) && decide (f.kind=2)),true) else(true,false):=by
  show(if f.kind=0 then _ else if f.kind=1 then _ else if f.kind=2∨f.kind=3 then _ else _)=_
  rw[if_neg (by omega),if_neg (by omega),if_pos hk]
 rw[hv]
 have en:=fun W=>Tryz.eqNil W
 have ei:=fun W=>Tryz.eqIfaceNil 1 W
 by_cases hnear:∀i,i<f.t.length→near f.t zs i=true
 ·rw[if_pos hnear]
  have hcv:=value_ok f.c ta f.t.length tcap f.t a2 n2 cap2 zs _ rfl hn2 ((hlt.below B0.out.bel).mono B0.out.bel.size) ((hz.below B0.out.bel).mono B0.out.bel.size) hsn hnear
  generalize sAt f.c f.t zs f.t.length=v at hcv
  generalize f.c=fc at B0 hcv
  generalize f.t.length=ft at B0 hcv
  generalize f.ks.length=len at B0 hcv
  generalize f.kind=fk at B0 hcv hk
  clear IH hks hkids hlt hown hs hz hv hn2 hk4 hsn hnear ei
  have hv3:v=0∨(decide (v<0)=true∧(v == 0)=false)∨(decide (v<0)=false∧(v == 0)=false):=by
   simp only[beq_eq_false_iff_ne,ne_eq,decide_eq_true_eq,decide_eq_false_iff_not];omega
  rcases hk with rfl | rfl<;>rcases hv3 with rfl | ⟨h1,h2⟩ | ⟨h1,h2⟩
  all_goals
   go_enter Tryz.func47,Tryz.ntmps47
   go_wp2_with fail
   refine hcv.mono ?_
   rintro e w1 ⟨rfl,hb1⟩
   have T1:=Lib.hid (B0.out.below hb1 B0.out.lt)
   obtain⟨l1,p0,_,_,_,_⟩:=T1.out
   clear hb1 hcv
   go_wp2_with fail
   go_quiet (fail)
   go_wp2
   refine bodyPost_ret ?_ rfl ⟨rfl,below_drewN T1.out.bel _⟩
   simp_all [results,Tryz.results47,go_sem]
 ·rw[if_neg hnear]
  have hcv:=value_far f.c ta f.t.length tcap f.t a2 n2 cap2 zs _ rfl hn2 ((hlt.below B0.out.bel).mono B0.out.bel.size) ((hz.below B0.out.bel).mono B0.out.bel.size) hsn hnear
  generalize f.c=fc at B0 hcv
  generalize f.t.length=ft at B0 hcv
  generalize f.ks.length=len at B0 hcv
  generalize f.kind=fk at B0 hcv hk
  clear IH hks hkids hlt hown hs hz hv hn2 hk4 hsn hnear en
  rcases hk with rfl | rfl
  all_goals
   go_enter Tryz.func47,Tryz.ntmps47
   go_wp2_with fail
   refine hcv.mono ?_
   rintro e w1 ⟨rfl,hb1⟩
   have T1:=Lib.hid (B0.out.below hb1 B0.out.lt)
   clear hb1 hcv
   go_wp2_with fail
   go_quiet (fail)
   go_wp2
   refine bodyPost_ret (v:= .tuple #[.bool true,.bool false]) ?_ rfl ⟨rfl,below_drewN T1.out.bel _⟩
   simp[results,Tryz.results47,go_sem]
theorem value_3 (n:Nat)(f:FT)(cs:List Value)(a2:Option Addr)(n2 cap2:Nat)(zs:List Int)(w:World)(IH:∀(f:FT) (cs:List Value) (a2:Option Addr) (n2 cap2:Nat) (zs:List Int) (w:World),FLies w.heap.size w n f cs→sndF n f=true→zs.length=n2→Nums w.heap.size w a2 zs→Calls Tryz.prog 47 #[.agg cs.toArray,.slice a2 n2 cap2] w (ValEnd w.heap.size (vOf zs n f) w))
 (h:FLies w.heap.size w (n+1) f cs) (hs:sndF (n+1) f=true) (hn2:zs.length=n2) (hz:Nums w.heap.size w a2 zs) (hk:f.kind=4):
 Calls Tryz.prog 47 #[.agg cs.toArray,.slice a2 n2 cap2] w (ValEnd w.heap.size (vOf zs (n+1) f) w):=by
 obtain⟨hown,hkids⟩:=sndF_split hs
 obtain⟨ta,tcap,ka,kcap,rfl,hlt,ht4,hk4,hks⟩:=h
 have B0:=Lib.hid (box_start w f.kind f.c ta ka f.t.length tcap f.ks.length kcap)
 have hlen:=ownF_not hown hk
 have hv:vOf zs (n+1) f=(!(vOf zs n (f.ks.getD 0 default)).1,(vOf zs n (f.ks.getD 0 default)).2):=by
  show(if f.kind=0 then _ else if f.kind=1 then _ else if f.kind=2∨f.kind=3 then _ else if f.kind=4 then _ else _)=_
  rw[if_neg (by omega),if_neg (by omega),if_neg (by omega),if_pos hk]
 rw[hv]
 obtain⟨b,off,c0,c1,c2,c3,rfl,hblt,g0,g1,g2,g3,hf⟩:=hks 0 (by omega)
 rw[←B0.out.bel.cell (p:=⟨b,_,none⟩) hblt]at g0 g1 g2 g3
 obtain⟨ck,cc,cta,ctn,ctcap,cka,ckn,ckcap,rfl,rfl,rfl,rfl⟩:=hf.form
 have hih:=IH (f.ks.getD 0 default) _ a2 n2 cap2 zs _ ((hf.below B0.out.bel).mono B0.out.bel.size) (hkids 0 (by omega)) hn2 ((hz.below B0.out.bel).mono B0.out.bel.size)
 simp only[Nat.zero_mul,Nat.add_zero]at g0 g1 g2 g3
 generalize vOf zs n (f.ks.getD 0 default)=p at hih
 obtain⟨o,u⟩:=p
 rw[hk]at B0 g0 g1 g2 g3 hih⊢
 rw[hlen]at B0 g0 g1 g2 g3 hih⊢
 generalize f.c=fc at B0 g0 g1 g2 g3 hih
 generalize f.t.length=ft at B0 g0 g1 g2 g3 hih
 clear IH hks hkids hlt hown hs hz hv hn2 hk4 hf hk hlen
 go_enter Tryz.func47,Tryz.ntmps47
 go_wp2_with fail
 refine hih.mono ?_
 rintro e w1 ⟨rfl,hb1⟩
 have T1:=Lib.hid (B0.out.below hb1 B0.out.lt)
 clear hb1 hih
 go_wp2_with fail
 refine bodyPost_ret (v:= .tuple #[.bool !o,.bool u]) ?_ rfl ⟨rfl,T1.out.bel⟩
 simp[results,Tryz.results47,go_sem]
end Lf
section
open Go.RowKit
theorem rdrop_any (hs:List HC)(ad:Option Addr)(n cap:Nat)(a:Int)(f:ByteArray)(w:World)(hn:hs.length=n)(hnm:n≤30000)(hl:HLies w.heap.size w ad hs):
 Calls Tryz.prog 48 #[.slice ad n cap,.int .i64 a,.string f] w (RowEnd (dropL hs (a,f.toList)) w):=by
 have HL:=Lib.hid hl
 have HN:=Lib.hid hn
 clear hl hn
 go_enter Tryz.func48,Tryz.ntmps48
 go_wp2_with fail
 go_loopw [7,8] (fun o i wr=>∃k:Nat,i= .int .i64 k∧k≤n∧Hid (HRow w.heap.size (dropL (hs.take k) (a,f.toList)) o wr)∧Hid (Below w.heap.size w wr)) (fun _ i _=>n - (intOf i).toNat)
 case atStart=>exact⟨0,rfl,Nat.zero_le _,HRow.nil _ _,Below.refl _ _⟩
 case round=>
  obtain⟨k,rfl,hk,hrow,hb⟩:=hrel
  by_cases hlt:k<n
  ·have hlti:(k:Int)<(n:Int):=by omega
   obtain⟨b3,off3,rfl,hb3,c1,c2,c3⟩:=HL.out k (by rw[HN.out];omega)
   have c1:=(hb.out.cell (p:=⟨b3,_,none⟩) hb3).trans c1
   have c2:=(hb.out.cell (p:=⟨b3,_,none⟩) hb3).trans c2
   have c3:=(hb.out.cell (p:=⟨b3,_,none⟩) hb3).trans c3
   have HT:Hid (dropL (hs.take (k+1)) (a,f.toList)=dropL (hs.take k) (a,f.toList) ++ (if hkey (hs.getD k hc0)≠(a,f.toList) then[hs.getD k hc0] else[])):=by
    show _=_
    rw[take_snocH hs k (by rw[HN.out];exact hlt),dropL_snoc]
   have HLE:Hid ((dropL (hs.take k) (a,f.toList)).length≤k):=by
    have:=dropL_len (hs.take k) (a,f.toList)
    rw[List.length_take]at this
    show _≤_;omega
   generalize hs.getD k hc0=x at c1 c2 c3 HT
   generalize dropL (hs.take k) (a,f.toList)=xs at HT HLE hrow
   obtain⟨xa,xf,xv⟩:=x
   simp only at c1 c2 c3
   obtain⟨v5,w5,hr5,hrow5,hb5⟩:=run_append_cell (w:=wr) 70 w.heap.size xs u7 ⟨xa,xf,xv⟩ hrow.out hb.out.size (by have:=HLE.out;omega)
   have HR5:=Lib.hid hrow5
   have HB5:=Lib.hid (hb.out.trans hb5)
   have hr5:∀ty,(Builtin.append_ #[70,70] ty #[u7,.slice (some ⟨wr.heap.size,0,none⟩) 1 1]).run Tryz.prog (wr.alloc (.cells #[.int .i64 xa,.string xf,.int .i64 xv] 122))= .ok v5 w5:=fun ty=>hr5
   clear hrow5 hb5
   by_cases e1:xa=a
   ·have he1:(xa != a)=false:=by simp[e1]
    by_cases e2:xf.toList=f.toList
    ·have he2:(xf.toList != f.toList)=false:=by simp[e2]
     have he3:(xf.toList == f.toList)=true:=by simp[e2]
     have HE:Hid (HRow w.heap.size (dropL (hs.take (k+1)) (a,f.toList)) u7 wr):=by
      show HRow _ _ _ _
      rw[HT.out,if_neg (fun h=>h (hkey_eq.2 ⟨e1,e2⟩)),List.append_nil]
      exact hrow.out
     clear HT hr5 HR5 HB5 hrow e1 e2
     go_wp2_with fail
     go_roundw
     case rel=>exact⟨k+1,by go_num,by omega,HE,hb⟩
     case measure=>simp[intOf];omega
    ·have he2:(xf.toList != f.toList)=true:=by simp[e2]
     have he3:(xf.toList == f.toList)=false:=by simp[e2]
     have HE:Hid (HRow w.heap.size (dropL (hs.take (k+1)) (a,f.toList)) v5 w5):=by
      show HRow _ _ _ _
      rw[HT.out,if_pos (fun h=>e2 (hkey_eq.1 h).2)]
      exact HR5.out
     clear HT HR5 hrow e1 e2
     go_wp2_with (at_builtin;refine Lib.wpList_append_run _ rfl _ _ _ _ rfl _ _ rfl rfl _ _ (hr5 _) ?_)
     go_roundw
     case rel=>exact⟨k+1,by go_num,by omega,HE,HB5⟩
     case measure=>simp[intOf];omega
   ·have he1:(xa != a)=true:=by simp[e1]
    have HE:Hid (HRow w.heap.size (dropL (hs.take (k+1)) (a,f.toList)) v5 w5):=by
     show HRow _ _ _ _
     rw[HT.out,if_pos (fun h=>e1 (hkey_eq.1 h).1)]
     exact HR5.out
    clear HT HR5 hrow e1
    go_wp2_with (at_builtin;refine Lib.wpList_append_run _ rfl _ _ _ _ rfl _ _ rfl rfl _ _ (hr5 _) ?_)
    go_roundw
    case rel=>exact⟨k+1,by go_num,by omega,HE,HB5⟩
    case measure=>simp[intOf];omega
  ·have hlti:¬(k:Int)<(n:Int):=by omega
   have HE:Hid (RowEnd (dropL hs (a,f.toList)) w (.returned u7) wr):=by
    refine⟨u7,rfl, ?_,hb.out⟩
    have:=hrow.out
    rwa [List.take_of_length_le (by rw[HN.out];omega)]at this
   clear hrow hb
   go_wp2_with fail
   go_ret
   exact HE.out
theorem rset_any (hs:List HC)(ad:Option Addr)(n cap:Nat)(a:Int)(f:ByteArray)(v:Int)(w:World)(hn:hs.length=n)(hnm:n≤30000)(hl:HLies w.heap.size w ad hs):
 Calls Tryz.prog 25 #[.slice ad n cap,.int .i64 a,.string f,.int .i64 v] w (RowEnd (insF (dropL hs (a,f.toList)) ⟨a,f,v⟩) w):=by
 have HD:=Lib.hid (rdrop_any hs ad n cap a f w hn hnm hl)
 have HB:=Lib.hid (fun a f b g W=>rbelow_any a f b g W)
 have HLE:Hid ((dropL hs (a,f.toList)).length≤n):=by have:=dropL_len hs (a,f.toList);show _≤_;omega
 clear hl hn
 generalize dropL hs (a,f.toList)=rs at HD HLE
 go_enter Tryz.func25,Tryz.ntmps25
 go_wp2_with fail
 refine HD.out.mono ?_
 rintro e w1 ⟨vr,rfl,hrow,hb1⟩
 obtain⟨ra,rcap,rfl,_,_,hrl⟩:=hrow.lies
 have HRL:=Lib.hid hrl
 have B1:=Lib.hid hb1
 have hrm:rs.length≤30000:=Nat.le_trans HLE.out hnm
 clear hrow hrl hb1 HD
 go_wp2_with fail
 go_loopw [10,11,12] (fun o d i wr=>∃k:Nat,i= .int .i64 k∧d= .bool (insTo rs ⟨a,f,v⟩ k).2∧k≤rs.length∧Hid (HRow w1.heap.size (insTo rs ⟨a,f,v⟩ k).1 o wr)∧Hid (Below w1.heap.size w1 wr)) (fun _ _ i _=>rs.length - (intOf i).toNat)
 case atStart=>exact⟨0,rfl,rfl,Nat.zero_le _,HRow.nil _ _,Below.refl _ _⟩
 case round=>
  obtain⟨k,rfl,rfl,hk,hrow,hb⟩:=hrel
  have HTL:=Lib.hid (insTo_len rs ⟨a,f,v⟩ k)
  by_cases hlt:k<rs.length
  ·have hlti:(k:Int)<(rs.length:Int):=by omega
   obtain⟨b3,off3,rfl,hb3,c1,c2,c3⟩:=HRL.out k hlt
   have HCL:Hid (∀W,Below w1.heap.size w1 W→W.cell? ⟨b3,off3+k*3,none⟩=some (.int .i64 (rs.getD k hc0).a)∧W.cell? ⟨b3,off3+k*3+1,none⟩=some (.string (rs.getD k hc0).f)∧W.cell? ⟨b3,off3+k*3+2,none⟩=some (.int .i64 (rs.getD k hc0).v)):=fun W hW=>⟨(hW.cell (p:=⟨b3,_,none⟩) hb3).trans c1,(hW.cell (p:=⟨b3,_,none⟩) hb3).trans c2,(hW.cell (p:=⟨b3,_,none⟩) hb3).trans c3⟩
   have HT:Hid (insTo rs ⟨a,f,v⟩ (k+1)=if(!(insTo rs ⟨a,f,v⟩ k).2 && kl (a,f.toList) (hkey (rs.getD k hc0)))=true then((insTo rs ⟨a,f,v⟩ k).1 ++ [⟨a,f,v⟩] ++ [rs.getD k hc0],true) else((insTo rs ⟨a,f,v⟩ k).1 ++ [rs.getD k hc0],(insTo rs ⟨a,f,v⟩ k).2)):=rfl
   obtain⟨q1,q2,_⟩:=HCL.out wr hb.out
   clear c1 c2 c3
   generalize insTo rs ⟨a,f,v⟩ k=s at HT HTL hrow
   obtain⟨xs,d⟩:=s
   simp only at HT HTL hrow
   generalize rs.getD k hc0=x at HCL HT q1 q2
   have HC:=Lib.hid (HB.out a f x.a x.f)
   have HC:Hid (∀W,Calls Tryz.prog 49 #[.int .i64 a,.string f,.int .i64 x.a,.string x.f] W fun e w'=>e= .returned (.bool (kl (a,f.toList) (hkey x)))∧w'=W):=HC.out
   generalize kl (a,f.toList) (hkey x)=z at HC HT
   go_wp2_with fail
   go_quiet ((go_at_call 49;exact Calls.quiet_of_same (HC.out _)))
   have HB0:Hid (Below w1.heap.size w1 (wr.drewN nq)):=below_drewN2 hb.out _
   have HR0:Hid (HRow w1.heap.size xs u10 (wr.drewN nq)):=hrow.out.below (below_drewN2 (Below.refl _ wr) _)
   generalize wr.drewN nq=W0 at HB0 HR0
   cases d with
   | true=>
     simp only[Bool.not_true,Bool.false_and,Bool.false_eq_true,if_false]at HT
     obtain⟨v6,w6,hr6,hrow6,hb6⟩:=run_append_cell (w:=W0) 70 w1.heap.size xs u10 x HR0.out HB0.out.size (by have:=HTL.out;omega)
     have HR6:Hid (HRow w1.heap.size (insTo rs ⟨a,f,v⟩ (k+1)).1 v6 w6):=by show HRow _ _ _ _;rw[HT.out];exact hrow6
     have HB6:=Lib.hid (HB0.out.trans hb6)
     have hd6:(insTo rs ⟨a,f,v⟩ (k+1)).2=true:=by rw[HT.out]
     have hr6:∀ty,(Builtin.append_ #[70,70] ty #[u10,.slice (some ⟨W0.heap.size,0,none⟩) 1 1]).run Tryz.prog (W0.alloc (.cells #[.int .i64 x.a,.string x.f,.int .i64 x.v] 122))= .ok v6 w6:=fun ty=>hr6
     obtain⟨q1,q2,q3⟩:=HCL.out W0 HB0.out
     clear hrow6 hb6 HT HTL HR0 hrow hb
     go_wp2_with (at_builtin;refine Lib.wpList_append_run _ rfl _ _ _ _ rfl _ _ rfl rfl _ _ (hr6 _) ?_)
     go_roundw
     case rel=>exact⟨k+1,by go_num,by rw[hd6],by omega,HR6,HB6⟩
     case measure=>simp[intOf];omega
   | false=>
     cases z with
     | false=>
       simp only[Bool.not_false,Bool.true_and,Bool.false_eq_true,if_false]at HT
       obtain⟨v6,w6,hr6,hrow6,hb6⟩:=run_append_cell (w:=W0) 70 w1.heap.size xs u10 x HR0.out HB0.out.size (by have:=HTL.out;omega)
       have HR6:Hid (HRow w1.heap.size (insTo rs ⟨a,f,v⟩ (k+1)).1 v6 w6):=by show HRow _ _ _ _;rw[HT.out];exact hrow6
       have HB6:=Lib.hid (HB0.out.trans hb6)
       have hd6:(insTo rs ⟨a,f,v⟩ (k+1)).2=false:=by rw[HT.out]
       have hr6:∀ty,(Builtin.append_ #[70,70] ty #[u10,.slice (some ⟨W0.heap.size,0,none⟩) 1 1]).run Tryz.prog (W0.alloc (.cells #[.int .i64 x.a,.string x.f,.int .i64 x.v] 122))= .ok v6 w6:=fun ty=>hr6
       obtain⟨q1,q2,q3⟩:=HCL.out W0 HB0.out
       clear hrow6 hb6 HT HTL HR0 hrow hb
       go_wp2_with (at_builtin;refine Lib.wpList_append_run _ rfl _ _ _ _ rfl _ _ rfl rfl _ _ (hr6 _) ?_)
       go_roundw
       case rel=>exact⟨k+1,by go_num,by rw[hd6],by omega,HR6,HB6⟩
       case measure=>simp[intOf];omega
     | true=>
       simp only[Bool.not_false,Bool.true_and,if_true]at HT
       obtain⟨v5,w5,hr5,hrow5,hb5⟩:=run_append_cell (w:=W0) 70 w1.heap.size xs u10 ⟨a,f,v⟩ HR0.out HB0.out.size (by have:=HTL.out;omega)
       have HB5:=Lib.hid (HB0.out.trans hb5)
       obtain⟨v6,w6,hr6,hrow6,hb6⟩:=run_append_cell (w:=w5) 70 w1.heap.size (xs ++ [⟨a,f,v⟩]) v5 x hrow5 HB5.out.size (by have:=HTL.out;rw[List.length_append];simp;omega)
       have HR6:Hid (HRow w1.heap.size (insTo rs ⟨a,f,v⟩ (k+1)).1 v6 w6):=by show HRow _ _ _ _;rw[HT.out];exact hrow6
       have HB6:=Lib.hid (HB5.out.trans hb6)
       have hd6:(insTo rs ⟨a,f,v⟩ (k+1)).2=true:=by rw[HT.out]
       have hr5:∀ty,(Builtin.append_ #[70,70] ty #[u10,.slice (some ⟨W0.heap.size,0,none⟩) 1 1]).run Tryz.prog (W0.alloc (.cells #[.int .i64 a,.string f,.int .i64 v] 122))= .ok v5 w5:=fun ty=>hr5
       have hr6:∀ty,(Builtin.append_ #[70,70] ty #[v5,.slice (some ⟨w5.heap.size,0,none⟩) 1 1]).run Tryz.prog (w5.alloc (.cells #[.int .i64 x.a,.string x.f,.int .i64 x.v] 122))= .ok v6 w6:=fun ty=>hr6
       obtain⟨q1,q2,q3⟩:=HCL.out w5 HB5.out
       clear hrow5 hb5 hrow6 hb6 HT HTL HR0 hrow hb HB0
       go_wp2_with (at_builtin;first | refine Lib.wpList_append_run _ rfl _ _ _ _ rfl _ _ rfl rfl _ _ (hr5 _) ?_ | refine Lib.wpList_append_run _ rfl _ _ _ _ rfl _ _ rfl rfl _ _ (hr6 _) ?_)
       go_roundw
       case rel=>exact⟨k+1,by go_num,by rw[hd6],by omega,HR6,HB6⟩
       case measure=>simp[intOf];omega
  ·have hlti:¬(k:Int)<(rs.length:Int):=by omega
   obtain rfl:k=rs.length:=by omega
   have HI:Hid (insF rs ⟨a,f,v⟩=if(insTo rs ⟨a,f,v⟩ rs.length).2=true then(insTo rs ⟨a,f,v⟩ rs.length).1 else(insTo rs ⟨a,f,v⟩ rs.length).1 ++ [⟨a,f,v⟩]):=rfl
   have BB:=Lib.hid (B1.out.trans (hb.out.mono B1.out.size))
   generalize insTo rs ⟨a,f,v⟩ rs.length=s at HI hrow HTL
   obtain⟨xs,d⟩:=s
   simp only at HI hrow HTL
   cases d with
   | true=>
     have HE:Hid (RowEnd (insF rs ⟨a,f,v⟩) w (.returned u10) wr):=⟨_,rfl,by rw[HI.out,if_pos rfl];exact ownsRow_lower hrow.out B1.out.size,BB.out⟩
     clear HI hrow HTL hb
     go_wp2_with fail
     go_ret
     exact HE.out
   | false=>
     obtain⟨v6,w6,hr6,hrow6,hb6⟩:=run_append_cell (w:=wr) 70 w1.heap.size xs u10 ⟨a,f,v⟩ hrow.out hb.out.size (by have:=HTL.out;omega)
     have HE:Hid (RowEnd (insF rs ⟨a,f,v⟩) w (.returned v6) w6):=⟨_,rfl,by rw[HI.out,if_neg (by decide)];exact ownsRow_lower hrow6 B1.out.size,B1.out.trans ((hb.out.trans hb6).mono B1.out.size)⟩
     have hr6:∀ty,(Builtin.append_ #[70,70] ty #[u10,.slice (some ⟨wr.heap.size,0,none⟩) 1 1]).run Tryz.prog (wr.alloc (.cells #[.int .i64 a,.string f,.int .i64 v] 122))= .ok v6 w6:=fun ty=>hr6
     clear HI hrow HTL hb hrow6 hb6
     go_wp2_with (at_builtin;refine Lib.wpList_append_run _ rfl _ _ _ _ rfl _ _ rfl rfl _ _ (hr6 _) ?_)
     go_ret
     exact HE.out
end
namespace Lf
open Go.RowKit
theorem value_5 (n:Nat)(f:FT)(cs:List Value)(a2:Option Addr)(n2 cap2:Nat)(zs:List Int)(w:World)(IH:∀(f:FT) (cs:List Value) (a2:Option Addr) (n2 cap2:Nat) (zs:List Int) (w:World),FLies w.heap.size w n f cs→sndF n f=true→zs.length=n2→Nums w.heap.size w a2 zs→Calls Tryz.prog 47 #[.agg cs.toArray,.slice a2 n2 cap2] w (ValEnd w.heap.size (vOf zs n f) w))
 (h:FLies w.heap.size w (n+1) f cs) (hs:sndF (n+1) f=true) (hn2:zs.length=n2) (hz:Nums w.heap.size w a2 zs) (hk:f.kind=6):
 Calls Tryz.prog 47 #[.agg cs.toArray,.slice a2 n2 cap2] w (ValEnd w.heap.size (vOf zs (n+1) f) w):=by
 obtain⟨hown,hkids⟩:=sndF_split hs
 obtain⟨ta,tcap,ka,kcap,rfl,hlt,ht4,hk4,hks⟩:=h
 have B0:=Lib.hid (box_start w f.kind f.c ta ka f.t.length tcap f.ks.length kcap)
 have hv:vOf zs (n+1) f=vTo zs n false f.ks f.ks.length:=by
  show(if f.kind=0 then _ else if f.kind=1 then _ else if f.kind=2∨f.kind=3 then _ else if f.kind=4 then _ else _)=_
  rw[if_neg (by omega),if_neg (by omega),if_neg (by omega),if_neg (by omega)]
  unfold vTo
  rw[List.take_length,show(f.kind == 5)=false from by rw[hk];rfl]
 have HST:=Lib.hid (vTo_succ zs n false f.ks)
 have HI:=Lib.hid IH
 have HK:=Lib.hid hks
 have HS:=Lib.hid hkids
 have HZ:=Lib.hid hz
 have HN2:=Lib.hid hn2
 rw[hv]
 have S0:Hid ((false,true)=vTo zs n false f.ks 0):=rfl
 generalize hr:vTo zs n false f.ks f.ks.length=r
 have HR:=Lib.hid hr
 rw[hk]at B0⊢
 clear IH hks hkids hlt hown hs hz hv hn2 hk hr
 generalize f.c=fc at B0
 generalize f.t.length=ft at B0
 generalize hl:f.ks.length=len at B0 HK hk4 HST HR HS
 clear hl
 go_enter Tryz.func47,Tryz.ntmps47
 go_wp2_with fail
 go_loopw [4,5,67] (fun s4 s5 i wr=>∃(k:Nat) (o u:Bool),k≤len∧i= .int .i64 k∧s4= .bool o∧s5= .bool u∧Hid ((o,u)=vTo zs n false f.ks k)∧Below w.heap.size w wr) (fun _ _ i _=>len - (intOf i).toNat)
 case atStart=>exact⟨0,false,true,Nat.zero_le _,rfl,rfl,rfl,S0,B0.out.bel⟩
 case round=>
  obtain⟨k,o,u,hk,rfl,rfl,rfl,hou,hb⟩:=hrel
  by_cases hlt:k<len
  ·obtain⟨b,off,c0,c1,c2,c3,rfl,hblt,g0,g1,g2,g3,hf⟩:=HK.out k hlt
   rw[←hb.cell (p:=⟨b,_,none⟩) hblt]at g0 g1 g2 g3
   obtain⟨ck,cc,cta,ctn,ctcap,cka,ckn,ckcap,rfl,rfl,rfl,rfl⟩:=hf.form
   have hb2:=hb.alloc hb.size (.cells #[.int .i64 ck,.int .i64 cc,.slice cta ctn ctcap,.slice cka ckn ckcap] 38)
   have hih:=HI.out (f.ks.getD k default) _ a2 n2 cap2 zs _ ((hf.below hb2).mono hb2.size) (HS.out k hlt) HN2.out ((HZ.out.below hb2).mono hb2.size)
   have hst:=HST.out k hlt
   rw[←hou.out]at hst
   generalize vOf zs n (f.ks.getD k default)=p at hih hst
   obtain⟨v,y⟩:=p
   have HO:=Lib.hid hst
   clear hf hst hou
   go_wp2_with fail
   refine hih.mono ?_
   rintro e w1 ⟨rfl,hb1⟩
   have HB1:=Lib.hid (hb2.trans (hb1.mono hb2.size))
   clear g0 g1 g2 g3 hih hb1 hb2
   cases u<;>cases v<;>cases y
   all_goals
    go_wp2_with fail
    go_roundw
    case rel=>exact⟨k+1,_,_,by omega,by go_num,rfl,rfl,(HO.out.trans (by cases o<;>rfl)).symm,HB1.out⟩
    case measure=>simp[intOf];omega
  ·have hr:r=(o,u):=by
    obtain rfl:k=len:=by omega
    rw[←HR.out,hou.out]
   subst hr
   clear hou
   go_wp2_with fail
   refine bodyPost_ret (v:= .tuple #[.bool o,.bool u]) ?_ rfl ⟨rfl,hb⟩
   simp[results,Tryz.results47,go_sem]
end Lf
namespace Lf
open Go.RowKit
theorem value_4 (n:Nat)(f:FT)(cs:List Value)(a2:Option Addr)(n2 cap2:Nat)(zs:List Int)(w:World)(IH:∀(f:FT) (cs:List Value) (a2:Option Addr) (n2 cap2:Nat) (zs:List Int) (w:World),FLies w.heap.size w n f cs→sndF n f=true→zs.length=n2→Nums w.heap.size w a2 zs→Calls Tryz.prog 47 #[.agg cs.toArray,.slice a2 n2 cap2] w (ValEnd w.heap.size (vOf zs n f) w))
 (h:FLies w.heap.size w (n+1) f cs) (hs:sndF (n+1) f=true) (hn2:zs.length=n2) (hz:Nums w.heap.size w a2 zs) (hk:f.kind=5):
 Calls Tryz.prog 47 #[.agg cs.toArray,.slice a2 n2 cap2] w (ValEnd w.heap.size (vOf zs (n+1) f) w):=by
 obtain⟨hown,hkids⟩:=sndF_split hs
 obtain⟨ta,tcap,ka,kcap,rfl,hlt,ht4,hk4,hks⟩:=h
 have B0:=Lib.hid (box_start w f.kind f.c ta ka f.t.length tcap f.ks.length kcap)
 have hv:vOf zs (n+1) f=vTo zs n true f.ks f.ks.length:=by
  show(if f.kind=0 then _ else if f.kind=1 then _ else if f.kind=2∨f.kind=3 then _ else if f.kind=4 then _ else _)=_
  rw[if_neg (by omega),if_neg (by omega),if_neg (by omega),if_neg (by omega)]
  unfold vTo
  rw[List.take_length,show(f.kind == 5)=true from by rw[hk];rfl]
 have HST:=Lib.hid (vTo_succ zs n true f.ks)
 have HI:=Lib.hid IH
 have HK:=Lib.hid hks
 have HS:=Lib.hid hkids
 have HZ:=Lib.hid hz
 have HN2:=Lib.hid hn2
 rw[hv]
 have S0:Hid ((true,true)=vTo zs n true f.ks 0):=rfl
 generalize hr:vTo zs n true f.ks f.ks.length=r
 have HR:=Lib.hid hr
 rw[hk]at B0⊢
 clear IH hks hkids hlt hown hs hz hv hn2 hk hr
 generalize f.c=fc at B0
 generalize f.t.length=ft at B0
 generalize hl:f.ks.length=len at B0 HK hk4 HST HR HS
 clear hl
 go_enter Tryz.func47,Tryz.ntmps47
 go_wp2_with fail
 go_loopw [4,5,67] (fun s4 s5 i wr=>∃(k:Nat) (o u:Bool),k≤len∧i= .int .i64 k∧s4= .bool o∧s5= .bool u∧Hid ((o,u)=vTo zs n true f.ks k)∧Below w.heap.size w wr) (fun _ _ i _=>len - (intOf i).toNat)
 case atStart=>exact⟨0,true,true,Nat.zero_le _,rfl,rfl,rfl,S0,B0.out.bel⟩
 case round=>
  obtain⟨k,o,u,hk,rfl,rfl,rfl,hou,hb⟩:=hrel
  by_cases hlt:k<len
  ·obtain⟨b,off,c0,c1,c2,c3,rfl,hblt,g0,g1,g2,g3,hf⟩:=HK.out k hlt
   rw[←hb.cell (p:=⟨b,_,none⟩) hblt]at g0 g1 g2 g3
   obtain⟨ck,cc,cta,ctn,ctcap,cka,ckn,ckcap,rfl,rfl,rfl,rfl⟩:=hf.form
   have hb2:=hb.alloc hb.size (.cells #[.int .i64 ck,.int .i64 cc,.slice cta ctn ctcap,.slice cka ckn ckcap] 38)
   have hih:=HI.out (f.ks.getD k default) _ a2 n2 cap2 zs _ ((hf.below hb2).mono hb2.size) (HS.out k hlt) HN2.out ((HZ.out.below hb2).mono hb2.size)
   have hst:=HST.out k hlt
   rw[←hou.out]at hst
   generalize vOf zs n (f.ks.getD k default)=p at hih hst
   obtain⟨v,y⟩:=p
   have HO:=Lib.hid hst
   clear hf hst hou
   go_wp2_with fail
   refine hih.mono ?_
   rintro e w1 ⟨rfl,hb1⟩
   have HB1:=Lib.hid (hb2.trans (hb1.mono hb2.size))
   clear g0 g1 g2 g3 hih hb1 hb2
   cases u<;>cases v<;>cases y
   all_goals
    go_wp2_with fail
    go_roundw
    case rel=>exact⟨k+1,_,_,by omega,by go_num,rfl,rfl,(HO.out.trans (by cases o<;>rfl)).symm,HB1.out⟩
    case measure=>simp[intOf];omega
  ·have hr:r=(o,u):=by
    obtain rfl:k=len:=by omega
    rw[←HR.out,hou.out]
   subst hr
   clear hou
   go_wp2_with fail
   refine bodyPost_ret (v:= .tuple #[.bool o,.bool u]) ?_ rfl ⟨rfl,hb⟩
   simp[results,Tryz.results47,go_sem]
end Lf
namespace Lf
open Go.RowKit
theorem value_any:∀(n:Nat) (f:FT) (cs:List Value) (a2:Option Addr) (n2 cap2:Nat) (zs:List Int) (w:World),FLies w.heap.size w n f cs→sndF n f=true→zs.length=n2→Nums w.heap.size w a2 zs→
 Calls Tryz.prog 47 #[.agg cs.toArray,.slice a2 n2 cap2] w (ValEnd w.heap.size (vOf zs n f) w)
 | 0,_,_,_,_,_,_,_,h,_,_,_=>h.elim
 | n+1,f,cs,a2,n2,cap2,zs,w,h,hs,hn2,hz=>by
   have IH:=value_any n
   rcases ownF_kind (sndF_split hs).1 with hk | hk | hk | hk | hk | hk
   ·exact value_0 n f cs a2 n2 cap2 zs w IH h hs hn2 hz hk
   ·exact value_1 n f cs a2 n2 cap2 zs w IH h hs hn2 hz hk
   ·exact value_2 n f cs a2 n2 cap2 zs w IH h hs hn2 hz hk
   ·exact value_3 n f cs a2 n2 cap2 zs w IH h hs hn2 hz hk
   ·exact value_4 n f cs a2 n2 cap2 zs w IH h hs hn2 hz hk
   ·exact value_5 n f cs a2 n2 cap2 zs w IH h hs hn2 hz hk
end Lf
namespace Lf
open Go.RowKit
theorem of_any (v:Int)(a:Option Addr)(n cap:Nat)(zs:List Int)(w:World)(hn:zs.length=n)(hm:n≤9223372036854775807)(hv:0≤v)(hz:Nums w.heap.size w a zs):
 Calls Tryz.prog 43 #[.slice a n cap,.int .i64 v] w fun e w'=>e= .returned (.int .i64 (valOf zs v))∧w=w':=by
 by_cases hlt:v<n
 ·obtain⟨i,rfl⟩:=Int.eq_ofNat_of_zero_le hv
  obtain⟨b,off,rfl,hb,hc⟩:=hz i (by omega)
  have hx2:valOf zs (i:Int)=zs.getD i 0:=by unfold valOf;rw[if_pos (by omega)];simp
  rw[hx2]
  generalize zs.getD i 0=x at hc⊢
  clear hz hn hx2
  go_enter Tryz.func43,Tryz.ntmps43
  go_wp2
  go_ret
  exact⟨rfl,rfl⟩
 ·have hx2:valOf zs v=0:=by unfold valOf;rw[if_neg (by omega)]
  rw[hx2]
  clear hz hn hx2
  go_enter Tryz.func43,Tryz.ntmps43
  go_wp2
  go_ret
  exact⟨rfl,rfl⟩
theorem sAt_eq (c:Int)(l:List (Int×Int))(zs:List Int)(k:Nat):sAt c l zs (k+1)=sAt c l zs k+valOf zs (l.getD k (0,0)).1*(l.getD k (0,0)).2:=by
 show sAt c l zs k+_*_=_
 rw[Int.mul_comm]
theorem rvalue_form (c:Int)(a:Option Addr)(n cap:Nat)(l:List (Int×Int))(a2:Option Addr)(n2 cap2:Nat)(w:World)(hn:l.length=n)(hm:n≤9223372036854775807)(hl:Lies w.heap.size w a l)(hs:snd c l=false):
 Calls Tryz.prog 20 #[.agg #[.int .i64 c,.slice a n cap],.slice a2 n2 cap2] w fun e w'=>e= .returned (.tuple #[.int .i64 0,.int .i64 5])∧Below w.heap.size w w':=by
 have hb0:Below w.heap.size w (w.alloc (.cells #[.int .i64 c,.slice a n cap] 25)):=(Below.refl _ w).alloc (Nat.le_refl _) _
 have hck:=rcheck_any c a n cap l _ hn hm ((hl.below hb0).mono hb0.size)
 rw[hs]at hck
 have HB:=Lib.hid hb0
 clear hn hs hl hb0
 go_enter Tryz.func20,Tryz.ntmps20
 go_wp2_with (go_at_call 33;refine hck.mono ?_;rintro e w1 ⟨rfl,hb1⟩)
 go_ret2
 exact⟨rfl,HB.out.trans (hb1.mono (by simp))⟩
theorem val_mul {x k:Int}(hx: -16777216≤x∧x≤16777216)(hk: -1073741824≤k∧k≤1073741824): -18014398509481984≤x*k∧x*k≤18014398509481984:=by
 have h1:(x*k).natAbs≤16777216*1073741824:=by
  rw[Int.natAbs_mul];exact Nat.mul_le_mul (by omega) (by omega)
 omega
theorem rvalue_any (c:Int)(a:Option Addr)(n cap:Nat)(l:List (Int×Int))(a2:Option Addr)(n2 cap2:Nat)(zs:List Int)(w:World)(hn:l.length=n)(hn2:zs.length=n2)(hm2:n2≤9223372036854775807)(hl:Lies w.heap.size w a l)(hz:Nums w.heap.size w a2 zs)(hs:snd c l=true)
 (v r:Int) (hr:(v=sAt c l zs n∧r=0∧∀i,i<n→near l zs i=true)∨(v=0∧r=1∧¬ ∀i,i<n→near l zs i=true)):
 Calls Tryz.prog 20 #[.agg #[.int .i64 c,.slice a n cap],.slice a2 n2 cap2] w fun e w'=>e= .returned (.tuple #[.int .i64 v,.int .i64 r])∧Below w.heap.size w w':=by
 obtain⟨hwc,h64,hall⟩:=snd_iff.1 hs
 have hcb: -1073741824≤c∧c≤1073741824:=by unfold wi at hwc;simpa using hwc
 have hb0:Below w.heap.size w (w.alloc (.cells #[.int .i64 c,.slice a n cap] 25)):=(Below.refl _ w).alloc (Nat.le_refl _) _
 have hck:=rcheck_any c a n cap l _ hn (by omega) ((hl.below hb0).mono hb0.size)
 rw[hs]at hck
 have hn64:n≤64:=by omega
 have HB:=Lib.hid hb0
 have HN:=Lib.hid hn
 have HN2:=Lib.hid hn2
 have HL:=Lib.hid hl
 have HZ:=Lib.hid hz
 have HR:=Lib.hid hr
 have HK:=Lib.hid (fun j (hj:j<n)=>okAt_in (hall j (by omega)))
 have HSI:=Lib.hid (fun k (hk:k≤n) hx=>sAt_in c l zs hcb k (by omega) (fun j hj=>(okAt_in (hall j (by omega))).2.2.2.2) hx)
 clear hn hn2 hl hz hr hall hwc hb0 hs h64 hcb
 go_enter Tryz.func20,Tryz.ntmps20
 go_wp2_with (go_at_call 33;refine hck.mono ?_;rintro e w1 ⟨rfl,hb1⟩;obtain⟨hc1,hf1⟩:=bcell hb1;have hz1:w.heap.size<w1.heap.size:=(by have:=hb1.size;simp at this;omega))
 have B1:=Lib.hid (HB.out.trans (hb1.mono (by simp)))
 have a0:w1.cell? ⟨w.heap.size,1,none⟩=some (.slice a n cap):=by rw[hc1 _ _ (by simp)];simp
 clear hc1 hf1 hb1 hck
 go_loop [7,8,9] (fun s i _=>∃k:Nat,k≤n∧i= .int .i64 k∧s= .int .i64 (sAt c l zs k)∧Hid (∀j,j<k→near l zs j=true)) (fun _ i _=>n - (intOf i).toNat)
 case atStart=>exact⟨0,Nat.zero_le _,rfl,rfl,fun j hj=>absurd hj (Nat.not_lt_zero j)⟩
 case round=>
  obtain⟨k,hk,rfl,rfl,hok⟩:=hrel
  by_cases hlt:k<n
  ·obtain⟨b,off,rfl,hblt,c1,c2⟩:=(HL.out.below B1.out) k (by rw[HN.out];exact hlt)
   have hkk:=HK.out k hlt
   have hof:=of_any (l.getD k (0,0)).1 a2 n2 cap2 zs w1 HN2.out hm2 hkk.2.2.1 ((HZ.out.below B1.out).mono B1.out.size)
   have hss:=HSI.out k hk (fun j hj=>hok.out j hj)
   have hst:=sAt_eq c l zs k
   by_cases hx:near l zs k=true
   ·have hok2:Hid (∀j,j<k+1→near l zs j=true):=fun j hj=>by
     by_cases ej:j=k
     ·rw[ej];exact hx
     ·exact hok.out j (by omega)
    have hxb: -16777216≤valOf zs (l.getD k (0,0)).1∧valOf zs (l.getD k (0,0)).1≤16777216:=by unfold near wi at hx;simpa using hx
    have hm:=val_mul hxb hkk.2.2.2.2
    have HST:=Lib.hid hst
    clear hst hx hkk
    generalize hX:valOf zs (l.getD k (0,0)).1=X at hof hxb hm HST
    generalize (l.getD k (0,0)).1=v at c1 hof
    generalize (l.getD k (0,0)).2=u at c2 hm HST
    generalize hS:sAt c l zs k=S at hss HST
    clear hX hS
    go_wp2_with (go_at_call 43;refine hof.mono ?_;rintro e w' ⟨rfl,rfl⟩)
    go_round
    case rel=>exact⟨k+1,by omega,by go_num,by rw[HST.out],hok2⟩
    case measure=>simp[intOf];omega
   ·have HF:Hid (v=0∧r=1):=by
     rcases HR.out with ⟨_,_,h3⟩ | ⟨h1,h2,_⟩
     ·exact absurd (h3 k hlt) hx
     ·exact⟨h1,h2⟩
    have hxb:¬(-16777216≤valOf zs (l.getD k (0,0)).1∧valOf zs (l.getD k (0,0)).1≤16777216):=fun h=>hx (by unfold near;exact wi_t h)
    clear hst hx hkk
    generalize hX:valOf zs (l.getD k (0,0)).1=X at hof hxb
    generalize (l.getD k (0,0)).1=v at c1 hof
    clear hX
    obtain⟨rfl,rfl⟩:=HF.out
    by_cases hlo:X< -16777216
    ·go_wp2_with (go_at_call 43;refine hof.mono ?_;rintro e w' ⟨rfl,rfl⟩)
     go_ret2
     exact⟨rfl,B1.out⟩
    ·have hhi:16777216<X:=by omega
     go_wp2_with (go_at_call 43;refine hof.mono ?_;rintro e w' ⟨rfl,rfl⟩)
     go_ret2
     exact⟨rfl,B1.out⟩
  ·have hkn:n=k:=by omega
   have HF:Hid (v=sAt c l zs k∧r=0):=by
    rcases HR.out with ⟨h1,h2,_⟩ | ⟨_,_,h3⟩
    ·rw[hkn]at h1;exact⟨h1,h2⟩
    ·exact absurd (fun i hi=>hok.out i (by omega)) h3
   clear hkn HR
   obtain⟨rfl,rfl⟩:=HF.out
   clear HF
   go_wp2
   go_ret2
   exact⟨rfl,B1.out⟩
end Lf
end Go.Proofs.YtjbkhdbjdahbiaaGreatDoor
