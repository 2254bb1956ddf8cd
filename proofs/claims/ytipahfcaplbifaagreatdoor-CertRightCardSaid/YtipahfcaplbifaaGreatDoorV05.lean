/- Parts of a proof. -/
import Derived.Test.YtipahfcaplbifaaGreatDoorV01
import Derived.Test.YtipahfcaplbifaaGreatDoorQ31
import Derived.Test.YtipahfcaplbifaaGreatDoorQ09
import Derived.Test.YtipahfcaplbifaaGreatDoorQ23
import Derived.Test.YtipahfcaplbifaaGreatDoorQ22
import Derived.Test.YtipahfcaplbifaaGreatDoorQ21
import Derived.Test.YtipahfcaplbifaaGreatDoorQ34
set_option linter.unusedVariables false
set_option linter.unusedSimpArgs false
set_option maxHeartbeats 60000000
set_option maxRecDepth 100000
namespace Go.Proofs.YtipahfcaplbifaaGreatDoor
section
open Go.RowKit
def nrmT (n:Nat)(f:FT):FT:=if cc n f=0 then(normF n f true).getD (.mk 0 0 [] []) else .mk 0 0 [] []
def nrmK (n:Nat)(f:FT):Int:=if cc n f=0 then(if(normF n f true).isSome=true then 0 else 3) else cc n f
theorem cc_sound {n:Nat}{f:FT}(h:cc n f=0):dep n f≤64∧siz n f≤4096∧sndF n f=true:=by
 unfold cc ccV at h
 split at h
 ·omega
 ·split at h
  ·omega
  ·split at h
   ·exact⟨by omega,by omega,by assumption⟩
   ·omega
theorem nnorm_bad (k c K:Int)(a ka:Option Addr)(n cap kn kcap:Nat)(w:World)
 (HC:∀W,Below w.heap.size w W→Calls Tryz.prog 40 #[.agg #[.int .i64 k,.int .i64 c,.slice a n cap,.slice ka kn kcap]] W fun e w'=>e= .returned (.iface 60 (.int .i64 K))∧Below W.heap.size W w'):
 Calls Tryz.prog 30 #[.agg #[.int .i64 k,.int .i64 c,.slice a n cap,.slice ka kn kcap]] w (Ans w.heap.size 2 (.mk 0 0 [] []) (.iface 60 (.int .i64 K)) w):=by
 have HCH:=Lib.hid HC
 clear HC
 have n3:=fun W=>Tryz.neCode K W
 have SZ:Hid (w.heap.size+2=((w.alloc (.cells #[.int .i64 k,.int .i64 c,.slice a n cap,.slice ka kn kcap] 39)).alloc (.cells #[.int .i64 0,.int .i64 0,.slice none 0 0,.slice none 0 0] 39)).heap.size):=by show _=_;simp
 have ST:=Lib.hid (args_start w k c a ka n cap kn kcap)
 obtain⟨-,p0,p1,p2,p3, -⟩:=ST.out.1
 generalize hW:(w.alloc (.cells #[.int .i64 k,.int .i64 c,.slice a n cap,.slice ka kn kcap] 39)).alloc (.cells #[.int .i64 0,.int .i64 0,.slice none 0 0,.slice none 0 0] 39)=W0 at ST SZ p0 p1 p2 p3
 go_enter Tryz.func30,Tryz.ntmps30
 go_wp2_with fail
 clear hW
 refine(HCH.out _ ST.out.1.bel).mono ?_
 rintro e w3 ⟨rfl,hb3⟩
 have hz3:=hb3.size
 have hz:=SZ.out
 have B3:=Lib.hid (ST.out.1.bel.trans (hb3.mono (by omega)))
 have F3:=Lib.hid (ST.out.2.below hb3 (by omega))
 have X3:=Lib.hid (ST.out.1.below hb3 (by omega))
 have Z3:w.heap.size+2≤w3.heap.size:=by omega
 clear hb3 hz3 hz p0 p1 p2 p3
 have RT:=Lib.hid (ret_set (m:=2) (f:= .mk 0 0 [] []) (S:=fun _=>False) F3.out B3.out flies_flat (fun b h=>h.elim))
 obtain⟨r0,r1,r2,r3,rf⟩:=F3.out
 go_wp2_with fail
 clear r0 r1 r2 r3 rf
 refine bodyPost_ret (v:= .tuple #[.agg #[.int .i64 0,.int .i64 0,.slice none 0 0,.slice none 0 0],.iface 60 (.int .i64 K)]) ?_ rfl ⟨_,rfl,RT.out.lies,RT.out.bel⟩
 obtain⟨_,_,e0,e1,e2,e3⟩:=RT.out
 simp[results,Tryz.results30,go_sem,e0,e1,e2,e3]
theorem nnorm_ok (k c:Int)(a ka:Option Addr)(n cap kn kcap:Nat)(m:Nat)(g:FT)(X:Value)(w:World)
 (HC:∀W,Below w.heap.size w W→Calls Tryz.prog 40 #[.agg #[.int .i64 k,.int .i64 c,.slice a n cap,.slice ka kn kcap]] W fun e w'=>e= .returned .nilIface∧Below W.heap.size W w')
 (HN:∀W,Below w.heap.size w W→Calls Tryz.prog 51 #[.agg #[.int .i64 k,.int .i64 c,.slice a n cap,.slice ka kn kcap],.bool true] W (Ans W.heap.size m g X W)):
 Calls Tryz.prog 30 #[.agg #[.int .i64 k,.int .i64 c,.slice a n cap,.slice ka kn kcap]] w (Ans w.heap.size m g X w):=by
 have HCH:=Lib.hid HC
 have HNH:=Lib.hid HN
 clear HC HN
 have n0:=fun W=>Tryz.neNil W
 have SZ:Hid (w.heap.size+2=((w.alloc (.cells #[.int .i64 k,.int .i64 c,.slice a n cap,.slice ka kn kcap] 39)).alloc (.cells #[.int .i64 0,.int .i64 0,.slice none 0 0,.slice none 0 0] 39)).heap.size):=by show _=_;simp
 have ST:=Lib.hid (args_start w k c a ka n cap kn kcap)
 obtain⟨-,p0,p1,p2,p3, -⟩:=ST.out.1
 generalize hW:(w.alloc (.cells #[.int .i64 k,.int .i64 c,.slice a n cap,.slice ka kn kcap] 39)).alloc (.cells #[.int .i64 0,.int .i64 0,.slice none 0 0,.slice none 0 0] 39)=W0 at ST SZ p0 p1 p2 p3
 go_enter Tryz.func30,Tryz.ntmps30
 go_wp2_with fail
 clear hW
 refine(HCH.out _ ST.out.1.bel).mono ?_
 rintro e w3 ⟨rfl,hb3⟩
 have hz3:=hb3.size
 have hz:=SZ.out
 have B3:=Lib.hid (ST.out.1.bel.trans (hb3.mono (by omega)))
 have F3:=Lib.hid (ST.out.2.below hb3 (by omega))
 have X3:=Lib.hid (ST.out.1.below hb3 (by omega))
 have Z3:w.heap.size+2≤w3.heap.size:=by omega
 clear hb3 hz3 hz p0 p1 p2 p3
 obtain⟨-,q0,q1,q2,q3, -⟩:=X3.out
 go_wp2_with fail
 clear q0 q1 q2 q3
 refine(HNH.out _ B3.out).mono ?_
 rintro e w5 ⟨cs5,rfl,hf5,hb5⟩
 have HF5:=Lib.hid hf5
 obtain⟨dk,dc,ua,un,ucap,va,vn,vcap,rfl⟩:=hf5.form
 have hz5:=hb5.size
 have F5:=Lib.hid (F3.out.below hb5 (by omega))
 have RT:=Lib.hid (ret_set F5.out (B3.out.trans (hb5.mono (by omega))) HF5.out (fun b ⟨h1,h2⟩=>⟨by omega,by omega,h2⟩))
 clear hf5 hb5
 obtain⟨r0,r1,r2,r3,rf⟩:=F5.out
 go_wp2_with fail
 clear r0 r1 r2 r3 rf
 refine bodyPost_ret (v:= .tuple #[.agg #[.int .i64 dk,.int .i64 dc,.slice ua un ucap,.slice va vn vcap],X]) ?_ rfl ⟨_,rfl,RT.out.lies,RT.out.bel⟩
 obtain⟨_,_,e0,e1,e2,e3⟩:=RT.out
 simp[results,Tryz.results30,go_sem,e0,e1,e2,e3]
theorem rnorm_bad (k c K:Int)(hK:K≠0)(a ka:Option Addr)(n cap kn kcap:Nat)(w:World)
 (HC:∀W,Below w.heap.size w W→Calls Tryz.prog 60 #[.agg #[.int .i64 k,.int .i64 c,.slice a n cap,.slice ka kn kcap]] W fun e w'=>e= .returned (.int .i64 K)∧Below W.heap.size W w'):
 Calls Tryz.prog 36 #[.agg #[.int .i64 k,.int .i64 c,.slice a n cap,.slice ka kn kcap]] w (Ans w.heap.size 2 (.mk 0 0 [] []) (.int .i64 K) w):=by
 have HCH:=Lib.hid HC
 clear HC
 have SZ:Hid (w.heap.size+2=((w.alloc (.cells #[.int .i64 k,.int .i64 c,.slice a n cap,.slice ka kn kcap] 39)).alloc (.cells #[.int .i64 0,.int .i64 0,.slice none 0 0,.slice none 0 0] 39)).heap.size):=by show _=_;simp
 have ST:=Lib.hid (args_start w k c a ka n cap kn kcap)
 obtain⟨-,p0,p1,p2,p3, -⟩:=ST.out.1
 generalize hW:(w.alloc (.cells #[.int .i64 k,.int .i64 c,.slice a n cap,.slice ka kn kcap] 39)).alloc (.cells #[.int .i64 0,.int .i64 0,.slice none 0 0,.slice none 0 0] 39)=W0 at ST SZ p0 p1 p2 p3
 go_enter Tryz.func36,Tryz.ntmps36
 go_wp2_with fail
 clear hW
 refine(HCH.out _ ST.out.1.bel).mono ?_
 rintro e w3 ⟨rfl,hb3⟩
 have hz3:=hb3.size
 have hz:=SZ.out
 have B3:=Lib.hid (ST.out.1.bel.trans (hb3.mono (by omega)))
 have F3:=Lib.hid (ST.out.2.below hb3 (by omega))
 have X3:=Lib.hid (ST.out.1.below hb3 (by omega))
 have Z3:w.heap.size+2≤w3.heap.size:=by omega
 clear hb3 hz3 hz p0 p1 p2 p3
 have RT:=Lib.hid (ret_set (m:=2) (f:= .mk 0 0 [] []) (S:=fun _=>False) F3.out B3.out flies_flat (fun b h=>h.elim))
 obtain⟨r0,r1,r2,r3,rf⟩:=F3.out
 go_wp2_with fail
 clear r0 r1 r2 r3 rf
 refine bodyPost_ret (v:= .tuple #[.agg #[.int .i64 0,.int .i64 0,.slice none 0 0,.slice none 0 0],.int .i64 K]) ?_ rfl ⟨_,rfl,RT.out.lies,RT.out.bel⟩
 obtain⟨_,_,e0,e1,e2,e3⟩:=RT.out
 simp[results,Tryz.results36,go_sem,e0,e1,e2,e3]
theorem rnorm_true (k c:Int)(a ka:Option Addr)(n cap kn kcap:Nat)(m:Nat)(g:FT)(w:World)
 (HC:∀W,Below w.heap.size w W→Calls Tryz.prog 60 #[.agg #[.int .i64 k,.int .i64 c,.slice a n cap,.slice ka kn kcap]] W fun e w'=>e= .returned (.int .i64 0)∧Below W.heap.size W w')
 (HN:∀W,Below w.heap.size w W→Calls Tryz.prog 61 #[.agg #[.int .i64 k,.int .i64 c,.slice a n cap,.slice ka kn kcap],.bool false] W (Ans W.heap.size m g (.bool true) W)):
 Calls Tryz.prog 36 #[.agg #[.int .i64 k,.int .i64 c,.slice a n cap,.slice ka kn kcap]] w (Ans w.heap.size m g (.int .i64 0) w):=by
 have HCH:=Lib.hid HC
 have HNH:=Lib.hid HN
 clear HC HN
 have SZ:Hid (w.heap.size+2=((w.alloc (.cells #[.int .i64 k,.int .i64 c,.slice a n cap,.slice ka kn kcap] 39)).alloc (.cells #[.int .i64 0,.int .i64 0,.slice none 0 0,.slice none 0 0] 39)).heap.size):=by show _=_;simp
 have ST:=Lib.hid (args_start w k c a ka n cap kn kcap)
 obtain⟨-,p0,p1,p2,p3, -⟩:=ST.out.1
 generalize hW:(w.alloc (.cells #[.int .i64 k,.int .i64 c,.slice a n cap,.slice ka kn kcap] 39)).alloc (.cells #[.int .i64 0,.int .i64 0,.slice none 0 0,.slice none 0 0] 39)=W0 at ST SZ p0 p1 p2 p3
 go_enter Tryz.func36,Tryz.ntmps36
 go_wp2_with fail
 clear hW
 refine(HCH.out _ ST.out.1.bel).mono ?_
 rintro e w3 ⟨rfl,hb3⟩
 have hz3:=hb3.size
 have hz:=SZ.out
 have B3:=Lib.hid (ST.out.1.bel.trans (hb3.mono (by omega)))
 have F3:=Lib.hid (ST.out.2.below hb3 (by omega))
 have X3:=Lib.hid (ST.out.1.below hb3 (by omega))
 have Z3:w.heap.size+2≤w3.heap.size:=by omega
 clear hb3 hz3 hz p0 p1 p2 p3
 obtain⟨-,q0,q1,q2,q3, -⟩:=X3.out
 go_wp2_with fail
 clear q0 q1 q2 q3
 refine(HNH.out _ B3.out).mono ?_
 rintro e w5 ⟨cs5,rfl,hf5,hb5⟩
 have HF5:=Lib.hid hf5
 obtain⟨dk,dc,ua,un,ucap,va,vn,vcap,rfl⟩:=hf5.form
 have hz5:=hb5.size
 have hba6:Below w5.heap.size w5 (w5.alloc (.cells #[.int .i64 dk,.int .i64 dc,.slice ua un ucap,.slice va vn vcap] 39)):=(Below.refl _ _).alloc (Nat.le_refl _) _
 have hz6:=hba6.size
 have hb6:Below w3.heap.size w3 (w5.alloc (.cells #[.int .i64 dk,.int .i64 dc,.slice ua un ucap,.slice va vn vcap] 39)):=hb5.trans (hba6.mono hz5)
 have F6:=Lib.hid (F3.out.below hb6 (by omega))
 have RT:=Lib.hid (ret_set F6.out (B3.out.trans (hb6.mono (by omega))) (HF5.out.keep (S':=fun b=>w3.heap.size≤b∧b<w5.heap.size) (fun _ h=>h) (fun b o ⟨h1,h2⟩=>hba6.cell (p:=⟨b,o,none⟩) h2)) (fun b ⟨h1,h2⟩=>⟨by omega,by omega,by omega⟩))
 obtain⟨t0,t1,t2,t3⟩:=form_cells (heap_alloc_new w5 (.cells #[.int .i64 dk,.int .i64 dc,.slice ua un ucap,.slice va vn vcap] 39))
 clear hf5 hb5 hba6 hb6 hz5 hz6
 obtain⟨r0,r1,r2,r3,rf⟩:=F6.out
 go_wp2_with fail
 clear r0 r1 r2 r3 rf t0 t1 t2 t3
 refine bodyPost_ret (v:= .tuple #[.agg #[.int .i64 dk,.int .i64 dc,.slice ua un ucap,.slice va vn vcap],.int .i64 0]) ?_ rfl ⟨_,rfl,RT.out.lies,RT.out.bel⟩
 obtain⟨_,_,e0,e1,e2,e3⟩:=RT.out
 simp[results,Tryz.results36,go_sem,e0,e1,e2,e3]
theorem rnorm_false (k c:Int)(a ka:Option Addr)(n cap kn kcap:Nat)(m:Nat)(g:FT)(w:World)
 (HC:∀W,Below w.heap.size w W→Calls Tryz.prog 60 #[.agg #[.int .i64 k,.int .i64 c,.slice a n cap,.slice ka kn kcap]] W fun e w'=>e= .returned (.int .i64 0)∧Below W.heap.size W w')
 (HN:∀W,Below w.heap.size w W→Calls Tryz.prog 61 #[.agg #[.int .i64 k,.int .i64 c,.slice a n cap,.slice ka kn kcap],.bool false] W (Ans W.heap.size m g (.bool false) W)):
 Calls Tryz.prog 36 #[.agg #[.int .i64 k,.int .i64 c,.slice a n cap,.slice ka kn kcap]] w (Ans w.heap.size 2 (.mk 0 0 [] []) (.int .i64 3) w):=by
 have HCH:=Lib.hid HC
 have HNH:=Lib.hid HN
 clear HC HN
 have SZ:Hid (w.heap.size+2=((w.alloc (.cells #[.int .i64 k,.int .i64 c,.slice a n cap,.slice ka kn kcap] 39)).alloc (.cells #[.int .i64 0,.int .i64 0,.slice none 0 0,.slice none 0 0] 39)).heap.size):=by show _=_;simp
 have ST:=Lib.hid (args_start w k c a ka n cap kn kcap)
 obtain⟨-,p0,p1,p2,p3, -⟩:=ST.out.1
 generalize hW:(w.alloc (.cells #[.int .i64 k,.int .i64 c,.slice a n cap,.slice ka kn kcap] 39)).alloc (.cells #[.int .i64 0,.int .i64 0,.slice none 0 0,.slice none 0 0] 39)=W0 at ST SZ p0 p1 p2 p3
 go_enter Tryz.func36,Tryz.ntmps36
 go_wp2_with fail
 clear hW
 refine(HCH.out _ ST.out.1.bel).mono ?_
 rintro e w3 ⟨rfl,hb3⟩
 have hz3:=hb3.size
 have hz:=SZ.out
 have B3:=Lib.hid (ST.out.1.bel.trans (hb3.mono (by omega)))
 have F3:=Lib.hid (ST.out.2.below hb3 (by omega))
 have X3:=Lib.hid (ST.out.1.below hb3 (by omega))
 have Z3:w.heap.size+2≤w3.heap.size:=by omega
 clear hb3 hz3 hz p0 p1 p2 p3
 obtain⟨-,q0,q1,q2,q3, -⟩:=X3.out
 go_wp2_with fail
 clear q0 q1 q2 q3
 refine(HNH.out _ B3.out).mono ?_
 rintro e w5 ⟨cs5,rfl,hf5,hb5⟩
 have HF5:=Lib.hid hf5
 obtain⟨dk,dc,ua,un,ucap,va,vn,vcap,rfl⟩:=hf5.form
 have hz5:=hb5.size
 have hba6:Below w5.heap.size w5 (w5.alloc (.cells #[.int .i64 dk,.int .i64 dc,.slice ua un ucap,.slice va vn vcap] 39)):=(Below.refl _ _).alloc (Nat.le_refl _) _
 have hz6:=hba6.size
 have hb6:Below w3.heap.size w3 (w5.alloc (.cells #[.int .i64 dk,.int .i64 dc,.slice ua un ucap,.slice va vn vcap] 39)):=hb5.trans (hba6.mono hz5)
 have F6:=Lib.hid (F3.out.below hb6 (by omega))
 have RT:=Lib.hid (ret_set (m:=2) (f:= .mk 0 0 [] []) (S:=fun _=>False) F6.out (B3.out.trans (hb6.mono (by omega))) flies_flat (fun b h=>h.elim))
 obtain⟨t0,t1,t2,t3⟩:=form_cells (heap_alloc_new w5 (.cells #[.int .i64 dk,.int .i64 dc,.slice ua un ucap,.slice va vn vcap] 39))
 clear hf5 hb5 hba6 hb6 hz5 hz6
 obtain⟨r0,r1,r2,r3,rf⟩:=F6.out
 go_wp2_with fail
 clear r0 r1 r2 r3 rf t0 t1 t2 t3
 refine bodyPost_ret (v:= .tuple #[.agg #[.int .i64 0,.int .i64 0,.slice none 0 0,.slice none 0 0],.int .i64 3]) ?_ rfl ⟨_,rfl,RT.out.lies,RT.out.bel⟩
 obtain⟨_,_,e0,e1,e2,e3⟩:=RT.out
 simp[results,Tryz.results36,go_sem,e0,e1,e2,e3]
theorem norm_both (n:Nat)(f:FT)(cs:List Value)(w:World)(hlit:litF n f)(h:FLies w.heap.size w n f cs):
 Calls Tryz.prog 30 #[.agg cs.toArray] w (Ans w.heap.size (n+2) (nrmT n f) (codeV (nrmK n f)) w)∧
 Calls Tryz.prog 36 #[.agg cs.toArray] w (Ans w.heap.size (n+2) (nrmT n f) (.int .i64 (nrmK n f)) w):=by
 have FL:=fun W (hb:Below w.heap.size w W)=>(h.below hb).mono hb.size
 have C1:=fun W (hb:Below w.heap.size w W)=>fcheck_any n f _ W (FL W hb)
 have C2:=fun W (hb:Below w.heap.size w W)=>rfcheck_any n f _ W (FL W hb)
 have hform:∃(k c:Int) (a:Option Addr) (m cap:Nat) (ka:Option Addr) (kn kcap:Nat),cs=[.int .i64 k,.int .i64 c,.slice a m cap,.slice ka kn kcap]:=by
  cases n with
  | zero=>exact h.elim
  | succ n=>
    obtain⟨ta,tcap,ka,kcap,rfl,_⟩:=h
    exact⟨_,_,_,_,_,_,_,_,rfl⟩
 obtain⟨k,c,a,m,cap,ka,kn,kcap,rfl⟩:=hform
 unfold nrmT nrmK
 by_cases h0:cc n f=0
 ·obtain⟨_,_,hs⟩:=cc_sound h0
  rw[if_pos h0,if_pos h0]
  rw[h0]at C1 C2
  have N1:=fun W (hb:Below w.heap.size w W)=>nrm_any n f true _ W hs hlit (FL W hb)
  have N2:=fun W (hb:Below w.heap.size w W)=>rnrm_any n f false _ W hs hlit (FL W hb)
  rw[show(!false)=true from rfl]at N2
  cases ho:normF n f true with
  | none=>
    rw[ho]at N1 N2
    exact⟨nnorm_ok k c a ka m cap kn kcap (n+2) _ _ w C1 N1,(rnorm_false k c a ka m cap kn kcap (n+2) _ w C2 N2).mono fun _ _ h=>h.up (by omega)⟩
  | some g=>
    rw[ho]at N1 N2
    exact⟨nnorm_ok k c a ka m cap kn kcap (n+2) _ _ w C1 N1,rnorm_true k c a ka m cap kn kcap (n+2) _ w C2 N2⟩
 ·rw[if_neg h0,if_neg h0]
  have e:codeV (cc n f)= .iface 60 (.int .i64 (cc n f)):=by unfold codeV;rw[if_neg h0]
  rw[e]at C1⊢
  exact⟨(nnorm_bad k c _ a ka m cap kn kcap w C1).mono fun _ _ h=>h.up (by omega),(rnorm_bad k c _ h0 a ka m cap kn kcap w C2).mono fun _ _ h=>h.up (by omega)⟩
end
section
open Go.RowKit
theorem sAt_eq (c:Int)(l:List (Int×Int))(zs:List Int)(k:Nat):sAt c l zs (k+1)=sAt c l zs k+valOf zs (l.getD k (0,0)).1*(l.getD k (0,0)).2:=by
 show sAt c l zs k+_*_=_
 rw[Int.mul_comm]
end
section
open Go.RowKit
theorem gAt_red {l:List (Int×Int)}{g:Int}(hg:1≤g):∀i,i≤l.length→(∀j,j<i→g∣(l.getD j (0,0)).2)→gAt (redL g l) i*g=gAt l i
 | 0,_,_=>by unfold gAt;omega
 | i+1,hi,hd=>by
   have ih:=gAt_red hg i (by omega) (fun j hj=>hd j (by omega))
   obtain⟨q,hq⟩:=hd i (by omega)
   show((Nat.gcd (gAt (redL g l) i).natAbs ((redL g l).getD i (0,0)).2.natAbs:Nat):Int)*g=((Nat.gcd (gAt l i).natAbs (l.getD i (0,0)).2.natAbs:Nat):Int)
   rw[redL_get g l i (by omega),←ih,hq,Int.mul_tdiv_cancel_left q (by omega),Int.natAbs_mul,Int.natAbs_mul,Nat.mul_comm g.natAbs q.natAbs,Nat.gcd_mul_right]
   have:(g.natAbs:Int)=g:=by omega
   rw[Int.natCast_mul,this]
theorem gAt_scale (l:List (Int×Int)):∀i,i≤l.length→gAt (scale (-1) l) i=gAt l i
 | 0,_=>rfl
 | i+1,hi=>by
   show((Nat.gcd (gAt (scale (-1) l) i).natAbs ((scale (-1) l).getD i (0,0)).2.natAbs:Nat):Int)=_
   rw[gAt_scale l i (by omega),scale_get (-1) l i (by omega)]
   show((Nat.gcd (gAt l i).natAbs (-1*(l.getD i (0,0)).2).natAbs:Nat):Int)=_
   rw[Int.natAbs_mul]
   simp[gAt]
theorem gAt_one {c:Int}{l:List (Int×Int)}(hs:snd c l=true)(h0:0<l.length):1≤gAt l l.length:=by
 have h:=gAt_in l l.length (fun j hj=>by have:=okAt_in ((snd_iff.1 hs).2.2 j hj);omega)
 have hd:=gAt_dvd l l.length 0 h0
 have h1:=okAt_in ((snd_iff.1 hs).2.2 0 h0)
 by_cases e:gAt l l.length=0
 ·rw[e]at hd
  have:=Int.zero_dvd.1 hd
  omega
 ·omega
inductive Can:FT→Prop where
 | yes:Can (.mk 0 0 [] [])
 | no:Can (.mk 1 0 [] [])
 | le {c:Int} {t:List (Int×Int)} (h:canF c t=true):Can (.mk 2 c t [])
 | not {c:Int} {t:List (Int×Int)} (h:canF c t=true):Can (.mk 4 0 [] [.mk 2 c t []])
theorem canF_iff {c:Int}{l:List (Int×Int)}:canF c l=true↔snd c l=true∧gAt l l.length=1∧0<(l.getD 0 (0,0)).2:=by
 unfold canF
 rw[Bool.and_eq_true,Bool.and_eq_true,decide_eq_true_eq,decide_eq_true_eq]
theorem red_can {c:Int}{l:List (Int×Int)}(hs:snd c l=true)(h0:0<l.length):snd (upI c (gAt l l.length)) (redL (gAt l l.length) l)=true∧gAt (redL (gAt l l.length) l) (redL (gAt l l.length) l).length=1:=by
 have hg:=gAt_one hs h0
 refine⟨red_snd hs h0, ?_⟩
 rw[redL_len]
 have:=gAt_red hg l.length (Nat.le_refl _) (fun j hj=>gAt_dvd l l.length j hj)
 generalize gAt (redL (gAt l l.length) l) l.length=q at this⊢
 generalize gAt l l.length=g at this hg
 have h2:(q - 1)*g=0:=by rw[Int.sub_mul,this];omega
 rcases Int.mul_eq_zero.1 h2 with h | h<;>omega
theorem litT_can {c:Int}{l:List (Int×Int)}(hk:litK c l=0):Can (litT c l):=by
 have hs:snd c l=true:=by
  by_cases hs:snd c l=true
  ·exact hs
  ·unfold litK at hk
   rw[if_neg hs]at hk
   cases hk
 unfold litT
 unfold litK at hk
 rw[if_pos hs]at hk⊢
 by_cases h0:l.length=0
 ·rw[if_pos h0]
  split
  ·exact .yes
  ·exact .no
 ·rw[if_neg h0]at hk⊢
  have h0':0<l.length:=by omega
  obtain⟨r1,r2⟩:=red_can hs h0'
  have hg:=gAt_one hs h0'
  have hd:=gAt_dvd l l.length 0 h0'
  have hk0:=okAt_in ((snd_iff.1 hs).2.2 0 h0')
  have hne:=tdiv_ne hk0.2.1 hg hd
  by_cases hp:0<(l.getD 0 (0,0)).2.tdiv (gAt l l.length)
  ·rw[if_pos hp]
   refine .le (canF_iff.2 ⟨r1,r2, ?_⟩)
   rw[redL_get _ l 0 h0']
   exact hp
  ·rw[if_neg hp]at hk⊢
   by_cases hw:wi (1 - upI c (gAt l l.length)) 1073741824=true
   ·rw[if_pos hw]
    have hn:=snd_neg r1
    obtain⟨_,h64,hall⟩:=snd_iff.1 hn
    refine .not (canF_iff.2 ⟨snd_iff.2 ⟨hw,h64,hall⟩, ?_, ?_⟩)
    ·rw[scale_len,gAt_scale _ _ (Nat.le_refl _)];exact r2
    ·rw[scale_get _ _ 0 (by rw[redL_len];exact h0'),redL_get _ l 0 h0']
     show 0< -1*(l.getD 0 (0,0)).2.tdiv (gAt l l.length)
     omega
   ·rw[if_neg hw]at hk
    cases hk
theorem oppF_can {f:FT}(h:Can f):Can (oppF f):=by
 cases h with
 | yes=>exact .no
 | no=>exact .yes
 | le h=>exact .not h
 | not h=>exact .le h
theorem all_some {n:Nat}{f:FT}{so:Bool}{g:FT}(h:(if(f.ks.all fun k=>(normF n k so).isSome)=true then some (kidsT n f so) else none)=some g):
 g=kidsT n f so∧∀i,i<f.ks.length→∃k,normF n (f.ks.getD i default) so=some k∧g.ks.getD i default=k:=by
 split at h
 ·rename_i ha
  injection h with h
  subst h
  refine⟨rfl,fun i hi=> ?_⟩
  rw[List.all_eq_true]at ha
  have:=ha _ (List.getElem_mem hi)
  have e:f.ks.getD i default=f.ks[i]:=by simp[List.getD_eq_getElem?_getD,hi]
  cases hn:normF n f.ks[i] so with
  | none=>rw[hn]at this;cases this
  | some k=>exact⟨k,by rw[e];exact hn,kidsT_get hi (by rw[e];exact hn)⟩
 ·cases h
end
section
open Go.RowKit
theorem normF_ways {n:Nat}{f:FT}{so:Bool}{g:FT}(hs:sndF (n+1) f=true)(h:normF (n+1) f so=some g):
 (Can g∧((f.kind=0∧g=if so then .mk 0 0 [] [] else .mk 1 0 [] [])∨(f.kind=1∧g=if so then .mk 1 0 [] [] else .mk 0 0 [] [])∨(f.kind=2∧snd f.c f.t=true∧litK f.c f.t=0∧g=if so then litT f.c f.t else oppF (litT f.c f.t))))∨
 (f.kind=3∧snd f.c f.t=true∧litK f.c f.t=0∧litK (-f.c) (scale (-1) f.t)=0∧g= .mk (if so=true then 5 else 11 - 5) 0 [] [if so then litT f.c f.t else oppF (litT f.c f.t),if so then litT (-f.c) (scale (-1) f.t) else oppF (litT (-f.c) (scale (-1) f.t))])∨
 (f.kind=4∧f.ks.length=1∧normF n (f.ks.getD 0 default) (!so)=some g)∨
 ((f.kind=5∨f.kind=6)∧g=kidsT n f so∧∀i,i<f.ks.length→∃k,normF n (f.ks.getD i default) so=some k∧g.ks.getD i default=k):=by
 obtain⟨hown,hks⟩:=snd_own hs
 rcases own_kinds hown with ⟨hk01,_,_,_⟩ | ⟨hk23,hsn,hkn⟩ | ⟨hk4,_,_,hk1⟩ | ⟨hk56,_,_⟩
 ·rcases hk01 with e | e
  ·rw[normF_0 e]at h
   injection h with h
   refine .inl ⟨?_,.inl ⟨e,h.symm⟩⟩
   rw[←h]
   cases so
   ·exact .no
   ·exact .yes
  ·rw[normF_1 e]at h
   injection h with h
   refine .inl ⟨?_,.inr (.inl ⟨e,h.symm⟩)⟩
   rw[←h]
   cases so
   ·exact .yes
   ·exact .no
 ·rcases hk23 with e | e
  ·rw[normF_2 e]at h
   split at h
   ·rename_i hk
    injection h with h
    refine .inl ⟨?_,.inr (.inr ⟨e,hsn,hk,h.symm⟩)⟩
    rw[←h]
    cases so
    ·exact oppF_can (litT_can hk)
    ·exact litT_can hk
   ·cases h
  ·rw[normF_3 e]at h
   rcases litK_sound hsn with hk0 | hk3
   ·rcases litK_sound (snd_neg hsn)with hj0 | hj3
    ·rw[bothT_ok hk0 hj0]at h
     injection h with h
     exact .inr (.inl ⟨e,hsn,hk0,hj0,h.symm⟩)
    ·rw[bothT_far2 hj3]at h;cases h
   ·rw[bothT_far1 hk3]at h;cases h
 ·rw[normF_4 hk4]at h
  exact .inr (.inr (.inl ⟨hk4,hk1,h⟩))
 ·rw[normF_56 hk56]at h
  obtain⟨h1,h2⟩:=all_some h
  exact .inr (.inr (.inr ⟨hk56,h1,h2⟩))
theorem nrmK_ok {n:Nat}{f:FT}(h:nrmK n f=0):cc n f=0∧∃g,normF n f true=some g∧nrmT n f=g:=by
 unfold nrmK at h
 unfold nrmT
 split at h
 ·rename_i h0
  refine⟨h0, ?_⟩
  rw[if_pos h0]
  cases ho:normF n f true with
  | none=>rw[ho]at h;cases h
  | some g=>exact⟨g,rfl,rfl⟩
 ·contradiction
end
section
open Go.RowKit
theorem vTo_near {zs:List Int}{n:Nat}{b:Bool}{ks:List FT}:∀k,k≤ks.length→((vTo zs n b ks k).2=true↔∀i,i<k→(vOf zs n (ks.getD i default)).2=true)
 | 0,_=>by
   constructor
   ·intro _ i hi;omega
   ·intro _;rfl
 | k+1,h=>by
   rw[vTo_succ zs n b ks k (by omega)]
   have ih:=vTo_near (zs:=zs) (n:=n) (b:=b) (ks:=ks) k (by omega)
   show((vTo zs n b ks k).2 && (vOf zs n (ks.getD k default)).2)=true↔_
   rw[Bool.and_eq_true,ih]
   constructor
   ·rintro⟨h1,h2⟩ i hi
    by_cases e:i=k
    ·rw[e];exact h2
    ·exact h1 i (by omega)
   ·intro h1
    exact⟨fun i hi=>h1 i (by omega),h1 k (by omega)⟩
theorem vOf_5 {zs:List Int}{n:Nat}{f:FT}(hk:f.kind=5):vOf zs (n+1) f=vTo zs n true f.ks f.ks.length:=by
 show(if f.kind=0 then _ else if f.kind=1 then _ else if f.kind=2∨f.kind=3 then _ else if f.kind=4 then _ else _)=_
 rw[if_neg (by omega),if_neg (by omega),if_neg (by omega),if_neg (by omega)]
 unfold vTo
 rw[List.take_length,show(f.kind == 5)=true from by rw[hk];rfl]
theorem vOf_6 {zs:List Int}{n:Nat}{f:FT}(hk:f.kind=6):vOf zs (n+1) f=vTo zs n false f.ks f.ks.length:=by
 show(if f.kind=0 then _ else if f.kind=1 then _ else if f.kind=2∨f.kind=3 then _ else if f.kind=4 then _ else _)=_
 rw[if_neg (by omega),if_neg (by omega),if_neg (by omega),if_neg (by omega)]
 unfold vTo
 rw[List.take_length,show(f.kind == 5)=false from by rw[hk];rfl]
theorem vOf_4 {zs:List Int}{n:Nat}{f:FT}(hk:f.kind=4):vOf zs (n+1) f=(!(vOf zs n (f.ks.getD 0 default)).1,(vOf zs n (f.ks.getD 0 default)).2):=by
 show(if f.kind=0 then _ else if f.kind=1 then _ else if f.kind=2∨f.kind=3 then _ else if f.kind=4 then _ else _)=_
 rw[if_neg (by omega),if_neg (by omega),if_neg (by omega),if_pos hk]
theorem vOf_2 {zs:List Int}{n:Nat}{f:FT}(hk:f.kind=2∨f.kind=3):vOf zs (n+1) f=if ∀i,i<f.t.length→near f.t zs i=true then(decide (sAt f.c f.t zs f.t.length=0) || (decide (sAt f.c f.t zs f.t.length<0) && decide (f.kind=2)),true) else(true,false):=by
 show(if f.kind=0 then _ else if f.kind=1 then _ else if f.kind=2∨f.kind=3 then _ else _)=_
 rw[if_neg (by omega),if_neg (by omega),if_pos hk]
theorem vOf_0 {zs:List Int}{n:Nat}{f:FT}(hk:f.kind=0):vOf zs (n+1) f=(true,true):=by show(if f.kind=0 then _ else _)=_;rw[if_pos hk]
theorem vOf_1 {zs:List Int}{n:Nat}{f:FT}(hk:f.kind=1):vOf zs (n+1) f=(false,true):=by show(if f.kind=0 then _ else if f.kind=1 then _ else _)=_;rw[if_neg (by omega),if_pos hk]
end
section
open Go.RowKit
theorem sAt_plus (c:Int)(l:List (Int×Int))(zs:List Int):∀k,sAt c l zs k=c+sAt 0 l zs k
 | 0=>by show c=c+0;omega
 | k+1=>by rw[sAt_eq,sAt_eq,sAt_plus c l zs k,Int.add_assoc]
theorem sAt_red {l:List (Int×Int)}{g:Int}{zs:List Int}(hg:1≤g):∀k,k≤l.length→(∀j,j<k→g∣(l.getD j (0,0)).2)→sAt 0 (redL g l) zs k*g=sAt 0 l zs k
 | 0,_,_=>by show(0:Int)*g=0;omega
 | k+1,hk,hd=>by
   obtain⟨q,hq⟩:=hd k (by omega)
   rw[sAt_eq,sAt_eq,redL_get g l k (by omega),Int.add_mul,sAt_red hg k (by omega) (fun j hj=>hd j (by omega)),hq,Int.mul_tdiv_cancel_left q (by omega),Int.mul_assoc,Int.mul_comm q g]
theorem sAt_neg (l:List (Int×Int))(zs:List Int):∀k,k≤l.length→sAt 0 (scale (-1) l) zs k= - sAt 0 l zs k
 | 0,_=>rfl
 | k+1,hk=>by
   rw[sAt_eq,sAt_eq,sAt_neg l zs k (by omega),scale_get (-1) l k (by omega)]
   show -sAt 0 l zs k+valOf zs (l.getD k (0,0)).1*(-1*(l.getD k (0,0)).2)=_
   rw[Int.neg_mul,Int.one_mul,Int.mul_neg]
   omega
theorem upI_spec {c g:Int}(hg:1≤g):(upI c g - 1)*g<c∧c≤upI c g*g:=by
 have h:=Int.mul_tdiv_add_tmod c g
 have h1:(c.tmod g).natAbs=c.natAbs % g.natAbs:=Int.natAbs_tmod c g
 have h2:=Nat.mod_lt c.natAbs (show 0<g.natAbs by omega)
 have h3:=Int.mul_comm g (c.tdiv g)
 unfold upI
 generalize c.tdiv g=q at h h3⊢
 generalize c.tmod g=r at h h1⊢
 split
 ·rw[Int.add_sub_cancel,Int.add_mul,Int.one_mul]
  omega
 ·rw[Int.sub_mul,Int.one_mul]
  omega
theorem le_up {c g S:Int}(hg:1≤g):c+S*g≤0↔upI c g+S≤0:=by
 obtain⟨h1,h2⟩:=upI_spec (c:=c) hg
 generalize upI c g=u at h1 h2⊢
 constructor
 ·intro h
  by_cases e:u+S≤0
  ·exact e
  ·have h3:(1 - u)*g≤S*g:=Int.mul_le_mul_of_nonneg_right (by omega) (by omega)
   have h4:(1 - u)*g= -((u - 1)*g):=by rw[←Int.neg_mul];congr 1;omega
   omega
 ·intro h
  have h3:S*g≤(-u)*g:=Int.mul_le_mul_of_nonneg_right (by omega) (by omega)
  rw[Int.neg_mul]at h3
  omega
theorem near_red {g:Int}{l:List (Int×Int)}{zs:List Int}{i:Nat}(h:i<l.length):near (redL g l) zs i=near l zs i:=by
 unfold near
 rw[redL_get g l i h]
theorem near_scale {x:Int}{l:List (Int×Int)}{zs:List Int}{i:Nat}(h:i<l.length):near (scale x l) zs i=near l zs i:=by
 unfold near
 rw[scale_get x l i h]
theorem vOf_le {N:Nat}{c:Int}{t:List (Int×Int)}{zs:List Int}(hn:∀i,i<t.length→near t zs i=true):vOf zs (N+1) (.mk 2 c t [])=(decide (sAt c t zs t.length≤0),true):=by
 rw[vOf_2 (.inl rfl)]
 show(if ∀i,i<t.length→near t zs i=true then _ else _)=_
 rw[if_pos hn]
 congr 1
 show(decide (sAt c t zs t.length=0) || (decide (sAt c t zs t.length<0) && decide ((2:Int)=2)))=_
 rw[Bool.eq_iff_iff]
 simp
 omega
theorem lit_val {N:Nat}{c:Int}{l:List (Int×Int)}{zs:List Int}(hk:litK c l=0)(hn:∀i,i<l.length→near l zs i=true):vOf zs (N+2) (litT c l)=(decide (sAt c l zs l.length≤0),true):=by
 have hs:snd c l=true:=by
  by_cases hs:snd c l=true
  ·exact hs
  ·unfold litK at hk
   rw[if_neg hs]at hk
   cases hk
 unfold litT
 unfold litK at hk
 rw[if_pos hs]at hk⊢
 by_cases h0:l.length=0
 ·rw[if_pos h0,h0]
  show vOf zs (N+2) (.mk (if c≤0 then 0 else 1) 0 [] [])=(decide (c≤0),true)
  by_cases hc:c≤0
  ·rw[if_pos hc,vOf_0 rfl,decide_eq_true hc]
  ·rw[if_neg hc,vOf_1 rfl,decide_eq_false hc]
 ·rw[if_neg h0]at hk⊢
  have h0':0<l.length:=by omega
  have hg:=gAt_one hs h0'
  have hS:=sAt_red (zs:=zs) hg l.length (Nat.le_refl _) (fun j hj=>gAt_dvd l l.length j hj)
  have hup:=le_up (c:=c) (S:=sAt 0 (redL (gAt l l.length) l) zs l.length) hg
  rw[hS,←sAt_plus]at hup
  have hlen:=redL_len (gAt l l.length) l
  by_cases hp:0<(l.getD 0 (0,0)).2.tdiv (gAt l l.length)
  ·rw[if_pos hp,vOf_le (fun i hi=>by rw[near_red (by omega)];exact hn i (by omega)),hlen,sAt_plus,decide_eq_decide.2 hup]
  ·rw[if_neg hp]at hk⊢
   by_cases hw:wi (1 - upI c (gAt l l.length)) 1073741824=true
   ·rw[if_pos hw,vOf_4 rfl]
    show(!(vOf zs (N+1) (.mk 2 (1 - upI c (gAt l l.length)) (scale (-1) (redL (gAt l l.length) l)) [])).1,(vOf zs (N+1) (.mk 2 (1 - upI c (gAt l l.length)) (scale (-1) (redL (gAt l l.length) l)) [])).2)=_
    rw[vOf_le (fun i hi=>by rw[scale_len]at hi;rw[near_scale hi,near_red (by omega)];exact hn i (by omega)),scale_len,sAt_plus,sAt_neg _ _ _ (Nat.le_refl _),hlen]
    congr 1
    rw[←decide_not,decide_eq_decide,hup]
    omega
   ·rw[if_neg hw]at hk
    cases hk
theorem opp_val {f:FT}(h:Can f)(N:Nat)(zs:List Int):vOf zs (N+2) (oppF f)=(!(vOf zs (N+2) f).1,(vOf zs (N+2) f).2):=by
 cases h with
 | yes=>show vOf zs (N+2) (.mk 1 0 [] [])=_;rw[vOf_1 (f:= .mk 1 0 [] []) rfl,vOf_0 (f:= .mk 0 0 [] []) rfl];rfl
 | no=>show vOf zs (N+2) (.mk 0 0 [] [])=_;rw[vOf_1 (f:= .mk 1 0 [] []) rfl,vOf_0 (f:= .mk 0 0 [] []) rfl];rfl
 | @le c t h=>
   show vOf zs (N+2) (.mk 4 0 [] [.mk 2 c t []])=_
   rw[vOf_4 rfl]
   show(!(vOf zs (N+1) (.mk 2 c t [])).1,(vOf zs (N+1) (.mk 2 c t [])).2)=_
   rw[vOf_2 (.inl rfl),vOf_2 (.inl rfl)]
 | @not c t h=>
   show vOf zs (N+2) (.mk 2 c t [])=_
   rw[vOf_4 (f:= .mk 4 0 [] [.mk 2 c t []]) rfl]
   show _=(!(!(vOf zs (N+1) (.mk 2 c t [])).1),(vOf zs (N+1) (.mk 2 c t [])).2)
   rw[vOf_2 (.inl rfl),vOf_2 (.inl rfl),Bool.not_not]
theorem litso_val {N:Nat}{c:Int}{l:List (Int×Int)}{zs:List Int}{so:Bool}(hk:litK c l=0)(hn:∀i,i<l.length→near l zs i=true):
 vOf zs (N+2) (if so then litT c l else oppF (litT c l))=(if so then decide (sAt c l zs l.length≤0) else !decide (sAt c l zs l.length≤0),true):=by
 cases so
 ·show vOf zs (N+2) (oppF (litT c l))=_
  rw[opp_val (litT_can hk),lit_val hk hn]
  rfl
 ·exact lit_val hk hn
theorem pair_and {N:Nat}{zs:List Int}{a b:FT}{x y:Bool}(ha:vOf zs N a=(x,true))(hb:vOf zs N b=(y,true)):vOf zs (N+1) (.mk 5 0 [] [a,b])=(x && y,true):=by
 rw[vOf_5 rfl]
 show vStep true (vStep true (true,true) (vOf zs N a)) (vOf zs N b)=_
 rw[ha,hb]
 cases x<;>cases y<;>rfl
theorem pair_or {N:Nat}{zs:List Int}{a b:FT}{x y:Bool}(ha:vOf zs N a=(x,true))(hb:vOf zs N b=(y,true)):vOf zs (N+1) (.mk 6 0 [] [a,b])=(x || y,true):=by
 rw[vOf_6 rfl]
 show vStep false (vStep false (false,true) (vOf zs N a)) (vOf zs N b)=_
 rw[ha,hb]
 cases x<;>cases y<;>rfl
theorem vTo_same {zs:List Int}{n N:Nat}{b so:Bool}{fs gs:List FT}:∀k,k≤fs.length→k≤gs.length→(∀i,i<k→(vOf zs n (fs.getD i default)).2=true∧vOf zs N (gs.getD i default)=(if so then(vOf zs n (fs.getD i default)).1 else !(vOf zs n (fs.getD i default)).1,true))→
 vTo zs N (if so then b else !b) gs k=(if so then(vTo zs n b fs k).1 else !(vTo zs n b fs k).1,true)
 | 0,_,_,_=>by
   show((if so then b else !b),true)=(if so then b else !b,true)
   rfl
 | k+1,h1,h2,h=>by
   rw[vTo_succ _ _ _ _ _ (by omega),vTo_succ _ _ _ _ _ (by omega),vTo_same k (by omega) (by omega) (fun i hi=>h i (by omega)),(h k (by omega)).2]
   unfold vStep
   dsimp only
   generalize (vTo zs n b fs k).1=p
   generalize (vOf zs n (fs.getD k default)).1=q
   cases so<;>cases b<;>cases p<;>cases q<;>rfl
theorem normF_val {zs:List Int}:∀ {n:Nat} {f:FT} {so:Bool} {g:FT},sndF n f=true→normF n f so=some g→(vOf zs n f).2=true→∀M,n≤M→vOf zs (M+2) g=(if so then(vOf zs n f).1 else !(vOf zs n f).1,true)
 | 0,_,_,_,h,_,_=>by cases h
 | n+1,f,so,g,hs,h,hv=>by
   have hks:=(snd_own hs).2
   intro M hM
   obtain⟨M,rfl⟩:∃K,M=K+1:=⟨M - 1,by omega⟩
   rcases normF_ways hs h with ⟨_,⟨hk,rfl⟩ | ⟨hk,rfl⟩ | ⟨hk,hsn,hk0,rfl⟩⟩ | ⟨hk,hsn,hk0,hj0,rfl⟩ | ⟨hk4,hk1,h4⟩ | ⟨hk56,hg,hkk⟩
   ·rw[vOf_0 hk]
    cases so
    ·exact vOf_1 rfl
    ·exact vOf_0 rfl
   ·rw[vOf_1 hk]
    cases so
    ·exact vOf_0 rfl
    ·exact vOf_1 rfl
   ·have hn:∀i,i<f.t.length→near f.t zs i=true:=by
     rw[vOf_2 (.inl hk)]at hv
     split at hv
     ·assumption
     ·cases hv
    rw[litso_val hk0 hn,vOf_2 (.inl hk),if_pos hn,hk]
    have e:(decide (sAt f.c f.t zs f.t.length=0) || (decide (sAt f.c f.t zs f.t.length<0) && decide ((2:Int)=2)))=decide (sAt f.c f.t zs f.t.length≤0):=by
     rw[Bool.eq_iff_iff]
     simp
     omega
    rw[e]
   ·have hn:∀i,i<f.t.length→near f.t zs i=true:=by
     rw[vOf_2 (.inr hk)]at hv
     split at hv
     ·assumption
     ·cases hv
    have hA:=litso_val (N:=M) (so:=so) hk0 hn
    have hB:=litso_val (N:=M) (so:=so) hj0 (fun i hi=>by rw[scale_len]at hi;rw[near_scale hi];exact hn i hi)
    rw[scale_len,sAt_plus,sAt_neg _ _ _ (Nat.le_refl _)]at hB
    rw[sAt_plus]at hA
    rw[vOf_2 (.inr hk),if_pos hn,hk,sAt_plus]
    generalize sAt 0 f.t zs f.t.length=S at hA hB⊢
    have e:(decide (f.c+S=0) || (decide (f.c+S<0) && decide ((3:Int)=2)))=(decide (f.c+S≤0) && decide (-f.c+ -S≤0)):=by
     rw[Bool.eq_iff_iff]
     simp
     omega
    rw[e]
    cases so
    ·show vOf zs (M+2+1) (.mk 6 0 [] [_,_])=_
     rw[pair_or hA hB]
     show(!decide (f.c+S≤0) || !decide (-f.c+ -S≤0),true)=(!(decide (f.c+S≤0) && decide (-f.c+ -S≤0)),true)
     rw[Bool.not_and]
    ·show vOf zs (M+2+1) (.mk 5 0 [] [_,_])=_
     rw[pair_and hA hB]
     rfl
   ·rw[vOf_4 hk4]at hv⊢
    have:=normF_val (hks 0 (by omega)) h4 hv (M+1) (by omega)
    rw[this]
    generalize (vOf zs n (f.ks.getD 0 default)).1=q
    cases so<;>cases q<;>rfl
   ·have hlen:g.ks.length=f.ks.length:=by rw[hg];exact kidsT_len n f so
    have hgk:g.kind=if so then f.kind else 11 - f.kind:=by rw[hg];rfl
    rcases hk56 with e | e
    ·rw[vOf_5 e]at hv⊢
     have hnr:=(vTo_near f.ks.length (Nat.le_refl _)).1 hv
     have key:=vTo_same (zs:=zs) (n:=n) (N:=M+2) (b:=true) (so:=so) (fs:=f.ks) (gs:=g.ks) f.ks.length (Nat.le_refl _) (by omega) (fun i hi=>by
      obtain⟨k,h1,h2⟩:=hkk i hi
      refine⟨hnr i hi, ?_⟩
      rw[h2]
      exact normF_val (hks i hi) h1 (hnr i hi) M (by omega))
     rw[e]at hgk
     cases so
     ·rw[vOf_6 (n:=M+2) (show g.kind=6 from hgk),hlen]
      exact key
     ·rw[vOf_5 (n:=M+2) (show g.kind=5 from hgk),hlen]
      exact key
    ·rw[vOf_6 e]at hv⊢
     have hnr:=(vTo_near f.ks.length (Nat.le_refl _)).1 hv
     have key:=vTo_same (zs:=zs) (n:=n) (N:=M+2) (b:=false) (so:=so) (fs:=f.ks) (gs:=g.ks) f.ks.length (Nat.le_refl _) (by omega) (fun i hi=>by
      obtain⟨k,h1,h2⟩:=hkk i hi
      refine⟨hnr i hi, ?_⟩
      rw[h2]
      exact normF_val (hks i hi) h1 (hnr i hi) M (by omega))
     rw[e]at hgk
     cases so
     ·rw[vOf_5 (n:=M+2) (show g.kind=5 from hgk),hlen]
      exact key
     ·rw[vOf_6 (n:=M+2) (show g.kind=6 from hgk),hlen]
      exact key
end
namespace Cut
open Go.RowKit Go.Maps
def evl (zs:List Int)(l:List (Int×Int)):Int:=(l.map fun m=>m.2*valOf zs m.1).sum
theorem evl_nil (zs:List Int):evl zs []=0:=rfl
theorem evl_cons (zs:List Int)(m:Int×Int)(l:List (Int×Int)):evl zs (m :: l)=m.2*valOf zs m.1+evl zs l:=by simp[evl]
theorem evl_append (zs:List Int)(l r:List (Int×Int)):evl zs (l ++ r)=evl zs l+evl zs r:=by simp[evl,List.sum_append]
theorem evl_perm (zs:List Int){l r:List (Int×Int)}(h:l.Perm r):evl zs l=evl zs r:=by
 induction h with
 | nil=>rfl
 | cons x _ ih=>rw[evl_cons,evl_cons,ih]
 | swap x y l=>simp only[evl_cons];omega
 | trans _ _ h1 h2=>exact h1.trans h2
theorem sAt_evl (c:Int)(l:List (Int×Int))(zs:List Int):∀k,k≤l.length→sAt c l zs k=c+evl zs (l.take k)
 | 0,_=>by simp[sAt,evl]
 | k+1,hk=>by
   rw[take_snoc l k (by omega),evl_append,evl_cons,evl_nil]
   unfold sAt
   rw[sAt_evl c l zs k (by omega)]
   omega
theorem evl_togStep (zs:List Int)(r:List (Int×Int))(m:Int×Int):evl zs (togStep r m)=evl zs r+m.2*valOf zs m.1:=by
 obtain⟨v,u⟩:=m
 rcases snoc_cases r with rfl | ⟨r',⟨pv,pk⟩,rfl⟩
 ·rw[togStep_nil,evl_cons,evl_nil];omega
 ·by_cases e:pv=v
  ·subst e
   rw[togStep_eq,evl_append,evl_append,evl_cons,evl_cons,evl_nil,Int.add_mul]
   simp only
   omega
  ·rw[togStep_ne _ _ _ e,evl_append,evl_cons,evl_nil];omega
theorem evl_tog (zs:List Int)(l:List (Int×Int)):∀k,k≤l.length→evl zs (tog (l.take k))=evl zs (l.take k)
 | 0,_=>by simp[tog]
 | k+1,hk=>by
   rw[take_snoc l k (by omega),tog_snoc,evl_togStep,evl_tog zs l k (by omega),evl_append,evl_cons,evl_nil]
   omega
theorem evl_filter (zs:List Int)(l:List (Int×Int)):evl zs (l.filter fun m=>m.2 != 0)=evl zs l:=by
 induction l with
 | nil=>rfl
 | cons m r ih=>
   by_cases h:m.2=0
   ·rw[List.filter_cons_of_neg (by simp[h]),ih,evl_cons,h];omega
   ·rw[List.filter_cons_of_pos (by simp[h]),evl_cons,evl_cons,ih]
theorem evl_sumOf (zs:List Int)(l:List (Int×Int)):evl zs (sumOf l)=evl zs l:=by
 unfold sumOf
 rw[evl_filter]
 have:=evl_tog zs (l.mergeSort fun a b=>decide (a.1≤b.1)) _ (Nat.le_refl _)
 rw[List.take_length]at this
 rw[this,evl_perm zs (List.mergeSort_perm _ _)]
theorem evl_times (zs:List Int)(x:Int)(l:List (Int×Int)):evl zs (timesL x l)=x*evl zs l:=by
 induction l with
 | nil=>simp[timesL,evl]
 | cons m r ih=>
   have e:timesL x (m :: r)=(m.1,m.2*x) :: timesL x r:=rfl
   rw[e,evl_cons,evl_cons,ih,Int.mul_add]
   simp only
   rw[←Int.mul_assoc,Int.mul_comm x m.2]
def fval (zs:List Int)(l:Int×List (Int×Int)):Int:=l.1+evl zs l.2
theorem fval_sAt (zs:List Int)(c:Int)(l:List (Int×Int)):sAt c l zs l.length=fval zs (c,l):=by
 rw[sAt_evl c l zs _ (Nat.le_refl _),List.take_length];rfl
def allLe (zs:List Int)(ls:List (Int×List (Int×Int))):Prop:=∀i,i<ls.length→fval zs (ls.getD i (0,[]))≤0
theorem parts_le {zs:List Int}{ls:List (Int×List (Int×Int))}{ps:List (Int×Int)}(hok:partsOk ls ps)(h:allLe zs ls):∀k,k≤ps.length→cTo ls ps k+evl zs (tTo ls ps k)≤0
 | 0,_=>by show(0:Int)+evl zs []≤0;rw[evl_nil];decide
 | k+1,hk=>by
   have h1:=parts_le hok h k (by omega)
   obtain⟨⟨_,hi⟩,⟨hx,_⟩,_⟩:=hok.2 k (by omega)
   have h2:(lineAt ls ps k).1+evl zs (lineAt ls ps k).2≤0:=h _ hi
   show cTo ls ps k+_+evl zs (tTo ls ps k ++ _)≤0
   rw[evl_append,evl_times]
   generalize (ps.getD k (0,0)).2=x at hx
   generalize (lineAt ls ps k).1=c at h2
   generalize evl zs (lineAt ls ps k).2=e at h2
   have h3:x*(c+e)≤x*0:=Int.mul_le_mul_of_nonneg_left h2 (by omega)
   rw[Int.mul_add,Int.mul_zero]at h3
   rw[Int.mul_comm c x]
   omega
theorem evl_div {zs:List Int}{g:Int}{R:List (Int×Int)}(h:allDiv g R=true):g*evl zs (divT g R)=evl zs R:=by
 induction R with
 | nil=>simp[divT,evl]
 | cons m r ih=>
   have h1:m.2.tmod g=0∧allDiv g r=true:=by simpa [allDiv]using h
   have e:divT g (m :: r)=(m.1,m.2.tdiv g) :: divT g r:=rfl
   rw[e,evl_cons,evl_cons,Int.mul_add,ih h1.2]
   have h2:=Int.tmod_add_mul_tdiv m.2 g
   rw[h1.1,Int.zero_add]at h2
   simp only
   rw[←Int.mul_assoc,h2]
theorem up_le {c g s:Int}(hg:1≤g)(h:c+g*s≤0):upI c g+s≤0:=by
 have h2:=Int.tmod_add_mul_tdiv c g
 have h3:c.tmod g<g:=Int.tmod_lt_of_pos _ (by omega)
 have h4: -g<c.tmod g:=by
  have:=Int.lt_tmod_of_pos c (show(0:Int)<g by omega)
  omega
 unfold upI
 generalize c.tmod g=r at h2 h3 h4⊢
 generalize c.tdiv g=q at h2⊢
 subst h2
 have h5:r+g*(q+s)≤0:=by rw[Int.mul_add];omega
 have key:∀t:Int,1≤t→g≤g*t:=fun t ht=>by
  have:=Int.mul_le_mul_of_nonneg_left ht (show 0≤g by omega)
  omega
 have key0:∀t:Int,0≤t→0≤g*t:=fun t ht=>Int.mul_nonneg (by omega) ht
 split
 ·by_cases h:0≤q+s
  ·have:=key0 _ h;omega
  ·omega
 ·by_cases h:1≤q+s
  ·have:=key _ h;omega
  ·omega
theorem line_le {zs:List Int}{ls:List (Int×List (Int×Int))}{s:List (Int×Int)×Int}(hok:lsOk ls)(hs:tellS ls s=0)(h:allLe zs ls):fval zs (lineS ls s)≤0:=by
 have ht:=tellS_took hok hs
 refine up_le ht.div.1 ?_
 show cTo ls s.1 s.1.length+s.2*evl zs (divT s.2 (sumOf (tTo ls s.1 s.1.length)))≤0
 rw[evl_div ht.all,evl_sumOf]
 exact parts_le ht.parts h _ (Nat.le_refl _)
theorem lnL_le {zs:List Int}{ls:List (Int×List (Int×Int))}{ss:List (List (Int×Int)×Int)}(hok:lsOk ls)(h:allLe zs ls):∀k,(∀j,j<k→tellS (lnL ls ss j) (ss.getD j ([],0))=0)→allLe zs (lnL ls ss k)
 | 0,_=>h
 | k+1,hs=>by
   have h1:=lnL_le hok h k (fun j hj=>hs j (by omega))
   have h2:=lnL_ok hok k (fun j hj=>hs j (by omega))
   intro i hi
   rw[lnL_len]at hi
   by_cases e:i<ls.length+k
   ·have:=h1 i (by rw[lnL_len];exact e)
    rw[lnL]
    simp only[List.getD_eq_getElem?_getD]at this⊢
    rw[List.getElem?_append_left (by rw[lnL_len];exact e)]
    exact this
   ·have e2:i=(lnL ls ss k).length:=by rw[lnL_len];omega
    subst e2
    rw[lnL]
    simp only[List.getD_eq_getElem?_getD]
    rw[List.getElem?_concat_length,Option.getD_some]
    exact line_le h2 (by have:=hs k (by omega);simpa only[List.getD_eq_getElem?_getD]using this) h1
theorem hasR_le {zs:List Int}{L:List (Int×List (Int×Int))}(h:allLe zs L):hasR L=false:=hasR_none fun i hi ⟨h1,h2⟩=>by
 have:=h i hi
 unfold fval at this
 rw[List.eq_nil_of_length_eq_zero h1,evl_nil]at this
 omega
end Cut
end Go.Proofs.YtipahfcaplbifaaGreatDoor
