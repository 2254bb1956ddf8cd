/- Parts of a proof. -/
import Derived.Test.YtipahfcaplbifaaGreatDoorZ29
set_option linter.unusedVariables false
set_option linter.unusedSimpArgs false
set_option maxHeartbeats 60000000
set_option maxRecDepth 100000
namespace Go.Proofs.YtipahfcaplbifaaGreatDoor
section
open Go.RowKit
def Ans (B m:Nat)(g:FT)(x:Value)(w:World)(e:Ending)(w':World):Prop:=∃cs,e= .returned (.tuple #[.agg cs.toArray,x])∧FLiesQ (fun b=>B≤b∧b<w'.heap.size) w' m g cs∧Below B w w'
theorem Ans.up {B m m':Nat}{g:FT}{x:Value}{w:World}{e:Ending}{w':World}(h:Ans B m g x w e w')(hm:m≤m'):Ans B m' g x w e w':=by
 obtain⟨cs,h1,h2,h3⟩:=h
 exact⟨cs,h1,h2.up hm,h3⟩
theorem nrm_k2 (c:Int)(a ka:Option Addr)(n cap kn kcap:Nat)(so:Bool)(g:FT)(m:Nat)(X:Value)(w:World)(HC:∀W,Below w.heap.size w W→Calls Tryz.prog 79 #[.agg #[.int .i64 c,.slice a n cap],.bool so] W (Ans W.heap.size m g X W)):
 Calls Tryz.prog 51 #[.agg #[.int .i64 2,.int .i64 c,.slice a n cap,.slice ka kn kcap],.bool so] w (Ans w.heap.size m g X w):=by
 have HCH:=Lib.hid HC
 clear HC
 have ST:=Lib.hid (args_start w 2 c a ka n cap kn kcap)
 have SZ:Hid (w.heap.size+2=((w.alloc (.cells #[.int .i64 2,.int .i64 c,.slice a n cap,.slice ka kn kcap] 39)).alloc (.cells #[.int .i64 0,.int .i64 0,.slice none 0 0,.slice none 0 0] 39)).heap.size):=by show _=_;simp
 obtain⟨-,p0,p1,p2,p3, -⟩:=ST.out.1
 generalize hW:(w.alloc (.cells #[.int .i64 2,.int .i64 c,.slice a n cap,.slice ka kn kcap] 39)).alloc (.cells #[.int .i64 0,.int .i64 0,.slice none 0 0,.slice none 0 0] 39)=W0 at ST SZ p0 p1 p2 p3
 go_enter Tryz.func51,Tryz.ntmps51
 go_wp2_with fail
 clear hW
 refine(HCH.out _ ST.out.1.bel).mono ?_
 rintro e w3 ⟨cs3,rfl,hf3,hb3⟩
 have HF3:=Lib.hid hf3
 obtain⟨fk,fc,ta,tn,tcap,va,vn,vcap,rfl⟩:=hf3.form
 have hz3:=hb3.size
 have hz:=SZ.out
 have F3:=Lib.hid (ST.out.2.below hb3 (by omega))
 have RT:=Lib.hid (ret_set F3.out (ST.out.1.bel.trans (hb3.mono (by omega))) HF3.out (fun b ⟨h1,h2⟩=>⟨by omega,by omega,h2⟩))
 clear p0 p1 p2 p3 hf3 hb3 hz3 hz
 obtain⟨r0,r1,r2,r3,rf⟩:=F3.out
 go_wp2_with fail
 clear r0 r1 r2 r3 rf
 refine bodyPost_ret (v:= .tuple #[.agg #[.int .i64 fk,.int .i64 fc,.slice ta tn tcap,.slice va vn vcap],X]) ?_ rfl ⟨_,rfl,RT.out.lies,RT.out.bel⟩
 obtain⟨_,_,e0,e1,e2,e3⟩:=RT.out
 simp[results,Tryz.results51,go_sem,e0,e1,e2,e3]
theorem nrm_k3 (c:Int)(a ka:Option Addr)(n cap kn kcap:Nat)(so:Bool)(g:FT)(m:Nat)(X:Value)(w:World)(HC:∀W,Below w.heap.size w W→Calls Tryz.prog 80 #[.agg #[.int .i64 c,.slice a n cap],.bool so] W (Ans W.heap.size m g X W)):
 Calls Tryz.prog 51 #[.agg #[.int .i64 3,.int .i64 c,.slice a n cap,.slice ka kn kcap],.bool so] w (Ans w.heap.size m g X w):=by
 have HCH:=Lib.hid HC
 clear HC
 have ST:=Lib.hid (args_start w 3 c a ka n cap kn kcap)
 have SZ:Hid (w.heap.size+2=((w.alloc (.cells #[.int .i64 3,.int .i64 c,.slice a n cap,.slice ka kn kcap] 39)).alloc (.cells #[.int .i64 0,.int .i64 0,.slice none 0 0,.slice none 0 0] 39)).heap.size):=by show _=_;simp
 obtain⟨-,p0,p1,p2,p3, -⟩:=ST.out.1
 generalize hW:(w.alloc (.cells #[.int .i64 3,.int .i64 c,.slice a n cap,.slice ka kn kcap] 39)).alloc (.cells #[.int .i64 0,.int .i64 0,.slice none 0 0,.slice none 0 0] 39)=W0 at ST SZ p0 p1 p2 p3
 go_enter Tryz.func51,Tryz.ntmps51
 go_wp2_with fail
 clear hW
 refine(HCH.out _ ST.out.1.bel).mono ?_
 rintro e w3 ⟨cs3,rfl,hf3,hb3⟩
 have HF3:=Lib.hid hf3
 obtain⟨fk,fc,ta,tn,tcap,va,vn,vcap,rfl⟩:=hf3.form
 have hz3:=hb3.size
 have hz:=SZ.out
 have F3:=Lib.hid (ST.out.2.below hb3 (by omega))
 have RT:=Lib.hid (ret_set F3.out (ST.out.1.bel.trans (hb3.mono (by omega))) HF3.out (fun b ⟨h1,h2⟩=>⟨by omega,by omega,h2⟩))
 clear p0 p1 p2 p3 hf3 hb3 hz3 hz
 obtain⟨r0,r1,r2,r3,rf⟩:=F3.out
 go_wp2_with fail
 clear r0 r1 r2 r3 rf
 refine bodyPost_ret (v:= .tuple #[.agg #[.int .i64 fk,.int .i64 fc,.slice ta tn tcap,.slice va vn vcap],X]) ?_ rfl ⟨_,rfl,RT.out.lies,RT.out.bel⟩
 obtain⟨_,_,e0,e1,e2,e3⟩:=RT.out
 simp[results,Tryz.results51,go_sem,e0,e1,e2,e3]
theorem nrm_k4 (c:Int)(a:Option Addr)(n cap kcap:Nat)(b off:Nat)(so:Bool)(g:FT)(m:Nat)(X:Value)(w:World)(hb:b<w.heap.size)(ck cc:Int)(ca:Option Addr)(cn ccap:Nat)(da:Option Addr)(dn dcap:Nat)
 (g0:w.cell? ⟨b,off,none⟩=some (.int .i64 ck)) (g1:w.cell? ⟨b,off+1,none⟩=some (.int .i64 cc)) (g2:w.cell? ⟨b,off+2,none⟩=some (.slice ca cn ccap)) (g3:w.cell? ⟨b,off+3,none⟩=some (.slice da dn dcap)) (HC:∀W,Below w.heap.size w W→Calls Tryz.prog 51 #[.agg #[.int .i64 ck,.int .i64 cc,.slice ca cn ccap,.slice da dn dcap],.bool (!so)] W (Ans W.heap.size m g X W)):
 Calls Tryz.prog 51 #[.agg #[.int .i64 4,.int .i64 c,.slice a n cap,.slice (some ⟨b,off,none⟩) 1 kcap],.bool so] w (Ans w.heap.size m g X w):=by
 have HCH:=Lib.hid HC
 clear HC
 have ST:=Lib.hid (args_start w 4 c a (some ⟨b,off,none⟩) n cap 1 kcap)
 have SZ:Hid (w.heap.size+2=((w.alloc (.cells #[.int .i64 4,.int .i64 c,.slice a n cap,.slice (some ⟨b,off,none⟩) 1 kcap] 39)).alloc (.cells #[.int .i64 0,.int .i64 0,.slice none 0 0,.slice none 0 0] 39)).heap.size):=by show _=_;simp
 obtain⟨-,p0,p1,p2,p3, -⟩:=ST.out.1
 rw[←ST.out.1.bel.cell (p:=⟨b,_,none⟩) hb]at g0 g1 g2 g3
 generalize hW:(w.alloc (.cells #[.int .i64 4,.int .i64 c,.slice a n cap,.slice (some ⟨b,off,none⟩) 1 kcap] 39)).alloc (.cells #[.int .i64 0,.int .i64 0,.slice none 0 0,.slice none 0 0] 39)=W0 at ST SZ p0 p1 p2 p3 g0 g1 g2 g3
 go_enter Tryz.func51,Tryz.ntmps51
 go_wp2_with fail
 clear hW
 refine(HCH.out _ ST.out.1.bel).mono ?_
 rintro e w3 ⟨cs3,rfl,hf3,hb3⟩
 have HF3:=Lib.hid hf3
 obtain⟨fk,fc,ta,tn,tcap,va,vn,vcap,rfl⟩:=hf3.form
 have hz3:=hb3.size
 have hz:=SZ.out
 have F3:=Lib.hid (ST.out.2.below hb3 (by omega))
 have RT:=Lib.hid (ret_set F3.out (ST.out.1.bel.trans (hb3.mono (by omega))) HF3.out (fun b ⟨h1,h2⟩=>⟨by omega,by omega,h2⟩))
 clear p0 p1 p2 p3 hf3 hb3 hz3 hz g0 g1 g2 g3
 obtain⟨r0,r1,r2,r3,rf⟩:=F3.out
 go_wp2_with fail
 clear r0 r1 r2 r3 rf
 refine bodyPost_ret (v:= .tuple #[.agg #[.int .i64 fk,.int .i64 fc,.slice ta tn tcap,.slice va vn vcap],X]) ?_ rfl ⟨_,rfl,RT.out.lies,RT.out.bel⟩
 obtain⟨_,_,e0,e1,e2,e3⟩:=RT.out
 simp[results,Tryz.results51,go_sem,e0,e1,e2,e3]
theorem nrm_k5 (c:Int)(a ka:Option Addr)(n cap kn kcap:Nat)(so:Bool)(g:FT)(m:Nat)(X:Value)(w:World)(HC:∀W,Below w.heap.size w W→Calls Tryz.prog 81 #[.agg #[.int .i64 5,.int .i64 c,.slice a n cap,.slice ka kn kcap],.bool so] W (Ans W.heap.size m g X W)):
 Calls Tryz.prog 51 #[.agg #[.int .i64 5,.int .i64 c,.slice a n cap,.slice ka kn kcap],.bool so] w (Ans w.heap.size m g X w):=by
 have HCH:=Lib.hid HC
 clear HC
 have ST:=Lib.hid (args_start w 5 c a ka n cap kn kcap)
 have SZ:Hid (w.heap.size+2=((w.alloc (.cells #[.int .i64 5,.int .i64 c,.slice a n cap,.slice ka kn kcap] 39)).alloc (.cells #[.int .i64 0,.int .i64 0,.slice none 0 0,.slice none 0 0] 39)).heap.size):=by show _=_;simp
 obtain⟨-,p0,p1,p2,p3, -⟩:=ST.out.1
 generalize hW:(w.alloc (.cells #[.int .i64 5,.int .i64 c,.slice a n cap,.slice ka kn kcap] 39)).alloc (.cells #[.int .i64 0,.int .i64 0,.slice none 0 0,.slice none 0 0] 39)=W0 at ST SZ p0 p1 p2 p3
 go_enter Tryz.func51,Tryz.ntmps51
 go_wp2_with fail
 clear hW
 refine(HCH.out _ ST.out.1.bel).mono ?_
 rintro e w3 ⟨cs3,rfl,hf3,hb3⟩
 have HF3:=Lib.hid hf3
 obtain⟨fk,fc,ta,tn,tcap,va,vn,vcap,rfl⟩:=hf3.form
 have hz3:=hb3.size
 have hz:=SZ.out
 have F3:=Lib.hid (ST.out.2.below hb3 (by omega))
 have RT:=Lib.hid (ret_set F3.out (ST.out.1.bel.trans (hb3.mono (by omega))) HF3.out (fun b ⟨h1,h2⟩=>⟨by omega,by omega,h2⟩))
 clear p0 p1 p2 p3 hf3 hb3 hz3 hz
 obtain⟨r0,r1,r2,r3,rf⟩:=F3.out
 go_wp2_with fail
 clear r0 r1 r2 r3 rf
 refine bodyPost_ret (v:= .tuple #[.agg #[.int .i64 fk,.int .i64 fc,.slice ta tn tcap,.slice va vn vcap],X]) ?_ rfl ⟨_,rfl,RT.out.lies,RT.out.bel⟩
 obtain⟨_,_,e0,e1,e2,e3⟩:=RT.out
 simp[results,Tryz.results51,go_sem,e0,e1,e2,e3]
theorem nrm_k6 (c:Int)(a ka:Option Addr)(n cap kn kcap:Nat)(so:Bool)(g:FT)(m:Nat)(X:Value)(w:World)(HC:∀W,Below w.heap.size w W→Calls Tryz.prog 81 #[.agg #[.int .i64 6,.int .i64 c,.slice a n cap,.slice ka kn kcap],.bool so] W (Ans W.heap.size m g X W)):
 Calls Tryz.prog 51 #[.agg #[.int .i64 6,.int .i64 c,.slice a n cap,.slice ka kn kcap],.bool so] w (Ans w.heap.size m g X w):=by
 have HCH:=Lib.hid HC
 clear HC
 have ST:=Lib.hid (args_start w 6 c a ka n cap kn kcap)
 have SZ:Hid (w.heap.size+2=((w.alloc (.cells #[.int .i64 6,.int .i64 c,.slice a n cap,.slice ka kn kcap] 39)).alloc (.cells #[.int .i64 0,.int .i64 0,.slice none 0 0,.slice none 0 0] 39)).heap.size):=by show _=_;simp
 obtain⟨-,p0,p1,p2,p3, -⟩:=ST.out.1
 generalize hW:(w.alloc (.cells #[.int .i64 6,.int .i64 c,.slice a n cap,.slice ka kn kcap] 39)).alloc (.cells #[.int .i64 0,.int .i64 0,.slice none 0 0,.slice none 0 0] 39)=W0 at ST SZ p0 p1 p2 p3
 go_enter Tryz.func51,Tryz.ntmps51
 go_wp2_with fail
 clear hW
 refine(HCH.out _ ST.out.1.bel).mono ?_
 rintro e w3 ⟨cs3,rfl,hf3,hb3⟩
 have HF3:=Lib.hid hf3
 obtain⟨fk,fc,ta,tn,tcap,va,vn,vcap,rfl⟩:=hf3.form
 have hz3:=hb3.size
 have hz:=SZ.out
 have F3:=Lib.hid (ST.out.2.below hb3 (by omega))
 have RT:=Lib.hid (ret_set F3.out (ST.out.1.bel.trans (hb3.mono (by omega))) HF3.out (fun b ⟨h1,h2⟩=>⟨by omega,by omega,h2⟩))
 clear p0 p1 p2 p3 hf3 hb3 hz3 hz
 obtain⟨r0,r1,r2,r3,rf⟩:=F3.out
 go_wp2_with fail
 clear r0 r1 r2 r3 rf
 refine bodyPost_ret (v:= .tuple #[.agg #[.int .i64 fk,.int .i64 fc,.slice ta tn tcap,.slice va vn vcap],X]) ?_ rfl ⟨_,rfl,RT.out.lies,RT.out.bel⟩
 obtain⟨_,_,e0,e1,e2,e3⟩:=RT.out
 simp[results,Tryz.results51,go_sem,e0,e1,e2,e3]
theorem nrm_k0y (c:Int)(a ka:Option Addr)(n cap kn kcap:Nat)(w:World):
 Calls Tryz.prog 51 #[.agg #[.int .i64 0,.int .i64 c,.slice a n cap,.slice ka kn kcap],.bool true] w (Ans w.heap.size 2 (.mk 0 0 [] []) .nilIface w):=by
 have ST:=Lib.hid (args_start w 0 c a ka n cap kn kcap)
 obtain⟨-,p0,p1,p2,p3, -⟩:=ST.out.1
 obtain⟨r0,r1,r2,r3,rf⟩:=ST.out.2
 have RT:=Lib.hid (ret_set (m:=2) (f:= .mk 0 0 [] []) (S:=fun _=>False) ST.out.2 ST.out.1.bel flies_flat (fun b h=>h.elim))
 generalize hW:(w.alloc (.cells #[.int .i64 0,.int .i64 c,.slice a n cap,.slice ka kn kcap] 39)).alloc (.cells #[.int .i64 0,.int .i64 0,.slice none 0 0,.slice none 0 0] 39)=W0 at ST RT p0 p1 p2 p3 r0 r1 r2 r3 rf
 go_enter Tryz.func51,Tryz.ntmps51
 go_wp2_with fail
 clear hW r0 r1 r2 r3 rf p0 p1 p2 p3
 refine bodyPost_ret (v:= .tuple #[.agg #[.int .i64 0,.int .i64 0,.slice none 0 0,.slice none 0 0],.nilIface]) ?_ rfl ⟨_,rfl,RT.out.lies,RT.out.bel⟩
 obtain⟨_,_,e0,e1,e2,e3⟩:=RT.out
 simp[results,Tryz.results51,go_sem,e0,e1,e2,e3]
theorem nrm_k0n (a ka:Option Addr)(cap kcap:Nat)(w:World):
 Calls Tryz.prog 51 #[.agg #[.int .i64 0,.int .i64 0,.slice a 0 cap,.slice ka 0 kcap],.bool false] w (Ans w.heap.size 2 (.mk 1 0 [] []) .nilIface w):=by
 have HOP:=Lib.hid (fun W=>(opp_flat 0 (by omega) (fun _=>False) a ka cap kcap W).1)
 have ST:=Lib.hid (args_start w 0 0 a ka 0 cap 0 kcap)
 have SZ:Hid (w.heap.size+2=((w.alloc (.cells #[.int .i64 0,.int .i64 0,.slice a 0 cap,.slice ka 0 kcap] 39)).alloc (.cells #[.int .i64 0,.int .i64 0,.slice none 0 0,.slice none 0 0] 39)).heap.size):=by show _=_;simp
 obtain⟨-,p0,p1,p2,p3, -⟩:=ST.out.1
 generalize hW:(w.alloc (.cells #[.int .i64 0,.int .i64 0,.slice a 0 cap,.slice ka 0 kcap] 39)).alloc (.cells #[.int .i64 0,.int .i64 0,.slice none 0 0,.slice none 0 0] 39)=W0 at ST SZ p0 p1 p2 p3
 go_enter Tryz.func51,Tryz.ntmps51
 go_wp2_with fail
 clear hW
 refine(HOP.out _).mono ?_
 rintro e w3 ⟨cs3,rfl,hf3,hb3⟩
 have HF3:=Lib.hid hf3
 obtain⟨fk,fc,ta,tn,tcap,va,vn,vcap,rfl⟩:=hf3.form
 have hz3:=hb3.size
 have hz:=SZ.out
 have F3:=Lib.hid (ST.out.2.below hb3 (by omega))
 have RT:=Lib.hid (ret_set F3.out (ST.out.1.bel.trans (hb3.mono (by omega))) HF3.out (fun b hb=>by rcases hb with hb | ⟨h1,h2⟩;exact hb.elim;exact⟨by omega,by omega,h2⟩))
 clear p0 p1 p2 p3 hf3 hb3 hz3 hz
 obtain⟨r0,r1,r2,r3,rf⟩:=F3.out
 go_wp2_with fail
 clear r0 r1 r2 r3 rf
 refine bodyPost_ret (v:= .tuple #[.agg #[.int .i64 fk,.int .i64 fc,.slice ta tn tcap,.slice va vn vcap],.nilIface]) ?_ rfl ⟨_,rfl,RT.out.lies,RT.out.bel⟩
 obtain⟨_,_,e0,e1,e2,e3⟩:=RT.out
 simp[results,Tryz.results51,go_sem,e0,e1,e2,e3]
theorem nrm_k1y (c:Int)(a ka:Option Addr)(n cap kn kcap:Nat)(w:World):
 Calls Tryz.prog 51 #[.agg #[.int .i64 1,.int .i64 c,.slice a n cap,.slice ka kn kcap],.bool true] w (Ans w.heap.size 2 (.mk 1 0 [] []) .nilIface w):=by
 have ST:=Lib.hid (args_start w 1 c a ka n cap kn kcap)
 obtain⟨-,p0,p1,p2,p3, -⟩:=ST.out.1
 obtain⟨r0,r1,r2,r3,rf⟩:=ST.out.2
 have RT:=Lib.hid (ret_set (m:=2) (f:= .mk 1 0 [] []) (S:=fun _=>False) ST.out.2 ST.out.1.bel flies_flat (fun b h=>h.elim))
 generalize hW:(w.alloc (.cells #[.int .i64 1,.int .i64 c,.slice a n cap,.slice ka kn kcap] 39)).alloc (.cells #[.int .i64 0,.int .i64 0,.slice none 0 0,.slice none 0 0] 39)=W0 at ST RT p0 p1 p2 p3 r0 r1 r2 r3 rf
 go_enter Tryz.func51,Tryz.ntmps51
 go_wp2_with fail
 clear hW r0 r1 r2 r3 rf p0 p1 p2 p3
 refine bodyPost_ret (v:= .tuple #[.agg #[.int .i64 1,.int .i64 0,.slice none 0 0,.slice none 0 0],.nilIface]) ?_ rfl ⟨_,rfl,RT.out.lies,RT.out.bel⟩
 obtain⟨_,_,e0,e1,e2,e3⟩:=RT.out
 simp[results,Tryz.results51,go_sem,e0,e1,e2,e3]
theorem nrm_k1n (a ka:Option Addr)(cap kcap:Nat)(w:World):
 Calls Tryz.prog 51 #[.agg #[.int .i64 1,.int .i64 0,.slice a 0 cap,.slice ka 0 kcap],.bool false] w (Ans w.heap.size 2 (.mk 0 0 [] []) .nilIface w):=by
 have HOP:=Lib.hid (fun W=>(opp_flat 1 (by omega) (fun _=>False) a ka cap kcap W).1)
 have ST:=Lib.hid (args_start w 1 0 a ka 0 cap 0 kcap)
 have SZ:Hid (w.heap.size+2=((w.alloc (.cells #[.int .i64 1,.int .i64 0,.slice a 0 cap,.slice ka 0 kcap] 39)).alloc (.cells #[.int .i64 0,.int .i64 0,.slice none 0 0,.slice none 0 0] 39)).heap.size):=by show _=_;simp
 obtain⟨-,p0,p1,p2,p3, -⟩:=ST.out.1
 generalize hW:(w.alloc (.cells #[.int .i64 1,.int .i64 0,.slice a 0 cap,.slice ka 0 kcap] 39)).alloc (.cells #[.int .i64 0,.int .i64 0,.slice none 0 0,.slice none 0 0] 39)=W0 at ST SZ p0 p1 p2 p3
 go_enter Tryz.func51,Tryz.ntmps51
 go_wp2_with fail
 clear hW
 refine(HOP.out _).mono ?_
 rintro e w3 ⟨cs3,rfl,hf3,hb3⟩
 have HF3:=Lib.hid hf3
 obtain⟨fk,fc,ta,tn,tcap,va,vn,vcap,rfl⟩:=hf3.form
 have hz3:=hb3.size
 have hz:=SZ.out
 have F3:=Lib.hid (ST.out.2.below hb3 (by omega))
 have RT:=Lib.hid (ret_set F3.out (ST.out.1.bel.trans (hb3.mono (by omega))) HF3.out (fun b hb=>by rcases hb with hb | ⟨h1,h2⟩;exact hb.elim;exact⟨by omega,by omega,h2⟩))
 clear p0 p1 p2 p3 hf3 hb3 hz3 hz
 obtain⟨r0,r1,r2,r3,rf⟩:=F3.out
 go_wp2_with fail
 clear r0 r1 r2 r3 rf
 refine bodyPost_ret (v:= .tuple #[.agg #[.int .i64 fk,.int .i64 fc,.slice ta tn tcap,.slice va vn vcap],.nilIface]) ?_ rfl ⟨_,rfl,RT.out.lies,RT.out.bel⟩
 obtain⟨_,_,e0,e1,e2,e3⟩:=RT.out
 simp[results,Tryz.results51,go_sem,e0,e1,e2,e3]
end
section
open Go.RowKit
theorem snd_own {n:Nat}{f:FT}(h:sndF (n+1) f=true):ownF f=true∧∀i,i<f.ks.length→sndF n (f.ks.getD i default)=true:=by
 have h':(ownF f && decide (∀i,i<f.ks.length→sndF n (f.ks.getD i default)=true))=true:=h
 rw[Bool.and_eq_true,decide_eq_true_eq]at h'
 exact h'
theorem own_kinds {f:FT}(h:ownF f=true):
 ((f.kind=0∨f.kind=1)∧f.c=0∧f.t=[]∧f.ks=[])∨((f.kind=2∨f.kind=3)∧snd f.c f.t=true∧f.ks=[])∨(f.kind=4∧f.c=0∧f.t=[]∧f.ks.length=1)∨((f.kind=5∨f.kind=6)∧f.c=0∧f.t=[]):=by
 have hl:∀ {α:Type} (l:List α),((l.length:Int) == 0)=true→l=[]:=fun l h=>by
  have:(l.length:Int)=0:=by simpa using h
  exact List.eq_nil_of_length_eq_zero (by omega)
 unfold ownF ownV at h
 split at h
 ·rw[Bool.and_eq_true,Bool.and_eq_true]at h
  exact .inl ⟨by assumption,by simpa using h.1.1,hl _ h.1.2,hl _ h.2⟩
 ·split at h
  ·rw[Bool.and_eq_true]at h
   exact .inr (.inl ⟨by assumption,h.1,hl _ h.2⟩)
  ·split at h
   ·rw[Bool.and_eq_true,Bool.and_eq_true]at h
    refine .inr (.inr (.inl ⟨by assumption,by simpa using h.1.1,hl _ h.1.2, ?_⟩))
    have:(f.ks.length:Int)=1:=by simpa using h.2
    omega
   ·split at h
    ·rw[Bool.and_eq_true]at h
     exact .inr (.inr (.inr ⟨by assumption,by simpa using h.1,hl _ h.2⟩))
    ·cases h
theorem normF_0 {n:Nat}{f:FT}{so:Bool}(h:f.kind=0):normF (n+1) f so=some (if so then .mk 0 0 [] [] else .mk 1 0 [] []):=by
 show(if f.kind=0∨f.kind=1 then _ else _)=_
 rw[if_pos (.inl h),h]
 rfl
theorem normF_1 {n:Nat}{f:FT}{so:Bool}(h:f.kind=1):normF (n+1) f so=some (if so then .mk 1 0 [] [] else .mk 0 0 [] []):=by
 show(if f.kind=0∨f.kind=1 then _ else _)=_
 rw[if_pos (.inr h),h]
 rfl
theorem normF_2 {n:Nat}{f:FT}{so:Bool}(h:f.kind=2):normF (n+1) f so=if litK f.c f.t=0 then some (if so then litT f.c f.t else oppF (litT f.c f.t)) else none:=by
 show(if f.kind=0∨f.kind=1 then _ else if f.kind=2 then _ else _)=_
 rw[if_neg (by omega),if_pos h]
theorem normF_3 {n:Nat}{f:FT}{so:Bool}(h:f.kind=3):normF (n+1) f so=bothT f so:=by
 show(if f.kind=0∨f.kind=1 then _ else if f.kind=2 then _ else if f.kind=3 then _ else _)=_
 rw[if_neg (by omega),if_neg (by omega),if_pos h]
theorem normF_4 {n:Nat}{f:FT}{so:Bool}(h:f.kind=4):normF (n+1) f so=normF n (f.ks.getD 0 default) (!so):=by
 show(if f.kind=0∨f.kind=1 then _ else if f.kind=2 then _ else if f.kind=3 then _ else if f.kind=4 then _ else _)=_
 rw[if_neg (by omega),if_neg (by omega),if_neg (by omega),if_pos h]
theorem normF_56 {n:Nat}{f:FT}{so:Bool}(h:f.kind=5∨f.kind=6):normF (n+1) f so=if(f.ks.all fun k=>(normF n k so).isSome)=true then some (kidsT n f so) else none:=by
 show(if f.kind=0∨f.kind=1 then _ else if f.kind=2 then _ else if f.kind=3 then _ else if f.kind=4 then _ else _)=_
 rw[if_neg (by omega),if_neg (by omega),if_neg (by omega),if_neg (by omega)]
 rfl
theorem bothT_ok {f:FT}{so:Bool}(h1:litK f.c f.t=0)(h2:litK (-f.c) (scale (-1) f.t)=0):bothT f so=some (.mk (if so=true then 5 else 11 - 5) 0 [] [if so then litT f.c f.t else oppF (litT f.c f.t),if so then litT (-f.c) (scale (-1) f.t) else oppF (litT (-f.c) (scale (-1) f.t))]):=by
 unfold bothT
 rw[if_pos h1,if_pos h2]
 cases so<;>rfl
theorem bothT_far1 {f:FT}{so:Bool}(h1:litK f.c f.t=3):bothT f so=none:=by
 unfold bothT
 rw[if_neg (by rw[h1];decide)]
theorem bothT_far2 {f:FT}{so:Bool}(h2:litK (-f.c) (scale (-1) f.t)=3):bothT f so=none:=by
 unfold bothT
 rw[if_neg (show ¬litK (-f.c) (scale (-1) f.t)=0 by rw[h2];decide)]
 exact ite_self _
theorem nrm_any:∀n,NI n
 | 0=>fun f so cs W h _ _=>by cases h
 | n+1=>by
   have IH:=nrm_any n
   intro f so cs W hs hlit h
   obtain⟨hown,hks⟩:=snd_own hs
   obtain⟨ta,tcap,ka,kcap,rfl,hlt,ht,hk,hkk⟩:=id h
   rcases own_kinds hown with ⟨hk01,hc,htn,hkn⟩ | ⟨hk23,hsn,hkn⟩ | ⟨hk4,hc,htn,hk1⟩ | ⟨hk56,hc,htn⟩
   ·rcases hk01 with e | e
    ·rw[normF_0 e,e,hc,htn,hkn]
     cases so
     ·exact(nrm_k0n ta ka tcap kcap W).mono fun _ _ h=>h.up (by omega)
     ·exact(nrm_k0y 0 ta ka 0 tcap 0 kcap W).mono fun _ _ h=>h.up (by omega)
    ·rw[normF_1 e,e,hc,htn,hkn]
     cases so
     ·exact(nrm_k1n ta ka tcap kcap W).mono fun _ _ h=>h.up (by omega)
     ·exact(nrm_k1y 0 ta ka 0 tcap 0 kcap W).mono fun _ _ h=>h.up (by omega)
   ·have h64:=(snd_iff.1 hsn).2.1
    rcases hk23 with e | e
    ·rw[normF_2 e,e]
     rcases litK_sound hsn with hk0 | hk3
     ·rw[if_pos hk0]
      exact(nrm_k2 f.c ta ka f.t.length tcap f.ks.length kcap so _ 2 .nilIface W (fun V hb=>nliteral_ok f.c ta f.t.length tcap f.t V rfl ht ((hlt.below hb).mono hb.size) hk0 so)).mono fun _ _ h=>h.up (by omega)
     ·rw[if_neg (by rw[hk3];decide)]
      exact(nrm_k2 f.c ta ka f.t.length tcap f.ks.length kcap so _ 2 _ W (fun V hb=>nliteral_far f.c ta f.t.length tcap f.t V rfl ht ((hlt.below hb).mono hb.size) hk3 so)).mono fun _ _ h=>h.up (by omega)
    ·rw[normF_3 e,e]
     rcases litK_sound hsn with hk0 | hk3
     ·rcases litK_sound (snd_neg hsn)with hj0 | hj3
      ·rw[bothT_ok hk0 hj0]
       exact(nrm_k3 f.c ta ka f.t.length tcap f.ks.length kcap so _ 3 .nilIface W (fun V hb=>both_ok f.c ta f.t.length tcap f.t V rfl ((hlt.below hb).mono hb.size) hsn hk0 hj0 so)).mono fun _ _ h=>h.up (by omega)
      ·rw[bothT_far2 hj3]
       exact(nrm_k3 f.c ta ka f.t.length tcap f.ks.length kcap so _ 2 _ W (fun V hb=>both_far2 f.c ta f.t.length tcap f.t V rfl ((hlt.below hb).mono hb.size) hsn hk0 hj3 so)).mono fun _ _ h=>h.up (by omega)
     ·rw[bothT_far1 hk3]
      exact(nrm_k3 f.c ta ka f.t.length tcap f.ks.length kcap so _ 2 _ W (fun V hb=>both_far1 f.c ta f.t.length tcap f.t V rfl ((hlt.below hb).mono hb.size) hsn hk3 so)).mono fun _ _ h=>h.up (by omega)
   ·obtain⟨b,off,c0,c1,c2,c3,rfl,hblt,g0,g1,g2,g3,hf⟩:=hkk 0 (by omega)
    obtain⟨ck,cc,cta,ctn,ctcap,cka,ckn,ckcap,rfl,rfl,rfl,rfl⟩:=hf.form
    simp only[Nat.zero_mul,Nat.add_zero]at g0 g1 g2 g3
    rw[normF_4 hk4,hk4,hk1]
    exact(nrm_k4 f.c ta f.t.length tcap kcap b off so _ (n+2) _ W hblt ck cc cta ctn ctcap cka ckn ckcap g0 g1 g2 g3 (fun V hb=>IH _ (!so) _ V (hks 0 (by omega)) (hlit.2.2 0 (by omega)) ((hf.below hb).mono hb.size))).mono fun _ _ h=>h.up (by omega)
   ·have hC:=fun V (hb:Below W.heap.size W V)=>nkids_any n IH f so _ V (by omega) hks hlit ((h.below hb).mono hb.size)
    rw[normF_56 hk56]
    rcases hk56 with e | e
    ·simp only[e]at hC
     rw[e]
     exact nrm_k5 f.c ta ka f.t.length tcap f.ks.length kcap so _ (n+3) _ W hC
    ·simp only[e]at hC
     rw[e]
     exact nrm_k6 f.c ta ka f.t.length tcap f.ks.length kcap so _ (n+3) _ W hC
end
section
open Go.RowKit
theorem flies_empty {S:Nat→Prop}{w:World}{k:Int}{a ka:Option Addr}{cap kcap:Nat}:FLiesQ S w 2 (.mk k 0 [] []) [.int .i64 k,.int .i64 0,.slice a 0 cap,.slice ka 0 kcap]:=
 ⟨a,cap,ka,kcap,rfl,fun i hi=>absurd hi (Nat.not_lt_zero i),by simp[FT.t],by simp[FT.ks],fun i hi=>absurd hi (by simp[FT.ks])⟩
theorem fb_four {W:World}{N M:Nat}(h:FB W N)(hne:N≠M)(x0 x1 x2 x3:Value):FB ((((W.setCell ⟨M,0,none⟩ x0).setCell ⟨M,1,none⟩ x1).setCell ⟨M,2,none⟩ x2).setCell ⟨M,3,none⟩ x3) N:=by
 obtain⟨r0,r1,r2,r3,rf⟩:=h
 exact⟨(set4_far W M x0 x1 x2 x3 N _ hne).trans r0,(set4_far W M x0 x1 x2 x3 N _ hne).trans r1,(set4_far W M x0 x1 x2 x3 N _ hne).trans r2,(set4_far W M x0 x1 x2 x3 N _ hne).trans r3,fun o=>(set4_frozen W M x0 x1 x2 x3 _).trans (rf o)⟩
theorem rn_k0y (a ka:Option Addr)(cap kcap:Nat)(w:World):
 Calls Tryz.prog 61 #[.agg #[.int .i64 0,.int .i64 0,.slice a 0 cap,.slice ka 0 kcap],.bool false] w (Ans w.heap.size 2 (.mk 0 0 [] []) (.bool true) w):=by
 have SZ:Hid (w.heap.size+2=((w.alloc (.cells #[.int .i64 0,.int .i64 0,.slice a 0 cap,.slice ka 0 kcap] 39)).alloc (.cells #[.int .i64 0,.int .i64 0,.slice none 0 0,.slice none 0 0] 39)).heap.size):=by show _=_;simp
 have ST:=Lib.hid (args_start w 0 0 a ka 0 cap 0 kcap)
 obtain⟨-,p0,p1,p2,p3, -⟩:=ST.out.1
 obtain⟨r0,r1,r2,r3,rf⟩:=ST.out.2
 have RT:=Lib.hid (ret_set (m:=2) (f:= .mk 0 0 [] []) (x2:= .slice a 0 cap) (x3:= .slice ka 0 kcap) (S:=fun _=>False) ST.out.2 ST.out.1.bel flies_empty (fun b h=>h.elim))
 generalize hW:(w.alloc (.cells #[.int .i64 0,.int .i64 0,.slice a 0 cap,.slice ka 0 kcap] 39)).alloc (.cells #[.int .i64 0,.int .i64 0,.slice none 0 0,.slice none 0 0] 39)=W0 at ST SZ p0 p1 p2 p3 RT r0 r1 r2 r3 rf
 go_enter Tryz.func61,Tryz.ntmps61
 go_wp2_with fail
 clear hW
 clear r0 r1 r2 r3 rf p0 p1 p2 p3
 refine bodyPost_ret (v:= .tuple #[.agg #[.int .i64 0,.int .i64 0,.slice a 0 cap,.slice ka 0 kcap],.bool true]) ?_ rfl ⟨_,rfl,RT.out.lies,RT.out.bel⟩
 obtain⟨_,_,e0,e1,e2,e3⟩:=RT.out
 simp[results,Tryz.results61,go_sem,e0,e1,e2,e3]
theorem rn_k0n (a ka:Option Addr)(cap kcap:Nat)(w:World):
 Calls Tryz.prog 61 #[.agg #[.int .i64 0,.int .i64 0,.slice a 0 cap,.slice ka 0 kcap],.bool true] w (Ans w.heap.size 2 (.mk 1 0 [] []) (.bool true) w):=by
 have HOP:=Lib.hid (fun W=>(opp_flat 0 (by omega) (fun _=>False) a ka cap kcap W).2)
 have SZ:Hid (w.heap.size+2=((w.alloc (.cells #[.int .i64 0,.int .i64 0,.slice a 0 cap,.slice ka 0 kcap] 39)).alloc (.cells #[.int .i64 0,.int .i64 0,.slice none 0 0,.slice none 0 0] 39)).heap.size):=by show _=_;simp
 have ST:=Lib.hid (args_start w 0 0 a ka 0 cap 0 kcap)
 obtain⟨-,p0,p1,p2,p3, -⟩:=ST.out.1
 generalize hW:(w.alloc (.cells #[.int .i64 0,.int .i64 0,.slice a 0 cap,.slice ka 0 kcap] 39)).alloc (.cells #[.int .i64 0,.int .i64 0,.slice none 0 0,.slice none 0 0] 39)=W0 at ST SZ p0 p1 p2 p3
 go_enter Tryz.func61,Tryz.ntmps61
 go_wp2_with fail
 clear hW
 refine(HOP.out _).mono ?_
 rintro e w3 ⟨cs3,rfl,hf3,hb3⟩
 have HF3:=Lib.hid hf3
 obtain⟨dk,dc,ta,tn,tcap,va,vn,vcap,rfl⟩:=hf3.form
 have hz3:=hb3.size
 have hz:=SZ.out
 have F3:=Lib.hid (ST.out.2.below hb3 (by omega))
 have RT:=Lib.hid (ret_set F3.out (ST.out.1.bel.trans (hb3.mono (by omega))) HF3.out (fun b hb=>by rcases hb with hb | ⟨h1,h2⟩;exact hb.elim;exact⟨by omega,by omega,h2⟩))
 clear p0 p1 p2 p3 hf3 hb3 hz3 hz
 obtain⟨r0,r1,r2,r3,rf⟩:=F3.out
 go_wp2_with fail
 clear r0 r1 r2 r3 rf
 refine bodyPost_ret (v:= .tuple #[.agg #[.int .i64 dk,.int .i64 dc,.slice ta tn tcap,.slice va vn vcap],.bool true]) ?_ rfl ⟨_,rfl,RT.out.lies,RT.out.bel⟩
 obtain⟨_,_,e0,e1,e2,e3⟩:=RT.out
 simp[results,Tryz.results61,go_sem,e0,e1,e2,e3]
theorem rn_k1y (a ka:Option Addr)(cap kcap:Nat)(w:World):
 Calls Tryz.prog 61 #[.agg #[.int .i64 1,.int .i64 0,.slice a 0 cap,.slice ka 0 kcap],.bool false] w (Ans w.heap.size 2 (.mk 1 0 [] []) (.bool true) w):=by
 have SZ:Hid (w.heap.size+2=((w.alloc (.cells #[.int .i64 1,.int .i64 0,.slice a 0 cap,.slice ka 0 kcap] 39)).alloc (.cells #[.int .i64 0,.int .i64 0,.slice none 0 0,.slice none 0 0] 39)).heap.size):=by show _=_;simp
 have ST:=Lib.hid (args_start w 1 0 a ka 0 cap 0 kcap)
 obtain⟨-,p0,p1,p2,p3, -⟩:=ST.out.1
 obtain⟨r0,r1,r2,r3,rf⟩:=ST.out.2
 have RT:=Lib.hid (ret_set (m:=2) (f:= .mk 1 0 [] []) (x2:= .slice a 0 cap) (x3:= .slice ka 0 kcap) (S:=fun _=>False) ST.out.2 ST.out.1.bel flies_empty (fun b h=>h.elim))
 generalize hW:(w.alloc (.cells #[.int .i64 1,.int .i64 0,.slice a 0 cap,.slice ka 0 kcap] 39)).alloc (.cells #[.int .i64 0,.int .i64 0,.slice none 0 0,.slice none 0 0] 39)=W0 at ST SZ p0 p1 p2 p3 RT r0 r1 r2 r3 rf
 go_enter Tryz.func61,Tryz.ntmps61
 go_wp2_with fail
 clear hW
 clear r0 r1 r2 r3 rf p0 p1 p2 p3
 refine bodyPost_ret (v:= .tuple #[.agg #[.int .i64 1,.int .i64 0,.slice a 0 cap,.slice ka 0 kcap],.bool true]) ?_ rfl ⟨_,rfl,RT.out.lies,RT.out.bel⟩
 obtain⟨_,_,e0,e1,e2,e3⟩:=RT.out
 simp[results,Tryz.results61,go_sem,e0,e1,e2,e3]
theorem rn_k1n (a ka:Option Addr)(cap kcap:Nat)(w:World):
 Calls Tryz.prog 61 #[.agg #[.int .i64 1,.int .i64 0,.slice a 0 cap,.slice ka 0 kcap],.bool true] w (Ans w.heap.size 2 (.mk 0 0 [] []) (.bool true) w):=by
 have HOP:=Lib.hid (fun W=>(opp_flat 1 (by omega) (fun _=>False) a ka cap kcap W).2)
 have SZ:Hid (w.heap.size+2=((w.alloc (.cells #[.int .i64 1,.int .i64 0,.slice a 0 cap,.slice ka 0 kcap] 39)).alloc (.cells #[.int .i64 0,.int .i64 0,.slice none 0 0,.slice none 0 0] 39)).heap.size):=by show _=_;simp
 have ST:=Lib.hid (args_start w 1 0 a ka 0 cap 0 kcap)
 obtain⟨-,p0,p1,p2,p3, -⟩:=ST.out.1
 generalize hW:(w.alloc (.cells #[.int .i64 1,.int .i64 0,.slice a 0 cap,.slice ka 0 kcap] 39)).alloc (.cells #[.int .i64 0,.int .i64 0,.slice none 0 0,.slice none 0 0] 39)=W0 at ST SZ p0 p1 p2 p3
 go_enter Tryz.func61,Tryz.ntmps61
 go_wp2_with fail
 clear hW
 refine(HOP.out _).mono ?_
 rintro e w3 ⟨cs3,rfl,hf3,hb3⟩
 have HF3:=Lib.hid hf3
 obtain⟨dk,dc,ta,tn,tcap,va,vn,vcap,rfl⟩:=hf3.form
 have hz3:=hb3.size
 have hz:=SZ.out
 have F3:=Lib.hid (ST.out.2.below hb3 (by omega))
 have RT:=Lib.hid (ret_set F3.out (ST.out.1.bel.trans (hb3.mono (by omega))) HF3.out (fun b hb=>by rcases hb with hb | ⟨h1,h2⟩;exact hb.elim;exact⟨by omega,by omega,h2⟩))
 clear p0 p1 p2 p3 hf3 hb3 hz3 hz
 obtain⟨r0,r1,r2,r3,rf⟩:=F3.out
 go_wp2_with fail
 clear r0 r1 r2 r3 rf
 refine bodyPost_ret (v:= .tuple #[.agg #[.int .i64 dk,.int .i64 dc,.slice ta tn tcap,.slice va vn vcap],.bool true]) ?_ rfl ⟨_,rfl,RT.out.lies,RT.out.bel⟩
 obtain⟨_,_,e0,e1,e2,e3⟩:=RT.out
 simp[results,Tryz.results61,go_sem,e0,e1,e2,e3]
theorem rn_k4 (c:Int)(a:Option Addr)(n cap kcap b off:Nat)(nt:Bool)(g:FT)(m:Nat)(x:Bool)(w:World)(hb:b<w.heap.size)(ck cc:Int)(ca:Option Addr)(cn ccap:Nat)(da:Option Addr)(dn dcap:Nat)
 (g0:w.cell? ⟨b,off,none⟩=some (.int .i64 ck)) (g1:w.cell? ⟨b,off+1,none⟩=some (.int .i64 cc)) (g2:w.cell? ⟨b,off+2,none⟩=some (.slice ca cn ccap)) (g3:w.cell? ⟨b,off+3,none⟩=some (.slice da dn dcap))
 (HC:∀W,Below w.heap.size w W→Calls Tryz.prog 61 #[.agg #[.int .i64 ck,.int .i64 cc,.slice ca cn ccap,.slice da dn dcap],.bool (!nt)] W (Ans W.heap.size m g (.bool x) W)):
 Calls Tryz.prog 61 #[.agg #[.int .i64 4,.int .i64 c,.slice a n cap,.slice (some ⟨b,off,none⟩) 1 kcap],.bool nt] w (Ans w.heap.size m g (.bool x) w):=by
 have HCH:=Lib.hid HC
 clear HC
 have SZ:Hid (w.heap.size+2=((w.alloc (.cells #[.int .i64 4,.int .i64 c,.slice a n cap,.slice (some ⟨b,off,none⟩) 1 kcap] 39)).alloc (.cells #[.int .i64 0,.int .i64 0,.slice none 0 0,.slice none 0 0] 39)).heap.size):=by show _=_;simp
 have ST:=Lib.hid (args_start w 4 c a (some ⟨b,off,none⟩) n cap 1 kcap)
 obtain⟨-,p0,p1,p2,p3, -⟩:=ST.out.1
 rw[←ST.out.1.bel.cell (p:=⟨b,_,none⟩) hb]at g0 g1 g2 g3
 generalize hW:(w.alloc (.cells #[.int .i64 4,.int .i64 c,.slice a n cap,.slice (some ⟨b,off,none⟩) 1 kcap] 39)).alloc (.cells #[.int .i64 0,.int .i64 0,.slice none 0 0,.slice none 0 0] 39)=W0 at ST SZ p0 p1 p2 p3 g0 g1 g2 g3
 go_enter Tryz.func61,Tryz.ntmps61
 go_wp2_with fail
 clear hW
 refine(HCH.out _ ST.out.1.bel).mono ?_
 rintro e w3 ⟨cs3,rfl,hf3,hb3⟩
 have HF3:=Lib.hid hf3
 obtain⟨dk,dc',ta,tn,tcap,va,vn,vcap,rfl⟩:=hf3.form
 have hz3:=hb3.size
 have hz:=SZ.out
 have F3:=Lib.hid (ST.out.2.below hb3 (by omega))
 have RT:=Lib.hid (ret_set F3.out (ST.out.1.bel.trans (hb3.mono (by omega))) HF3.out (fun b ⟨h1,h2⟩=>⟨by omega,by omega,h2⟩))
 clear p0 p1 p2 p3 hf3 hb3 hz3 hz g0 g1 g2 g3
 obtain⟨r0,r1,r2,r3,rf⟩:=F3.out
 go_wp2_with fail
 clear r0 r1 r2 r3 rf
 refine bodyPost_ret (v:= .tuple #[.agg #[.int .i64 dk,.int .i64 dc',.slice ta tn tcap,.slice va vn vcap],.bool x]) ?_ rfl ⟨_,rfl,RT.out.lies,RT.out.bel⟩
 obtain⟨_,_,e0,e1,e2,e3⟩:=RT.out
 simp[results,Tryz.results61,go_sem,e0,e1,e2,e3]
theorem rn_k2_0f (c:Int)(a ka:Option Addr)(n cap kn kcap:Nat)(g:FT)(w:World)
 (HC:∀W,Below w.heap.size w W→Calls Tryz.prog 96 #[.agg #[.int .i64 c,.slice a n cap]] W (Ans W.heap.size 2 g (.int .i64 0) W)):
 Calls Tryz.prog 61 #[.agg #[.int .i64 2,.int .i64 c,.slice a n cap,.slice ka kn kcap],.bool false] w (Ans w.heap.size 2 g (.bool true) w):=by
 have HCH:=Lib.hid HC
 clear HC
 have SZ:Hid (w.heap.size+2=((w.alloc (.cells #[.int .i64 2,.int .i64 c,.slice a n cap,.slice ka kn kcap] 39)).alloc (.cells #[.int .i64 0,.int .i64 0,.slice none 0 0,.slice none 0 0] 39)).heap.size):=by show _=_;simp
 have ST:=Lib.hid (args_start w 2 c a ka n cap kn kcap)
 obtain⟨-,p0,p1,p2,p3, -⟩:=ST.out.1
 generalize hW:(w.alloc (.cells #[.int .i64 2,.int .i64 c,.slice a n cap,.slice ka kn kcap] 39)).alloc (.cells #[.int .i64 0,.int .i64 0,.slice none 0 0,.slice none 0 0] 39)=W0 at ST SZ p0 p1 p2 p3
 go_enter Tryz.func61,Tryz.ntmps61
 go_wp2_with fail
 clear hW
 refine(HCH.out _ ST.out.1.bel).mono ?_
 rintro e w3 ⟨cs3,rfl,hf3,hb3⟩
 have HF3:=Lib.hid hf3
 obtain⟨dk,dc,ta,tn,tcap,va,vn,vcap,rfl⟩:=hf3.form
 have hz3:=hb3.size
 have hz:=SZ.out
 have hba:Below w3.heap.size w3 (w3.alloc (.cells #[.int .i64 dk,.int .i64 dc,.slice ta tn tcap,.slice va vn vcap] 39)):=(Below.refl _ _).alloc (Nat.le_refl _) _
 have hza:=hba.size
 have B4:=Lib.hid ((ST.out.1.bel.trans (hb3.mono (by omega))).trans (hba.mono (by omega)))
 have F4:=Lib.hid ((ST.out.2.below hb3 (by omega)).below hba (by omega))
 have HF4:Hid (FLiesQ (fun b=>W0.heap.size≤b∧b<w3.heap.size) (w3.alloc (.cells #[.int .i64 dk,.int .i64 dc,.slice ta tn tcap,.slice va vn vcap] 39)) 2 g [.int .i64 dk,.int .i64 dc,.slice ta tn tcap,.slice va vn vcap]):=HF3.out.keep (fun _ h=>h) (fun b o ⟨h1,h2⟩=>hba.cell (p:=⟨b,o,none⟩) h2)
 have hn4:=heap_alloc_new w3 (.cells #[.int .i64 dk,.int .i64 dc,.slice ta tn tcap,.slice va vn vcap] 39)
 obtain⟨t0,t1,t2,t3⟩:=form_cells hn4
 have RT:=Lib.hid (ret_set F4.out B4.out HF4.out (fun b ⟨h1,h2⟩=>⟨by omega,by omega,by omega⟩))
 clear p0 p1 p2 p3 hf3 hb3 hba hn4 hz3 hz hza
 obtain⟨r0,r1,r2,r3,rf⟩:=F4.out
 go_wp2_with fail
 clear r0 r1 r2 r3 rf t0 t1 t2 t3
 refine bodyPost_ret (v:= .tuple #[.agg #[.int .i64 dk,.int .i64 dc,.slice ta tn tcap,.slice va vn vcap],.bool true]) ?_ rfl ⟨_,rfl,RT.out.lies,RT.out.bel⟩
 obtain⟨_,_,e0,e1,e2,e3⟩:=RT.out
 simp[results,Tryz.results61,go_sem,e0,e1,e2,e3]
theorem rn_k2_3f (c:Int)(a ka:Option Addr)(n cap kn kcap:Nat)(g:FT)(w:World)
 (HC:∀W,Below w.heap.size w W→Calls Tryz.prog 96 #[.agg #[.int .i64 c,.slice a n cap]] W (Ans W.heap.size 2 g (.int .i64 3) W)):
 Calls Tryz.prog 61 #[.agg #[.int .i64 2,.int .i64 c,.slice a n cap,.slice ka kn kcap],.bool false] w (Ans w.heap.size 2 g (.bool false) w):=by
 have HCH:=Lib.hid HC
 clear HC
 have SZ:Hid (w.heap.size+2=((w.alloc (.cells #[.int .i64 2,.int .i64 c,.slice a n cap,.slice ka kn kcap] 39)).alloc (.cells #[.int .i64 0,.int .i64 0,.slice none 0 0,.slice none 0 0] 39)).heap.size):=by show _=_;simp
 have ST:=Lib.hid (args_start w 2 c a ka n cap kn kcap)
 obtain⟨-,p0,p1,p2,p3, -⟩:=ST.out.1
 generalize hW:(w.alloc (.cells #[.int .i64 2,.int .i64 c,.slice a n cap,.slice ka kn kcap] 39)).alloc (.cells #[.int .i64 0,.int .i64 0,.slice none 0 0,.slice none 0 0] 39)=W0 at ST SZ p0 p1 p2 p3
 go_enter Tryz.func61,Tryz.ntmps61
 go_wp2_with fail
 clear hW
 refine(HCH.out _ ST.out.1.bel).mono ?_
 rintro e w3 ⟨cs3,rfl,hf3,hb3⟩
 have HF3:=Lib.hid hf3
 obtain⟨dk,dc,ta,tn,tcap,va,vn,vcap,rfl⟩:=hf3.form
 have hz3:=hb3.size
 have hz:=SZ.out
 have hba:Below w3.heap.size w3 (w3.alloc (.cells #[.int .i64 dk,.int .i64 dc,.slice ta tn tcap,.slice va vn vcap] 39)):=(Below.refl _ _).alloc (Nat.le_refl _) _
 have hza:=hba.size
 have B4:=Lib.hid ((ST.out.1.bel.trans (hb3.mono (by omega))).trans (hba.mono (by omega)))
 have F4:=Lib.hid ((ST.out.2.below hb3 (by omega)).below hba (by omega))
 have HF4:Hid (FLiesQ (fun b=>W0.heap.size≤b∧b<w3.heap.size) (w3.alloc (.cells #[.int .i64 dk,.int .i64 dc,.slice ta tn tcap,.slice va vn vcap] 39)) 2 g [.int .i64 dk,.int .i64 dc,.slice ta tn tcap,.slice va vn vcap]):=HF3.out.keep (fun _ h=>h) (fun b o ⟨h1,h2⟩=>hba.cell (p:=⟨b,o,none⟩) h2)
 have hn4:=heap_alloc_new w3 (.cells #[.int .i64 dk,.int .i64 dc,.slice ta tn tcap,.slice va vn vcap] 39)
 obtain⟨t0,t1,t2,t3⟩:=form_cells hn4
 have RT:=Lib.hid (ret_set F4.out B4.out HF4.out (fun b ⟨h1,h2⟩=>⟨by omega,by omega,by omega⟩))
 clear p0 p1 p2 p3 hf3 hb3 hba hn4 hz3 hz hza
 obtain⟨r0,r1,r2,r3,rf⟩:=F4.out
 go_wp2_with fail
 clear r0 r1 r2 r3 rf t0 t1 t2 t3
 refine bodyPost_ret (v:= .tuple #[.agg #[.int .i64 dk,.int .i64 dc,.slice ta tn tcap,.slice va vn vcap],.bool false]) ?_ rfl ⟨_,rfl,RT.out.lies,RT.out.bel⟩
 obtain⟨_,_,e0,e1,e2,e3⟩:=RT.out
 simp[results,Tryz.results61,go_sem,e0,e1,e2,e3]
theorem rn_k2_3t (c:Int)(a ka:Option Addr)(n cap kn kcap:Nat)(g:FT)(w:World)
 (HC:∀W,Below w.heap.size w W→Calls Tryz.prog 96 #[.agg #[.int .i64 c,.slice a n cap]] W (Ans W.heap.size 2 g (.int .i64 3) W)):
 Calls Tryz.prog 61 #[.agg #[.int .i64 2,.int .i64 c,.slice a n cap,.slice ka kn kcap],.bool true] w (Ans w.heap.size 2 g (.bool false) w):=by
 have HCH:=Lib.hid HC
 clear HC
 have SZ:Hid (w.heap.size+2=((w.alloc (.cells #[.int .i64 2,.int .i64 c,.slice a n cap,.slice ka kn kcap] 39)).alloc (.cells #[.int .i64 0,.int .i64 0,.slice none 0 0,.slice none 0 0] 39)).heap.size):=by show _=_;simp
 have ST:=Lib.hid (args_start w 2 c a ka n cap kn kcap)
 obtain⟨-,p0,p1,p2,p3, -⟩:=ST.out.1
 generalize hW:(w.alloc (.cells #[.int .i64 2,.int .i64 c,.slice a n cap,.slice ka kn kcap] 39)).alloc (.cells #[.int .i64 0,.int .i64 0,.slice none 0 0,.slice none 0 0] 39)=W0 at ST SZ p0 p1 p2 p3
 go_enter Tryz.func61,Tryz.ntmps61
 go_wp2_with fail
 clear hW
 refine(HCH.out _ ST.out.1.bel).mono ?_
 rintro e w3 ⟨cs3,rfl,hf3,hb3⟩
 have HF3:=Lib.hid hf3
 obtain⟨dk,dc,ta,tn,tcap,va,vn,vcap,rfl⟩:=hf3.form
 have hz3:=hb3.size
 have hz:=SZ.out
 have hba:Below w3.heap.size w3 (w3.alloc (.cells #[.int .i64 dk,.int .i64 dc,.slice ta tn tcap,.slice va vn vcap] 39)):=(Below.refl _ _).alloc (Nat.le_refl _) _
 have hza:=hba.size
 have B4:=Lib.hid ((ST.out.1.bel.trans (hb3.mono (by omega))).trans (hba.mono (by omega)))
 have F4:=Lib.hid ((ST.out.2.below hb3 (by omega)).below hba (by omega))
 have HF4:Hid (FLiesQ (fun b=>W0.heap.size≤b∧b<w3.heap.size) (w3.alloc (.cells #[.int .i64 dk,.int .i64 dc,.slice ta tn tcap,.slice va vn vcap] 39)) 2 g [.int .i64 dk,.int .i64 dc,.slice ta tn tcap,.slice va vn vcap]):=HF3.out.keep (fun _ h=>h) (fun b o ⟨h1,h2⟩=>hba.cell (p:=⟨b,o,none⟩) h2)
 have hn4:=heap_alloc_new w3 (.cells #[.int .i64 dk,.int .i64 dc,.slice ta tn tcap,.slice va vn vcap] 39)
 obtain⟨t0,t1,t2,t3⟩:=form_cells hn4
 have RT:=Lib.hid (ret_set F4.out B4.out HF4.out (fun b ⟨h1,h2⟩=>⟨by omega,by omega,by omega⟩))
 clear p0 p1 p2 p3 hf3 hb3 hba hn4 hz3 hz hza
 obtain⟨r0,r1,r2,r3,rf⟩:=F4.out
 go_wp2_with fail
 clear r0 r1 r2 r3 rf t0 t1 t2 t3
 refine bodyPost_ret (v:= .tuple #[.agg #[.int .i64 dk,.int .i64 dc,.slice ta tn tcap,.slice va vn vcap],.bool false]) ?_ rfl ⟨_,rfl,RT.out.lies,RT.out.bel⟩
 obtain⟨_,_,e0,e1,e2,e3⟩:=RT.out
 simp[results,Tryz.results61,go_sem,e0,e1,e2,e3]
theorem rn_k2_0t (c:Int)(a ka:Option Addr)(n cap kn kcap:Nat)(g:FT)(hg:IsLit g)(w:World)
 (HC:∀W,Below w.heap.size w W→Calls Tryz.prog 96 #[.agg #[.int .i64 c,.slice a n cap]] W (Ans W.heap.size 2 g (.int .i64 0) W)):
 Calls Tryz.prog 61 #[.agg #[.int .i64 2,.int .i64 c,.slice a n cap,.slice ka kn kcap],.bool true] w (Ans w.heap.size 2 (oppF g) (.bool true) w):=by
 have HCH:=Lib.hid HC
 clear HC
 have SZ:Hid (w.heap.size+2=((w.alloc (.cells #[.int .i64 2,.int .i64 c,.slice a n cap,.slice ka kn kcap] 39)).alloc (.cells #[.int .i64 0,.int .i64 0,.slice none 0 0,.slice none 0 0] 39)).heap.size):=by show _=_;simp
 have ST:=Lib.hid (args_start w 2 c a ka n cap kn kcap)
 obtain⟨-,p0,p1,p2,p3, -⟩:=ST.out.1
 generalize hW:(w.alloc (.cells #[.int .i64 2,.int .i64 c,.slice a n cap,.slice ka kn kcap] 39)).alloc (.cells #[.int .i64 0,.int .i64 0,.slice none 0 0,.slice none 0 0] 39)=W0 at ST SZ p0 p1 p2 p3
 go_enter Tryz.func61,Tryz.ntmps61
 go_wp2_with fail
 clear hW
 refine(HCH.out _ ST.out.1.bel).mono ?_
 rintro e w3 ⟨cs3,rfl,hf3,hb3⟩
 have HF3:=Lib.hid hf3
 obtain⟨dk,dc,ta,tn,tcap,va,vn,vcap,rfl⟩:=hf3.form
 have hz3:=hb3.size
 have hz:=SZ.out
 have hba:Below w3.heap.size w3 (w3.alloc (.cells #[.int .i64 dk,.int .i64 dc,.slice ta tn tcap,.slice va vn vcap] 39)):=(Below.refl _ _).alloc (Nat.le_refl _) _
 have hza:=hba.size
 have B4:=Lib.hid ((ST.out.1.bel.trans (hb3.mono (by omega))).trans (hba.mono (by omega)))
 have F4:=Lib.hid ((ST.out.2.below hb3 (by omega)).below hba (by omega))
 have HF4:Hid (FLiesQ (fun b=>W0.heap.size≤b∧b<w3.heap.size) (w3.alloc (.cells #[.int .i64 dk,.int .i64 dc,.slice ta tn tcap,.slice va vn vcap] 39)) 2 g [.int .i64 dk,.int .i64 dc,.slice ta tn tcap,.slice va vn vcap]):=HF3.out.keep (fun _ h=>h) (fun b o ⟨h1,h2⟩=>hba.cell (p:=⟨b,o,none⟩) h2)
 have hn4:=heap_alloc_new w3 (.cells #[.int .i64 dk,.int .i64 dc,.slice ta tn tcap,.slice va vn vcap] 39)
 obtain⟨t0,t1,t2,t3⟩:=form_cells hn4
 have HN4:=Lib.hid hn4
 have HOP:=Lib.hid ((opp_any g hg _ _ _ (fun b ⟨h1,h2⟩=>Nat.lt_of_lt_of_le h2 hza) HF4.out).2)
 have hl4:w3.heap.size<(w3.alloc (.cells #[.int .i64 dk,.int .i64 dc,.slice ta tn tcap,.slice va vn vcap] 39)).heap.size:=lt_of_some hn4
 clear p0 p1 p2 p3 hf3 hb3 hba hn4
 generalize hW4:w3.alloc (.cells #[.int .i64 dk,.int .i64 dc,.slice ta tn tcap,.slice va vn vcap] 39)=W4 at B4 F4 HF4 HN4 HOP t0 t1 t2 t3 hza hl4
 generalize hM:w3.heap.size=M at hz3 HF4 HN4 HOP t0 t1 t2 t3 hza hl4
 go_wp2_with fail
 clear hW4 hM t0 t1 t2 t3
 refine HOP.out.mono ?_
 rintro e w5 ⟨cs5,rfl,hf5,hb5⟩
 have HF5:=Lib.hid hf5
 obtain⟨ek,ec,ua,un,ucap,xa,xn,xcap,rfl⟩:=hf5.form
 have hz5:=hb5.size
 have hMN:w.heap.size+1≠M:=by omega
 have hbM:=(hb5.block M hl4).trans HN4.out
 obtain⟨t0,t1,t2,t3⟩:=form_cells hbM
 have tf:∀o,w5.frozen? ⟨M,o,none⟩=false:=fun o=>frozen_of_row _ _ _ _ _ hbM
 obtain⟨s0,s1,s2,s3⟩:=set4_at t0 t1 t2 t3 (.int .i64 ek) (.int .i64 ec) (.slice ua un ucap) (.slice xa xn xcap)
 unfold set4 at s0 s1 s2 s3
 have B5:=Lib.hid (below4 (B4.out.trans (hb5.mono (by omega))) (show w.heap.size≤M by omega) (.int .i64 ek) (.int .i64 ec) (.slice ua un ucap) (.slice xa xn xcap))
 have F5:=Lib.hid (fb_four (F4.out.below hb5 (by omega)) hMN (.int .i64 ek) (.int .i64 ec) (.slice ua un ucap) (.slice xa xn xcap))
 have RT:=Lib.hid (ret_set F5.out B5.out (HF5.out.set (No:=M) (S':=fun b=>w.heap.size+2≤b∧b<w5.heap.size) (fun b hb=>by rcases hb with ⟨h1,h2⟩ | ⟨h1,h2⟩<;>omega) (fun b hb=>by rcases hb with ⟨h1,h2⟩ | ⟨h1,h2⟩<;>exact⟨by omega,by omega⟩) (.int .i64 ek) (.int .i64 ec) (.slice ua un ucap) (.slice xa xn xcap)) (fun b ⟨h1,h2⟩=>⟨by omega,by omega,by rw[four_size];exact h2⟩))
 clear hbM hb5 hf5
 obtain⟨r0,r1,r2,r3,rf⟩:=F5.out
 go_wp2_with fail
 clear r0 r1 r2 r3 rf t0 t1 t2 t3 tf s0 s1 s2 s3
 refine bodyPost_ret (v:= .tuple #[.agg #[.int .i64 ek,.int .i64 ec,.slice ua un ucap,.slice xa xn xcap],.bool true]) ?_ rfl ⟨_,rfl,RT.out.lies,RT.out.bel⟩
 obtain⟨_,_,e0,e1,e2,e3⟩:=RT.out
 simp[results,Tryz.results61,go_sem,e0,e1,e2,e3]
end
end Go.Proofs.YtipahfcaplbifaaGreatDoor
