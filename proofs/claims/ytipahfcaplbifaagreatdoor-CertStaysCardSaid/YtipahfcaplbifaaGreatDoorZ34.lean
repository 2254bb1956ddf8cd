/- Parts of a proof. -/
import Derived.Test.YtipahfcaplbifaaGreatDoorZ15
import Derived.Test.YtipahfcaplbifaaGreatDoorZ17
import Derived.Test.YtipahfcaplbifaaGreatDoorZ26
import Derived.Test.YtipahfcaplbifaaGreatDoorZ27
import Derived.Test.YtipahfcaplbifaaGreatDoorZ32
import Derived.Test.YtipahfcaplbifaaGreatDoorZ33
set_option linter.unusedVariables false
set_option linter.unusedSimpArgs false
set_option maxHeartbeats 60000000
set_option maxRecDepth 100000
namespace Go.Proofs.YtipahfcaplbifaaGreatDoor
section
open Go.RowKit
theorem rnrm_any:∀n,NIR n
 | 0=>fun f nt cs W h _ _=>by cases h
 | n+1=>by
   have IH:=rnrm_any n
   intro f nt cs W hs hlit h
   obtain⟨hown,hks⟩:=snd_own hs
   obtain⟨ta,tcap,ka,kcap,rfl,hlt,ht,hk,hkk⟩:=id h
   rcases own_kinds hown with ⟨hk01,hc,htn,hkn⟩ | ⟨hk23,hsn,hkn⟩ | ⟨hk4,hc,htn,hk1⟩ | ⟨hk56,hc,htn⟩
   ·rcases hk01 with e | e
    ·rw[normF_0 e,e,hc,htn,hkn]
     cases nt
     ·exact(rn_k0y ta ka tcap kcap W).mono fun _ _ h=>h.up (by omega)
     ·exact(rn_k0n ta ka tcap kcap W).mono fun _ _ h=>h.up (by omega)
    ·rw[normF_1 e,e,hc,htn,hkn]
     cases nt
     ·exact(rn_k1y ta ka tcap kcap W).mono fun _ _ h=>h.up (by omega)
     ·exact(rn_k1n ta ka tcap kcap W).mono fun _ _ h=>h.up (by omega)
   ·have h64:=(snd_iff.1 hsn).2.1
    have hLit:∀V,Below W.heap.size W V→Calls Tryz.prog 96 #[.agg #[.int .i64 f.c,.slice ta f.t.length tcap]] V (Ans V.heap.size 2 (litT f.c f.t) (.int .i64 (litK f.c f.t)) V):=fun V hb=>
     (lit_both f.c ta f.t.length tcap f.t V rfl ht ((hlt.below hb).mono hb.size)).2
    rcases hk23 with e | e
    ·rw[normF_2 e,e]
     rcases litK_sound hsn with hk0 | hk3
     ·rw[if_pos hk0]
      rw[hk0]at hLit
      cases nt
      ·exact(rn_k2_0f f.c ta ka f.t.length tcap f.ks.length kcap _ W hLit).mono fun _ _ h=>h.up (by omega)
      ·exact(rn_k2_0t f.c ta ka f.t.length tcap f.ks.length kcap _ (litT_is _ _) W hLit).mono fun _ _ h=>h.up (by omega)
     ·rw[if_neg (by rw[hk3];decide)]
      rw[hk3,litT_bad (by rw[hk3];decide)]at hLit
      cases nt
      ·exact(rn_k2_3f f.c ta ka f.t.length tcap f.ks.length kcap _ W hLit).mono fun _ _ h=>h.up (by omega)
      ·exact(rn_k2_3t f.c ta ka f.t.length tcap f.ks.length kcap _ W hLit).mono fun _ _ h=>h.up (by omega)
    ·rw[normF_3 e,e]
     have hcb: -1073741824≤f.c∧f.c≤1073741824:=by have:=(snd_iff.1 hsn).1;unfold wi at this;simpa using this
     have hw:IntKind.i64.wrap (-f.c)= -f.c:=IntWalk.i64_in _ (by omega)
     have hsl:(scale (-1) f.t).length=f.t.length:=scale_len _ _
     have hT:∀V,Below W.heap.size W V→Calls Tryz.prog 25 #[.agg #[.int .i64 f.c,.slice ta f.t.length tcap],.int .i64 (-1)] V fun e w'=>∃a6 cap6,e= .returned (.slice a6 f.t.length cap6)∧Lies w'.heap.size w' a6 (scale (-1) f.t)∧Below V.heap.size V w':=fun V hb=>
      (rtimes_any f.c (-1) ta f.t.length tcap f.t V rfl h64 ((hlt.below hb).mono hb.size) (fun m hm=>by have:=(snd_terms hsn m hm).2;omega)).mono fun e w' h=>by
        obtain⟨v,rfl,h1,h2⟩:=h
        obtain⟨a6,cap6,rfl,h3,_⟩:=h1.lies
        rw[hsl]
        exact⟨a6,cap6,rfl,h3,h2⟩
     have hB:∀b capb V,Lies V.heap.size V b (scale (-1) f.t)→Calls Tryz.prog 96 #[.agg #[.int .i64 (-f.c),.slice b f.t.length capb]] V (Ans V.heap.size 2 (litT (-f.c) (scale (-1) f.t)) (.int .i64 (litK (-f.c) (scale (-1) f.t))) V):=fun b capb V hl=>
      (lit_both (-f.c) b f.t.length capb (scale (-1) f.t) V hsl ht hl).2
     have key:=fun(T:FT) (bv:Bool) h1 h2=>rn_k3 f.c ta ka f.t.length tcap f.ks.length kcap nt _ _ _ _ _ T bv W hw (litT_is _ _) (litT_is _ _) (litK_sound hsn) (litK_sound (snd_neg hsn)) hLit hT hB h1 h2
     rcases litK_sound hsn with hk0 | hk3
     ·rcases litK_sound (snd_neg hsn)with hj0 | hj3
      ·rw[bothT_ok hk0 hj0]
       refine(key _ true (fun h=> ?_) (fun _ _=>⟨rfl, ?_⟩)).mono fun _ _ h=>h.up (by omega)
       ·rcases h with h | h
        ·rw[hk0]at h;exact absurd h (by decide)
        ·rw[hj0]at h;exact absurd h (by decide)
       ·cases nt<;>rfl
      ·rw[bothT_far2 hj3]
       exact(key _ false (fun _=>⟨rfl,rfl⟩) (fun _ h=>by rw[hj3]at h;exact absurd h (by decide))).mono fun _ _ h=>h.up (by omega)
     ·rw[bothT_far1 hk3]
      exact(key _ false (fun _=>⟨rfl,rfl⟩) (fun h _=>by rw[hk3]at h;exact absurd h (by decide))).mono fun _ _ h=>h.up (by omega)
   ·obtain⟨b,off,c0,c1,c2,c3,rfl,hblt,g0,g1,g2,g3,hf⟩:=hkk 0 (by omega)
    obtain⟨ck,cc,cta,ctn,ctcap,cka,ckn,ckcap,rfl,rfl,rfl,rfl⟩:=hf.form
    simp only[Nat.zero_mul,Nat.add_zero]at g0 g1 g2 g3
    rw[normF_4 hk4,hk4,hk1]
    have hC:=fun V (hb:Below W.heap.size W V)=>IH _ (!nt) _ V (hks 0 (by omega)) (hlit.2.2 0 (by omega)) ((hf.below hb).mono hb.size)
    rw[show(!!nt)=nt by cases nt<;>rfl]at hC
    cases ho:normF n (f.ks.getD 0 default) (!!nt)with
    | none=>
      rw[show(!!nt)=nt by cases nt<;>rfl]at ho
      rw[ho]at hC
      exact(rn_k4 f.c ta f.t.length tcap kcap b off nt _ (n+2) false W hblt ck cc cta ctn ctcap cka ckn ckcap g0 g1 g2 g3 hC).mono fun _ _ h=>h.up (by omega)
    | some g=>
      rw[show(!!nt)=nt by cases nt<;>rfl]at ho
      rw[ho]at hC
      exact(rn_k4 f.c ta f.t.length tcap kcap b off nt _ (n+2) true W hblt ck cc cta ctn ctcap cka ckn ckcap g0 g1 g2 g3 hC).mono fun _ _ h=>h.up (by omega)
   ·rw[normF_56 hk56]
    rcases hk56 with e | e
    ·cases nt
     ·exact rn_k5f n IH f _ W e hks hlit h
     ·exact rn_k5t n IH f _ W e hks hlit h
    ·cases nt
     ·exact rn_k6f n IH f _ W e hks hlit h
     ·exact rn_k6t n IH f _ W e hks hlit h
end
section
open Go.RowKit
def nrmT (n:Nat)(f:FT):FT:=if cc n f=0 then(normF n f true).getD (.mk 0 0 [] []) else .mk 0 0 [] []
def nrmK (n:Nat)(f:FT):Int:=if cc n f=0 then(if(normF n f true).isSome=true then 0 else 3) else cc n f
theorem cc_sound {n:Nat}{f:FT}(h:cc n f=0):dep n f≤64∧siz n f≤4096∧sndF n f=true:=by
 unfold cc ccV at h
 split at h
 ·omega
 ·split at h
  ·omega
  ·split at h
   ·exact⟨by omega,by omega,by assumption⟩
   ·omega
theorem nnorm_bad (k c K:Int)(a ka:Option Addr)(n cap kn kcap:Nat)(w:World)
 (HC:∀W,Below w.heap.size w W→Calls Tryz.prog 40 #[.agg #[.int .i64 k,.int .i64 c,.slice a n cap,.slice ka kn kcap]] W fun e w'=>e= .returned (.iface 60 (.int .i64 K))∧Below W.heap.size W w'):
 Calls Tryz.prog 30 #[.agg #[.int .i64 k,.int .i64 c,.slice a n cap,.slice ka kn kcap]] w (Ans w.heap.size 2 (.mk 0 0 [] []) (.iface 60 (.int .i64 K)) w):=by
 have HCH:=Lib.hid HC
 clear HC
 have n3:=fun W=>Tryz.neCode K W
 have SZ:Hid (w.heap.size+2=((w.alloc (.cells #[.int .i64 k,.int .i64 c,.slice a n cap,.slice ka kn kcap] 39)).alloc (.cells #[.int .i64 0,.int .i64 0,.slice none 0 0,.slice none 0 0] 39)).heap.size):=by show _=_;simp
 have ST:=Lib.hid (args_start w k c a ka n cap kn kcap)
 obtain⟨-,p0,p1,p2,p3, -⟩:=ST.out.1
 generalize hW:(w.alloc (.cells #[.int .i64 k,.int .i64 c,.slice a n cap,.slice ka kn kcap] 39)).alloc (.cells #[.int .i64 0,.int .i64 0,.slice none 0 0,.slice none 0 0] 39)=W0 at ST SZ p0 p1 p2 p3
 go_enter Tryz.func30,Tryz.ntmps30
 go_wp2_with fail
 clear hW
 refine(HCH.out _ ST.out.1.bel).mono ?_
 rintro e w3 ⟨rfl,hb3⟩
 have hz3:=hb3.size
 have hz:=SZ.out
 have B3:=Lib.hid (ST.out.1.bel.trans (hb3.mono (by omega)))
 have F3:=Lib.hid (ST.out.2.below hb3 (by omega))
 have X3:=Lib.hid (ST.out.1.below hb3 (by omega))
 have Z3:w.heap.size+2≤w3.heap.size:=by omega
 clear hb3 hz3 hz p0 p1 p2 p3
 have RT:=Lib.hid (ret_set (m:=2) (f:= .mk 0 0 [] []) (S:=fun _=>False) F3.out B3.out flies_flat (fun b h=>h.elim))
 obtain⟨r0,r1,r2,r3,rf⟩:=F3.out
 go_wp2_with fail
 clear r0 r1 r2 r3 rf
 refine bodyPost_ret (v:= .tuple #[.agg #[.int .i64 0,.int .i64 0,.slice none 0 0,.slice none 0 0],.iface 60 (.int .i64 K)]) ?_ rfl ⟨_,rfl,RT.out.lies,RT.out.bel⟩
 obtain⟨_,_,e0,e1,e2,e3⟩:=RT.out
 simp[results,Tryz.results30,go_sem,e0,e1,e2,e3]
theorem nnorm_ok (k c:Int)(a ka:Option Addr)(n cap kn kcap:Nat)(m:Nat)(g:FT)(X:Value)(w:World)
 (HC:∀W,Below w.heap.size w W→Calls Tryz.prog 40 #[.agg #[.int .i64 k,.int .i64 c,.slice a n cap,.slice ka kn kcap]] W fun e w'=>e= .returned .nilIface∧Below W.heap.size W w')
 (HN:∀W,Below w.heap.size w W→Calls Tryz.prog 51 #[.agg #[.int .i64 k,.int .i64 c,.slice a n cap,.slice ka kn kcap],.bool true] W (Ans W.heap.size m g X W)):
 Calls Tryz.prog 30 #[.agg #[.int .i64 k,.int .i64 c,.slice a n cap,.slice ka kn kcap]] w (Ans w.heap.size m g X w):=by
 have HCH:=Lib.hid HC
 have HNH:=Lib.hid HN
 clear HC HN
 have n0:=fun W=>Tryz.neNil W
 have SZ:Hid (w.heap.size+2=((w.alloc (.cells #[.int .i64 k,.int .i64 c,.slice a n cap,.slice ka kn kcap] 39)).alloc (.cells #[.int .i64 0,.int .i64 0,.slice none 0 0,.slice none 0 0] 39)).heap.size):=by show _=_;simp
 have ST:=Lib.hid (args_start w k c a ka n cap kn kcap)
 obtain⟨-,p0,p1,p2,p3, -⟩:=ST.out.1
 generalize hW:(w.alloc (.cells #[.int .i64 k,.int .i64 c,.slice a n cap,.slice ka kn kcap] 39)).alloc (.cells #[.int .i64 0,.int .i64 0,.slice none 0 0,.slice none 0 0] 39)=W0 at ST SZ p0 p1 p2 p3
 go_enter Tryz.func30,Tryz.ntmps30
 go_wp2_with fail
 clear hW
 refine(HCH.out _ ST.out.1.bel).mono ?_
 rintro e w3 ⟨rfl,hb3⟩
 have hz3:=hb3.size
 have hz:=SZ.out
 have B3:=Lib.hid (ST.out.1.bel.trans (hb3.mono (by omega)))
 have F3:=Lib.hid (ST.out.2.below hb3 (by omega))
 have X3:=Lib.hid (ST.out.1.below hb3 (by omega))
 have Z3:w.heap.size+2≤w3.heap.size:=by omega
 clear hb3 hz3 hz p0 p1 p2 p3
 obtain⟨-,q0,q1,q2,q3, -⟩:=X3.out
 go_wp2_with fail
 clear q0 q1 q2 q3
 refine(HNH.out _ B3.out).mono ?_
 rintro e w5 ⟨cs5,rfl,hf5,hb5⟩
 have HF5:=Lib.hid hf5
 obtain⟨dk,dc,ua,un,ucap,va,vn,vcap,rfl⟩:=hf5.form
 have hz5:=hb5.size
 have F5:=Lib.hid (F3.out.below hb5 (by omega))
 have RT:=Lib.hid (ret_set F5.out (B3.out.trans (hb5.mono (by omega))) HF5.out (fun b ⟨h1,h2⟩=>⟨by omega,by omega,h2⟩))
 clear hf5 hb5
 obtain⟨r0,r1,r2,r3,rf⟩:=F5.out
 go_wp2_with fail
 clear r0 r1 r2 r3 rf
 refine bodyPost_ret (v:= .tuple #[.agg #[.int .i64 dk,.int .i64 dc,.slice ua un ucap,.slice va vn vcap],X]) ?_ rfl ⟨_,rfl,RT.out.lies,RT.out.bel⟩
 obtain⟨_,_,e0,e1,e2,e3⟩:=RT.out
 simp[results,Tryz.results30,go_sem,e0,e1,e2,e3]
theorem rnorm_bad (k c K:Int)(hK:K≠0)(a ka:Option Addr)(n cap kn kcap:Nat)(w:World)
 (HC:∀W,Below w.heap.size w W→Calls Tryz.prog 60 #[.agg #[.int .i64 k,.int .i64 c,.slice a n cap,.slice ka kn kcap]] W fun e w'=>e= .returned (.int .i64 K)∧Below W.heap.size W w'):
 Calls Tryz.prog 36 #[.agg #[.int .i64 k,.int .i64 c,.slice a n cap,.slice ka kn kcap]] w (Ans w.heap.size 2 (.mk 0 0 [] []) (.int .i64 K) w):=by
 have HCH:=Lib.hid HC
 clear HC
 have SZ:Hid (w.heap.size+2=((w.alloc (.cells #[.int .i64 k,.int .i64 c,.slice a n cap,.slice ka kn kcap] 39)).alloc (.cells #[.int .i64 0,.int .i64 0,.slice none 0 0,.slice none 0 0] 39)).heap.size):=by show _=_;simp
 have ST:=Lib.hid (args_start w k c a ka n cap kn kcap)
 obtain⟨-,p0,p1,p2,p3, -⟩:=ST.out.1
 generalize hW:(w.alloc (.cells #[.int .i64 k,.int .i64 c,.slice a n cap,.slice ka kn kcap] 39)).alloc (.cells #[.int .i64 0,.int .i64 0,.slice none 0 0,.slice none 0 0] 39)=W0 at ST SZ p0 p1 p2 p3
 go_enter Tryz.func36,Tryz.ntmps36
 go_wp2_with fail
 clear hW
 refine(HCH.out _ ST.out.1.bel).mono ?_
 rintro e w3 ⟨rfl,hb3⟩
 have hz3:=hb3.size
 have hz:=SZ.out
 have B3:=Lib.hid (ST.out.1.bel.trans (hb3.mono (by omega)))
 have F3:=Lib.hid (ST.out.2.below hb3 (by omega))
 have X3:=Lib.hid (ST.out.1.below hb3 (by omega))
 have Z3:w.heap.size+2≤w3.heap.size:=by omega
 clear hb3 hz3 hz p0 p1 p2 p3
 have RT:=Lib.hid (ret_set (m:=2) (f:= .mk 0 0 [] []) (S:=fun _=>False) F3.out B3.out flies_flat (fun b h=>h.elim))
 obtain⟨r0,r1,r2,r3,rf⟩:=F3.out
 go_wp2_with fail
 clear r0 r1 r2 r3 rf
 refine bodyPost_ret (v:= .tuple #[.agg #[.int .i64 0,.int .i64 0,.slice none 0 0,.slice none 0 0],.int .i64 K]) ?_ rfl ⟨_,rfl,RT.out.lies,RT.out.bel⟩
 obtain⟨_,_,e0,e1,e2,e3⟩:=RT.out
 simp[results,Tryz.results36,go_sem,e0,e1,e2,e3]
theorem rnorm_true (k c:Int)(a ka:Option Addr)(n cap kn kcap:Nat)(m:Nat)(g:FT)(w:World)
 (HC:∀W,Below w.heap.size w W→Calls Tryz.prog 60 #[.agg #[.int .i64 k,.int .i64 c,.slice a n cap,.slice ka kn kcap]] W fun e w'=>e= .returned (.int .i64 0)∧Below W.heap.size W w')
 (HN:∀W,Below w.heap.size w W→Calls Tryz.prog 61 #[.agg #[.int .i64 k,.int .i64 c,.slice a n cap,.slice ka kn kcap],.bool false] W (Ans W.heap.size m g (.bool true) W)):
 Calls Tryz.prog 36 #[.agg #[.int .i64 k,.int .i64 c,.slice a n cap,.slice ka kn kcap]] w (Ans w.heap.size m g (.int .i64 0) w):=by
 have HCH:=Lib.hid HC
 have HNH:=Lib.hid HN
 clear HC HN
 have SZ:Hid (w.heap.size+2=((w.alloc (.cells #[.int .i64 k,.int .i64 c,.slice a n cap,.slice ka kn kcap] 39)).alloc (.cells #[.int .i64 0,.int .i64 0,.slice none 0 0,.slice none 0 0] 39)).heap.size):=by show _=_;simp
 have ST:=Lib.hid (args_start w k c a ka n cap kn kcap)
 obtain⟨-,p0,p1,p2,p3, -⟩:=ST.out.1
 generalize hW:(w.alloc (.cells #[.int .i64 k,.int .i64 c,.slice a n cap,.slice ka kn kcap] 39)).alloc (.cells #[.int .i64 0,.int .i64 0,.slice none 0 0,.slice none 0 0] 39)=W0 at ST SZ p0 p1 p2 p3
 go_enter Tryz.func36,Tryz.ntmps36
 go_wp2_with fail
 clear hW
 refine(HCH.out _ ST.out.1.bel).mono ?_
 rintro e w3 ⟨rfl,hb3⟩
 have hz3:=hb3.size
 have hz:=SZ.out
 have B3:=Lib.hid (ST.out.1.bel.trans (hb3.mono (by omega)))
 have F3:=Lib.hid (ST.out.2.below hb3 (by omega))
 have X3:=Lib.hid (ST.out.1.below hb3 (by omega))
 have Z3:w.heap.size+2≤w3.heap.size:=by omega
 clear hb3 hz3 hz p0 p1 p2 p3
 obtain⟨-,q0,q1,q2,q3, -⟩:=X3.out
 go_wp2_with fail
 clear q0 q1 q2 q3
 refine(HNH.out _ B3.out).mono ?_
 rintro e w5 ⟨cs5,rfl,hf5,hb5⟩
 have HF5:=Lib.hid hf5
 obtain⟨dk,dc,ua,un,ucap,va,vn,vcap,rfl⟩:=hf5.form
 have hz5:=hb5.size
 have hba6:Below w5.heap.size w5 (w5.alloc (.cells #[.int .i64 dk,.int .i64 dc,.slice ua un ucap,.slice va vn vcap] 39)):=(Below.refl _ _).alloc (Nat.le_refl _) _
 have hz6:=hba6.size
 have hb6:Below w3.heap.size w3 (w5.alloc (.cells #[.int .i64 dk,.int .i64 dc,.slice ua un ucap,.slice va vn vcap] 39)):=hb5.trans (hba6.mono hz5)
 have F6:=Lib.hid (F3.out.below hb6 (by omega))
 have RT:=Lib.hid (ret_set F6.out (B3.out.trans (hb6.mono (by omega))) (HF5.out.keep (S':=fun b=>w3.heap.size≤b∧b<w5.heap.size) (fun _ h=>h) (fun b o ⟨h1,h2⟩=>hba6.cell (p:=⟨b,o,none⟩) h2)) (fun b ⟨h1,h2⟩=>⟨by omega,by omega,by omega⟩))
 obtain⟨t0,t1,t2,t3⟩:=form_cells (heap_alloc_new w5 (.cells #[.int .i64 dk,.int .i64 dc,.slice ua un ucap,.slice va vn vcap] 39))
 clear hf5 hb5 hba6 hb6 hz5 hz6
 obtain⟨r0,r1,r2,r3,rf⟩:=F6.out
 go_wp2_with fail
 clear r0 r1 r2 r3 rf t0 t1 t2 t3
 refine bodyPost_ret (v:= .tuple #[.agg #[.int .i64 dk,.int .i64 dc,.slice ua un ucap,.slice va vn vcap],.int .i64 0]) ?_ rfl ⟨_,rfl,RT.out.lies,RT.out.bel⟩
 obtain⟨_,_,e0,e1,e2,e3⟩:=RT.out
 simp[results,Tryz.results36,go_sem,e0,e1,e2,e3]
theorem rnorm_false (k c:Int)(a ka:Option Addr)(n cap kn kcap:Nat)(m:Nat)(g:FT)(w:World)
 (HC:∀W,Below w.heap.size w W→Calls Tryz.prog 60 #[.agg #[.int .i64 k,.int .i64 c,.slice a n cap,.slice ka kn kcap]] W fun e w'=>e= .returned (.int .i64 0)∧Below W.heap.size W w')
 (HN:∀W,Below w.heap.size w W→Calls Tryz.prog 61 #[.agg #[.int .i64 k,.int .i64 c,.slice a n cap,.slice ka kn kcap],.bool false] W (Ans W.heap.size m g (.bool false) W)):
 Calls Tryz.prog 36 #[.agg #[.int .i64 k,.int .i64 c,.slice a n cap,.slice ka kn kcap]] w (Ans w.heap.size 2 (.mk 0 0 [] []) (.int .i64 3) w):=by
 have HCH:=Lib.hid HC
 have HNH:=Lib.hid HN
 clear HC HN
 have SZ:Hid (w.heap.size+2=((w.alloc (.cells #[.int .i64 k,.int .i64 c,.slice a n cap,.slice ka kn kcap] 39)).alloc (.cells #[.int .i64 0,.int .i64 0,.slice none 0 0,.slice none 0 0] 39)).heap.size):=by show _=_;simp
 have ST:=Lib.hid (args_start w k c a ka n cap kn kcap)
 obtain⟨-,p0,p1,p2,p3, -⟩:=ST.out.1
 generalize hW:(w.alloc (.cells #[.int .i64 k,.int .i64 c,.slice a n cap,.slice ka kn kcap] 39)).alloc (.cells #[.int .i64 0,.int .i64 0,.slice none 0 0,.slice none 0 0] 39)=W0 at ST SZ p0 p1 p2 p3
 go_enter Tryz.func36,Tryz.ntmps36
 go_wp2_with fail
 clear hW
 refine(HCH.out _ ST.out.1.bel).mono ?_
 rintro e w3 ⟨rfl,hb3⟩
 have hz3:=hb3.size
 have hz:=SZ.out
 have B3:=Lib.hid (ST.out.1.bel.trans (hb3.mono (by omega)))
 have F3:=Lib.hid (ST.out.2.below hb3 (by omega))
 have X3:=Lib.hid (ST.out.1.below hb3 (by omega))
 have Z3:w.heap.size+2≤w3.heap.size:=by omega
 clear hb3 hz3 hz p0 p1 p2 p3
 obtain⟨-,q0,q1,q2,q3, -⟩:=X3.out
 go_wp2_with fail
 clear q0 q1 q2 q3
 refine(HNH.out _ B3.out).mono ?_
 rintro e w5 ⟨cs5,rfl,hf5,hb5⟩
 have HF5:=Lib.hid hf5
 obtain⟨dk,dc,ua,un,ucap,va,vn,vcap,rfl⟩:=hf5.form
 have hz5:=hb5.size
 have hba6:Below w5.heap.size w5 (w5.alloc (.cells #[.int .i64 dk,.int .i64 dc,.slice ua un ucap,.slice va vn vcap] 39)):=(Below.refl _ _).alloc (Nat.le_refl _) _
 have hz6:=hba6.size
 have hb6:Below w3.heap.size w3 (w5.alloc (.cells #[.int .i64 dk,.int .i64 dc,.slice ua un ucap,.slice va vn vcap] 39)):=hb5.trans (hba6.mono hz5)
 have F6:=Lib.hid (F3.out.below hb6 (by omega))
 have RT:=Lib.hid (ret_set (m:=2) (f:= .mk 0 0 [] []) (S:=fun _=>False) F6.out (B3.out.trans (hb6.mono (by omega))) flies_flat (fun b h=>h.elim))
 obtain⟨t0,t1,t2,t3⟩:=form_cells (heap_alloc_new w5 (.cells #[.int .i64 dk,.int .i64 dc,.slice ua un ucap,.slice va vn vcap] 39))
 clear hf5 hb5 hba6 hb6 hz5 hz6
 obtain⟨r0,r1,r2,r3,rf⟩:=F6.out
 go_wp2_with fail
 clear r0 r1 r2 r3 rf t0 t1 t2 t3
 refine bodyPost_ret (v:= .tuple #[.agg #[.int .i64 0,.int .i64 0,.slice none 0 0,.slice none 0 0],.int .i64 3]) ?_ rfl ⟨_,rfl,RT.out.lies,RT.out.bel⟩
 obtain⟨_,_,e0,e1,e2,e3⟩:=RT.out
 simp[results,Tryz.results36,go_sem,e0,e1,e2,e3]
theorem norm_both (n:Nat)(f:FT)(cs:List Value)(w:World)(hlit:litF n f)(h:FLies w.heap.size w n f cs):
 Calls Tryz.prog 30 #[.agg cs.toArray] w (Ans w.heap.size (n+2) (nrmT n f) (codeV (nrmK n f)) w)∧
 Calls Tryz.prog 36 #[.agg cs.toArray] w (Ans w.heap.size (n+2) (nrmT n f) (.int .i64 (nrmK n f)) w):=by
 have FL:=fun W (hb:Below w.heap.size w W)=>(h.below hb).mono hb.size
 have C1:=fun W (hb:Below w.heap.size w W)=>fcheck_any n f _ W (FL W hb)
 have C2:=fun W (hb:Below w.heap.size w W)=>rfcheck_any n f _ W (FL W hb)
 have hform:∃(k c:Int) (a:Option Addr) (m cap:Nat) (ka:Option Addr) (kn kcap:Nat),cs=[.int .i64 k,.int .i64 c,.slice a m cap,.slice ka kn kcap]:=by
  cases n with
  | zero=>exact h.elim
  | succ n=>
    obtain⟨ta,tcap,ka,kcap,rfl,_⟩:=h
    exact⟨_,_,_,_,_,_,_,_,rfl⟩
 obtain⟨k,c,a,m,cap,ka,kn,kcap,rfl⟩:=hform
 unfold nrmT nrmK
 by_cases h0:cc n f=0
 ·obtain⟨_,_,hs⟩:=cc_sound h0
  rw[if_pos h0,if_pos h0]
  rw[h0]at C1 C2
  have N1:=fun W (hb:Below w.heap.size w W)=>nrm_any n f true _ W hs hlit (FL W hb)
  have N2:=fun W (hb:Below w.heap.size w W)=>rnrm_any n f false _ W hs hlit (FL W hb)
  rw[show(!false)=true from rfl]at N2
  cases ho:normF n f true with
  | none=>
    rw[ho]at N1 N2
    exact⟨nnorm_ok k c a ka m cap kn kcap (n+2) _ _ w C1 N1,(rnorm_false k c a ka m cap kn kcap (n+2) _ w C2 N2).mono fun _ _ h=>h.up (by omega)⟩
  | some g=>
    rw[ho]at N1 N2
    exact⟨nnorm_ok k c a ka m cap kn kcap (n+2) _ _ w C1 N1,rnorm_true k c a ka m cap kn kcap (n+2) _ w C2 N2⟩
 ·rw[if_neg h0,if_neg h0]
  have e:codeV (cc n f)= .iface 60 (.int .i64 (cc n f)):=by unfold codeV;rw[if_neg h0]
  rw[e]at C1⊢
  exact⟨(nnorm_bad k c _ a ka m cap kn kcap w C1).mono fun _ _ h=>h.up (by omega),(rnorm_bad k c _ h0 a ka m cap kn kcap w C2).mono fun _ _ h=>h.up (by omega)⟩
end
section
open Go.RowKit
theorem gat_sound:∀(n:Nat) (f:FT) (am:List (Int×List (Int×Int))),madeF n f=true→(∀x∈am,snd x.1 x.2=true)→∀x∈gatF n f am,snd x.1 x.2=true
 | 0,f,am,hm,_=>by cases hm
 | n+1,f,am,hm,h=>by
   have hk:=made_kids hm
   have hto:∀i,i≤f.ks.length→∀x∈gatTo n f.ks am i,snd x.1 x.2=true:=fun i=>by
    induction i with
    | zero=>exact fun _=>h
    | succ i ih=>
      intro hi
      rw[gatTo_succ n f.ks am i hi]
      exact gat_sound n _ _ (hk i hi) (ih (by omega))
   rw[gatTo_len]
   split
   ·rename_i h2
    unfold addA
    split
    ·intro x hx
     rcases List.mem_append.1 hx with hx | hx
     ·exact hto _ (Nat.le_refl _) x hx
     ·rw[List.mem_singleton]at hx
      subst hx
      exact(made_snd hm h2).1
    ·exact hto _ (Nat.le_refl _)
   ·exact hto _ (Nat.le_refl _)
theorem form_of {B:Nat}{w:World}{n:Nat}{f:FT}{cs:List Value}(h:FLies B w n f cs):∃(k c:Int) (a:Option Addr) (m cap:Nat) (ka:Option Addr) (kn kcap:Nat),cs=[.int .i64 k,.int .i64 c,.slice a m cap,.slice ka kn kcap]:=by
 cases n with
 | zero=>exact h.elim
 | succ n=>
   obtain⟨ta,tcap,ka,kcap,rfl,_⟩:=h
   exact⟨_,_,_,_,_,_,_,_,rfl⟩
theorem norm_all (n:Nat)(f:FT)(cs:List Value)(w:World)(h:FLies w.heap.size w n f cs):
 Calls Tryz.prog 30 #[.agg cs.toArray] w (Ans w.heap.size (n+2) (nrmT n f) (codeV (nrmK n f)) w):=by
 by_cases h0:cc n f=0
 ·obtain⟨_,h2,h3⟩:=cc_sound h0
  exact(norm_both n f cs w (lit_of h h3 h2) h).1
 ·have C1:=fun W (hb:Below w.heap.size w W)=>fcheck_any n f _ W ((h.below hb).mono hb.size)
  obtain⟨k,c,a,m,cap,ka,kn,kcap,rfl⟩:=form_of h
  unfold nrmT nrmK
  rw[if_neg h0,if_neg h0]
  have e:codeV (cc n f)= .iface 60 (.int .i64 (cc n f)):=by unfold codeV;rw[if_neg h0]
  rw[e]at C1⊢
  exact(nnorm_bad k c _ a ka m cap kn kcap w C1).mono fun _ _ h=>h.up (by omega)
end
end Go.Proofs.YtipahfcaplbifaaGreatDoor
