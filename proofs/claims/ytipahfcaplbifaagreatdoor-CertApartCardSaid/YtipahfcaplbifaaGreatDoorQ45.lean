/- Parts of a proof. -/
import Derived.Test.YtipahfcaplbifaaGreatDoorQ18
import Derived.Test.YtipahfcaplbifaaGreatDoorQ21
import Derived.Test.YtipahfcaplbifaaGreatDoorQ22
import Derived.Test.YtipahfcaplbifaaGreatDoorQ23
import Derived.Test.YtipahfcaplbifaaGreatDoorQ31
import Derived.Test.YtipahfcaplbifaaGreatDoorQ34
import Derived.Test.YtipahfcaplbifaaGreatDoorQ36
import Derived.Test.YtipahfcaplbifaaGreatDoorQ38
import Derived.Test.YtipahfcaplbifaaGreatDoorQ41
import Derived.Test.YtipahfcaplbifaaGreatDoorQ42
import Derived.Test.YtipahfcaplbifaaGreatDoorQ43
set_option linter.unusedVariables false
set_option linter.unusedSimpArgs false
set_option maxHeartbeats 60000000
set_option maxRecDepth 100000
namespace Go.Proofs.YtipahfcaplbifaaGreatDoor
section
open Go.RowKit
theorem rnrm_any:∀n,NIR n
 | 0=>fun f nt cs W h _ _=>by cases h
 | n+1=>by
   have IH:=rnrm_any n
   intro f nt cs W hs hlit h
   obtain⟨hown,hks⟩:=snd_own hs
   obtain⟨ta,tcap,ka,kcap,rfl,hlt,ht,hk,hkk⟩:=id h
   rcases own_kinds hown with ⟨hk01,hc,htn,hkn⟩ | ⟨hk23,hsn,hkn⟩ | ⟨hk4,hc,htn,hk1⟩ | ⟨hk56,hc,htn⟩
   ·rcases hk01 with e | e
    ·rw[normF_0 e,e,hc,htn,hkn]
     cases nt
     ·exact(rn_k0y ta ka tcap kcap W).mono fun _ _ h=>h.up (by omega)
     ·exact(rn_k0n ta ka tcap kcap W).mono fun _ _ h=>h.up (by omega)
    ·rw[normF_1 e,e,hc,htn,hkn]
     cases nt
     ·exact(rn_k1y ta ka tcap kcap W).mono fun _ _ h=>h.up (by omega)
     ·exact(rn_k1n ta ka tcap kcap W).mono fun _ _ h=>h.up (by omega)
   ·have h64:=(snd_iff.1 hsn).2.1
    have hLit:∀V,Below W.heap.size W V→Calls Tryz.prog 96 #[.agg #[.int .i64 f.c,.slice ta f.t.length tcap]] V (Ans V.heap.size 2 (litT f.c f.t) (.int .i64 (litK f.c f.t)) V):=fun V hb=>
     (lit_both f.c ta f.t.length tcap f.t V rfl ht ((hlt.below hb).mono hb.size)).2
    rcases hk23 with e | e
    ·rw[normF_2 e,e]
     rcases litK_sound hsn with hk0 | hk3
     ·rw[if_pos hk0]
      rw[hk0]at hLit
      cases nt
      ·exact(rn_k2_0f f.c ta ka f.t.length tcap f.ks.length kcap _ W hLit).mono fun _ _ h=>h.up (by omega)
      ·exact(rn_k2_0t f.c ta ka f.t.length tcap f.ks.length kcap _ (litT_is _ _) W hLit).mono fun _ _ h=>h.up (by omega)
     ·rw[if_neg (by rw[hk3];decide)]
      rw[hk3,litT_bad (by rw[hk3];decide)]at hLit
      cases nt
      ·exact(rn_k2_3f f.c ta ka f.t.length tcap f.ks.length kcap _ W hLit).mono fun _ _ h=>h.up (by omega)
      ·exact(rn_k2_3t f.c ta ka f.t.length tcap f.ks.length kcap _ W hLit).mono fun _ _ h=>h.up (by omega)
    ·rw[normF_3 e,e]
     have hcb: -1073741824≤f.c∧f.c≤1073741824:=by have:=(snd_iff.1 hsn).1;unfold wi at this;simpa using this
     have hw:IntKind.i64.wrap (-f.c)= -f.c:=IntWalk.i64_in _ (by omega)
     have hsl:(scale (-1) f.t).length=f.t.length:=scale_len _ _
     have hT:∀V,Below W.heap.size W V→Calls Tryz.prog 25 #[.agg #[.int .i64 f.c,.slice ta f.t.length tcap],.int .i64 (-1)] V fun e w'=>∃a6 cap6,e= .returned (.slice a6 f.t.length cap6)∧Lies w'.heap.size w' a6 (scale (-1) f.t)∧Below V.heap.size V w':=fun V hb=>
      (rtimes_any f.c (-1) ta f.t.length tcap f.t V rfl h64 ((hlt.below hb).mono hb.size) (fun m hm=>by have:=(snd_terms hsn m hm).2;omega)).mono fun e w' h=>by
        obtain⟨v,rfl,h1,h2⟩:=h
        obtain⟨a6,cap6,rfl,h3,_⟩:=h1.lies
        rw[hsl]
        exact⟨a6,cap6,rfl,h3,h2⟩
     have hB:∀b capb V,Lies V.heap.size V b (scale (-1) f.t)→Calls Tryz.prog 96 #[.agg #[.int .i64 (-f.c),.slice b f.t.length capb]] V (Ans V.heap.size 2 (litT (-f.c) (scale (-1) f.t)) (.int .i64 (litK (-f.c) (scale (-1) f.t))) V):=fun b capb V hl=>
      (lit_both (-f.c) b f.t.length capb (scale (-1) f.t) V hsl ht hl).2
     have key:=fun(T:FT) (bv:Bool) h1 h2=>rn_k3 f.c ta ka f.t.length tcap f.ks.length kcap nt _ _ _ _ _ T bv W hw (litT_is _ _) (litT_is _ _) (litK_sound hsn) (litK_sound (snd_neg hsn)) hLit hT hB h1 h2
     rcases litK_sound hsn with hk0 | hk3
     ·rcases litK_sound (snd_neg hsn)with hj0 | hj3
      ·rw[bothT_ok hk0 hj0]
       refine(key _ true (fun h=> ?_) (fun _ _=>⟨rfl, ?_⟩)).mono fun _ _ h=>h.up (by omega)
       ·rcases h with h | h
        ·rw[hk0]at h;exact absurd h (by decide)
        ·rw[hj0]at h;exact absurd h (by decide)
       ·cases nt<;>rfl
      ·rw[bothT_far2 hj3]
       exact(key _ false (fun _=>⟨rfl,rfl⟩) (fun _ h=>by rw[hj3]at h;exact absurd h (by decide))).mono fun _ _ h=>h.up (by omega)
     ·rw[bothT_far1 hk3]
      exact(key _ false (fun _=>⟨rfl,rfl⟩) (fun h _=>by rw[hk3]at h;exact absurd h (by decide))).mono fun _ _ h=>h.up (by omega)
   ·obtain⟨b,off,c0,c1,c2,c3,rfl,hblt,g0,g1,g2,g3,hf⟩:=hkk 0 (by omega)
    obtain⟨ck,cc,cta,ctn,ctcap,cka,ckn,ckcap,rfl,rfl,rfl,rfl⟩:=hf.form
    simp only[Nat.zero_mul,Nat.add_zero]at g0 g1 g2 g3
    rw[normF_4 hk4,hk4,hk1]
    have hC:=fun V (hb:Below W.heap.size W V)=>IH _ (!nt) _ V (hks 0 (by omega)) (hlit.2.2 0 (by omega)) ((hf.below hb).mono hb.size)
    rw[show(!!nt)=nt by cases nt<;>rfl]at hC
    cases ho:normF n (f.ks.getD 0 default) (!!nt)with
    | none=>
      rw[show(!!nt)=nt by cases nt<;>rfl]at ho
      rw[ho]at hC
      exact(rn_k4 f.c ta f.t.length tcap kcap b off nt _ (n+2) false W hblt ck cc cta ctn ctcap cka ckn ckcap g0 g1 g2 g3 hC).mono fun _ _ h=>h.up (by omega)
    | some g=>
      rw[show(!!nt)=nt by cases nt<;>rfl]at ho
      rw[ho]at hC
      exact(rn_k4 f.c ta f.t.length tcap kcap b off nt _ (n+2) true W hblt ck cc cta ctn ctcap cka ckn ckcap g0 g1 g2 g3 hC).mono fun _ _ h=>h.up (by omega)
   ·rw[normF_56 hk56]
    rcases hk56 with e | e
    ·cases nt
     ·exact rn_k5f n IH f _ W e hks hlit h
     ·exact rn_k5t n IH f _ W e hks hlit h
    ·cases nt
     ·exact rn_k6f n IH f _ W e hks hlit h
     ·exact rn_k6t n IH f _ W e hks hlit h
end
section
open Go.RowKit
def nrmT (n:Nat)(f:FT):FT:=if cc n f=0 then(normF n f true).getD (.mk 0 0 [] []) else .mk 0 0 [] []
def nrmK (n:Nat)(f:FT):Int:=if cc n f=0 then(if(normF n f true).isSome=true then 0 else 3) else cc n f
theorem cc_in (n:Nat)(f:FT):0≤cc n f∧cc n f≤16:=by
 unfold cc ccV
 split
 ·omega
 ·split
  ·omega
  ·split<;>omega
theorem cc_sound {n:Nat}{f:FT}(h:cc n f=0):dep n f≤64∧siz n f≤4096∧sndF n f=true:=by
 unfold cc ccV at h
 split at h
 ·omega
 ·split at h
  ·omega
  ·split at h
   ·exact⟨by omega,by omega,by assumption⟩
   ·omega
theorem nrmK_in (n:Nat)(f:FT):0≤nrmK n f∧nrmK n f≤16:=by
 unfold nrmK
 split
 ·split<;>omega
 ·exact cc_in n f
theorem nnorm_bad (k c K:Int)(a ka:Option Addr)(n cap kn kcap:Nat)(w:World)
 (HC:∀W,Below w.heap.size w W→Calls Tryz.prog 40 #[.agg #[.int .i64 k,.int .i64 c,.slice a n cap,.slice ka kn kcap]] W fun e w'=>e= .returned (.iface 60 (.int .i64 K))∧Below W.heap.size W w'):
 Calls Tryz.prog 30 #[.agg #[.int .i64 k,.int .i64 c,.slice a n cap,.slice ka kn kcap]] w (Ans w.heap.size 2 (.mk 0 0 [] []) (.iface 60 (.int .i64 K)) w):=by
 have HCH:=Lib.hid HC
 clear HC
 have n3:=fun W=>Tryz.neCode K W
 have SZ:Hid (w.heap.size+2=((w.alloc (.cells #[.int .i64 k,.int .i64 c,.slice a n cap,.slice ka kn kcap] 39)).alloc (.cells #[.int .i64 0,.int .i64 0,.slice none 0 0,.slice none 0 0] 39)).heap.size):=by show _=_;simp
 have ST:=Lib.hid (args_start w k c a ka n cap kn kcap)
 obtain⟨-,p0,p1,p2,p3, -⟩:=ST.out.1
 generalize hW:(w.alloc (.cells #[.int .i64 k,.int .i64 c,.slice a n cap,.slice ka kn kcap] 39)).alloc (.cells #[.int .i64 0,.int .i64 0,.slice none 0 0,.slice none 0 0] 39)=W0 at ST SZ p0 p1 p2 p3
 go_enter Tryz.func30,Tryz.ntmps30
 go_wp2_with fail
 clear hW
 refine(HCH.out _ ST.out.1.bel).mono ?_
 rintro e w3 ⟨rfl,hb3⟩
 have hz3:=hb3.size
 have hz:=SZ.out
 have B3:=Lib.hid (ST.out.1.bel.trans (hb3.mono (by omega)))
 have F3:=Lib.hid (ST.out.2.below hb3 (by omega))
 have X3:=Lib.hid (ST.out.1.below hb3 (by omega))
 have Z3:w.heap.size+2≤w3.heap.size:=by omega
 clear hb3 hz3 hz p0 p1 p2 p3
 have RT:=Lib.hid (ret_set (m:=2) (f:= .mk 0 0 [] []) (S:=fun _=>False) F3.out B3.out flies_flat (fun b h=>h.elim))
 obtain⟨r0,r1,r2,r3,rf⟩:=F3.out
 go_wp2_with fail
 clear r0 r1 r2 r3 rf
 refine bodyPost_ret (v:= .tuple #[.agg #[.int .i64 0,.int .i64 0,.slice none 0 0,.slice none 0 0],.iface 60 (.int .i64 K)]) ?_ rfl ⟨_,rfl,RT.out.lies,RT.out.bel⟩
 obtain⟨_,_,e0,e1,e2,e3⟩:=RT.out
 simp[results,Tryz.results30,go_sem,e0,e1,e2,e3]
theorem nnorm_ok (k c:Int)(a ka:Option Addr)(n cap kn kcap:Nat)(m:Nat)(g:FT)(X:Value)(w:World)
 (HC:∀W,Below w.heap.size w W→Calls Tryz.prog 40 #[.agg #[.int .i64 k,.int .i64 c,.slice a n cap,.slice ka kn kcap]] W fun e w'=>e= .returned .nilIface∧Below W.heap.size W w')
 (HN:∀W,Below w.heap.size w W→Calls Tryz.prog 51 #[.agg #[.int .i64 k,.int .i64 c,.slice a n cap,.slice ka kn kcap],.bool true] W (Ans W.heap.size m g X W)):
 Calls Tryz.prog 30 #[.agg #[.int .i64 k,.int .i64 c,.slice a n cap,.slice ka kn kcap]] w (Ans w.heap.size m g X w):=by
 have HCH:=Lib.hid HC
 have HNH:=Lib.hid HN
 clear HC HN
 have n0:=fun W=>Tryz.neNil W
 have SZ:Hid (w.heap.size+2=((w.alloc (.cells #[.int .i64 k,.int .i64 c,.slice a n cap,.slice ka kn kcap] 39)).alloc (.cells #[.int .i64 0,.int .i64 0,.slice none 0 0,.slice none 0 0] 39)).heap.size):=by show _=_;simp
 have ST:=Lib.hid (args_start w k c a ka n cap kn kcap)
 obtain⟨-,p0,p1,p2,p3, -⟩:=ST.out.1
 generalize hW:(w.alloc (.cells #[.int .i64 k,.int .i64 c,.slice a n cap,.slice ka kn kcap] 39)).alloc (.cells #[.int .i64 0,.int .i64 0,.slice none 0 0,.slice none 0 0] 39)=W0 at ST SZ p0 p1 p2 p3
 go_enter Tryz.func30,Tryz.ntmps30
 go_wp2_with fail
 clear hW
 refine(HCH.out _ ST.out.1.bel).mono ?_
 rintro e w3 ⟨rfl,hb3⟩
 have hz3:=hb3.size
 have hz:=SZ.out
 have B3:=Lib.hid (ST.out.1.bel.trans (hb3.mono (by omega)))
 have F3:=Lib.hid (ST.out.2.below hb3 (by omega))
 have X3:=Lib.hid (ST.out.1.below hb3 (by omega))
 have Z3:w.heap.size+2≤w3.heap.size:=by omega
 clear hb3 hz3 hz p0 p1 p2 p3
 obtain⟨-,q0,q1,q2,q3, -⟩:=X3.out
 go_wp2_with fail
 clear q0 q1 q2 q3
 refine(HNH.out _ B3.out).mono ?_
 rintro e w5 ⟨cs5,rfl,hf5,hb5⟩
 have HF5:=Lib.hid hf5
 obtain⟨dk,dc,ua,un,ucap,va,vn,vcap,rfl⟩:=hf5.form
 have hz5:=hb5.size
 have F5:=Lib.hid (F3.out.below hb5 (by omega))
 have RT:=Lib.hid (ret_set F5.out (B3.out.trans (hb5.mono (by omega))) HF5.out (fun b ⟨h1,h2⟩=>⟨by omega,by omega,h2⟩))
 clear hf5 hb5
 obtain⟨r0,r1,r2,r3,rf⟩:=F5.out
 go_wp2_with fail
 clear r0 r1 r2 r3 rf
 refine bodyPost_ret (v:= .tuple #[.agg #[.int .i64 dk,.int .i64 dc,.slice ua un ucap,.slice va vn vcap],X]) ?_ rfl ⟨_,rfl,RT.out.lies,RT.out.bel⟩
 obtain⟨_,_,e0,e1,e2,e3⟩:=RT.out
 simp[results,Tryz.results30,go_sem,e0,e1,e2,e3]
theorem rnorm_bad (k c K:Int)(hK:K≠0)(a ka:Option Addr)(n cap kn kcap:Nat)(w:World)
 (HC:∀W,Below w.heap.size w W→Calls Tryz.prog 60 #[.agg #[.int .i64 k,.int .i64 c,.slice a n cap,.slice ka kn kcap]] W fun e w'=>e= .returned (.int .i64 K)∧Below W.heap.size W w'):
 Calls Tryz.prog 36 #[.agg #[.int .i64 k,.int .i64 c,.slice a n cap,.slice ka kn kcap]] w (Ans w.heap.size 2 (.mk 0 0 [] []) (.int .i64 K) w):=by
 have HCH:=Lib.hid HC
 clear HC
 have SZ:Hid (w.heap.size+2=((w.alloc (.cells #[.int .i64 k,.int .i64 c,.slice a n cap,.slice ka kn kcap] 39)).alloc (.cells #[.int .i64 0,.int .i64 0,.slice none 0 0,.slice none 0 0] 39)).heap.size):=by show _=_;simp
 have ST:=Lib.hid (args_start w k c a ka n cap kn kcap)
 obtain⟨-,p0,p1,p2,p3, -⟩:=ST.out.1
 generalize hW:(w.alloc (.cells #[.int .i64 k,.int .i64 c,.slice a n cap,.slice ka kn kcap] 39)).alloc (.cells #[.int .i64 0,.int .i64 0,.slice none 0 0,.slice none 0 0] 39)=W0 at ST SZ p0 p1 p2 p3
 go_enter Tryz.func36,Tryz.ntmps36
 go_wp2_with fail
 clear hW
 refine(HCH.out _ ST.out.1.bel).mono ?_
 rintro e w3 ⟨rfl,hb3⟩
 have hz3:=hb3.size
 have hz:=SZ.out
 have B3:=Lib.hid (ST.out.1.bel.trans (hb3.mono (by omega)))
 have F3:=Lib.hid (ST.out.2.below hb3 (by omega))
 have X3:=Lib.hid (ST.out.1.below hb3 (by omega))
 have Z3:w.heap.size+2≤w3.heap.size:=by omega
 clear hb3 hz3 hz p0 p1 p2 p3
 have RT:=Lib.hid (ret_set (m:=2) (f:= .mk 0 0 [] []) (S:=fun _=>False) F3.out B3.out flies_flat (fun b h=>h.elim))
 obtain⟨r0,r1,r2,r3,rf⟩:=F3.out
 go_wp2_with fail
 clear r0 r1 r2 r3 rf
 refine bodyPost_ret (v:= .tuple #[.agg #[.int .i64 0,.int .i64 0,.slice none 0 0,.slice none 0 0],.int .i64 K]) ?_ rfl ⟨_,rfl,RT.out.lies,RT.out.bel⟩
 obtain⟨_,_,e0,e1,e2,e3⟩:=RT.out
 simp[results,Tryz.results36,go_sem,e0,e1,e2,e3]
theorem rnorm_true (k c:Int)(a ka:Option Addr)(n cap kn kcap:Nat)(m:Nat)(g:FT)(w:World)
 (HC:∀W,Below w.heap.size w W→Calls Tryz.prog 60 #[.agg #[.int .i64 k,.int .i64 c,.slice a n cap,.slice ka kn kcap]] W fun e w'=>e= .returned (.int .i64 0)∧Below W.heap.size W w')
 (HN:∀W,Below w.heap.size w W→Calls Tryz.prog 61 #[.agg #[.int .i64 k,.int .i64 c,.slice a n cap,.slice ka kn kcap],.bool false] W (Ans W.heap.size m g (.bool true) W)):
 Calls Tryz.prog 36 #[.agg #[.int .i64 k,.int .i64 c,.slice a n cap,.slice ka kn kcap]] w (Ans w.heap.size m g (.int .i64 0) w):=by
 have HCH:=Lib.hid HC
 have HNH:=Lib.hid HN
 clear HC HN
 have SZ:Hid (w.heap.size+2=((w.alloc (.cells #[.int .i64 k,.int .i64 c,.slice a n cap,.slice ka kn kcap] 39)).alloc (.cells #[.int .i64 0,.int .i64 0,.slice none 0 0,.slice none 0 0] 39)).heap.size):=by show _=_;simp
 have ST:=Lib.hid (args_start w k c a ka n cap kn kcap)
 obtain⟨-,p0,p1,p2,p3, -⟩:=ST.out.1
 generalize hW:(w.alloc (.cells #[.int .i64 k,.int .i64 c,.slice a n cap,.slice ka kn kcap] 39)).alloc (.cells #[.int .i64 0,.int .i64 0,.slice none 0 0,.slice none 0 0] 39)=W0 at ST SZ p0 p1 p2 p3
 go_enter Tryz.func36,Tryz.ntmps36
 go_wp2_with fail
 clear hW
 refine(HCH.out _ ST.out.1.bel).mono ?_
 rintro e w3 ⟨rfl,hb3⟩
 have hz3:=hb3.size
 have hz:=SZ.out
 have B3:=Lib.hid (ST.out.1.bel.trans (hb3.mono (by omega)))
 have F3:=Lib.hid (ST.out.2.below hb3 (by omega))
 have X3:=Lib.hid (ST.out.1.below hb3 (by omega))
 have Z3:w.heap.size+2≤w3.heap.size:=by omega
 clear hb3 hz3 hz p0 p1 p2 p3
 obtain⟨-,q0,q1,q2,q3, -⟩:=X3.out
 go_wp2_with fail
 clear q0 q1 q2 q3
 refine(HNH.out _ B3.out).mono ?_
 rintro e w5 ⟨cs5,rfl,hf5,hb5⟩
 have HF5:=Lib.hid hf5
 obtain⟨dk,dc,ua,un,ucap,va,vn,vcap,rfl⟩:=hf5.form
 have hz5:=hb5.size
 have hba6:Below w5.heap.size w5 (w5.alloc (.cells #[.int .i64 dk,.int .i64 dc,.slice ua un ucap,.slice va vn vcap] 39)):=(Below.refl _ _).alloc (Nat.le_refl _) _
 have hz6:=hba6.size
 have hb6:Below w3.heap.size w3 (w5.alloc (.cells #[.int .i64 dk,.int .i64 dc,.slice ua un ucap,.slice va vn vcap] 39)):=hb5.trans (hba6.mono hz5)
 have F6:=Lib.hid (F3.out.below hb6 (by omega))
 have RT:=Lib.hid (ret_set F6.out (B3.out.trans (hb6.mono (by omega))) (HF5.out.keep (S':=fun b=>w3.heap.size≤b∧b<w5.heap.size) (fun _ h=>h) (fun b o ⟨h1,h2⟩=>hba6.cell (p:=⟨b,o,none⟩) h2)) (fun b ⟨h1,h2⟩=>⟨by omega,by omega,by omega⟩))
 obtain⟨t0,t1,t2,t3⟩:=form_cells (heap_alloc_new w5 (.cells #[.int .i64 dk,.int .i64 dc,.slice ua un ucap,.slice va vn vcap] 39))
 clear hf5 hb5 hba6 hb6 hz5 hz6
 obtain⟨r0,r1,r2,r3,rf⟩:=F6.out
 go_wp2_with fail
 clear r0 r1 r2 r3 rf t0 t1 t2 t3
 refine bodyPost_ret (v:= .tuple #[.agg #[.int .i64 dk,.int .i64 dc,.slice ua un ucap,.slice va vn vcap],.int .i64 0]) ?_ rfl ⟨_,rfl,RT.out.lies,RT.out.bel⟩
 obtain⟨_,_,e0,e1,e2,e3⟩:=RT.out
 simp[results,Tryz.results36,go_sem,e0,e1,e2,e3]
theorem rnorm_false (k c:Int)(a ka:Option Addr)(n cap kn kcap:Nat)(m:Nat)(g:FT)(w:World)
 (HC:∀W,Below w.heap.size w W→Calls Tryz.prog 60 #[.agg #[.int .i64 k,.int .i64 c,.slice a n cap,.slice ka kn kcap]] W fun e w'=>e= .returned (.int .i64 0)∧Below W.heap.size W w')
 (HN:∀W,Below w.heap.size w W→Calls Tryz.prog 61 #[.agg #[.int .i64 k,.int .i64 c,.slice a n cap,.slice ka kn kcap],.bool false] W (Ans W.heap.size m g (.bool false) W)):
 Calls Tryz.prog 36 #[.agg #[.int .i64 k,.int .i64 c,.slice a n cap,.slice ka kn kcap]] w (Ans w.heap.size 2 (.mk 0 0 [] []) (.int .i64 3) w):=by
 have HCH:=Lib.hid HC
 have HNH:=Lib.hid HN
 clear HC HN
 have SZ:Hid (w.heap.size+2=((w.alloc (.cells #[.int .i64 k,.int .i64 c,.slice a n cap,.slice ka kn kcap] 39)).alloc (.cells #[.int .i64 0,.int .i64 0,.slice none 0 0,.slice none 0 0] 39)).heap.size):=by show _=_;simp
 have ST:=Lib.hid (args_start w k c a ka n cap kn kcap)
 obtain⟨-,p0,p1,p2,p3, -⟩:=ST.out.1
 generalize hW:(w.alloc (.cells #[.int .i64 k,.int .i64 c,.slice a n cap,.slice ka kn kcap] 39)).alloc (.cells #[.int .i64 0,.int .i64 0,.slice none 0 0,.slice none 0 0] 39)=W0 at ST SZ p0 p1 p2 p3
 go_enter Tryz.func36,Tryz.ntmps36
 go_wp2_with fail
 clear hW
 refine(HCH.out _ ST.out.1.bel).mono ?_
 rintro e w3 ⟨rfl,hb3⟩
 have hz3:=hb3.size
 have hz:=SZ.out
 have B3:=Lib.hid (ST.out.1.bel.trans (hb3.mono (by omega)))
 have F3:=Lib.hid (ST.out.2.below hb3 (by omega))
 have X3:=Lib.hid (ST.out.1.below hb3 (by omega))
 have Z3:w.heap.size+2≤w3.heap.size:=by omega
 clear hb3 hz3 hz p0 p1 p2 p3
 obtain⟨-,q0,q1,q2,q3, -⟩:=X3.out
 go_wp2_with fail
 clear q0 q1 q2 q3
 refine(HNH.out _ B3.out).mono ?_
 rintro e w5 ⟨cs5,rfl,hf5,hb5⟩
 have HF5:=Lib.hid hf5
 obtain⟨dk,dc,ua,un,ucap,va,vn,vcap,rfl⟩:=hf5.form
 have hz5:=hb5.size
 have hba6:Below w5.heap.size w5 (w5.alloc (.cells #[.int .i64 dk,.int .i64 dc,.slice ua un ucap,.slice va vn vcap] 39)):=(Below.refl _ _).alloc (Nat.le_refl _) _
 have hz6:=hba6.size
 have hb6:Below w3.heap.size w3 (w5.alloc (.cells #[.int .i64 dk,.int .i64 dc,.slice ua un ucap,.slice va vn vcap] 39)):=hb5.trans (hba6.mono hz5)
 have F6:=Lib.hid (F3.out.below hb6 (by omega))
 have RT:=Lib.hid (ret_set (m:=2) (f:= .mk 0 0 [] []) (S:=fun _=>False) F6.out (B3.out.trans (hb6.mono (by omega))) flies_flat (fun b h=>h.elim))
 obtain⟨t0,t1,t2,t3⟩:=form_cells (heap_alloc_new w5 (.cells #[.int .i64 dk,.int .i64 dc,.slice ua un ucap,.slice va vn vcap] 39))
 clear hf5 hb5 hba6 hb6 hz5 hz6
 obtain⟨r0,r1,r2,r3,rf⟩:=F6.out
 go_wp2_with fail
 clear r0 r1 r2 r3 rf t0 t1 t2 t3
 refine bodyPost_ret (v:= .tuple #[.agg #[.int .i64 0,.int .i64 0,.slice none 0 0,.slice none 0 0],.int .i64 3]) ?_ rfl ⟨_,rfl,RT.out.lies,RT.out.bel⟩
 obtain⟨_,_,e0,e1,e2,e3⟩:=RT.out
 simp[results,Tryz.results36,go_sem,e0,e1,e2,e3]
theorem norm_both (n:Nat)(f:FT)(cs:List Value)(w:World)(hlit:litF n f)(h:FLies w.heap.size w n f cs):
 Calls Tryz.prog 30 #[.agg cs.toArray] w (Ans w.heap.size (n+2) (nrmT n f) (codeV (nrmK n f)) w)∧
 Calls Tryz.prog 36 #[.agg cs.toArray] w (Ans w.heap.size (n+2) (nrmT n f) (.int .i64 (nrmK n f)) w):=by
 have FL:=fun W (hb:Below w.heap.size w W)=>(h.below hb).mono hb.size
 have C1:=fun W (hb:Below w.heap.size w W)=>fcheck_any n f _ W (FL W hb)
 have C2:=fun W (hb:Below w.heap.size w W)=>rfcheck_any n f _ W (FL W hb)
 have hform:∃(k c:Int) (a:Option Addr) (m cap:Nat) (ka:Option Addr) (kn kcap:Nat),cs=[.int .i64 k,.int .i64 c,.slice a m cap,.slice ka kn kcap]:=by
  cases n with
  | zero=>exact h.elim
  | succ n=>
    obtain⟨ta,tcap,ka,kcap,rfl,_⟩:=h
    exact⟨_,_,_,_,_,_,_,_,rfl⟩
 obtain⟨k,c,a,m,cap,ka,kn,kcap,rfl⟩:=hform
 unfold nrmT nrmK
 by_cases h0:cc n f=0
 ·obtain⟨_,_,hs⟩:=cc_sound h0
  rw[if_pos h0,if_pos h0]
  rw[h0]at C1 C2
  have N1:=fun W (hb:Below w.heap.size w W)=>nrm_any n f true _ W hs hlit (FL W hb)
  have N2:=fun W (hb:Below w.heap.size w W)=>rnrm_any n f false _ W hs hlit (FL W hb)
  rw[show(!false)=true from rfl]at N2
  cases ho:normF n f true with
  | none=>
    rw[ho]at N1 N2
    exact⟨nnorm_ok k c a ka m cap kn kcap (n+2) _ _ w C1 N1,(rnorm_false k c a ka m cap kn kcap (n+2) _ w C2 N2).mono fun _ _ h=>h.up (by omega)⟩
  | some g=>
    rw[ho]at N1 N2
    exact⟨nnorm_ok k c a ka m cap kn kcap (n+2) _ _ w C1 N1,rnorm_true k c a ka m cap kn kcap (n+2) _ w C2 N2⟩
 ·rw[if_neg h0,if_neg h0]
  have e:codeV (cc n f)= .iface 60 (.int .i64 (cc n f)):=by unfold codeV;rw[if_neg h0]
  rw[e]at C1⊢
  exact⟨(nnorm_bad k c _ a ka m cap kn kcap w C1).mono fun _ _ h=>h.up (by omega),(rnorm_bad k c _ h0 a ka m cap kn kcap w C2).mono fun _ _ h=>h.up (by omega)⟩
end
section
open Go.RowKit
theorem gat_sound:∀(n:Nat) (f:FT) (am:List (Int×List (Int×Int))),madeF n f=true→(∀x∈am,snd x.1 x.2=true)→∀x∈gatF n f am,snd x.1 x.2=true
 | 0,f,am,hm,_=>by cases hm
 | n+1,f,am,hm,h=>by
   have hk:=made_kids hm
   have hto:∀i,i≤f.ks.length→∀x∈gatTo n f.ks am i,snd x.1 x.2=true:=fun i=>by
    induction i with
    | zero=>exact fun _=>h
    | succ i ih=>
      intro hi
      rw[gatTo_succ n f.ks am i hi]
      exact gat_sound n _ _ (hk i hi) (ih (by omega))
   rw[gatTo_len]
   split
   ·rename_i h2
    unfold addA
    split
    ·intro x hx
     rcases List.mem_append.1 hx with hx | hx
     ·exact hto _ (Nat.le_refl _) x hx
     ·rw[List.mem_singleton]at hx
      subst hx
      exact(made_snd hm h2).1
    ·exact hto _ (Nat.le_refl _)
   ·exact hto _ (Nat.le_refl _)
theorem form_of {B:Nat}{w:World}{n:Nat}{f:FT}{cs:List Value}(h:FLies B w n f cs):∃(k c:Int) (a:Option Addr) (m cap:Nat) (ka:Option Addr) (kn kcap:Nat),cs=[.int .i64 k,.int .i64 c,.slice a m cap,.slice ka kn kcap]:=by
 cases n with
 | zero=>exact h.elim
 | succ n=>
   obtain⟨ta,tcap,ka,kcap,rfl,_⟩:=h
   exact⟨_,_,_,_,_,_,_,_,rfl⟩
theorem norm_all (n:Nat)(f:FT)(cs:List Value)(w:World)(h:FLies w.heap.size w n f cs):
 Calls Tryz.prog 30 #[.agg cs.toArray] w (Ans w.heap.size (n+2) (nrmT n f) (codeV (nrmK n f)) w):=by
 by_cases h0:cc n f=0
 ·obtain⟨_,h2,h3⟩:=cc_sound h0
  exact(norm_both n f cs w (lit_of h h3 h2) h).1
 ·have C1:=fun W (hb:Below w.heap.size w W)=>fcheck_any n f _ W ((h.below hb).mono hb.size)
  obtain⟨k,c,a,m,cap,ka,kn,kcap,rfl⟩:=form_of h
  unfold nrmT nrmK
  rw[if_neg h0,if_neg h0]
  have e:codeV (cc n f)= .iface 60 (.int .i64 (cc n f)):=by unfold codeV;rw[if_neg h0]
  rw[e]at C1⊢
  exact(nnorm_bad k c _ a ka m cap kn kcap w C1).mono fun _ _ h=>h.up (by omega)
theorem rnorm_all (n:Nat)(f:FT)(cs:List Value)(w:World)(h:FLies w.heap.size w n f cs):
 Calls Tryz.prog 36 #[.agg cs.toArray] w (Ans w.heap.size (n+2) (nrmT n f) (.int .i64 (nrmK n f)) w):=by
 by_cases h0:cc n f=0
 ·obtain⟨_,h2,h3⟩:=cc_sound h0
  exact(norm_both n f cs w (lit_of h h3 h2) h).2
 ·have C2:=fun W (hb:Below w.heap.size w W)=>rfcheck_any n f _ W ((h.below hb).mono hb.size)
  obtain⟨k,c,a,m,cap,ka,kn,kcap,rfl⟩:=form_of h
  unfold nrmT nrmK
  rw[if_neg h0,if_neg h0]
  exact(rnorm_bad k c _ h0 a ka m cap kn kcap w C2).mono fun _ _ h=>h.up (by omega)
end
section
open Go.RowKit
theorem codeV_ways (x:Int):(x=0∧codeV x= .nilIface)∨(x≠0∧∃k:Int,codeV x= .iface 60 (.int .i64 k)):=by
 unfold codeV
 by_cases h:x=0
 ·exact .inl ⟨h,by rw[if_pos h]⟩
 ·exact .inr ⟨h,x,by rw[if_neg h]⟩
def CheckEndG (nk mk:Int)(ks:Nat→Int)(nl:Nat)(N:Int)(cl ss:List (List Int))(w:World)(e:Ending)(w':World):Prop:=
 ∃er x at',e= .returned er∧CertIs nk mk ks nl N cl ss x at'∧Prp.ErrIs w.heap.size x at' er w'∧Below w.heap.size w w'
theorem take_fst {lms:List (List Int×List (List (Int×Int)×Int))}{j:Nat}(h:j<lms.length):(lms.take (j+1)).map Prod.fst=(lms.take j).map Prod.fst ++ [(lms.getD j ([],[])).1]:=by
 rw[List.take_succ_eq_append_getElem h,List.map_append,List.getD_eq_getElem?_getD,List.getElem?_eq_getElem h]
 rfl
theorem errIs_low {B B':Nat}{k at':Int}{er:Value}{w:World}(h:Prp.ErrIs B k at' er w)(hB:B'≤B):Prp.ErrIs B' k at' er w:=
 ⟨h.1,fun h0=>by
   obtain⟨g,e1,e2,r⟩:=h.2 h0
   exact⟨g,e1,Nat.le_trans hB e2,r⟩⟩
theorem spot_new {B:Nat}(j:Nat)(k:Int)(W:World)(h:B≤W.heap.size):Prp.ErrIs B k j (.iface 76 (.pointer (some ⟨W.heap.size,0,none⟩))) (W.alloc (.cells #[.int .i64 j,codeV k] 79)):=by
 have hn:=heap_alloc_new W (.cells #[.int .i64 j,codeV k] 79)
 refine⟨fun h=>by omega,fun _=>⟨W.heap.size,rfl,h,by simp,(cell_of_row _ _ _ _ _ _ hn).trans rfl,(cell_of_row _ _ _ _ _ _ hn).trans rfl⟩⟩
structure CB (w W:World)(M:Nat)(x0 x1 x2:Value)(la ra:Option Addr)(ln lcap rn rcap:Nat):Prop where
 lt:w.heap.size+1<W.heap.size∧M<W.heap.size
 d0:W.cell? ⟨w.heap.size+1,0,none⟩=some (.slice la ln lcap)
 d1:W.cell? ⟨w.heap.size+1,1,none⟩=some (.slice ra rn rcap)
 m0:W.cell? ⟨M,0,none⟩=some x0
 m1:W.cell? ⟨M,1,none⟩=some x1
 m2:W.cell? ⟨M,2,none⟩=some x2
 bel:Below w.heap.size w W
theorem CB.below {w W W':World}{M B:Nat}{x0 x1 x2:Value}{la ra:Option Addr}{ln lcap rn rcap:Nat}(h:CB w W M x0 x1 x2 la ra ln lcap rn rcap)(hb:Below B W W')(hB:w.heap.size+1<B∧M<B):CB w W' M x0 x1 x2 la ra ln lcap rn rcap:=
 ⟨⟨Nat.lt_of_lt_of_le h.lt.1 hb.size,Nat.lt_of_lt_of_le h.lt.2 hb.size⟩,(hb.cell (p:=⟨w.heap.size+1,0,none⟩) hB.1).trans h.d0,(hb.cell (p:=⟨w.heap.size+1,1,none⟩) hB.1).trans h.d1,(hb.cell (p:=⟨M,0,none⟩) hB.2).trans h.m0,(hb.cell (p:=⟨M,1,none⟩) hB.2).trans h.m1,(hb.cell (p:=⟨M,2,none⟩) hB.2).trans h.m2,h.bel.trans (hb.mono (by omega))⟩
theorem check_cert (hbeg:Prp.BeginSaid)(n:Nat)(f:FT)(cs:List Value)(la:Option Addr)(ln lcap:Nat)(lms:List (List Int×List (List (Int×Int)×Int)))(ra:Option Addr)(rn rcap:Nat)(ss:List (List Int))(ks:Nat→Int)(w:World)(h:FLies w.heap.size w (n+1) f cs)
 (ht:Tens w.heap.size w) (hg:Prp.Laid0 w) (hln:lms.length=ln) (hL:LmLies w.heap.size w la lms) (hrn:ss.length=rn) (hR:Prp.CLies w.heap.size w ra ss) (hE:EasyC lms ss) (hks:∀j,j<lms.length→LemIs (atomsF (n+3) (nrmT (n+1) f)) (lms.getD j ([],[])) (ks j)):
 Calls Tryz.prog 14 #[.agg cs.toArray,.agg #[.slice la ln lcap,.slice ra rn rcap]] w (CheckEndG (nrmK (n+1) f) (cnfK (n+3) (nrmT (n+1) f)) ks lms.length (makF (n+3) (nrmT (n+1) f)).n (clsF (n+3) (nrmT (n+1) f) ++ lms.map Prod.fst) ss w):=by
 have hh:=h
 obtain⟨ta,tcap,ka,kcap,rfl, -⟩:=h
 have FL:=Lib.hid (fun W (hb:Below w.heap.size w W)=>(hh.below hb).mono hb.size)
 have HNO:=Lib.hid (fun W (hb:Below w.heap.size w W)=>norm_all (n+1) f _ W (FL.out W hb))
 have HMK:=Lib.hid (fun cs W (hb:Below w.heap.size w W) hf=>make_any (n+3) (nrmT (n+1) f) cs W hf (ht.up hb hb.size))
 have HLM:=Lib.hid (fun W (hb:Below w.heap.size w W)=>hL.below hb (Nat.le_refl _))
 have HRC:=Lib.hid (fun W (hb:Below w.heap.size w W)=>(hR.below hb).mono hb.size)
 have HG:=Lib.hid hg
 have HLN:=Lib.hid hln
 have HRN:=Lib.hid hrn
 have HE:=Lib.hid hE
 have HKS:=Lib.hid hks
 have n0:=fun W=>Tryz.neNil W
 have n1:=fun t v W=>Cut.Tryz.neIface t v W
 have hl40:ln≤40:=by rw[←hln];exact hE.l1
 have hr60:rn≤60:=by rw[←hrn];exact hE.l2
 have HBE:=Lib.hid hbeg
 clear ht FL hh hL hR hg hln hrn hE hks hbeg
 have hA1:Below w.heap.size w (w.alloc (.cells #[.int .i64 f.kind,.int .i64 f.c,.slice ta f.t.length tcap,.slice ka f.ks.length kcap] 39)):=(Below.refl _ _).alloc (Nat.le_refl _) _
 have hb0:=box_start w f.kind f.c ta ka f.t.length tcap f.ks.length kcap
 generalize f.kind=fk at*
 generalize f.c=fc at*
 generalize f.t.length=ft at*
 generalize f.ks.length=fl at*
 have hA2:Below (w.alloc (.cells #[.int .i64 fk,.int .i64 fc,.slice ta ft tcap,.slice ka fl kcap] 39)).heap.size (w.alloc (.cells #[.int .i64 fk,.int .i64 fc,.slice ta ft tcap,.slice ka fl kcap] 39)) ((w.alloc (.cells #[.int .i64 fk,.int .i64 fc,.slice ta ft tcap,.slice ka fl kcap] 39)).alloc (.cells #[.slice la ln lcap,.slice ra rn rcap] 43)):=(Below.refl _ _).alloc (Nat.le_refl _) _
 have hz1:(w.alloc (.cells #[.int .i64 fk,.int .i64 fc,.slice ta ft tcap,.slice ka fl kcap] 39)).heap.size=w.heap.size+1:=by simp
 have hn2:=heap_alloc_new (w.alloc (.cells #[.int .i64 fk,.int .i64 fc,.slice ta ft tcap,.slice ka fl kcap] 39)) (.cells #[.slice la ln lcap,.slice ra rn rcap] 43)
 rw[hz1]at hn2
 have hz2:((w.alloc (.cells #[.int .i64 fk,.int .i64 fc,.slice ta ft tcap,.slice ka fl kcap] 39)).alloc (.cells #[.slice la ln lcap,.slice ra rn rcap] 43)).heap.size=w.heap.size+2:=by simp
 have T1:=Lib.hid (hb0.below hA2 hb0.lt)
 have D0:((w.alloc (.cells #[.int .i64 fk,.int .i64 fc,.slice ta ft tcap,.slice ka fl kcap] 39)).alloc (.cells #[.slice la ln lcap,.slice ra rn rcap] 43)).cell? ⟨w.heap.size+1,0,none⟩=some (.slice la ln lcap):=(cell_of_row _ _ _ _ _ _ hn2).trans rfl
 have D1:((w.alloc (.cells #[.int .i64 fk,.int .i64 fc,.slice ta ft tcap,.slice ka fl kcap] 39)).alloc (.cells #[.slice la ln lcap,.slice ra rn rcap] 43)).cell? ⟨w.heap.size+1,1,none⟩=some (.slice ra rn rcap):=(cell_of_row _ _ _ _ _ _ hn2).trans rfl
 obtain⟨_,p0,p1,p2,p3,_⟩:=T1.out
 have HZ:=Lib.hid hz2
 clear hA1 hb0 hA2 hz1 hn2 hz2
 go_enter Tryz.func14,Tryz.ntmps14
 go_wp2_with fail
 generalize (w.alloc (.cells #[.int .i64 fk,.int .i64 fc,.slice ta ft tcap,.slice ka fl kcap] 39)).alloc (.cells #[.slice la ln lcap,.slice ra rn rcap] 43)=W2 at*
 refine(HNO.out _ T1.out.bel).mono ?_
 rintro e w3 ⟨cs3,rfl,hf3,hb3⟩
 obtain⟨k3,c3,ta3,tn3,tcap3,ka3,kn3,kcap3,rfl⟩:=hf3.form
 have hfl3:FLies w3.heap.size w3 (n+3) (nrmT (n+1) f) _:=hf3.lies (fun b hb=>hb.2)
 have hz23:w.heap.size+2≤w3.heap.size:=by have:=hb3.size;rw[HZ.out]at this;exact this
 have hb13:=T1.out.bel.trans (hb3.mono T1.out.bel.size)
 have e0:=(hb3.cell (p:=⟨w.heap.size+1,0,none⟩) (show w.heap.size+1<_ by rw[HZ.out];omega)).trans D0
 have e1:=(hb3.cell (p:=⟨w.heap.size+1,1,none⟩) (show w.heap.size+1<_ by rw[HZ.out];omega)).trans D1
 have hA3:Below w3.heap.size w3 (w3.alloc (.cells #[.int .i64 k3,.int .i64 c3,.slice ta3 tn3 tcap3,.slice ka3 kn3 kcap3] 39)):=(Below.refl _ _).alloc (Nat.le_refl _) _
 have HO:=Lib.hid (box_start w3 k3 c3 ta3 ka3 tn3 tcap3 kn3 kcap3)
 have HF4:=Lib.hid ((hfl3.below hA3).mono hA3.size)
 have HB4:=Lib.hid (hb13.trans (hA3.mono hb13.size))
 have E0:=Lib.hid ((hA3.cell (p:=⟨w.heap.size+1,0,none⟩) (show w.heap.size+1<_ by omega)).trans e0)
 have E1:=Lib.hid ((hA3.cell (p:=⟨w.heap.size+1,1,none⟩) (show w.heap.size+1<_ by omega)).trans e1)
 have HZ4:Hid (w.heap.size+2<(w3.alloc (.cells #[.int .i64 k3,.int .i64 c3,.slice ta3 tn3 tcap3,.slice ka3 kn3 kcap3] 39)).heap.size):=Lib.hid (by rw[World.size_alloc];omega)
 clear hf3 hfl3 hb3 hA3 hz23 hb13 e0 e1 D0 D1 p0 p1 p2 p3 HZ T1 HNO
 rcases codeV_ways (nrmK (n+1) f)with ⟨hk0,hkv⟩ | ⟨hk0,k,hkv⟩
 ·rw[hkv]
  have HK0:=Lib.hid hk0
  have HM4:=Lib.hid (HMK.out _ _ HB4.out HF4.out)
  obtain⟨_,p0,p1,p2,p3,_⟩:=HO.out
  clear hk0 hkv HMK HF4 HO
  go_wp2_with fail
  clear p0 p1 p2 p3
  generalize w3.alloc (.cells #[.int .i64 k3,.int .i64 c3,.slice ta3 tn3 tcap3,.slice ka3 kn3 kcap3] 39)=W4 at*
  generalize nrmT (n+1) f=g at*
  refine HM4.out.mono ?_
  intro e w6 hE6
  obtain⟨hbad,hok,hb6⟩:=hE6
  have HB6:=Lib.hid (HB4.out.trans (hb6.mono HB4.out.size))
  by_cases hc:cnfK (n+3) g=0
  ·obtain⟨av,cv,rfl,hok2⟩:=hok hc
   have hi:=cnfK_made hc
   have HFEW:=Lib.hid (HE.out.few hi hc)
   obtain⟨q1,q2,q3,q4⟩:=cls_len hi
   have hat:=gat_sound (n+3) g [] (ret_made hi) (fun x hx=>by cases hx)
   obtain⟨aa,ac,ca,cc,rfl,rfl,hla,_⟩:=CnfOk.lies hok2 hi
   obtain⟨K,Sa,Sc,k1,k2,k3,k4,k5,k6,k7,k8⟩:=hok2
   obtain⟨ca',cc',ecv,hsc⟩:=k6.slot (by omega)
   injection ecv with ec1 ec2 ec3
   subst ec1 ec3
   have hsc2:Pak.Sits Pak.clauseSh (Pak.Lo w6.heap.size) w6 ca (clsF (n+3) g):=hsc.keep (fun b hb=>by
    rcases hb with hb | hb
    ·exact(k6.ok b hb).1
    ·exact(k6.lt b hb).2) (fun _ _ _=>rfl)
   have HOK:Hid (Cut.lsOk (atomsF (n+3) g)):=fun i hi=>hat _ (by rw[List.getD_eq_getElem?_getD,List.getElem?_eq_getElem hi];exact List.getElem_mem hi)
   obtain⟨N,hN⟩:∃N,N=(makF (n+3) g).n:=⟨_,rfl⟩
   obtain⟨an,han⟩:∃an,an=(atomsF (n+3) g).length:=⟨_,rfl⟩
   obtain⟨m,hm⟩:∃m,m=(clsF (n+3) g).length:=⟨_,rfl⟩
   rw[←hN,←han,←hm]
   have hA6:Below w6.heap.size w6 (w6.alloc (.cells #[.int .i64 N,.slice aa an ac,.slice ca m cc] 71)):=(Below.refl _ _).alloc (Nat.le_refl _) _
   obtain⟨y0,y1,y2⟩:=tree_cells w6 (.int .i64 N) (.slice aa an ac) (.slice ca m cc)
   have hb7:=hb6.trans (hA6.mono hb6.size)
   have hzz:w6.heap.size<(w6.alloc (.cells #[.int .i64 N,.slice aa an ac,.slice ca m cc] 71)).heap.size:=by simp
   have T7:Hid (CB w (w6.alloc (.cells #[.int .i64 N,.slice aa an ac,.slice ca m cc] 71)) w6.heap.size (.int .i64 N) (.slice aa an ac) (.slice ca m cc) la ra ln lcap rn rcap):=
    ⟨⟨Nat.lt_of_lt_of_le (show w.heap.size+1<_ from Nat.lt_of_succ_lt HZ4.out) hb7.size,hzz⟩,(hb7.cell (p:=⟨w.heap.size+1,0,none⟩) (Nat.lt_of_succ_lt HZ4.out)).trans E0.out,(hb7.cell (p:=⟨w.heap.size+1,1,none⟩) (Nat.lt_of_succ_lt HZ4.out)).trans E1.out,y0,y1,y2,HB6.out.trans (hA6.mono HB6.out.size)⟩
   have HSC:=Lib.hid (hsc2.below hA6 hA6.size)
   have HLA:=Lib.hid ((hla.below hA6).mono hA6.size)
   have hm6:m≤60000:=by rw[hm];exact q3
   have han6:an≤1000000:=by rw[han];omega
   have HNN:=Lib.hid hN
   have HAN:=Lib.hid han
   have HMM:=Lib.hid hm
   have HCC:=Lib.hid hc
   have l41:¬(4096<(ln:Int)):=by omega
   clear hbad hok hb6 hc hi hat hla k1 k2 k3 k4 k5 k6 k7 k8 hsc hsc2 hA6 y0 y1 y2 hb7 hzz q1 q2 q3 q4 HB4 HB6 HM4 E0 E1 HZ4 hN han hm HE
   obtain⟨_,d0,d1,m0,m1,m2,_⟩:=T7.out
   go_wp2_with fail
   generalize w6.alloc (.cells #[.int .i64 N,.slice aa an ac,.slice ca m cc] 71)=W7 at*
   generalize w6.heap.size=M at*
   refine(clone_r ca m cc (clsF (n+3) g) W7 HMM.out.symm (by omega) HSC.out).mono ?_
   rintro e w8 ⟨v8,rfl,ho8,hb8⟩
   have T8:=Lib.hid (T7.out.below hb8 T7.out.lt)
   have HO8:=Lib.hid ho8
   have HB8:=Lib.hid hb8
   clear ho8 hb8 HSC d0 d1 m0 m1 m2
   obtain⟨_,d0,d1,m0,m1,m2,_⟩:=T8.out
   go_wp2_with fail
   clear d0 d1 m0 m1 m2
   go_loopw [8,39] (fun v i wr=>∃(j:Nat),j≤ln∧i= .int .i64 j∧Hid (∀q,q<j→ks q=0)∧Hid (OwnP Pak.clauseSh 23 W7.heap.size (Pak.Lo W7.heap.size) (clsF (n+3) g ++ (lms.take j).map Prod.fst) v wr)∧Hid (Below W7.heap.size W7 wr)) (fun _ i _=>ln - (intOf i).toNat)
   case atStart=>exact⟨0,Nat.zero_le _,rfl,fun j hj=>absurd hj (Nat.not_lt_zero _),Lib.hid (by simpa using HO8.out),HB8.out⟩
   case round=>
    clear HO8 HB8 T8
    obtain⟨j,hj,rfl,hz0,hrow,hbr⟩:=hrel
    obtain⟨wo,rfl⟩:∃wo:World,wo=wr:=⟨_,rfl⟩
    have TR:=Lib.hid (T7.out.below hbr.out T7.out.lt)
    have HZR:=hbr.out.size
    by_cases hlt:j<ln
    ·obtain⟨b,off,ta5,tcap5,sa5,scap5,rfl,hb5,c0,c1,⟨hm1,hm2⟩,hsi,hsl⟩:=HLM.out wo TR.out.bel j (by rw[HLN.out];exact hlt)
     have hz5:=TR.out.bel.size
     have HKJ:=Lib.hid (HKS.out j (by rw[HLN.out];exact hlt))
     have HTK:=Lib.hid (take_fst (lms:=lms) (j:=j) (by rw[HLN.out];exact hlt))
     obtain⟨lm,hlm⟩:∃lm,lm=lms.getD j ([],[]):=⟨_,rfl⟩
     have hlits:lm.1.length≤1000000:=by
      rw[hlm,List.getD_eq_getElem?_getD,List.getElem?_eq_getElem (by rw[HLN.out];exact hlt),Option.getD_some]
      have:=HFEW.out.k1 (lms[j]'(by rw[HLN.out];exact hlt)).1 (List.mem_append_right _ (List.mem_map_of_mem (List.getElem_mem _)))
      omega
     rw[←hlm]at c0 c1 hm1 hm2 hsi hsl HKJ HTK
     clear hlm
     obtain⟨ls,sp⟩:=lm
     simp only at c0 c1 hm1 hm2 hsi hsl hlits HTK
     have hA9:Below wo.heap.size wo (wo.alloc (.cells #[.slice ta5 ls.length tcap5,.slice sa5 sp.length scap5] 57)):=(Below.refl _ _).alloc (Nat.le_refl _) _
     have hn9:=heap_alloc_new wo (.cells #[.slice ta5 ls.length tcap5,.slice sa5 sp.length scap5] 57)
     have T9:=Lib.hid (TR.out.below hA9 TR.out.lt)
     have r0:(wo.alloc (.cells #[.slice ta5 ls.length tcap5,.slice sa5 sp.length scap5] 57)).cell? ⟨wo.heap.size,0,none⟩=some (.slice ta5 ls.length tcap5):=(cell_of_row _ _ _ _ _ _ hn9).trans rfl
     have r1:(wo.alloc (.cells #[.slice ta5 ls.length tcap5,.slice sa5 sp.length scap5] 57)).cell? ⟨wo.heap.size,1,none⟩=some (.slice sa5 sp.length scap5):=(cell_of_row _ _ _ _ _ _ hn9).trans rfl
     have HBR:=Lib.hid (hbr.out.trans (hA9.mono hbr.out.size))
     have hz9':=Nat.le_trans hz5 hA9.size
     have HLE:=Lib.hid (lemma_any aa an ac (atomsF (n+3) g) ta5 ls.length tcap5 ls sa5 sp.length scap5 sp (wo.alloc (.cells #[.slice ta5 ls.length tcap5,.slice sa5 sp.length scap5] 57)) (ks j) HKJ.out HAN.out.symm han6 ((HLA.out.below HBR.out).mono HBR.out.size) HOK.out rfl hlits (nums_of (hsi.below (hA9.mono hz5) hz9') (fun b hb=>hb)) rfl hm2 ((hsl.below (hA9.mono hz5)).up hz9'))
     have HSI:=Lib.hid hsi
     have HA9:=Lib.hid hA9
     have HROW:=Lib.hid (hrow.out.below hA9)
     have hz9:wo.heap.size<(wo.alloc (.cells #[.slice ta5 ls.length tcap5,.slice sa5 sp.length scap5] 57)).heap.size:=by simp
     have HZ9:=Lib.hid hz9
     obtain⟨_,d0,d1,m0,m1,m2,_⟩:=T9.out
     clear hsi hsl hA9 hn9 HKJ hz9 hrow
     go_wp2_with fail
     generalize hWW:wo.alloc (.cells #[.slice ta5 ls.length tcap5,.slice sa5 sp.length scap5] 57)=W9 at*
     clear d0 d1 m0 m1 m2 hWW
     refine HLE.out.mono ?_
     rintro e w10 ⟨er,at5,rfl,her,hp5,hb10⟩
     have T10:=Lib.hid (T9.out.below hb10 T9.out.lt)
     have HB10:=Lib.hid (HBR.out.trans (hb10.mono HBR.out.size))
     have s0:=(hb10.cell (p:=⟨wo.heap.size,0,none⟩) HZ9.out).trans r0
     clear r0 r1
     by_cases hkj:ks j=0
     ·have hneg:at5<0:=Classical.byContradiction fun h=>hp5 (by omega) hkj
      have her2:=her.1 hneg
      rw[hkj]at her2
      have her3:er= .nilIface:=her2
      clear her2
      subst her3
      have HZ2:Hid (∀q,q<j+1→ks q=0):=fun q hq=>by
       by_cases e:q=j
       ·subst e;exact hkj
       ·exact hz0.out q (by omega)
      have hR10:=HROW.out.below hb10
      have hbo:=HA9.out.trans (hb10.mono HA9.out.size)
      have hWz:W7.heap.size≤w10.heap.size:=HB10.out.size
      have hwz:w.heap.size≤W7.heap.size:=T7.out.bel.size
      have hlen0:(clsF (n+3) g ++ (lms.take j).map Prod.fst).length≤4194304:=by
       rw[List.length_append,List.length_map,List.length_take,HMM.out.symm];omega
      obtain⟨v11,w11,hrun,ho11,hg11,_⟩:=hR10.put (P:=Tryz.prog) (t:=41) (x:=ls) (cs:=[.slice ta5 ls.length tcap5]) (Sx:=Pak.Lo W7.heap.size) Tryz.underlying41 (by':=24) (by kernel_rfl) (by decide) (by decide) hlen0 hWz
       ⟨_,rfl,ta5,tcap5,rfl,HSI.out.keep (fun b (hb:b<w.heap.size)=>Nat.lt_of_lt_of_le hb hwz) (fun b o (hb:b<w.heap.size)=>hbo.cell (p:=⟨b,o,none⟩) (Nat.lt_of_lt_of_le hb hz5))⟩ (fun b hb=>hR10.ok b hb)
      have RN:Hid (OwnP Pak.clauseSh 23 W7.heap.size (Pak.Lo W7.heap.size) (clsF (n+3) g ++ (lms.take (j+1)).map Prod.fst) v11 w11):=Lib.hid (by
       rw[HTK.out,←List.append_assoc]
       exact ho11.more (fun b hb=>hb.elim id id) (fun b hb=>ho11.ok b (.inl hb)))
      have BN:Hid (Below W7.heap.size W7 w11):=Lib.hid (HB10.out.grown hg11 hWz (fun q hq=>(hR10.lt q hq).1))
      have HRUN:=Lib.hid hrun
      clear her hp5 hb10 hkj hneg HLE hR10 hbo hWz hwz hlen0 ho11 hg11 hrun HTK HSI HROW HA9 hm1 hm2 hlits
      generalize ls.length=lsn at*
      go_wp2_with (at_builtin;refine Lib.wpList_append_run _ rfl _ _ _ _ rfl _ _ rfl rfl _ _ (HRUN.out _) ?_)
      go_roundw
      case rel=>exact⟨j+1,by omega,by go_num,HZ2,RN,BN⟩
      case measure=>simp[intOf];omega
     ·obtain⟨ti,vi,rfl⟩:=her.iface hkj
      have HCD:=Lib.hid (code_err her hkj (HG.out.below T10.out.bel HG.out.pos))
      have HCE:Hid (CertIs (nrmK (n+1) f) (cnfK (n+3) g) ks lms.length (makF (n+3) g).n (clsF (n+3) g ++ lms.map Prod.fst) ss (ks j) j):= .lem j HK0.out HCC.out (by rw[HLN.out];exact hlt) hz0.out hkj
      have HSP:=Lib.hid (fun W (hb:w.heap.size≤W.heap.size)=>spot_new j (ks j) W hb)
      have hkv:codeV (ks j)= .iface 60 (.int .i64 (ks j)):=if_neg hkj
      rw[hkv]at HCD HSP
      clear her hp5 hb10 hkj HLE HROW HA9 HSI HTK hm1 hm2 hlits s0 hkv
      go_wp2_with fail
      refine HCD.out.mono ?_
      rintro e w11 ⟨rfl,hb11⟩
      have HB11:=Lib.hid (T10.out.bel.trans (hb11.mono T10.out.bel.size))
      clear hb11 HCD
      go_wp2_with fail
      go_ret
      exact⟨_,_,_,rfl,HCE.out,HSP.out w11 HB11.out.size,HB11.out.alloc HB11.out.size _⟩
    ·obtain rfl:j=ln:=by omega
     have hrow':=hrow.out
     rw[List.take_of_length_le (by rw[HLN.out];exact Nat.le_refl _)]at hrow'
     have hlen0:(clsF (n+3) g ++ lms.map Prod.fst).length≤20000:=HFEW.out.l1
     obtain⟨a8,c8,ev,hs8⟩:=hrow'.slot (by omega)
     subst ev
     have hcl:=clies_of hs8 (B:=wo.heap.size) (fun b hb=>by
      rcases hb with hb | hb
      ·exact(hrow'.ok b hb).1
      ·exact(hrow'.lt b hb).2)
     have HZ0:Hid (∀q,q<lms.length→ks q=0):=fun q hq=>hz0.out q (by rw[HLN.out]at hq;exact hq)
     have g1:Prp.GivenC wo a8 (clsF (n+3) g ++ lms.map Prod.fst).length (clsF (n+3) g ++ lms.map Prod.fst):=⟨rfl,by omega,hcl,fun q hq=>by
      have:=HFEW.out.k1 _ (Prp.getD_memC hq);omega⟩
     have g2:Prp.GivenC wo ra rn ss:=⟨HRN.out,by omega,HRC.out wo TR.out.bel,fun q hq=>by
      have:=HFEW.out.k2 _ (Prp.getD_memC (by rw[HRN.out];exact hq));omega⟩
     have HRU:=Lib.hid (Prp.rup_any HBE.out N a8 (clsF (n+3) g ++ lms.map Prod.fst).length c8 (clsF (n+3) g ++ lms.map Prod.fst) ra rn rcap ss wo g1 g2 HFEW.out)
     obtain⟨_,d0,d1,m0,m1,m2,_⟩:=TR.out
     clear hrow' hrow hcl g1 g2 hs8 hlen0 HLM HRC HKS
     generalize (clsF (n+3) g ++ lms.map Prod.fst).length=cl at*
     go_wp2_with fail
     refine HRU.out.mono ?_
     rintro e w11 ⟨er,x,at',rfl,hri,her,hb11⟩
     have HEN:Hid (CheckEndG (nrmK (n+1) f) (cnfK (n+3) g) ks lms.length (makF (n+3) g).n (clsF (n+3) g ++ lms.map Prod.fst) ss w (.returned er) w11):=Lib.hid ⟨er,x,at',rfl,.rup x at' HK0.out HCC.out HZ0.out (by rw[←HNN.out];exact hri),errIs_low her TR.out.bel.size,TR.out.bel.trans (hb11.mono TR.out.bel.size)⟩
     clear hri her hb11 HRU
     go_wp2_with fail
     go_ret
     exact HEN.out
  ·have e6:=hbad hc
   subst e6
   have hA7:Below w6.heap.size w6 (w6.alloc (.cells #[.int .i64 0,.slice none 0 0,.slice none 0 0] 71)):=(Below.refl _ _).alloc (Nat.le_refl _) _
   have HEN:Hid (CheckEndG (nrmK (n+1) f) (cnfK (n+3) g) ks lms.length (makF (n+3) g).n (clsF (n+3) g ++ lms.map Prod.fst) ss w (.returned (.iface 60 (.int .i64 (cnfK (n+3) g)))) (w6.alloc (.cells #[.int .i64 0,.slice none 0 0,.slice none 0 0] 71))):=
    Lib.hid ⟨_,_, -1,rfl,.cnf HK0.out hc,⟨fun _=>by show _=Prp.codeV _;unfold Prp.codeV;rw[if_neg hc],fun h=>absurd h (by decide)⟩,HB6.out.trans (hA7.mono HB6.out.size)⟩
   clear hbad hok hb6 hc hA7 HM4 E0 E1
   generalize cnfK (n+3) g=kk at*
   go_wp2_with fail
   go_ret
   exact HEN.out
 ·have HEN:Hid (CheckEndG (nrmK (n+1) f) (cnfK (n+3) (nrmT (n+1) f)) ks lms.length (makF (n+3) (nrmT (n+1) f)).n (clsF (n+3) (nrmT (n+1) f) ++ lms.map Prod.fst) ss w (.returned (codeV (nrmK (n+1) f))) (w3.alloc (.cells #[.int .i64 k3,.int .i64 c3,.slice ta3 tn3 tcap3,.slice ka3 kn3 kcap3] 39))):=
   Lib.hid ⟨_,_, -1,rfl,.norm hk0,⟨fun _=>rfl,fun h=>absurd h (by decide)⟩,HB4.out⟩
  rw[hkv]at HEN⊢
  clear hk0 hkv HMK HF4 HO E0 E1 HB4 HZ4
  go_wp2_with fail
  go_ret
  exact HEN.out
end
end Go.Proofs.YtipahfcaplbifaaGreatDoor
