/- Parts of a proof. -/
import Derived.Test.YtfinhpfjokpcfaaGreatDoorQ30
set_option linter.unusedVariables false
set_option linter.unusedSimpArgs false
set_option maxHeartbeats 60000000
set_option maxRecDepth 100000
namespace Go.Proofs.YtfinhpfjokpcfaaGreatDoor
section
open Go.RowKit
theorem shown_box (k:Int)(ck:Int)(a1:Option Addr)(l1 c1:Nat)(a2:Option Addr)(l2 c2:Nat)(ek en:Int)(es:ByteArray)(a3:Option Addr)(l3 c3:Nat)(vk vn:Int)(vs:ByteArray)(a4:Option Addr)(l4 c4:Nat)(fs:ByteArray)(m:Int)(a5:Option Addr)(l5 c5:Nat)(av:Option Addr)(lv cv:Nat)(K:Int)(w:World)
 (hc:Calls Tryz.prog 38 #[.agg #[.slice (some ⟨w.heap.size+1,0,none⟩) 1 1]] ((w.alloc (.cells #[.int .i64 k,.int .i64 ck,.slice a1 l1 c1,.slice a2 l2 c2,.int .i64 ek,.int .i64 en,.string es,.slice a3 l3 c3,.int .i64 vk,.int .i64 vn,.string vs,.slice a4 l4 c4,.string fs,.int .i64 m,.slice a5 l5 c5] 33)).alloc (.cells #[.string ⟨#[112]⟩,.slice none 0 0,.slice none 0 0,.int .i64 k,.int .i64 ck,.slice a1 l1 c1,.slice a2 l2 c2,.int .i64 ek,.int .i64 en,.string es,.slice a3 l3 c3,.int .i64 vk,.int .i64 vn,.string vs,.slice a4 l4 c4,.string fs,.int .i64 m,.slice a5 l5 c5,.int .i64 0,.int .i64 0,.slice none 0 0,.slice none 0 0,.int .i64 0,.int .i64 0,.string ⟨#[]⟩,.slice none 0 0,.int .i64 0,.int .i64 0,.string ⟨#[]⟩,.slice none 0 0,.string ⟨#[]⟩,.int .i64 0,.slice none 0 0,.slice av lv cv] 71)) (IntIn K ((w.alloc (.cells #[.int .i64 k,.int .i64 ck,.slice a1 l1 c1,.slice a2 l2 c2,.int .i64 ek,.int .i64 en,.string es,.slice a3 l3 c3,.int .i64 vk,.int .i64 vn,.string vs,.slice a4 l4 c4,.string fs,.int .i64 m,.slice a5 l5 c5] 33)).alloc (.cells #[.string ⟨#[112]⟩,.slice none 0 0,.slice none 0 0,.int .i64 k,.int .i64 ck,.slice a1 l1 c1,.slice a2 l2 c2,.int .i64 ek,.int .i64 en,.string es,.slice a3 l3 c3,.int .i64 vk,.int .i64 vn,.string vs,.slice a4 l4 c4,.string fs,.int .i64 m,.slice a5 l5 c5,.int .i64 0,.int .i64 0,.slice none 0 0,.slice none 0 0,.int .i64 0,.int .i64 0,.string ⟨#[]⟩,.slice none 0 0,.int .i64 0,.int .i64 0,.string ⟨#[]⟩,.slice none 0 0,.string ⟨#[]⟩,.int .i64 0,.slice none 0 0,.slice av lv cv] 71)))):
 Calls Tryz.prog 24 #[.slice av lv cv,.agg #[.int .i64 k,.int .i64 ck,.slice a1 l1 c1,.slice a2 l2 c2,.int .i64 ek,.int .i64 en,.string es,.slice a3 l3 c3,.int .i64 vk,.int .i64 vn,.string vs,.slice a4 l4 c4,.string fs,.int .i64 m,.slice a5 l5 c5]] w (SoundEnd (K == 0) w):=by
 have HA:Hid (Below w.heap.size w (w.alloc (.cells #[.int .i64 k,.int .i64 ck,.slice a1 l1 c1,.slice a2 l2 c2,.int .i64 ek,.int .i64 en,.string es,.slice a3 l3 c3,.int .i64 vk,.int .i64 vn,.string vs,.slice a4 l4 c4,.string fs,.int .i64 m,.slice a5 l5 c5] 33))):=box_low
 have HA1:Hid (Below w.heap.size w ((w.alloc (.cells #[.int .i64 k,.int .i64 ck,.slice a1 l1 c1,.slice a2 l2 c2,.int .i64 ek,.int .i64 en,.string es,.slice a3 l3 c3,.int .i64 vk,.int .i64 vn,.string vs,.slice a4 l4 c4,.string fs,.int .i64 m,.slice a5 l5 c5] 33)).alloc (.cells #[.string ⟨#[112]⟩,.slice none 0 0,.slice none 0 0,.int .i64 k,.int .i64 ck,.slice a1 l1 c1,.slice a2 l2 c2,.int .i64 ek,.int .i64 en,.string es,.slice a3 l3 c3,.int .i64 vk,.int .i64 vn,.string vs,.slice a4 l4 c4,.string fs,.int .i64 m,.slice a5 l5 c5,.int .i64 0,.int .i64 0,.slice none 0 0,.slice none 0 0,.int .i64 0,.int .i64 0,.string ⟨#[]⟩,.slice none 0 0,.int .i64 0,.int .i64 0,.string ⟨#[]⟩,.slice none 0 0,.string ⟨#[]⟩,.int .i64 0,.slice none 0 0,.slice av lv cv] 71))):=Lib.hid (HA.out.alloc (by simp) _)
 have HC:=Lib.hid hc
 clear hc
 go_enter Tryz.func24,Tryz.ntmps24
 go_wp2_with fail
 refine HC.out.mono ?_
 rintro r w2 ⟨rfl,hb⟩
 have HB:=Lib.hid (HA1.out.trans (hb.mono HA1.out.size))
 clear hb HC
 go_wp2_with fail
 go_ret
 exact⟨rfl,HB.out⟩
theorem two_below (w:World)(c1:Array Value)(t1:TypeId)(c2:Array Value)(t2:TypeId):Below w.heap.size w ((w.alloc (.cells c1 t1)).alloc (.cells c2 t2)):=box_low.alloc (by simp) _
theorem two_at (w:World)(c1:Array Value)(t1:TypeId)(c2:Array Value)(t2:TypeId):((w.alloc (.cells c1 t1)).alloc (.cells c2 t2)).heap[w.heap.size+1]? =some (.cells c2 t2 (0,0)):=by
 have:=heap_alloc_new (w.alloc (.cells c1 t1)) (.cells c2 t2)
 rwa [show(w.alloc (.cells c1 t1)).heap.size=w.heap.size+1 by simp]at this
theorem shown_any (n:Nat)(a:AT)(ca:List Value)(v:Value)(l:List ST)(w:World)(ha:(assnSh (n+3)).rel (Pak.Lo w.heap.size) w ca a)(hl:Pak.Slot (stmtSh (n+3)) (Pak.Lo w.heap.size) w v l):
 Calls Tryz.prog 24 #[v,.agg ca.toArray] w (SoundEnd (chkQ nmB (n+3) [pOf a l] == 0) w):=by
 have ha0:=ha
 obtain⟨k,a1,c1,a2,c2,a3,c3,a4,c4,a5,c5, -,rfl, -⟩:=assn_form ha
 obtain⟨av,cv,rfl,hsl⟩:=hl
 refine shown_box _ _ _ _ _ _ _ _ _ _ _ _ _ _ _ _ _ _ _ _ _ _ _ _ _ av _ cv _ w ?_
 have hb:=fun c1 c2=>two_below w c1 33 c2 71
 have hp:=fun c1 c2=>proc_rel (n:=n) (W:=(w.alloc (.cells c1 33)).alloc (.cells c2 71)) ⟨#[112]⟩ (by decide) (rel_low ha0 (hb c1 c2)) ⟨av,cv,rfl,hsl.below (hb c1 c2) (hb c1 c2).size⟩
 exact rcheck_prog rnmLaw (n+3) [pOf a l] (some ⟨w.heap.size+1,0,none⟩) 1 1 _ rfl (sits_block (two_at w _ _ _ _) (by simp) (hp _ _))
theorem rexpr_box (k0 m0:Int)(s0:ByteArray)(a0:Option Addr)(l0 c0:Nat)(vs:Value)(k:Int)(v:Int)(b:Bool)(w:World)
 (hr:Calls Tryz.prog 24 #[.slice (some ⟨w.heap.size+1,0,none⟩) 1 1,.agg #[.int .i64 0,.int .i64 0,.slice none 0 0,.slice none 0 0,.int .i64 0,.int .i64 0,.string ⟨#[]⟩,.slice none 0 0,.int .i64 0,.int .i64 0,.string ⟨#[]⟩,.slice none 0 0,.string ⟨#[]⟩,.int .i64 0,.slice none 0 0]] ((w.alloc (.cells #[.int .i64 k0,.int .i64 m0,.string s0,.slice a0 l0 c0] 24)).alloc (.cells #[.int .i64 1,.string ⟨#[120]⟩,.string ⟨#[]⟩,.string ⟨#[]⟩,.int .i64 k0,.int .i64 m0,.string s0,.slice a0 l0 c0,.int .i64 0,.int .i64 0,.string ⟨#[]⟩,.slice none 0 0,.int .i64 0,.slice none 0 0,.slice none 0 0,.int .i64 0,.int .i64 0,.slice none 0 0,.slice none 0 0,.int .i64 0,.int .i64 0,.string ⟨#[]⟩,.slice none 0 0,.int .i64 0,.int .i64 0,.string ⟨#[]⟩,.slice none 0 0,.string ⟨#[]⟩,.int .i64 0,.slice none 0 0,.slice none 0 0,.slice none 0 0,.slice none 0 0,.slice none 0 0,.slice none 0 0] 37)) (SoundEnd (k == 0) ((w.alloc (.cells #[.int .i64 k0,.int .i64 m0,.string s0,.slice a0 l0 c0] 24)).alloc (.cells #[.int .i64 1,.string ⟨#[120]⟩,.string ⟨#[]⟩,.string ⟨#[]⟩,.int .i64 k0,.int .i64 m0,.string s0,.slice a0 l0 c0,.int .i64 0,.int .i64 0,.string ⟨#[]⟩,.slice none 0 0,.int .i64 0,.slice none 0 0,.slice none 0 0,.int .i64 0,.int .i64 0,.slice none 0 0,.slice none 0 0,.int .i64 0,.int .i64 0,.string ⟨#[]⟩,.slice none 0 0,.int .i64 0,.int .i64 0,.string ⟨#[]⟩,.slice none 0 0,.string ⟨#[]⟩,.int .i64 0,.slice none 0 0,.slice none 0 0,.slice none 0 0,.slice none 0 0,.slice none 0 0,.slice none 0 0] 37))))
 (hv:k=0→ValAll 25 #[.agg #[.int .i64 k0,.int .i64 m0,.string s0,.slice a0 l0 c0],vs] (.tuple #[.int .i64 v,.bool b]) w):
 Calls Tryz.prog 10 #[.agg #[.int .i64 k0,.int .i64 m0,.string s0,.slice a0 l0 c0],vs] w fun r w'=>r= .returned (.tuple #[.int .i64 (exR k (v,b)).1,.int .i64 (exR k (v,b)).2])∧Below w.heap.size w w':=by
 have HA:Hid (Below w.heap.size w (w.alloc (.cells #[.int .i64 k0,.int .i64 m0,.string s0,.slice a0 l0 c0] 24))):=box_low
 have HA1:Hid (Below w.heap.size w ((w.alloc (.cells #[.int .i64 k0,.int .i64 m0,.string s0,.slice a0 l0 c0] 24)).alloc (.cells #[.int .i64 1,.string ⟨#[120]⟩,.string ⟨#[]⟩,.string ⟨#[]⟩,.int .i64 k0,.int .i64 m0,.string s0,.slice a0 l0 c0,.int .i64 0,.int .i64 0,.string ⟨#[]⟩,.slice none 0 0,.int .i64 0,.slice none 0 0,.slice none 0 0,.int .i64 0,.int .i64 0,.slice none 0 0,.slice none 0 0,.int .i64 0,.int .i64 0,.string ⟨#[]⟩,.slice none 0 0,.int .i64 0,.int .i64 0,.string ⟨#[]⟩,.slice none 0 0,.string ⟨#[]⟩,.int .i64 0,.slice none 0 0,.slice none 0 0,.slice none 0 0,.slice none 0 0,.slice none 0 0,.slice none 0 0] 37))):=Lib.hid (HA.out.alloc (by simp) _)
 have HB1:Hid (Below (w.alloc (.cells #[.int .i64 k0,.int .i64 m0,.string s0,.slice a0 l0 c0] 24)).heap.size (w.alloc (.cells #[.int .i64 k0,.int .i64 m0,.string s0,.slice a0 l0 c0] 24)) ((w.alloc (.cells #[.int .i64 k0,.int .i64 m0,.string s0,.slice a0 l0 c0] 24)).alloc (.cells #[.int .i64 1,.string ⟨#[120]⟩,.string ⟨#[]⟩,.string ⟨#[]⟩,.int .i64 k0,.int .i64 m0,.string s0,.slice a0 l0 c0,.int .i64 0,.int .i64 0,.string ⟨#[]⟩,.slice none 0 0,.int .i64 0,.slice none 0 0,.slice none 0 0,.int .i64 0,.int .i64 0,.slice none 0 0,.slice none 0 0,.int .i64 0,.int .i64 0,.string ⟨#[]⟩,.slice none 0 0,.int .i64 0,.int .i64 0,.string ⟨#[]⟩,.slice none 0 0,.string ⟨#[]⟩,.int .i64 0,.slice none 0 0,.slice none 0 0,.slice none 0 0,.slice none 0 0,.slice none 0 0,.slice none 0 0] 37))):=box_low
 have HC:=Lib.hid hr
 have HV:=Lib.hid hv
 have Q:=Lib.hid (fun W (hb:Below (w.alloc (.cells #[.int .i64 k0,.int .i64 m0,.string s0,.slice a0 l0 c0] 24)).heap.size (w.alloc (.cells #[.int .i64 k0,.int .i64 m0,.string s0,.slice a0 l0 c0] 24)) W)=>And.intro (box_at (cs:=[.int .i64 k0,.int .i64 m0,.string s0,.slice a0 l0 c0]) (o:=0) rfl hb) (And.intro (box_at (cs:=[.int .i64 k0,.int .i64 m0,.string s0,.slice a0 l0 c0]) (o:=1) rfl hb) (And.intro (box_at (cs:=[.int .i64 k0,.int .i64 m0,.string s0,.slice a0 l0 c0]) (o:=2) rfl hb) (box_at (cs:=[.int .i64 k0,.int .i64 m0,.string s0,.slice a0 l0 c0]) (o:=3) rfl hb))))
 clear hr hv
 go_enter Tryz.func10,Tryz.ntmps10
 go_wp2_with fail
 refine HC.out.mono ?_
 rintro r w2 ⟨rfl,hb⟩
 have HB:=Lib.hid (HA1.out.trans (hb.mono HA1.out.size))
 have HBB:=Lib.hid (HB1.out.trans (hb.mono HB1.out.size))
 clear hb HC
 by_cases hk:k=0
 ·have HV2:=Lib.hid ((HV.out hk).at HB.out)
  have HR:Hid (exR k (v,b)=if b=true then(v,0) else(0,3)):=if_pos hk
  have hz:(k == 0)=true:=by rw[hk];rfl
  rw[hz]
  obtain⟨q0,q1,q2,q3⟩:=Q.out _ HBB.out
  clear HV hz hk Q
  go_wp2_with fail
  refine HV2.out.mono ?_
  rintro r w3 ⟨rfl,hb⟩
  have HB3:=Lib.hid (HB.out.trans (hb.mono HB.out.size))
  clear hb HV2 q0 q1 q2 q3
  cases b with
  | true=>
    go_wp2_with fail
    go_ret2
    exact⟨by rw[HR.out];rfl,HB3.out⟩
  | false=>
    go_wp2_with fail
    go_ret2
    exact⟨by rw[HR.out];rfl,HB3.out⟩
 ·have HR:Hid (exR k (v,b)=(0,5)):=if_neg hk
  have hz:(k == 0)=false:=beq_eq_false_iff_ne.2 hk
  rw[hz]
  clear HV hz hk Q
  go_wp2_with fail
  go_ret2
  exact⟨by rw[HR.out];rfl,HB.out⟩
theorem rcond_box (k0:Int)(a0:Option Addr)(l0 c0:Nat)(b0:Option Addr)(h0 d0:Nat)(vs:Value)(k:Int)(v:Bool)(b:Bool)(w:World)
 (hr:Calls Tryz.prog 24 #[.slice (some ⟨w.heap.size+1,0,none⟩) 1 1,.agg #[.int .i64 0,.int .i64 0,.slice none 0 0,.slice none 0 0,.int .i64 0,.int .i64 0,.string ⟨#[]⟩,.slice none 0 0,.int .i64 0,.int .i64 0,.string ⟨#[]⟩,.slice none 0 0,.string ⟨#[]⟩,.int .i64 0,.slice none 0 0]] ((w.alloc (.cells #[.int .i64 k0,.slice a0 l0 c0,.slice b0 h0 d0] 27)).alloc (.cells #[.int .i64 8,.string ⟨#[]⟩,.string ⟨#[]⟩,.string ⟨#[]⟩,.int .i64 0,.int .i64 0,.string ⟨#[]⟩,.slice none 0 0,.int .i64 0,.int .i64 0,.string ⟨#[]⟩,.slice none 0 0,.int .i64 k0,.slice a0 l0 c0,.slice b0 h0 d0,.int .i64 0,.int .i64 0,.slice none 0 0,.slice none 0 0,.int .i64 0,.int .i64 0,.string ⟨#[]⟩,.slice none 0 0,.int .i64 0,.int .i64 0,.string ⟨#[]⟩,.slice none 0 0,.string ⟨#[]⟩,.int .i64 0,.slice none 0 0,.slice none 0 0,.slice none 0 0,.slice none 0 0,.slice none 0 0,.slice none 0 0] 37)) (SoundEnd (k == 0) ((w.alloc (.cells #[.int .i64 k0,.slice a0 l0 c0,.slice b0 h0 d0] 27)).alloc (.cells #[.int .i64 8,.string ⟨#[]⟩,.string ⟨#[]⟩,.string ⟨#[]⟩,.int .i64 0,.int .i64 0,.string ⟨#[]⟩,.slice none 0 0,.int .i64 0,.int .i64 0,.string ⟨#[]⟩,.slice none 0 0,.int .i64 k0,.slice a0 l0 c0,.slice b0 h0 d0,.int .i64 0,.int .i64 0,.slice none 0 0,.slice none 0 0,.int .i64 0,.int .i64 0,.string ⟨#[]⟩,.slice none 0 0,.int .i64 0,.int .i64 0,.string ⟨#[]⟩,.slice none 0 0,.string ⟨#[]⟩,.int .i64 0,.slice none 0 0,.slice none 0 0,.slice none 0 0,.slice none 0 0,.slice none 0 0,.slice none 0 0] 37))))
 (hv:k=0→∀W,Below w.heap.size w W→Calls Tryz.prog 26 #[.agg #[.int .i64 k0,.slice a0 l0 c0,.slice b0 h0 d0],vs] W (RTru (v,b) W)):
 Calls Tryz.prog 11 #[.agg #[.int .i64 k0,.slice a0 l0 c0,.slice b0 h0 d0],vs] w fun r w'=>r= .returned (.tuple #[.bool (coR k (v,b)).1,.int .i64 (coR k (v,b)).2])∧Below w.heap.size w w':=by
 have HA:Hid (Below w.heap.size w (w.alloc (.cells #[.int .i64 k0,.slice a0 l0 c0,.slice b0 h0 d0] 27))):=box_low
 have HA1:Hid (Below w.heap.size w ((w.alloc (.cells #[.int .i64 k0,.slice a0 l0 c0,.slice b0 h0 d0] 27)).alloc (.cells #[.int .i64 8,.string ⟨#[]⟩,.string ⟨#[]⟩,.string ⟨#[]⟩,.int .i64 0,.int .i64 0,.string ⟨#[]⟩,.slice none 0 0,.int .i64 0,.int .i64 0,.string ⟨#[]⟩,.slice none 0 0,.int .i64 k0,.slice a0 l0 c0,.slice b0 h0 d0,.int .i64 0,.int .i64 0,.slice none 0 0,.slice none 0 0,.int .i64 0,.int .i64 0,.string ⟨#[]⟩,.slice none 0 0,.int .i64 0,.int .i64 0,.string ⟨#[]⟩,.slice none 0 0,.string ⟨#[]⟩,.int .i64 0,.slice none 0 0,.slice none 0 0,.slice none 0 0,.slice none 0 0,.slice none 0 0,.slice none 0 0] 37))):=Lib.hid (HA.out.alloc (by simp) _)
 have HB1:Hid (Below (w.alloc (.cells #[.int .i64 k0,.slice a0 l0 c0,.slice b0 h0 d0] 27)).heap.size (w.alloc (.cells #[.int .i64 k0,.slice a0 l0 c0,.slice b0 h0 d0] 27)) ((w.alloc (.cells #[.int .i64 k0,.slice a0 l0 c0,.slice b0 h0 d0] 27)).alloc (.cells #[.int .i64 8,.string ⟨#[]⟩,.string ⟨#[]⟩,.string ⟨#[]⟩,.int .i64 0,.int .i64 0,.string ⟨#[]⟩,.slice none 0 0,.int .i64 0,.int .i64 0,.string ⟨#[]⟩,.slice none 0 0,.int .i64 k0,.slice a0 l0 c0,.slice b0 h0 d0,.int .i64 0,.int .i64 0,.slice none 0 0,.slice none 0 0,.int .i64 0,.int .i64 0,.string ⟨#[]⟩,.slice none 0 0,.int .i64 0,.int .i64 0,.string ⟨#[]⟩,.slice none 0 0,.string ⟨#[]⟩,.int .i64 0,.slice none 0 0,.slice none 0 0,.slice none 0 0,.slice none 0 0,.slice none 0 0,.slice none 0 0] 37))):=box_low
 have HC:=Lib.hid hr
 have HV:=Lib.hid hv
 have Q:=Lib.hid (fun W (hb:Below (w.alloc (.cells #[.int .i64 k0,.slice a0 l0 c0,.slice b0 h0 d0] 27)).heap.size (w.alloc (.cells #[.int .i64 k0,.slice a0 l0 c0,.slice b0 h0 d0] 27)) W)=>And.intro (box_at (cs:=[.int .i64 k0,.slice a0 l0 c0,.slice b0 h0 d0]) (o:=0) rfl hb) (And.intro (box_at (cs:=[.int .i64 k0,.slice a0 l0 c0,.slice b0 h0 d0]) (o:=1) rfl hb) (box_at (cs:=[.int .i64 k0,.slice a0 l0 c0,.slice b0 h0 d0]) (o:=2) rfl hb)))
 clear hr hv
 go_enter Tryz.func11,Tryz.ntmps11
 go_wp2_with fail
 refine HC.out.mono ?_
 rintro r w2 ⟨rfl,hb⟩
 have HB:=Lib.hid (HA1.out.trans (hb.mono HA1.out.size))
 have HBB:=Lib.hid (HB1.out.trans (hb.mono HB1.out.size))
 clear hb HC
 by_cases hk:k=0
 ·have HV2:=Lib.hid (HV.out hk _ HB.out)
  have HR:Hid (coR k (v,b)=if b=true then(v,0) else(false,3)):=if_pos hk
  have hz:(k == 0)=true:=by rw[hk];rfl
  rw[hz]
  obtain⟨q0,q1,q2⟩:=Q.out _ HBB.out
  clear HV hz hk Q
  go_wp2_with fail
  refine HV2.out.mono ?_
  rintro r w3 ⟨x,rfl,hx,hb⟩
  have HB3:=Lib.hid (HB.out.trans (hb.mono HB.out.size))
  clear hb HV2 q0 q1 q2
  cases b with
  | true=>
    dsimp only at hx
    obtain rfl:x=v:=hx rfl
    go_wp2_with fail
    go_ret2
    exact⟨by rw[HR.out];rfl,HB3.out⟩
  | false=>
    go_wp2_with fail
    go_ret2
    exact⟨by rw[HR.out];rfl,HB3.out⟩
 ·have HR:Hid (coR k (v,b)=(false,5)):=if_neg hk
  have hz:(k == 0)=false:=beq_eq_false_iff_ne.2 hk
  rw[hz]
  clear HV hz hk Q
  go_wp2_with fail
  go_ret2
  exact⟨by rw[HR.out];rfl,HB.out⟩
end
section
open Go.RowKit
def ekE (n:Nat)(e:ET):Int:=chkQ nmB (n+3) [pOf zA [sSet e]]
def ckC (n:Nat)(c:CT):Int:=chkQ nmB (n+3) [pOf zA [sAst c]]
def akA (n:Nat)(a:AT):Int:=chkQ nmB (n+3) [pOf a []]
theorem hExpr_any (n:Nat)(e:ET)(cs:List Value)(xs:List (ByteArray×Int))(av:Option Addr)(cv:Nat)(w:World)(h:(exprSh (n+2)).rel (Pak.Lo w.heap.size) w cs e)(hx:Pak.Sits varSh (Pak.Lo w.heap.size) w av xs)(hL:Laid w):
 Calls Tryz.prog 8 #[.agg cs.toArray,.slice av xs.length cv] w fun r w'=>r= .returned (.tuple #[.int .i64 (exR (ekE n e) (valE (fun s=>varOf s xs) (n+2) e)).1,erV (exR (ekE n e) (valE (fun s=>varOf s xs) (n+2) e)).2])∧Below w.heap.size w w':=by
 have h0:=h
 obtain⟨v,rfl,_,a0,c0,rfl,hs⟩:=h
 have hb:=fun c1 c2=>two_below w c1 24 c2 37
 have hp:=fun c1 c2=>sSet_rel (rel_low h0 (hb c1 c2))
 refine expr_box e.kind e.n e.name a0 _ c0 _ (ekE n e) _ _ w ?_ (fun hk=>hexpr_all nmB xs av cv (n+2) e _ w (chk_set hk) h0 hx)
 exact refused_any n zA zAc _ [sSet e] _ _ (zA_rel (n+1) _ _) ⟨some ⟨w.heap.size+1,0,none⟩,1,rfl,sits_block (two_at w _ _ _ _) (by simp) (hp _ _)⟩ (hL.up (hb _ _))
theorem hCond_any (n:Nat)(c:CT)(cs:List Value)(xs:List (ByteArray×Int))(av:Option Addr)(cv:Nat)(w:World)(h:(condSh (n+2)).rel (Pak.Lo w.heap.size) w cs c)(hx:Pak.Sits varSh (Pak.Lo w.heap.size) w av xs)(hL:Laid w):
 Calls Tryz.prog 9 #[.agg cs.toArray,.slice av xs.length cv] w fun r w'=>r= .returned (.tuple #[.bool (coR (ckC n c) (truC (fun s=>varOf s xs) (n+2) c)).1,erV (coR (ckC n c) (truC (fun s=>varOf s xs) (n+2) c)).2])∧Below w.heap.size w w':=by
 have h0:=h
 obtain⟨u,v,rfl,_,⟨a0,c0,rfl,hs1⟩,⟨b0,d0,rfl,hs2⟩⟩:=h
 have hb:=fun c1 c2=>two_below w c1 27 c2 37
 have hp:=fun c1 c2=>sAst_rel (rel_low h0 (hb c1 c2))
 refine cond_box c.kind a0 _ c0 b0 _ d0 _ (ckC n c) _ _ w ?_ (fun hk W hW=>hcond_any nmB xs av cv (n+2) c _ W (chk_ast hk) (rel_low h0 hW) (hx.below hW hW.size))
 exact refused_any n zA zAc _ [sAst c] _ _ (zA_rel (n+1) _ _) ⟨some ⟨w.heap.size+1,0,none⟩,1,rfl,sits_block (two_at w _ _ _ _) (by simp) (hp _ _)⟩ (hL.up (hb _ _))
theorem rExpr_any (n:Nat)(e:ET)(cs:List Value)(xs:List (ByteArray×Int))(av:Option Addr)(cv:Nat)(w:World)(h:(exprSh (n+2)).rel (Pak.Lo w.heap.size) w cs e)(hx:Pak.Sits varSh (Pak.Lo w.heap.size) w av xs):
 Calls Tryz.prog 10 #[.agg cs.toArray,.slice av xs.length cv] w fun r w'=>r= .returned (.tuple #[.int .i64 (exR (ekE n e) (valE (fun s=>varOf s xs) (n+2) e)).1,.int .i64 (exR (ekE n e) (valE (fun s=>varOf s xs) (n+2) e)).2])∧Below w.heap.size w w':=by
 have h0:=h
 obtain⟨v,rfl,_,a0,c0,rfl,hs⟩:=h
 have hb:=fun c1 c2=>two_below w c1 24 c2 37
 have hp:=fun c1 c2=>sSet_rel (rel_low h0 (hb c1 c2))
 refine rexpr_box e.kind e.n e.name a0 _ c0 _ (ekE n e) _ _ w ?_ (fun hk W hW=>rvalue_any nmB xs av cv (n+2) e _ W (chk_set hk) (rel_low h0 hW) (hx.below hW hW.size))
 exact shown_any n zA zAc _ [sSet e] _ (zA_rel (n+1) _ _) ⟨some ⟨w.heap.size+1,0,none⟩,1,rfl,sits_block (two_at w _ _ _ _) (by simp) (hp _ _)⟩
theorem rCond_any (n:Nat)(c:CT)(cs:List Value)(xs:List (ByteArray×Int))(av:Option Addr)(cv:Nat)(w:World)(h:(condSh (n+2)).rel (Pak.Lo w.heap.size) w cs c)(hx:Pak.Sits varSh (Pak.Lo w.heap.size) w av xs):
 Calls Tryz.prog 11 #[.agg cs.toArray,.slice av xs.length cv] w fun r w'=>r= .returned (.tuple #[.bool (coR (ckC n c) (truC (fun s=>varOf s xs) (n+2) c)).1,.int .i64 (coR (ckC n c) (truC (fun s=>varOf s xs) (n+2) c)).2])∧Below w.heap.size w w':=by
 have h0:=h
 obtain⟨u,v,rfl,_,⟨a0,c0,rfl,hs1⟩,⟨b0,d0,rfl,hs2⟩⟩:=h
 have hb:=fun c1 c2=>two_below w c1 27 c2 37
 have hp:=fun c1 c2=>sAst_rel (rel_low h0 (hb c1 c2))
 refine rcond_box c.kind a0 _ c0 b0 _ d0 _ (ckC n c) _ _ w ?_ (fun hk W hW=>rtruth_any nmB xs av cv (n+2) c _ W (chk_ast hk) (rel_low h0 hW) (hx.below hW hW.size))
 exact shown_any n zA zAc _ [sAst c] _ (zA_rel (n+1) _ _) ⟨some ⟨w.heap.size+1,0,none⟩,1,rfl,sits_block (two_at w _ _ _ _) (by simp) (hp _ _)⟩
end
end Go.Proofs.YtfinhpfjokpcfaaGreatDoor
