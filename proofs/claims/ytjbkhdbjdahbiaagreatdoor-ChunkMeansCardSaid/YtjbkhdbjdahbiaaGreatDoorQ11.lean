/- Parts of a proof. -/
import Derived.Test.YtjbkhdbjdahbiaaGreatDoorQ07
import Derived.Test.YtjbkhdbjdahbiaaGreatDoorQ08
import Derived.Test.YtjbkhdbjdahbiaaGreatDoorQ10
import Derived.Lib.QuietBelow
import Derived.BigQuiet
import Derived.Deep.CutBlock
import Derived.Deep.CutRange
import Derived.Deep.DeepCutAuto
set_option linter.unusedVariables false
set_option linter.unusedSimpArgs false
set_option maxHeartbeats 60000000
set_option maxRecDepth 100000
namespace Go.Proofs.YtjbkhdbjdahbiaaGreatDoor
section
open Go.RowKit
section
variable {P:Program}
theorem wpQuiet_load_b {W0:World}{ops:Array Oper}{rest:List Oper}{o:Oper}{a:Act}{Q:Act→Prop}(ty:TypeId)(x:Operand)(ho:o.op= .load ty x)
 (g:Addr) (hx:a.eval x= .pointer (some g)) (cs:List Value) (d:TypeDesc) (hc:∀W,Below W0.heap.size W0 W→∀j v,cs[j]? =some v→W.cell? (g.add j)=some v) (hw:Region.wanted o (yielded ops a.tmps)=true)
 (hu:P.underlying ty=some d) (hd:(match d with | .struct _ | .array _ _=>true | _=>false)=true) (hi:(P.info? ty).map (·.size)=some cs.length)
 (h:wpQuiet P ops (fun w'=>∃p:Regrown,w'=Go.Sort.grow (redrawn W0 p.d) p.os) Q rest (a.put o.dst (.agg cs.toArray))):wpQuiet P ops (fun w'=>∃p:Regrown,w'=Go.Sort.grow (redrawn W0 p.d) p.os) Q (o :: rest) a:=
 BigFrame.wpQuiet_want hw fun K hK=>⟨.agg cs.toArray,fun w hC=>by
  obtain⟨p,rfl⟩:=hC
  have e:(execOp a.eval o).run P (Go.Sort.grow (redrawn W0 p.d) p.os)= .ok (.value (.agg cs.toArray)) (Go.Sort.grow (redrawn W0 p.d) p.os):=by
   unfold execOp
   simp only[ho,hx,Instr.loadAt,Instr.sureAddr,Sem.run_bind,Sem.run_pure,Result.andThen_ok,run_loadVar_list _ g ty cs d (hc _ (below_regrown W0 p.d p.os)) hu hd hi]
  unfold Oper.quietAt
  rw[e]
  exact⟨rfl,rfl⟩,hK _ h⟩
end
theorem BoolAll.reg {g:Nat}{args:Array Value}{z:Bool}{w:World}(h:BoolAll g args z w)(d:Nat)(os:Array Obj):Calls Tryz.prog g args (Go.Sort.grow (redrawn w d) os) fun e w''=>e= .returned (.bool z)∧∃p:Regrown,w''=Go.Sort.grow (redrawn w p.d) p.os:=
 Calls.regrown_of (h _ (below_regrown w d os))
theorem fitsE_any (b:Bool)(cs:List Value)(hl:cs.length=4)(f1 f2:Nat)(z1 z2:Bool)(w:World)(e1:∀args w,(callFunc f1 args).run Tryz.prog w= .ok (.enter f1 args) w)(e2:∀args w,(callFunc f2 args).run Tryz.prog w= .ok (.enter f2 args) w)
 (h1:BoolAll f1 #[.agg cs.toArray] z1 w) (h2:BoolAll f2 #[.agg cs.toArray] z2 w):BoolAll 109 #[.bool b,.agg cs.toArray,.func (.func f1) #[] #[],.func (.func f2) #[] #[]] (bif b then z1 else z2) w:=fun W hW=>by
 have HA:Hid (Below W.heap.size W (W.alloc (.cells cs.toArray 49))):=box_low
 have X1:=Lib.hid ((h1.up hW).at HA.out)
 have X2:=Lib.hid ((h2.up hW).at HA.out)
 have HX:Hid (∀i v,cs[i]? =some v→(W.alloc (.cells cs.toArray 49)).cell? ((⟨W.heap.size,0,none⟩:Addr).add i)=some v):=box_part (o:=0) (fun i v h=>by rw[Nat.zero_add];exact h) (Below.refl _ _)
 have HL:=Lib.hid hl
 clear h1 h2 hW hl
 go_enter Tryz.func109,Tryz.ntmps109
 cases b with
 | true=>
   go_wp2_with (refine wpList_load_w rfl 49 _ rfl ⟨W.heap.size,0,none⟩ rfl cs _ HX.out Tryz.underlying49 rfl (by rw[HL.out];kernel_rfl) ?_)
   refine X1.out.mono ?_
   rintro r w2 ⟨rfl,hb⟩
   have HB:=Lib.hid (HA.out.trans (hb.mono HA.out.size))
   clear hb X1 X2 HX
   go_wp2_with fail
   go_ret
   exact⟨rfl,HB.out⟩
 | false=>
   go_wp2_with (refine wpList_load_w rfl 49 _ rfl ⟨W.heap.size,0,none⟩ rfl cs _ HX.out Tryz.underlying49 rfl (by rw[HL.out];kernel_rfl) ?_)
   refine X2.out.mono ?_
   rintro r w2 ⟨rfl,hb⟩
   have HB:=Lib.hid (HA.out.trans (hb.mono HA.out.size))
   clear hb X1 X2 HX
   go_wp2_with fail
   go_ret
   exact⟨rfl,HB.out⟩
theorem fitsC_any (b:Bool)(cs:List Value)(hl:cs.length=3)(f1 f2:Nat)(z1 z2:Bool)(w:World)(e1:∀args w,(callFunc f1 args).run Tryz.prog w= .ok (.enter f1 args) w)(e2:∀args w,(callFunc f2 args).run Tryz.prog w= .ok (.enter f2 args) w)
 (h1:BoolAll f1 #[.agg cs.toArray] z1 w) (h2:BoolAll f2 #[.agg cs.toArray] z2 w):BoolAll 112 #[.bool b,.agg cs.toArray,.func (.func f1) #[] #[],.func (.func f2) #[] #[]] (bif b then z1 else z2) w:=fun W hW=>by
 have HA:Hid (Below W.heap.size W (W.alloc (.cells cs.toArray 52))):=box_low
 have X1:=Lib.hid ((h1.up hW).at HA.out)
 have X2:=Lib.hid ((h2.up hW).at HA.out)
 have HX:Hid (∀i v,cs[i]? =some v→(W.alloc (.cells cs.toArray 52)).cell? ((⟨W.heap.size,0,none⟩:Addr).add i)=some v):=box_part (o:=0) (fun i v h=>by rw[Nat.zero_add];exact h) (Below.refl _ _)
 have HL:=Lib.hid hl
 clear h1 h2 hW hl
 go_enter Tryz.func112,Tryz.ntmps112
 cases b with
 | true=>
   go_wp2_with (refine wpList_load_w rfl 52 _ rfl ⟨W.heap.size,0,none⟩ rfl cs _ HX.out Tryz.underlying52 rfl (by rw[HL.out];kernel_rfl) ?_)
   refine X1.out.mono ?_
   rintro r w2 ⟨rfl,hb⟩
   have HB:=Lib.hid (HA.out.trans (hb.mono HA.out.size))
   clear hb X1 X2 HX
   go_wp2_with fail
   go_ret
   exact⟨rfl,HB.out⟩
 | false=>
   go_wp2_with (refine wpList_load_w rfl 52 _ rfl ⟨W.heap.size,0,none⟩ rfl cs _ HX.out Tryz.underlying52 rfl (by rw[HL.out];kernel_rfl) ?_)
   refine X2.out.mono ?_
   rintro r w2 ⟨rfl,hb⟩
   have HB:=Lib.hid (HA.out.trans (hb.mono HA.out.size))
   clear hb X1 X2 HX
   go_wp2_with fail
   go_ret
   exact⟨rfl,HB.out⟩
theorem fitsA_any (b:Bool)(cs:List Value)(hl:cs.length=15)(f1 f2:Nat)(z1 z2:Bool)(w:World)(e1:∀args w,(callFunc f1 args).run Tryz.prog w= .ok (.enter f1 args) w)(e2:∀args w,(callFunc f2 args).run Tryz.prog w= .ok (.enter f2 args) w)
 (h1:BoolAll f1 #[.agg cs.toArray] z1 w) (h2:BoolAll f2 #[.agg cs.toArray] z2 w):BoolAll 113 #[.bool b,.agg cs.toArray,.func (.func f1) #[] #[],.func (.func f2) #[] #[]] (bif b then z1 else z2) w:=fun W hW=>by
 have HA:Hid (Below W.heap.size W (W.alloc (.cells cs.toArray 100))):=box_low
 have X1:=Lib.hid ((h1.up hW).at HA.out)
 have X2:=Lib.hid ((h2.up hW).at HA.out)
 have HX:Hid (∀i v,cs[i]? =some v→(W.alloc (.cells cs.toArray 100)).cell? ((⟨W.heap.size,0,none⟩:Addr).add i)=some v):=box_part (o:=0) (fun i v h=>by rw[Nat.zero_add];exact h) (Below.refl _ _)
 have HL:=Lib.hid hl
 clear h1 h2 hW hl
 go_enter Tryz.func113,Tryz.ntmps113
 cases b with
 | true=>
   go_wp2_with (refine wpList_load_w rfl 100 _ rfl ⟨W.heap.size,0,none⟩ rfl cs _ HX.out Tryz.underlying100 rfl (by rw[HL.out];kernel_rfl) ?_)
   refine X1.out.mono ?_
   rintro r w2 ⟨rfl,hb⟩
   have HB:=Lib.hid (HA.out.trans (hb.mono HA.out.size))
   clear hb X1 X2 HX
   go_wp2_with fail
   go_ret
   exact⟨rfl,HB.out⟩
 | false=>
   go_wp2_with (refine wpList_load_w rfl 100 _ rfl ⟨W.heap.size,0,none⟩ rfl cs _ HX.out Tryz.underlying100 rfl (by rw[HL.out];kernel_rfl) ?_)
   refine X2.out.mono ?_
   rintro r w2 ⟨rfl,hb⟩
   have HB:=Lib.hid (HA.out.trans (hb.mono HA.out.size))
   clear hb X1 X2 HX
   go_wp2_with fail
   go_ret
   exact⟨rfl,HB.out⟩
theorem fitsEs_any (b:Bool)(a:Option Addr)(m c:Nat)(f1 f2:Nat)(z1 z2:Bool)(w:World)(e1:∀args w,(callFunc f1 args).run Tryz.prog w= .ok (.enter f1 args) w)(e2:∀args w,(callFunc f2 args).run Tryz.prog w= .ok (.enter f2 args) w)
 (h1:BoolAll f1 #[.slice a m c] z1 w) (h2:BoolAll f2 #[.slice a m c] z2 w):BoolAll 115 #[.bool b,.slice a m c,.func (.func f1) #[] #[],.func (.func f2) #[] #[]] (bif b then z1 else z2) w:=fun W hW=>by
 have X1:=Lib.hid (h1.at hW)
 have X2:=Lib.hid (h2.at hW)
 clear h1 h2 hW
 go_enter Tryz.func115,Tryz.ntmps115
 cases b with
 | true=>
   go_wp2_with fail
   refine X1.out.mono ?_
   rintro r w2 ⟨rfl,hb⟩
   have HB:=Lib.hid hb
   clear hb X1 X2
   go_wp2_with fail
   go_ret
   exact⟨rfl,HB.out⟩
 | false=>
   go_wp2_with fail
   refine X2.out.mono ?_
   rintro r w2 ⟨rfl,hb⟩
   have HB:=Lib.hid hb
   clear hb X1 X2
   go_wp2_with fail
   go_ret
   exact⟨rfl,HB.out⟩
theorem fitsSs_any (b:Bool)(a:Option Addr)(m c:Nat)(f1 f2:Nat)(z1 z2:Bool)(w:World)(e1:∀args w,(callFunc f1 args).run Tryz.prog w= .ok (.enter f1 args) w)(e2:∀args w,(callFunc f2 args).run Tryz.prog w= .ok (.enter f2 args) w)
 (h1:BoolAll f1 #[.slice a m c] z1 w) (h2:BoolAll f2 #[.slice a m c] z2 w):BoolAll 118 #[.bool b,.slice a m c,.func (.func f1) #[] #[],.func (.func f2) #[] #[]] (bif b then z1 else z2) w:=fun W hW=>by
 have X1:=Lib.hid (h1.at hW)
 have X2:=Lib.hid (h2.at hW)
 clear h1 h2 hW
 go_enter Tryz.func118,Tryz.ntmps118
 cases b with
 | true=>
   go_wp2_with fail
   refine X1.out.mono ?_
   rintro r w2 ⟨rfl,hb⟩
   have HB:=Lib.hid hb
   clear hb X1 X2
   go_wp2_with fail
   go_ret
   exact⟨rfl,HB.out⟩
 | false=>
   go_wp2_with fail
   refine X2.out.mono ?_
   rintro r w2 ⟨rfl,hb⟩
   have HB:=Lib.hid hb
   clear hb X1 X2
   go_wp2_with fail
   go_ret
   exact⟨rfl,HB.out⟩
theorem fitsT_any (b:Bool)(s:ByteArray)(f1 f2:Nat)(z1 z2:Bool)(w:World)(e1:∀args w,(callFunc f1 args).run Tryz.prog w= .ok (.enter f1 args) w)(e2:∀args w,(callFunc f2 args).run Tryz.prog w= .ok (.enter f2 args) w)
 (h1:BoolAll f1 #[.string s] z1 w) (h2:BoolAll f2 #[.string s] z2 w):BoolAll 137 #[.bool b,.string s,.func (.func f1) #[] #[],.func (.func f2) #[] #[]] (bif b then z1 else z2) w:=fun W hW=>by
 have X1:=Lib.hid (h1.at hW)
 have X2:=Lib.hid (h2.at hW)
 clear h1 h2 hW
 go_enter Tryz.func137,Tryz.ntmps137
 cases b with
 | true=>
   go_wp2_with fail
   refine X1.out.mono ?_
   rintro r w2 ⟨rfl,hb⟩
   have HB:=Lib.hid hb
   clear hb X1 X2
   go_wp2_with fail
   go_ret
   exact⟨rfl,HB.out⟩
 | false=>
   go_wp2_with fail
   refine X2.out.mono ?_
   rintro r w2 ⟨rfl,hb⟩
   have HB:=Lib.hid hb
   clear hb X1 X2
   go_wp2_with fail
   go_ret
   exact⟨rfl,HB.out⟩
theorem noneE_any (a:Option Addr)(m c:Nat)(w:World):BoolAll 117 #[.slice a m c] (m == 0) w:=fun W hW=>by
 have E:Hid ((m == 0)=((m:Int) == 0)):=(nat_eq0 m).symm
 clear hW
 go_enter Tryz.func117,Tryz.ntmps117
 go_wp2_with fail
 go_ret
 exact⟨by rw[E.out];rfl,Below.refl _ _⟩
theorem noneS_any (a:Option Addr)(m c:Nat)(w:World):BoolAll 120 #[.slice a m c] (m == 0) w:=fun W hW=>by
 have E:Hid ((m == 0)=((m:Int) == 0)):=(nat_eq0 m).symm
 clear hW
 go_enter Tryz.func120,Tryz.ntmps120
 go_wp2_with fail
 go_ret
 exact⟨by rw[E.out];rfl,Below.refl _ _⟩
theorem noName_any (s:ByteArray)(w:World):BoolAll 136 #[.string s] s.toList.isEmpty w:=fun W hW=>by
 clear hW
 go_enter Tryz.func136,Tryz.ntmps136
 go_wp2_with fail
 go_ret
 exact⟨rfl,Below.refl _ _⟩
theorem allT_any (g:Nat)(p:ByteArray→Bool)(a:Option Addr)(m cap:Nat)(xs:List ByteArray)(w:World)(eg:∀args w,(callFunc g args).run Tryz.prog w= .ok (.enter g args) w)(hm:xs.length=m)(hs:Pak.Sits strSh (Pak.Lo w.heap.size) w a xs)
 (hf:∀x W,x∈xs→x.size≤maxLen→Below w.heap.size w W→Calls Tryz.prog g #[.string x] W (SoundEnd (p x) W)):
 Calls Tryz.prog 93 #[.slice a m cap,.func (.func g) #[] #[]] w (SoundEnd (xs.all p) w):=by
 have HS:=Lib.hid hs
 have HF:=Lib.hid hf
 have HM:=Lib.hid hm
 have hmm:m≤9223372036854775807:=by rw[←hm];exact hs.1
 have HHIT:Hid (∀j,(h:j<xs.length)→p xs[j]=false→xs.all p=false):=fun j h e=>all_hit h e
 have HMISS:Hid ((∀j,(h:j<xs.length)→p xs[j]=true)→xs.all p=true):=fun h=>all_miss h
 clear hs hf hm
 generalize xs.all p=r at HHIT HMISS
 go_enter Tryz.func93,Tryz.ntmps93
 go_wp2_with fail
 go_loopw [9] (fun i wr=>∃j:Nat,j≤m∧i= .int .i64 j∧Hid (∀q,(h:q<xs.length)→q<j→p xs[q]=true)∧Hid (Below w.heap.size w wr)) (fun i _=>m - (intOf i).toNat)
 case atStart=>exact⟨0,Nat.zero_le _,rfl,fun q _ h=>absurd h (Nat.not_lt_zero _),Below.refl _ _⟩
 case round=>
  obtain⟨j,hj,rfl,hno,hb⟩:=hrel
  obtain⟨wo,rfl⟩:∃wo:World,wo=wr:=⟨_,rfl⟩
  by_cases hlt:j<m
  ·have hlx:j<xs.length:=by rw[HM.out];exact hlt
   have hji:(j:Int)<(m:Int):=by omega
   obtain⟨b,off,cs,rfl,hbl,hc,rfl,hsz⟩:=(HS.out.below hb.out hb.out.size).2 j hlx
   have c0:=hc 0 _ rfl
   rw[show strSh.k=1 from rfl,Nat.add_zero,Nat.mul_one]at c0
   have HC:=Lib.hid (HF.out xs[j] _ (List.getElem_mem hlx) hsz hb.out)
   have HH:=Lib.hid (HHIT.out j hlx)
   have HN:Hid (p xs[j]=true→∀q,(h:q<xs.length)→q<j+1→p xs[q]=true):=fun h q hq hlq=>by
    by_cases e:q=j
    ·subst e;exact h
    ·exact hno.out q hq (by omega)
   clear hc hsz
   generalize p xs[j]=z at HC HH HN
   generalize xs[j]=x at*
   go_wp2_with fail
   refine HC.out.mono ?_
   rintro e w2 ⟨rfl,hb2⟩
   have HB2:=Lib.hid (hb.out.trans (hb2.mono hb.out.size))
   clear hb2 HC c0
   cases z with
   | false=>
     obtain rfl:=HH.out rfl
     clear HH HN
     go_wp2_with fail
     go_ret
     exact⟨rfl,HB2.out⟩
   | true=>
     have HN2:=Lib.hid (HN.out rfl)
     clear HH HN
     go_wp2_with fail
     go_roundw
     case rel=>exact⟨j+1,by omega,by go_num,HN2,HB2⟩
     case measure=>simp[intOf];omega
  ·obtain rfl:j=m:=by omega
   obtain rfl:=HMISS.out (fun q hq=>hno.out q hq (by rw[HM.out]at hq;exact hq))
   go_wp2_with fail
   go_ret
   exact⟨rfl,hb.out⟩
def hasB (k:Nat)(what:Int):Bool:= !(bits .and .i64 (belL.getD k 0) what == 0)
theorem has_any (k:Nat)(what:Int)(b:Nat)(w:World)(hk:k<10)(hL:Laid w)(hc:w.cell? ⟨b,0,none⟩=some (.int .i64 k)):Calls Tryz.prog 107 #[.int .i64 what,.pointer (some ⟨b,0,none⟩)] w (SoundEnd (hasB k what) w):=by
 have hv:belV[k]? =some (.int .i64 (belL.getD k 0)):=by
  have h2:k<belL.length:=hk
  simp[belV,List.getElem?_eq_getElem h2]
 have c1:=hL.bel k _ hv
 have E:Hid (hasB k what= !(bits .and .i64 (belL.getD k 0) what == 0)):=rfl
 have hki:(k:Int)<10:=by omega
 clear hL hv
 generalize belL.getD k 0=x at*
 go_enter Tryz.func107,Tryz.ntmps107
 go_wp2_with fail
 go_ret
 exact⟨by rw[E.out];rfl,Below.refl _ _⟩
end
section
open Go.RowKit
def ValAll (g:Nat)(args:Array Value)(v:Value)(w:World):Prop:=∀W,Below w.heap.size w W→Calls Tryz.prog g args W fun r w'=>r= .returned v∧Below W.heap.size W w'
theorem ValAll.reg {g:Nat}{args:Array Value}{z:Value}{w:World}(h:ValAll g args z w)(d:Nat)(os:Array Obj):Calls Tryz.prog g args (Go.Sort.grow (redrawn w d) os) fun e w''=>e= .returned z∧∃p:Regrown,w''=Go.Sort.grow (redrawn w p.d) p.os:=
 Calls.regrown_of (h _ (below_regrown w d os))
end
end Go.Proofs.YtjbkhdbjdahbiaaGreatDoor
