/- Parts of a proof. -/
import Derived.Test.YtfinhpfjokpcfaaDoorQ08
import Derived.Test.YtfinhpfjokpcfaaDoorQ09
import Derived.Test.YtfinhpfjokpcfaaDoorQ10
import Derived.Lib.QuietBelow
import Derived.BigQuiet
import Derived.Deep.CutBlock
import Derived.Deep.CutRange
import Derived.Deep.DeepCutAuto
set_option linter.unusedVariables false
set_option linter.unusedSimpArgs false
set_option maxHeartbeats 60000000
set_option maxRecDepth 100000
namespace Go.Proofs.YtfinhpfjokpcfaaDoor
section
open Go.RowKit
section
variable {P:Program}
theorem wpQuiet_load_b {W0:World}{ops:Array Oper}{rest:List Oper}{o:Oper}{a:Act}{Q:Act→Prop}(ty:TypeId)(x:Operand)(ho:o.op= .load ty x)
 (g:Addr) (hx:a.eval x= .pointer (some g)) (cs:List Value) (d:TypeDesc) (hc:∀W,Below W0.heap.size W0 W→∀j v,cs[j]? =some v→W.cell? (g.add j)=some v) (hw:Region.wanted o (yielded ops a.tmps)=true)
 (hu:P.underlying ty=some d) (hd:(match d with | .struct _ | .array _ _=>true | _=>false)=true) (hi:(P.info? ty).map (·.size)=some cs.length)
 (h:wpQuiet P ops (fun w'=>∃p:Regrown,w'=Go.Sort.grow (redrawn W0 p.d) p.os) Q rest (a.put o.dst (.agg cs.toArray))):wpQuiet P ops (fun w'=>∃p:Regrown,w'=Go.Sort.grow (redrawn W0 p.d) p.os) Q (o :: rest) a:=
 BigFrame.wpQuiet_want hw fun K hK=>⟨.agg cs.toArray,fun w hC=>by
  obtain⟨p,rfl⟩:=hC
  have e:(execOp a.eval o).run P (Go.Sort.grow (redrawn W0 p.d) p.os)= .ok (.value (.agg cs.toArray)) (Go.Sort.grow (redrawn W0 p.d) p.os):=by
   unfold execOp
   simp only[ho,hx,Instr.loadAt,Instr.sureAddr,Sem.run_bind,Sem.run_pure,Result.andThen_ok,run_loadVar_list _ g ty cs d (hc _ (below_regrown W0 p.d p.os)) hu hd hi]
  unfold Oper.quietAt
  rw[e]
  exact⟨rfl,rfl⟩,hK _ h⟩
end
theorem BoolAll.reg {g:Nat}{args:Array Value}{z:Bool}{w:World}(h:BoolAll g args z w)(d:Nat)(os:Array Obj):Calls Tryd.prog g args (Go.Sort.grow (redrawn w d) os) fun e w''=>e= .returned (.bool z)∧∃p:Regrown,w''=Go.Sort.grow (redrawn w p.d) p.os:=
 Calls.regrown_of (h _ (below_regrown w d os))
theorem fitsE_any (b:Bool)(cs:List Value)(hl:cs.length=4)(f1 f2:Nat)(z1 z2:Bool)(w:World)(e1:∀args w,(callFunc f1 args).run Tryd.prog w= .ok (.enter f1 args) w)(e2:∀args w,(callFunc f2 args).run Tryd.prog w= .ok (.enter f2 args) w)
 (h1:BoolAll f1 #[.agg cs.toArray] z1 w) (h2:BoolAll f2 #[.agg cs.toArray] z2 w):BoolAll 59 #[.bool b,.agg cs.toArray,.func (.func f1) #[] #[],.func (.func f2) #[] #[]] (bif b then z1 else z2) w:=fun W hW=>by
 have HA:Hid (Below W.heap.size W (W.alloc (.cells cs.toArray 27))):=box_low
 have X1:=Lib.hid ((h1.up hW).at HA.out)
 have X2:=Lib.hid ((h2.up hW).at HA.out)
 have HX:Hid (∀i v,cs[i]? =some v→(W.alloc (.cells cs.toArray 27)).cell? ((⟨W.heap.size,0,none⟩:Addr).add i)=some v):=box_part (o:=0) (fun i v h=>by rw[Nat.zero_add];exact h) (Below.refl _ _)
 have HL:=Lib.hid hl
 clear h1 h2 hW hl
 go_enter Tryd.func59,Tryd.ntmps59
 cases b with
 | true=>
   go_wp2_with (refine wpList_load_w rfl 27 _ rfl ⟨W.heap.size,0,none⟩ rfl cs _ HX.out Tryd.underlying27 rfl (by rw[HL.out];kernel_rfl) ?_)
   refine X1.out.mono ?_
   rintro r w2 ⟨rfl,hb⟩
   have HB:=Lib.hid (HA.out.trans (hb.mono HA.out.size))
   clear hb X1 X2 HX
   go_wp2_with fail
   go_ret
   exact⟨rfl,HB.out⟩
 | false=>
   go_wp2_with (refine wpList_load_w rfl 27 _ rfl ⟨W.heap.size,0,none⟩ rfl cs _ HX.out Tryd.underlying27 rfl (by rw[HL.out];kernel_rfl) ?_)
   refine X2.out.mono ?_
   rintro r w2 ⟨rfl,hb⟩
   have HB:=Lib.hid (HA.out.trans (hb.mono HA.out.size))
   clear hb X1 X2 HX
   go_wp2_with fail
   go_ret
   exact⟨rfl,HB.out⟩
theorem fitsC_any (b:Bool)(cs:List Value)(hl:cs.length=3)(f1 f2:Nat)(z1 z2:Bool)(w:World)(e1:∀args w,(callFunc f1 args).run Tryd.prog w= .ok (.enter f1 args) w)(e2:∀args w,(callFunc f2 args).run Tryd.prog w= .ok (.enter f2 args) w)
 (h1:BoolAll f1 #[.agg cs.toArray] z1 w) (h2:BoolAll f2 #[.agg cs.toArray] z2 w):BoolAll 62 #[.bool b,.agg cs.toArray,.func (.func f1) #[] #[],.func (.func f2) #[] #[]] (bif b then z1 else z2) w:=fun W hW=>by
 have HA:Hid (Below W.heap.size W (W.alloc (.cells cs.toArray 25))):=box_low
 have X1:=Lib.hid ((h1.up hW).at HA.out)
 have X2:=Lib.hid ((h2.up hW).at HA.out)
 have HX:Hid (∀i v,cs[i]? =some v→(W.alloc (.cells cs.toArray 25)).cell? ((⟨W.heap.size,0,none⟩:Addr).add i)=some v):=box_part (o:=0) (fun i v h=>by rw[Nat.zero_add];exact h) (Below.refl _ _)
 have HL:=Lib.hid hl
 clear h1 h2 hW hl
 go_enter Tryd.func62,Tryd.ntmps62
 cases b with
 | true=>
   go_wp2_with (refine wpList_load_w rfl 25 _ rfl ⟨W.heap.size,0,none⟩ rfl cs _ HX.out Tryd.underlying25 rfl (by rw[HL.out];kernel_rfl) ?_)
   refine X1.out.mono ?_
   rintro r w2 ⟨rfl,hb⟩
   have HB:=Lib.hid (HA.out.trans (hb.mono HA.out.size))
   clear hb X1 X2 HX
   go_wp2_with fail
   go_ret
   exact⟨rfl,HB.out⟩
 | false=>
   go_wp2_with (refine wpList_load_w rfl 25 _ rfl ⟨W.heap.size,0,none⟩ rfl cs _ HX.out Tryd.underlying25 rfl (by rw[HL.out];kernel_rfl) ?_)
   refine X2.out.mono ?_
   rintro r w2 ⟨rfl,hb⟩
   have HB:=Lib.hid (HA.out.trans (hb.mono HA.out.size))
   clear hb X1 X2 HX
   go_wp2_with fail
   go_ret
   exact⟨rfl,HB.out⟩
theorem fitsA_any (b:Bool)(cs:List Value)(hl:cs.length=15)(f1 f2:Nat)(z1 z2:Bool)(w:World)(e1:∀args w,(callFunc f1 args).run Tryd.prog w= .ok (.enter f1 args) w)(e2:∀args w,(callFunc f2 args).run Tryd.prog w= .ok (.enter f2 args) w)
 (h1:BoolAll f1 #[.agg cs.toArray] z1 w) (h2:BoolAll f2 #[.agg cs.toArray] z2 w):BoolAll 63 #[.bool b,.agg cs.toArray,.func (.func f1) #[] #[],.func (.func f2) #[] #[]] (bif b then z1 else z2) w:=fun W hW=>by
 have HA:Hid (Below W.heap.size W (W.alloc (.cells cs.toArray 30))):=box_low
 have X1:=Lib.hid ((h1.up hW).at HA.out)
 have X2:=Lib.hid ((h2.up hW).at HA.out)
 have HX:Hid (∀i v,cs[i]? =some v→(W.alloc (.cells cs.toArray 30)).cell? ((⟨W.heap.size,0,none⟩:Addr).add i)=some v):=box_part (o:=0) (fun i v h=>by rw[Nat.zero_add];exact h) (Below.refl _ _)
 have HL:=Lib.hid hl
 clear h1 h2 hW hl
 go_enter Tryd.func63,Tryd.ntmps63
 cases b with
 | true=>
   go_wp2_with (refine wpList_load_w rfl 30 _ rfl ⟨W.heap.size,0,none⟩ rfl cs _ HX.out Tryd.underlying30 rfl (by rw[HL.out];kernel_rfl) ?_)
   refine X1.out.mono ?_
   rintro r w2 ⟨rfl,hb⟩
   have HB:=Lib.hid (HA.out.trans (hb.mono HA.out.size))
   clear hb X1 X2 HX
   go_wp2_with fail
   go_ret
   exact⟨rfl,HB.out⟩
 | false=>
   go_wp2_with (refine wpList_load_w rfl 30 _ rfl ⟨W.heap.size,0,none⟩ rfl cs _ HX.out Tryd.underlying30 rfl (by rw[HL.out];kernel_rfl) ?_)
   refine X2.out.mono ?_
   rintro r w2 ⟨rfl,hb⟩
   have HB:=Lib.hid (HA.out.trans (hb.mono HA.out.size))
   clear hb X1 X2 HX
   go_wp2_with fail
   go_ret
   exact⟨rfl,HB.out⟩
theorem fitsEs_any (b:Bool)(a:Option Addr)(m c:Nat)(f1 f2:Nat)(z1 z2:Bool)(w:World)(e1:∀args w,(callFunc f1 args).run Tryd.prog w= .ok (.enter f1 args) w)(e2:∀args w,(callFunc f2 args).run Tryd.prog w= .ok (.enter f2 args) w)
 (h1:BoolAll f1 #[.slice a m c] z1 w) (h2:BoolAll f2 #[.slice a m c] z2 w):BoolAll 65 #[.bool b,.slice a m c,.func (.func f1) #[] #[],.func (.func f2) #[] #[]] (bif b then z1 else z2) w:=fun W hW=>by
 have X1:=Lib.hid (h1.at hW)
 have X2:=Lib.hid (h2.at hW)
 clear h1 h2 hW
 go_enter Tryd.func65,Tryd.ntmps65
 cases b with
 | true=>
   go_wp2_with fail
   refine X1.out.mono ?_
   rintro r w2 ⟨rfl,hb⟩
   have HB:=Lib.hid hb
   clear hb X1 X2
   go_wp2_with fail
   go_ret
   exact⟨rfl,HB.out⟩
 | false=>
   go_wp2_with fail
   refine X2.out.mono ?_
   rintro r w2 ⟨rfl,hb⟩
   have HB:=Lib.hid hb
   clear hb X1 X2
   go_wp2_with fail
   go_ret
   exact⟨rfl,HB.out⟩
theorem fitsSs_any (b:Bool)(a:Option Addr)(m c:Nat)(f1 f2:Nat)(z1 z2:Bool)(w:World)(e1:∀args w,(callFunc f1 args).run Tryd.prog w= .ok (.enter f1 args) w)(e2:∀args w,(callFunc f2 args).run Tryd.prog w= .ok (.enter f2 args) w)
 (h1:BoolAll f1 #[.slice a m c] z1 w) (h2:BoolAll f2 #[.slice a m c] z2 w):BoolAll 68 #[.bool b,.slice a m c,.func (.func f1) #[] #[],.func (.func f2) #[] #[]] (bif b then z1 else z2) w:=fun W hW=>by
 have X1:=Lib.hid (h1.at hW)
 have X2:=Lib.hid (h2.at hW)
 clear h1 h2 hW
 go_enter Tryd.func68,Tryd.ntmps68
 cases b with
 | true=>
   go_wp2_with fail
   refine X1.out.mono ?_
   rintro r w2 ⟨rfl,hb⟩
   have HB:=Lib.hid hb
   clear hb X1 X2
   go_wp2_with fail
   go_ret
   exact⟨rfl,HB.out⟩
 | false=>
   go_wp2_with fail
   refine X2.out.mono ?_
   rintro r w2 ⟨rfl,hb⟩
   have HB:=Lib.hid hb
   clear hb X1 X2
   go_wp2_with fail
   go_ret
   exact⟨rfl,HB.out⟩
theorem fitsT_any (b:Bool)(s:ByteArray)(f1 f2:Nat)(z1 z2:Bool)(w:World)(e1:∀args w,(callFunc f1 args).run Tryd.prog w= .ok (.enter f1 args) w)(e2:∀args w,(callFunc f2 args).run Tryd.prog w= .ok (.enter f2 args) w)
 (h1:BoolAll f1 #[.string s] z1 w) (h2:BoolAll f2 #[.string s] z2 w):BoolAll 81 #[.bool b,.string s,.func (.func f1) #[] #[],.func (.func f2) #[] #[]] (bif b then z1 else z2) w:=fun W hW=>by
 have X1:=Lib.hid (h1.at hW)
 have X2:=Lib.hid (h2.at hW)
 clear h1 h2 hW
 go_enter Tryd.func81,Tryd.ntmps81
 cases b with
 | true=>
   go_wp2_with fail
   refine X1.out.mono ?_
   rintro r w2 ⟨rfl,hb⟩
   have HB:=Lib.hid hb
   clear hb X1 X2
   go_wp2_with fail
   go_ret
   exact⟨rfl,HB.out⟩
 | false=>
   go_wp2_with fail
   refine X2.out.mono ?_
   rintro r w2 ⟨rfl,hb⟩
   have HB:=Lib.hid hb
   clear hb X1 X2
   go_wp2_with fail
   go_ret
   exact⟨rfl,HB.out⟩
theorem noneE_any (a:Option Addr)(m c:Nat)(w:World):BoolAll 67 #[.slice a m c] (m == 0) w:=fun W hW=>by
 have E:Hid ((m == 0)=((m:Int) == 0)):=(nat_eq0 m).symm
 clear hW
 go_enter Tryd.func67,Tryd.ntmps67
 go_wp2_with fail
 go_ret
 exact⟨by rw[E.out];rfl,Below.refl _ _⟩
theorem noneS_any (a:Option Addr)(m c:Nat)(w:World):BoolAll 70 #[.slice a m c] (m == 0) w:=fun W hW=>by
 have E:Hid ((m == 0)=((m:Int) == 0)):=(nat_eq0 m).symm
 clear hW
 go_enter Tryd.func70,Tryd.ntmps70
 go_wp2_with fail
 go_ret
 exact⟨by rw[E.out];rfl,Below.refl _ _⟩
theorem noName_any (s:ByteArray)(w:World):BoolAll 80 #[.string s] s.toList.isEmpty w:=fun W hW=>by
 clear hW
 go_enter Tryd.func80,Tryd.ntmps80
 go_wp2_with fail
 go_ret
 exact⟨rfl,Below.refl _ _⟩
theorem allT_any (g:Nat)(p:ByteArray→Bool)(a:Option Addr)(m cap:Nat)(xs:List ByteArray)(w:World)(eg:∀args w,(callFunc g args).run Tryd.prog w= .ok (.enter g args) w)(hm:xs.length=m)(hs:Pak.Sits strSh (Pak.Lo w.heap.size) w a xs)
 (hf:∀x W,x∈xs→x.size≤maxLen→Below w.heap.size w W→Calls Tryd.prog g #[.string x] W (SoundEnd (p x) W)):
 Calls Tryd.prog 41 #[.slice a m cap,.func (.func g) #[] #[]] w (SoundEnd (xs.all p) w):=by
 have HS:=Lib.hid hs
 have HF:=Lib.hid hf
 have HM:=Lib.hid hm
 have hmm:m≤9223372036854775807:=by rw[←hm];exact hs.1
 have HHIT:Hid (∀j,(h:j<xs.length)→p xs[j]=false→xs.all p=false):=fun j h e=>all_hit h e
 have HMISS:Hid ((∀j,(h:j<xs.length)→p xs[j]=true)→xs.all p=true):=fun h=>all_miss h
 clear hs hf hm
 generalize xs.all p=r at HHIT HMISS
 go_enter Tryd.func41,Tryd.ntmps41
 go_wp2_with fail
 go_loopw [9] (fun i wr=>∃j:Nat,j≤m∧i= .int .i64 j∧Hid (∀q,(h:q<xs.length)→q<j→p xs[q]=true)∧Hid (Below w.heap.size w wr)) (fun i _=>m - (intOf i).toNat)
 case atStart=>exact⟨0,Nat.zero_le _,rfl,fun q _ h=>absurd h (Nat.not_lt_zero _),Below.refl _ _⟩
 case round=>
  obtain⟨j,hj,rfl,hno,hb⟩:=hrel
  obtain⟨wo,rfl⟩:∃wo:World,wo=wr:=⟨_,rfl⟩
  by_cases hlt:j<m
  ·have hlx:j<xs.length:=by rw[HM.out];exact hlt
   have hji:(j:Int)<(m:Int):=by omega
   obtain⟨b,off,cs,rfl,hbl,hc,rfl,hsz⟩:=(HS.out.below hb.out hb.out.size).2 j hlx
   have c0:=hc 0 _ rfl
   rw[show strSh.k=1 from rfl,Nat.add_zero,Nat.mul_one]at c0
   have HC:=Lib.hid (HF.out xs[j] _ (List.getElem_mem hlx) hsz hb.out)
   have HH:=Lib.hid (HHIT.out j hlx)
   have HN:Hid (p xs[j]=true→∀q,(h:q<xs.length)→q<j+1→p xs[q]=true):=fun h q hq hlq=>by
    by_cases e:q=j
    ·subst e;exact h
    ·exact hno.out q hq (by omega)
   clear hc hsz
   generalize p xs[j]=z at HC HH HN
   generalize xs[j]=x at*
   go_wp2_with fail
   refine HC.out.mono ?_
   rintro e w2 ⟨rfl,hb2⟩
   have HB2:=Lib.hid (hb.out.trans (hb2.mono hb.out.size))
   clear hb2 HC c0
   cases z with
   | false=>
     obtain rfl:=HH.out rfl
     clear HH HN
     go_wp2_with fail
     go_ret
     exact⟨rfl,HB2.out⟩
   | true=>
     have HN2:=Lib.hid (HN.out rfl)
     clear HH HN
     go_wp2_with fail
     go_roundw
     case rel=>exact⟨j+1,by omega,by go_num,HN2,HB2⟩
     case measure=>simp[intOf];omega
  ·obtain rfl:j=m:=by omega
   obtain rfl:=HMISS.out (fun q hq=>hno.out q hq (by rw[HM.out]at hq;exact hq))
   go_wp2_with fail
   go_ret
   exact⟨rfl,hb.out⟩
def hasB (k:Nat)(what:Int):Bool:= !(bits .and .i64 (belL.getD k 0) what == 0)
theorem has_any (k:Nat)(what:Int)(b:Nat)(w:World)(hk:k<10)(hL:Laid w)(hc:w.cell? ⟨b,0,none⟩=some (.int .i64 k)):Calls Tryd.prog 57 #[.int .i64 what,.pointer (some ⟨b,0,none⟩)] w (SoundEnd (hasB k what) w):=by
 have hv:belV[k]? =some (.int .i64 (belL.getD k 0)):=by
  have h2:k<belL.length:=hk
  simp[belV,List.getElem?_eq_getElem h2]
 have c1:=hL.bel k _ hv
 have E:Hid (hasB k what= !(bits .and .i64 (belL.getD k 0) what == 0)):=rfl
 have hki:(k:Int)<10:=by omega
 clear hL hv
 generalize belL.getD k 0=x at*
 go_enter Tryd.func57,Tryd.ntmps57
 go_wp2_with fail
 go_ret
 exact⟨by rw[E.out];rfl,Below.refl _ _⟩
end
section
open Go.RowKit
def ValAll (g:Nat)(args:Array Value)(v:Value)(w:World):Prop:=∀W,Below w.heap.size w W→Calls Tryd.prog g args W fun r w'=>r= .returned v∧Below W.heap.size W w'
theorem ValAll.at {g:Nat}{args:Array Value}{z:Value}{w W:World}(h:ValAll g args z w)(hb:Below w.heap.size w W):Calls Tryd.prog g args W fun r w'=>r= .returned z∧Below W.heap.size W w':=h W hb
theorem ValAll.reg {g:Nat}{args:Array Value}{z:Value}{w:World}(h:ValAll g args z w)(d:Nat)(os:Array Obj):Calls Tryd.prog g args (Go.Sort.grow (redrawn w d) os) fun e w''=>e= .returned z∧∃p:Regrown,w''=Go.Sort.grow (redrawn w p.d) p.os:=
 Calls.regrown_of (h _ (below_regrown w d os))
end
section
open Go.RowKit
def nearB (n:Int):Bool:=decide (-4294967296≤n) && decide (n≤4294967296)
theorem near_is {n:Int}(h:nearB n=true): -4294967296≤n∧n≤4294967296:=by
 unfold nearB at h;simpa using h
def valE (ρ:ByteArray→Int):Nat→ET→Int×Bool
 | 0,_=>(0,false)
 | n+1,e=>
   if e.kind=0 then(e.n,nearB e.n)
   else if e.kind=1 then(ρ e.name,nearB (ρ e.name))
   else
    let a:=valE ρ n (e.ks.getD 0 default)
    if a.2=false then(0,false)
    else if e.kind=4 then(e.n*a.1,nearB (e.n*a.1))
    else
     let b:=valE ρ n (e.ks.getD 1 default)
     if b.2=false then(0,false)
     else if e.kind=2 then(a.1+b.1,nearB (a.1+b.1)) else(a.1 - b.1,nearB (a.1 - b.1))
theorem valE_succ (ρ:ByteArray→Int)(n:Nat)(e:ET):valE ρ (n+1) e=if e.kind=0 then(e.n,nearB e.n)
 else if e.kind=1 then(ρ e.name,nearB (ρ e.name))
 else
  if(valE ρ n (e.ks.getD 0 default)).2=false then(0,false)
  else if e.kind=4 then(e.n*(valE ρ n (e.ks.getD 0 default)).1,nearB (e.n*(valE ρ n (e.ks.getD 0 default)).1))
  else
   if(valE ρ n (e.ks.getD 1 default)).2=false then(0,false)
   else if e.kind=2 then((valE ρ n (e.ks.getD 0 default)).1+(valE ρ n (e.ks.getD 1 default)).1,nearB ((valE ρ n (e.ks.getD 0 default)).1+(valE ρ n (e.ks.getD 1 default)).1)) else((valE ρ n (e.ks.getD 0 default)).1 - (valE ρ n (e.ks.getD 1 default)).1,nearB ((valE ρ n (e.ks.getD 0 default)).1 - (valE ρ n (e.ks.getD 1 default)).1)):=rfl
def ValIn (x:Int×Bool)(w:World)(r:Ending)(w':World):Prop:=r= .returned (.tuple #[.int .i64 x.1,.bool x.2])∧Below w.heap.size w w'
structure Kids2 (g:Nat)(x y:Value)(w:World):Prop where
 c0:w.cell? ⟨g,0,none⟩=some x
 c1:w.cell? ⟨g,1,none⟩=some y
 f:∀o,w.frozen? ⟨g,o,none⟩=false
theorem Kids2.below {g:Nat}{x y:Value}{w w':World}(h:Kids2 g x y w)(hb:Below w.heap.size w w'):Kids2 g x y w':=
 ⟨(hb.cell (p:=⟨g,0,none⟩) (block_lt_of_cell h.c0)).trans h.c0,(hb.cell (p:=⟨g,1,none⟩) (block_lt_of_cell h.c1)).trans h.c1,fun o=>(hb.frozen (p:=⟨g,o,none⟩) (show g<w.heap.size from block_lt_of_cell (a:=⟨g,0,none⟩) h.c0)).trans (h.f o)⟩
theorem Kids2.set0 {g:Nat}{x y v:Value}{w:World}(h:Kids2 g x y w):Kids2 g v y (w.setCell ⟨g,0,none⟩ v):=
 ⟨World.cell?_setCell_same _ _ _ h.c0,by rw[World.cell?_setCell_other _ _ _ _ (by simp)];exact h.c1,fun o=>by rw[World.frozen?_setCell];exact h.f o⟩
theorem Kids2.set1 {g:Nat}{x y v:Value}{w:World}(h:Kids2 g x y w):Kids2 g x v (w.setCell ⟨g,1,none⟩ v):=
 ⟨by rw[World.cell?_setCell_other _ _ _ _ (by simp)];exact h.c0,World.cell?_setCell_same _ _ _ h.c1,fun o=>by rw[World.frozen?_setCell];exact h.f o⟩
theorem valE_far {ρ:ByteArray→Int}{n:Nat}{e:ET}{m j:Nat}(hk:(e.kind=0∧m=0)∨(e.kind=1∧m=0)∨(e.kind=2∧m=2)∨(e.kind=3∧m=2)∨(e.kind=4∧m=1))(hj:j<m)(hp:∀q,q<j→(valE ρ n (e.ks.getD q default)).2=true)(h:(valE ρ n (e.ks.getD j default)).2=false):valE ρ (n+1) e=(0,false):=by
 have h0:e.kind≠0:=by omega
 have h1:e.kind≠1:=by omega
 have hj2:j=0∨j=1:=by omega
 rw[valE_succ,if_neg h0,if_neg h1]
 rcases hj2 with rfl | rfl
 ·simp only[h,if_true]
 ·have h4:e.kind≠4:=by omega
  simp only[hp 0 (Nat.succ_pos _),h,if_true,h4,if_false,Bool.true_eq_false]
theorem frozen_new {W:World}{g:Nat}{c:Array Value}{t:TypeId}(h:W.heap[g]? =some (.cells c t (0,0)))(o:Nat):W.frozen? ⟨g,o,none⟩=false:=by
 simp[World.frozen?,h]
def kidV (ρ:ByteArray→Int)(n:Nat)(e:ET)(j q:Nat):Int:=if q<j then(valE ρ n (e.ks.getD q default)).1 else 0
theorem hexpr_box (n:Nat)(ρ:ByteArray→Int)(e:ET)(vs:Value)(a:Option Addr)(m cap:Nat)(w:World)(hm:e.ks.length=m)(hs:Pak.Sits (exprSh n) (Pak.Lo w.heap.size) w a e.ks)
 (hk:(e.kind=0∧m=0)∨(e.kind=1∧m=0)∨(e.kind=2∧m=2)∨(e.kind=3∧m=2)∨(e.kind=4∧m=1)) (hn: -1073741824≤e.n∧e.n≤1073741824)
 (hvar:ValAll 24 #[.string e.name,vs] (.int .i64 (ρ e.name)) w)
 (hnear:∀x,(valE ρ n x).2=true→ -4294967296≤(valE ρ n x).1∧(valE ρ n x).1≤4294967296)
 (hf:∀cs x W,x∈e.ks→Below w.heap.size w W→(exprSh n).rel (Pak.Lo W.heap.size) W cs x→Calls Tryd.prog 14 #[.agg cs.toArray,vs] W (ValIn (valE ρ n x) W)):
 Calls Tryd.prog 14 #[.agg #[.int .i64 e.kind,.int .i64 e.n,.string e.name,.slice a m cap],vs] w (ValIn (valE ρ (n+1) e) w):=by
 have HK:=Lib.hid hk
 have HS:=Lib.hid hs
 have HF:=Lib.hid hf
 have HM:=Lib.hid hm
 have HV:=Lib.hid hvar
 have HNR:=Lib.hid hnear
 have HN0:=Lib.hid hn
 have hm2:m≤2:=by omega
 have hmm:m≤9223372036854775807:=by omega
 have HP:Hid (∀q,(h:q<e.ks.length)→e.ks.getD q default=e.ks[q]):=fun q h=>by
  rw[List.getD_eq_getElem?_getD,List.getElem?_eq_getElem h];rfl
 have HA:Hid (Below w.heap.size w (w.alloc (.cells #[.int .i64 e.kind,.int .i64 e.n,.string e.name,.slice a m cap] 27))):=box_low
 have HQ:Hid (∀W,Below (w.alloc (.cells #[.int .i64 e.kind,.int .i64 e.n,.string e.name,.slice a m cap] 27)).heap.size (w.alloc (.cells #[.int .i64 e.kind,.int .i64 e.n,.string e.name,.slice a m cap] 27)) W→W.cell? ⟨w.heap.size,0,none⟩=some (.int .i64 e.kind)∧W.cell? ⟨w.heap.size,1,none⟩=some (.int .i64 e.n)∧W.cell? ⟨w.heap.size,2,none⟩=some (.string e.name)):=fun W hb=>
  ⟨box_at (cs:=[.int .i64 e.kind,.int .i64 e.n,.string e.name,.slice a m cap]) rfl hb,box_at (cs:=[.int .i64 e.kind,.int .i64 e.n,.string e.name,.slice a m cap]) rfl hb,box_at (cs:=[.int .i64 e.kind,.int .i64 e.n,.string e.name,.slice a m cap]) rfl hb⟩
 have HB1:Hid (Below (w.alloc (.cells #[.int .i64 e.kind,.int .i64 e.n,.string e.name,.slice a m cap] 27)).heap.size (w.alloc (.cells #[.int .i64 e.kind,.int .i64 e.n,.string e.name,.slice a m cap] 27)) ((w.alloc (.cells #[.int .i64 e.kind,.int .i64 e.n,.string e.name,.slice a m cap] 27)).alloc (.cells #[.int .i64 0,.int .i64 0] 79))):=box_low
 have HK0:Hid (Kids2 (w.heap.size+1) (.int .i64 (kidV ρ n e 0 0)) (.int .i64 (kidV ρ n e 0 1)) ((w.alloc (.cells #[.int .i64 e.kind,.int .i64 e.n,.string e.name,.slice a m cap] 27)).alloc (.cells #[.int .i64 0,.int .i64 0] 79))):=Lib.hid (by
  have hh:=heap_alloc_new (w.alloc (.cells #[.int .i64 e.kind,.int .i64 e.n,.string e.name,.slice a m cap] 27)) (.cells #[.int .i64 0,.int .i64 0] 79)
  have hz:(w.alloc (.cells #[.int .i64 e.kind,.int .i64 e.n,.string e.name,.slice a m cap] 27)).heap.size=w.heap.size+1:=by simp
  rw[hz]at hh
  exact⟨(cell_of_row _ _ _ _ _ _ hh).trans rfl,(cell_of_row _ _ _ _ _ _ hh).trans rfl,fun o=>frozen_new hh o⟩)
 clear hs hf hm hk hvar hnear hn
 go_enter Tryd.func14,Tryd.ntmps14
 go_wp2_with fail
 go_loopw [15] (fun i wr=>∃j:Nat,j≤m∧i= .int .i64 j∧Hid (∀q,q<j→(valE ρ n (e.ks.getD q default)).2=true)∧Hid (Kids2 (w.heap.size+1) (.int .i64 (kidV ρ n e j 0)) (.int .i64 (kidV ρ n e j 1)) wr)∧Hid (Below (w.alloc (.cells #[.int .i64 e.kind,.int .i64 e.n,.string e.name,.slice a m cap] 27)).heap.size (w.alloc (.cells #[.int .i64 e.kind,.int .i64 e.n,.string e.name,.slice a m cap] 27)) wr)) (fun i _=>m - (intOf i).toNat)
 case atStart=>exact⟨0,Nat.zero_le _,rfl,fun q h=>absurd h (Nat.not_lt_zero _),HK0,HB1⟩
 case round=>
  obtain⟨j,hj,rfl,hno,hkid,hb⟩:=hrel
  obtain⟨wo,rfl⟩:∃wo:World,wo=wr:=⟨_,rfl⟩
  have HWO:=Lib.hid (HA.out.trans (hb.out.mono HA.out.size))
  by_cases hlt:j<m
  ·have hlx:j<e.ks.length:=by rw[HM.out];exact hlt
   have hji:(j:Int)<(m:Int):=by omega
   obtain⟨b,off,cs,rfl,hbl,hc,hr⟩:=(HS.out.below HWO.out HWO.out.size).2 j hlx
   have hlen:=(exprSh n).len hr
   have hone:=(exprSh n).one hr
   rw[exprSh_k]at hlen hc
   have HC0:Hid (∀i v,cs[i]? =some v→wo.cell? ((⟨b,off+j*4,none⟩:Addr).add i)=some v):=fun i v hv=>by
    rw[show(⟨b,off+j*4,none⟩:Addr).add i=⟨b,off+j*4+i,none⟩ by unfold Addr.add;split<;>simp_all]
    exact hc i v hv
   have hA:Below wo.heap.size wo (wo.alloc (.cells cs.toArray 27)):=box_low
   have HBK:=Lib.hid (hb.out.trans (hA.mono hb.out.size))
   have HWK:=Lib.hid (HWO.out.trans (hA.mono HWO.out.size))
   have HKA:=Lib.hid (hkid.out.below hA)
   have HC:=Lib.hid (HF.out _ e.ks[j] _ (List.getElem_mem hlx) HWK.out (rel_low hr hA))
   have HX:Hid (∀i v,cs[i]? =some v→(wo.alloc (.cells cs.toArray 27)).cell? ((⟨wo.heap.size,0,none⟩:Addr).add i)=some v):=box_part (o:=0) (fun i v h=>by rw[Nat.zero_add];exact h) (Below.refl _ _)
   have HL:=Lib.hid hlen
   have HO:=Lib.hid hone
   have HFAR:Hid ((valE ρ n e.ks[j]).2=false→valE ρ (n+1) e=(0,false)):=fun h=>valE_far HK.out hlt hno.out (by rw[HP.out j hlx];exact h)
   have HNX:Hid ((valE ρ n e.ks[j]).2=true→∀q,q<j+1→(valE ρ n (e.ks.getD q default)).2=true):=fun h q hq=>by
    by_cases e':q=j
    ·subst e';rw[HP.out q hlx];exact h
    ·exact hno.out q (by omega)
   have HVX:Hid ((valE ρ n (e.ks.getD j default)).1=(valE ρ n e.ks[j]).1):=Lib.hid (by rw[HP.out j hlx])
   clear hc hr hlen hone hA
   generalize valE ρ n e.ks[j]=y at HC HFAR HNX HVX
   obtain⟨yv,yn⟩:=y
   go_wp2_with (first | go_skip | (refine wpList_store_new (by kernel_rfl) 27 _ _ rfl _ rfl cs rfl (by rw[HL.out];kernel_rfl) (by rw[HL.out];rfl) HO.out ?_) | (refine wpList_load_w (by kernel_rfl) 27 _ rfl ⟨b,off+j*4,none⟩ rfl cs _ HC0.out Tryd.underlying27 rfl (by rw[HL.out];kernel_rfl) ?_) | (refine wpList_load_w (by kernel_rfl) 27 _ rfl ⟨wo.heap.size,0,none⟩ rfl cs _ HX.out Tryd.underlying27 rfl (by rw[HL.out];kernel_rfl) ?_))
   refine HC.out.mono ?_
   rintro r w2 ⟨rfl,hb2⟩
   have HB2:=Lib.hid (HBK.out.trans (hb2.mono HBK.out.size))
   have HK2:=Lib.hid (HKA.out.below hb2)
   have HZ:=Lib.hid (HA.out.trans (HB2.out.mono HA.out.size))
   clear hb2 HC HC0 HX
   dsimp only at HFAR HNX HVX⊢
   cases yn with
   | false=>
     have hres:=Lib.hid (HFAR.out rfl)
     clear HFAR HNX HVX
     go_wp2_with fail
     go_ret2
     exact⟨by rw[hres.out];rfl,HZ.out⟩
   | true=>
     have HN2:=Lib.hid (HNX.out rfl)
     obtain⟨k0,k1,kf⟩:=HK2.out
     have hj2:j=0∨j=1:=by omega
     rcases hj2 with rfl | rfl
     ·have HK3:Hid (Kids2 (w.heap.size+1) (.int .i64 (kidV ρ n e (0+1) 0)) (.int .i64 (kidV ρ n e (0+1) 1)) (w2.setCell ⟨w.heap.size+1,0,none⟩ (.int .i64 yv))):=Lib.hid (by
       have h:=HK2.out.set0 (v:= .int .i64 yv)
       have e1:kidV ρ n e (0+1) 0=yv:=by unfold kidV;rw[if_pos (by omega)];exact HVX.out
       have e2:kidV ρ n e (0+1) 1=kidV ρ n e 0 1:=by unfold kidV;rw[if_neg (by omega),if_neg (by omega)]
       rw[e1,e2];exact h)
      have HB3:=Lib.hid (HB2.out.setCell (p:=⟨w.heap.size+1,0,none⟩) (by simp) (.int .i64 yv))
      have kf0:=kf 0
      clear HFAR HNX HVX HK2 kf
      go_wp2_with fail
      go_roundw
      case rel=>exact⟨0+1,by omega,by go_num,HN2,HK3,HB3⟩
      case measure=>simp[intOf];omega
     ·have HK3:Hid (Kids2 (w.heap.size+1) (.int .i64 (kidV ρ n e (1+1) 0)) (.int .i64 (kidV ρ n e (1+1) 1)) (w2.setCell ⟨w.heap.size+1,1,none⟩ (.int .i64 yv))):=Lib.hid (by
       have h:=HK2.out.set1 (v:= .int .i64 yv)
       have e1:kidV ρ n e (1+1) 1=yv:=by unfold kidV;rw[if_pos (by omega)];exact HVX.out
       have e2:kidV ρ n e (1+1) 0=kidV ρ n e 1 0:=by unfold kidV;rw[if_pos (by omega),if_pos (by omega)]
       rw[e1,e2];exact h)
      have HB3:=Lib.hid (HB2.out.setCell (p:=⟨w.heap.size+1,1,none⟩) (by simp) (.int .i64 yv))
      have kf1:=kf 1
      clear HFAR HNX HVX HK2 kf
      go_wp2_with fail
      go_roundw
      case rel=>exact⟨1+1,by omega,by go_num,HN2,HK3,HB3⟩
      case measure=>simp[intOf];omega
  ·have hjm:j=m:=by omega
   subst hjm
   obtain⟨q0,q1,q2⟩:=HQ.out _ hb.out
   obtain⟨k0,k1,kf⟩:=hkid.out
   have HV2:=Lib.hid (HV.out.at HWO.out)
   obtain⟨V,hV,hcase⟩:∃V:Int,valE ρ (n+1) e=(V,nearB V)∧((e.kind=0∧V=e.n)∨(e.kind=1∧V=ρ e.name)∨(e.kind=2∧V=kidV ρ n e j 0+kidV ρ n e j 1)∨(e.kind=3∧V=kidV ρ n e j 0 - kidV ρ n e j 1)∨(e.kind=4∧V=e.n*kidV ρ n e j 0)):=by
    have hk:=HK.out
    rcases hk with ⟨h1,h2⟩ | ⟨h1,h2⟩ | ⟨h1,h2⟩ | ⟨h1,h2⟩ | ⟨h1,h2⟩
    ·exact⟨e.n,by rw[valE_succ,if_pos h1],.inl ⟨h1,rfl⟩⟩
    ·exact⟨ρ e.name,by rw[valE_succ,if_neg (by omega),if_pos h1],.inr (.inl ⟨h1,rfl⟩)⟩
    ·subst h2
     refine⟨_, ?_,.inr (.inr (.inl ⟨h1,rfl⟩))⟩
     rw[show kidV ρ n e 2 0=(valE ρ n (e.ks.getD 0 default)).1 from if_pos (by decide),show kidV ρ n e 2 1=(valE ρ n (e.ks.getD 1 default)).1 from if_pos (by decide)]
     rw[valE_succ]
     rw[if_neg (by omega),if_neg (by omega)]
     simp only[hno.out 0 (by omega),hno.out 1 (by omega),Bool.true_eq_false,if_false]
     rw[if_neg (by omega)]
     rw[if_pos h1]
    ·subst h2
     refine⟨_, ?_,.inr (.inr (.inr (.inl ⟨h1,rfl⟩)))⟩
     rw[show kidV ρ n e 2 0=(valE ρ n (e.ks.getD 0 default)).1 from if_pos (by decide),show kidV ρ n e 2 1=(valE ρ n (e.ks.getD 1 default)).1 from if_pos (by decide)]
     rw[valE_succ]
     rw[if_neg (by omega),if_neg (by omega)]
     simp only[hno.out 0 (by omega),hno.out 1 (by omega),Bool.true_eq_false,if_false]
     rw[if_neg (by omega)]
     rw[if_neg (by omega)]
    ·subst h2
     refine⟨_, ?_,.inr (.inr (.inr (.inr ⟨h1,rfl⟩)))⟩
     rw[show kidV ρ n e 1 0=(valE ρ n (e.ks.getD 0 default)).1 from if_pos (by decide)]
     rw[valE_succ]
     rw[if_neg (by omega),if_neg (by omega)]
     simp only[hno.out 0 (by omega),Bool.true_eq_false,if_false]
     rw[if_pos h1]
   have hb0: -4294967296≤kidV ρ n e j 0∧kidV ρ n e j 0≤4294967296:=by
    unfold kidV
    split
    ·next h=>exact HNR.out _ (hno.out 0 h)
    ·omega
   have hb1: -4294967296≤kidV ρ n e j 1∧kidV ρ n e j 1≤4294967296:=by
    unfold kidV
    split
    ·next h=>exact HNR.out _ (hno.out 1 h)
    ·omega
   have hEV:=Lib.hid hV
   have hKN:=HK.out
   clear hV hkid hno HK HM HF HS HNR HP
   generalize kidV ρ n e j 0=u0 at*
   generalize kidV ρ n e j 1=u1 at*
   have hbn:=HN0.out
   have hmul: -4611686018427387904≤e.n*u0∧e.n*u0≤4611686018427387904:=by
    have h1:(e.n*u0).natAbs≤1073741824*4294967296:=by
     rw[Int.natAbs_mul]
     exact Nat.mul_le_mul (by omega) (by omega)
    omega
   generalize e.n=en at*
   generalize e.kind=kd at*
   have HMUL:Hid (-4611686018427387904≤en*u0∧en*u0≤4611686018427387904):=hmul
   have HCASE:=Lib.hid hcase
   clear hmul hcase
   go_upto_block 2 with fail
   go_cut [4] (fun s wr=>s= .int .i64 V∧Hid (Below w.heap.size w wr))
   case first=>
    rcases HCASE.out with ⟨h1,h2⟩ | ⟨h1,h2⟩ | ⟨h1,h2⟩ | ⟨h1,h2⟩ | ⟨h1,h2⟩
    ·skip
     have t0:(kd == 0)=true:=by rw[h1];rfl
     have t1:(kd == 1)=false:=by rw[h1];rfl
     have t2:(kd == 2)=false:=by rw[h1];rfl
     have t3:(kd == 3)=false:=by rw[h1];rfl
     have t4:(kd == 4)=false:=by rw[h1];rfl
     clear h1
     subst h2
     go_wp2_with fail
     go_meet
     case rel=>exact⟨rfl,HWO⟩
    ·skip
     have t0:(kd == 0)=false:=by rw[h1];rfl
     have t1:(kd == 1)=true:=by rw[h1];rfl
     have t2:(kd == 2)=false:=by rw[h1];rfl
     have t3:(kd == 3)=false:=by rw[h1];rfl
     have t4:(kd == 4)=false:=by rw[h1];rfl
     clear h1
     subst h2
     go_wp2_with fail
     refine HV2.out.mono ?_
     rintro r w3 ⟨rfl,hb3⟩
     have HZ3:=Lib.hid (HWO.out.trans (hb3.mono HWO.out.size))
     clear hb3
     go_wp2_with fail
     go_meet
     case rel=>exact⟨rfl,HZ3⟩
    ·skip
     have t0:(kd == 0)=false:=by rw[h1];rfl
     have t1:(kd == 1)=false:=by rw[h1];rfl
     have t2:(kd == 2)=true:=by rw[h1];rfl
     have t3:(kd == 3)=false:=by rw[h1];rfl
     have t4:(kd == 4)=false:=by rw[h1];rfl
     clear h1
     subst h2
     go_wp2_with fail
     go_meet
     case rel=>exact⟨rfl,HWO⟩
    ·skip
     have t0:(kd == 0)=false:=by rw[h1];rfl
     have t1:(kd == 1)=false:=by rw[h1];rfl
     have t2:(kd == 2)=false:=by rw[h1];rfl
     have t3:(kd == 3)=true:=by rw[h1];rfl
     have t4:(kd == 4)=false:=by rw[h1];rfl
     clear h1
     subst h2
     go_wp2_with fail
     go_meet
     case rel=>exact⟨rfl,HWO⟩
    ·skip
     have t0:(kd == 0)=false:=by rw[h1];rfl
     have t1:(kd == 1)=false:=by rw[h1];rfl
     have t2:(kd == 2)=false:=by rw[h1];rfl
     have t3:(kd == 3)=false:=by rw[h1];rfl
     have t4:(kd == 4)=true:=by rw[h1];rfl
     clear h1
     have HW1:Hid (wrap64 (en*u0)=en*u0):=Lib.hid (IntWalk.wrap64_in _ (by have:=HMUL.out;omega))
     have H2:=Lib.hid h2
     clear h2
     go_wp2_with fail
     go_meet
     case rel=>exact⟨congrArg (Value.int .i64) (HW1.out.trans H2.out.symm),HWO⟩
   case rest=>
    obtain⟨rfl,HZ⟩:=hcut
    clear HCASE HMUL HV2 HQ q0 q1 q2 k0 k1 kf hb0 hb1 hbn hKN HN0 HV
    by_cases g1: -4294967296≤V
    ·by_cases g2:V≤4294967296
     ·have hr:Hid (nearB V=true):=Lib.hid (by unfold nearB;simp[g1,g2])
      go_wp2_with fail
      go_ret2
      exact⟨by rw[hEV.out,hr.out];rfl,HZ.out⟩
     ·have g3:decide (V≤4294967296)=false:=decide_eq_false g2
      have hr:Hid (nearB V=false):=Lib.hid (by unfold nearB;simp[g2])
      go_wp2_with fail
      go_ret2
      exact⟨by rw[hEV.out,hr.out];rfl,HZ.out⟩
    ·have g3:decide (-4294967296≤V)=false:=decide_eq_false g1
     have hr:Hid (nearB V=false):=Lib.hid (by unfold nearB;simp[g1])
     go_wp2_with fail
     go_ret2
     exact⟨by rw[hEV.out,hr.out];rfl,HZ.out⟩
theorem valE_near (ρ:ByteArray→Int):∀(n:Nat) (e:ET),(valE ρ n e).2=true→ -4294967296≤(valE ρ n e).1∧(valE ρ n e).1≤4294967296
 | 0,_,h=>by cases h
 | n+1,e,h=>by
   rw[valE_succ]at h⊢
   split at h
   ·next h0=>rw[if_pos h0];exact near_is h
   ·next h0=>
    rw[if_neg h0]
    split at h
    ·next h1=>rw[if_pos h1];exact near_is h
    ·next h1=>
     rw[if_neg h1]
     split at h
     ·cases h
     ·next h2=>
      rw[if_neg h2]
      split at h
      ·next h3=>rw[if_pos h3];exact near_is h
      ·next h3=>
       rw[if_neg h3]
       split at h
       ·cases h
       ·next h4=>
        rw[if_neg h4]
        split at h
        ·next h5=>rw[if_pos h5];exact near_is h
        ·next h5=>rw[if_neg h5];exact near_is h
theorem snE_parts {nm:ByteArray→Bool}{n:Nat}{e:ET}(h:snE nm (n+1) e=true):((e.kind=0∧e.ks.length=0)∨(e.kind=1∧e.ks.length=0)∨(e.kind=2∧e.ks.length=2)∨(e.kind=3∧e.ks.length=2)∨(e.kind=4∧e.ks.length=1))∧(-1073741824≤e.n∧e.n≤1073741824)∧∀x∈e.ks,snE nm n x=true:=by
 unfold snE at h
 split at h
 ·next h1=>
  simp only[Bool.and_eq_true,beq_iff_eq]at h
  refine⟨.inr (.inl ⟨h1,h.2⟩),by omega,fun x hx=> ?_⟩
  rw[List.length_eq_zero_iff.1 h.2]at hx
  cases hx
 ·next h1=>
  split at h
  ·next h2=>
   simp only[Bool.and_eq_true,Bool.or_eq_true,beq_iff_eq,decide_eq_true_eq]at h
   obtain⟨⟨⟨hn,_⟩,hl⟩,ha⟩:=h
   have hk:e.kind=0∨e.kind=2∨e.kind=3∨e.kind=4:=by omega
   refine⟨?_, ?_,fun x hx=>List.all_eq_true.1 ha x hx⟩
   ·rcases hk with hk | hk | hk | hk<;>rw[hk]at hl<;>simp only[kidsE]at hl
    ·exact .inl ⟨hk,by simpa using hl⟩
    ·exact .inr (.inr (.inl ⟨hk,by simpa using hl⟩))
    ·exact .inr (.inr (.inr (.inl ⟨hk,by simpa using hl⟩)))
    ·exact .inr (.inr (.inr (.inr ⟨hk,by simpa using hl⟩)))
   ·rcases hn with hn | ⟨_,hn⟩
    ·omega
    ·unfold inB at hn
     simpa using hn
  ·cases h
theorem hexpr_any (nm:ByteArray→Bool)(ρ:ByteArray→Int)(vs:Value):∀(n:Nat) (e:ET) (cs:List Value) (w:World),snE nm n e=true→(exprSh n).rel (Pak.Lo w.heap.size) w cs e→(∀s W,s.size≤maxLen→Below w.heap.size w W→ValAll 24 #[.string s,vs] (.int .i64 (ρ s)) W)→
 Calls Tryd.prog 14 #[.agg cs.toArray,vs] w (ValIn (valE ρ n e) w)
 | 0,_,_,_,_,h,_=>h.elim
 | n+1,e,cs,w,hs,h,hv=>by
   obtain⟨hk,hn,hkid⟩:=snE_parts hs
   obtain⟨v,rfl,⟨_,_,hsz⟩,a,cap,rfl,hsit⟩:=h
   exact hexpr_box n ρ e vs a _ cap w rfl hsit hk hn (hv e.name w hsz (Below.refl _ _)) (valE_near ρ n) (fun cs x W hx hb hr=>hexpr_any nm ρ vs n x cs W (hkid x hx) hr (fun s V hs hV=>hv s V hs (hb.trans (hV.mono hb.size))))
theorem hexpr_all (nm:ByteArray→Bool)(xs:List (ByteArray×Int))(a:Option Addr)(cap:Nat)(n:Nat)(e:ET)(cs:List Value)(w:World)(hs:snE nm n e=true)(h:(exprSh n).rel (Pak.Lo w.heap.size) w cs e)(hx:Pak.Sits varSh (Pak.Lo w.heap.size) w a xs):
 ValAll 14 #[.agg cs.toArray,.slice a xs.length cap] (.tuple #[.int .i64 (valE (fun s=>varOf s xs) n e).1,.bool (valE (fun s=>varOf s xs) n e).2]) w:=fun W hW=>
 hexpr_any nm (fun s=>varOf s xs) _ n e cs W hs (rel_low h hW) (fun s V hs hV U hU=>variable_any s a xs.length cap xs U rfl ((hx.below (hW.trans (hV.mono hW.size)) (Nat.le_trans hW.size hV.size)).below hU hU.size))
end
end Go.Proofs.YtfinhpfjokpcfaaDoor
