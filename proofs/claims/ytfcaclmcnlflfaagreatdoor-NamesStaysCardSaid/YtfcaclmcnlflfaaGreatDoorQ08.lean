/- Parts of a proof. -/
import Derived.Test.YtfcaclmcnlflfaaGreatDoorQ05
import Derived.Test.YtfcaclmcnlflfaaGreatDoorQ06
import Derived.Test.YtfcaclmcnlflfaaGreatDoorQ07
import Derived.Lib.QuietBelow
import Derived.BigQuiet
import Derived.Deep.RegionWith
import Derived.Deep.CutBlock
import Derived.Deep.CutRange
import Derived.Deep.DeepCutAuto
set_option linter.unusedVariables false
set_option linter.unusedSimpArgs false
set_option maxHeartbeats 60000000
set_option maxRecDepth 100000
namespace Go.Proofs.YtfcaclmcnlflfaaGreatDoor
section
open Go.RowKit
section
variable {P:Program}
theorem wpQuiet_load_b {W0:World}{ops:Array Oper}{rest:List Oper}{o:Oper}{a:Act}{Q:Act→Prop}(ty:TypeId)(x:Operand)(ho:o.op= .load ty x)
 (g:Addr) (hx:a.eval x= .pointer (some g)) (cs:List Value) (d:TypeDesc) (hc:∀W,Below W0.heap.size W0 W→∀j v,cs[j]? =some v→W.cell? (g.add j)=some v) (hw:Region.wanted o (yielded ops a.tmps)=true)
 (hu:P.underlying ty=some d) (hd:(match d with | .struct _ | .array _ _=>true | _=>false)=true) (hi:(P.info? ty).map (·.size)=some cs.length)
 (h:wpQuiet P ops (fun w'=>∃p:Regrown,w'=Go.Sort.grow (redrawn W0 p.d) p.os) Q rest (a.put o.dst (.agg cs.toArray))):wpQuiet P ops (fun w'=>∃p:Regrown,w'=Go.Sort.grow (redrawn W0 p.d) p.os) Q (o :: rest) a:=
 BigFrame.wpQuiet_want hw fun K hK=>⟨.agg cs.toArray,fun w hC=>by
  obtain⟨p,rfl⟩:=hC
  have e:(execOp a.eval o).run P (Go.Sort.grow (redrawn W0 p.d) p.os)= .ok (.value (.agg cs.toArray)) (Go.Sort.grow (redrawn W0 p.d) p.os):=by
   unfold execOp
   simp only[ho,hx,Instr.loadAt,Instr.sureAddr,Sem.run_bind,Sem.run_pure,Result.andThen_ok,run_loadVar_list _ g ty cs d (hc _ (below_regrown W0 p.d p.os)) hu hd hi]
  unfold Oper.quietAt
  rw[e]
  exact⟨rfl,rfl⟩,hK _ h⟩
end
theorem BoolAll.reg {g:Nat}{args:Array Value}{z:Bool}{w:World}(h:BoolAll g args z w)(d:Nat)(os:Array Obj):Calls Tryz.prog g args (Go.Sort.grow (redrawn w d) os) fun e w''=>e= .returned (.bool z)∧∃p:Regrown,w''=Go.Sort.grow (redrawn w p.d) p.os:=
 Calls.regrown_of (h _ (below_regrown w d os))
theorem fitsE_any (b:Bool)(cs:List Value)(hl:cs.length=4)(f1 f2:Nat)(z1 z2:Bool)(w:World)(e1:∀args w,(callFunc f1 args).run Tryz.prog w= .ok (.enter f1 args) w)(e2:∀args w,(callFunc f2 args).run Tryz.prog w= .ok (.enter f2 args) w)
 (h1:BoolAll f1 #[.agg cs.toArray] z1 w) (h2:BoolAll f2 #[.agg cs.toArray] z2 w):BoolAll 107 #[.bool b,.agg cs.toArray,.func (.func f1) #[] #[],.func (.func f2) #[] #[]] (bif b then z1 else z2) w:=fun W hW=>by
 have HA:Hid (Below W.heap.size W (W.alloc (.cells cs.toArray 37))):=box_low
 have X1:=Lib.hid ((h1.up hW).at HA.out)
 have X2:=Lib.hid ((h2.up hW).at HA.out)
 have HX:Hid (∀i v,cs[i]? =some v→(W.alloc (.cells cs.toArray 37)).cell? ((⟨W.heap.size,0,none⟩:Addr).add i)=some v):=box_part (o:=0) (fun i v h=>by rw[Nat.zero_add];exact h) (Below.refl _ _)
 have HL:=Lib.hid hl
 clear h1 h2 hW hl
 go_enter Tryz.func107,Tryz.ntmps107
 cases b with
 | true=>
   go_wp2_with (refine wpList_load_w rfl 37 _ rfl ⟨W.heap.size,0,none⟩ rfl cs _ HX.out Tryz.underlying37 rfl (by rw[HL.out];kernel_rfl) ?_)
   refine X1.out.mono ?_
   rintro r w2 ⟨rfl,hb⟩
   have HB:=Lib.hid (HA.out.trans (hb.mono HA.out.size))
   clear hb X1 X2 HX
   go_wp2_with fail
   go_ret
   exact⟨rfl,HB.out⟩
 | false=>
   go_wp2_with (refine wpList_load_w rfl 37 _ rfl ⟨W.heap.size,0,none⟩ rfl cs _ HX.out Tryz.underlying37 rfl (by rw[HL.out];kernel_rfl) ?_)
   refine X2.out.mono ?_
   rintro r w2 ⟨rfl,hb⟩
   have HB:=Lib.hid (HA.out.trans (hb.mono HA.out.size))
   clear hb X1 X2 HX
   go_wp2_with fail
   go_ret
   exact⟨rfl,HB.out⟩
theorem fitsC_any (b:Bool)(cs:List Value)(hl:cs.length=3)(f1 f2:Nat)(z1 z2:Bool)(w:World)(e1:∀args w,(callFunc f1 args).run Tryz.prog w= .ok (.enter f1 args) w)(e2:∀args w,(callFunc f2 args).run Tryz.prog w= .ok (.enter f2 args) w)
 (h1:BoolAll f1 #[.agg cs.toArray] z1 w) (h2:BoolAll f2 #[.agg cs.toArray] z2 w):BoolAll 110 #[.bool b,.agg cs.toArray,.func (.func f1) #[] #[],.func (.func f2) #[] #[]] (bif b then z1 else z2) w:=fun W hW=>by
 have HA:Hid (Below W.heap.size W (W.alloc (.cells cs.toArray 41))):=box_low
 have X1:=Lib.hid ((h1.up hW).at HA.out)
 have X2:=Lib.hid ((h2.up hW).at HA.out)
 have HX:Hid (∀i v,cs[i]? =some v→(W.alloc (.cells cs.toArray 41)).cell? ((⟨W.heap.size,0,none⟩:Addr).add i)=some v):=box_part (o:=0) (fun i v h=>by rw[Nat.zero_add];exact h) (Below.refl _ _)
 have HL:=Lib.hid hl
 clear h1 h2 hW hl
 go_enter Tryz.func110,Tryz.ntmps110
 cases b with
 | true=>
   go_wp2_with (refine wpList_load_w rfl 41 _ rfl ⟨W.heap.size,0,none⟩ rfl cs _ HX.out Tryz.underlying41 rfl (by rw[HL.out];kernel_rfl) ?_)
   refine X1.out.mono ?_
   rintro r w2 ⟨rfl,hb⟩
   have HB:=Lib.hid (HA.out.trans (hb.mono HA.out.size))
   clear hb X1 X2 HX
   go_wp2_with fail
   go_ret
   exact⟨rfl,HB.out⟩
 | false=>
   go_wp2_with (refine wpList_load_w rfl 41 _ rfl ⟨W.heap.size,0,none⟩ rfl cs _ HX.out Tryz.underlying41 rfl (by rw[HL.out];kernel_rfl) ?_)
   refine X2.out.mono ?_
   rintro r w2 ⟨rfl,hb⟩
   have HB:=Lib.hid (HA.out.trans (hb.mono HA.out.size))
   clear hb X1 X2 HX
   go_wp2_with fail
   go_ret
   exact⟨rfl,HB.out⟩
theorem fitsA_any (b:Bool)(cs:List Value)(hl:cs.length=15)(f1 f2:Nat)(z1 z2:Bool)(w:World)(e1:∀args w,(callFunc f1 args).run Tryz.prog w= .ok (.enter f1 args) w)(e2:∀args w,(callFunc f2 args).run Tryz.prog w= .ok (.enter f2 args) w)
 (h1:BoolAll f1 #[.agg cs.toArray] z1 w) (h2:BoolAll f2 #[.agg cs.toArray] z2 w):BoolAll 111 #[.bool b,.agg cs.toArray,.func (.func f1) #[] #[],.func (.func f2) #[] #[]] (bif b then z1 else z2) w:=fun W hW=>by
 have HA:Hid (Below W.heap.size W (W.alloc (.cells cs.toArray 44))):=box_low
 have X1:=Lib.hid ((h1.up hW).at HA.out)
 have X2:=Lib.hid ((h2.up hW).at HA.out)
 have HX:Hid (∀i v,cs[i]? =some v→(W.alloc (.cells cs.toArray 44)).cell? ((⟨W.heap.size,0,none⟩:Addr).add i)=some v):=box_part (o:=0) (fun i v h=>by rw[Nat.zero_add];exact h) (Below.refl _ _)
 have HL:=Lib.hid hl
 clear h1 h2 hW hl
 go_enter Tryz.func111,Tryz.ntmps111
 cases b with
 | true=>
   go_wp2_with (refine wpList_load_w rfl 44 _ rfl ⟨W.heap.size,0,none⟩ rfl cs _ HX.out Tryz.underlying44 rfl (by rw[HL.out];kernel_rfl) ?_)
   refine X1.out.mono ?_
   rintro r w2 ⟨rfl,hb⟩
   have HB:=Lib.hid (HA.out.trans (hb.mono HA.out.size))
   clear hb X1 X2 HX
   go_wp2_with fail
   go_ret
   exact⟨rfl,HB.out⟩
 | false=>
   go_wp2_with (refine wpList_load_w rfl 44 _ rfl ⟨W.heap.size,0,none⟩ rfl cs _ HX.out Tryz.underlying44 rfl (by rw[HL.out];kernel_rfl) ?_)
   refine X2.out.mono ?_
   rintro r w2 ⟨rfl,hb⟩
   have HB:=Lib.hid (HA.out.trans (hb.mono HA.out.size))
   clear hb X1 X2 HX
   go_wp2_with fail
   go_ret
   exact⟨rfl,HB.out⟩
theorem fitsEs_any (b:Bool)(a:Option Addr)(m c:Nat)(f1 f2:Nat)(z1 z2:Bool)(w:World)(e1:∀args w,(callFunc f1 args).run Tryz.prog w= .ok (.enter f1 args) w)(e2:∀args w,(callFunc f2 args).run Tryz.prog w= .ok (.enter f2 args) w)
 (h1:BoolAll f1 #[.slice a m c] z1 w) (h2:BoolAll f2 #[.slice a m c] z2 w):BoolAll 113 #[.bool b,.slice a m c,.func (.func f1) #[] #[],.func (.func f2) #[] #[]] (bif b then z1 else z2) w:=fun W hW=>by
 have X1:=Lib.hid (h1.at hW)
 have X2:=Lib.hid (h2.at hW)
 clear h1 h2 hW
 go_enter Tryz.func113,Tryz.ntmps113
 cases b with
 | true=>
   go_wp2_with fail
   refine X1.out.mono ?_
   rintro r w2 ⟨rfl,hb⟩
   have HB:=Lib.hid hb
   clear hb X1 X2
   go_wp2_with fail
   go_ret
   exact⟨rfl,HB.out⟩
 | false=>
   go_wp2_with fail
   refine X2.out.mono ?_
   rintro r w2 ⟨rfl,hb⟩
   have HB:=Lib.hid hb
   clear hb X1 X2
   go_wp2_with fail
   go_ret
   exact⟨rfl,HB.out⟩
theorem fitsSs_any (b:Bool)(a:Option Addr)(m c:Nat)(f1 f2:Nat)(z1 z2:Bool)(w:World)(e1:∀args w,(callFunc f1 args).run Tryz.prog w= .ok (.enter f1 args) w)(e2:∀args w,(callFunc f2 args).run Tryz.prog w= .ok (.enter f2 args) w)
 (h1:BoolAll f1 #[.slice a m c] z1 w) (h2:BoolAll f2 #[.slice a m c] z2 w):BoolAll 116 #[.bool b,.slice a m c,.func (.func f1) #[] #[],.func (.func f2) #[] #[]] (bif b then z1 else z2) w:=fun W hW=>by
 have X1:=Lib.hid (h1.at hW)
 have X2:=Lib.hid (h2.at hW)
 clear h1 h2 hW
 go_enter Tryz.func116,Tryz.ntmps116
 cases b with
 | true=>
   go_wp2_with fail
   refine X1.out.mono ?_
   rintro r w2 ⟨rfl,hb⟩
   have HB:=Lib.hid hb
   clear hb X1 X2
   go_wp2_with fail
   go_ret
   exact⟨rfl,HB.out⟩
 | false=>
   go_wp2_with fail
   refine X2.out.mono ?_
   rintro r w2 ⟨rfl,hb⟩
   have HB:=Lib.hid hb
   clear hb X1 X2
   go_wp2_with fail
   go_ret
   exact⟨rfl,HB.out⟩
theorem fitsT_any (b:Bool)(s:ByteArray)(f1 f2:Nat)(z1 z2:Bool)(w:World)(e1:∀args w,(callFunc f1 args).run Tryz.prog w= .ok (.enter f1 args) w)(e2:∀args w,(callFunc f2 args).run Tryz.prog w= .ok (.enter f2 args) w)
 (h1:BoolAll f1 #[.string s] z1 w) (h2:BoolAll f2 #[.string s] z2 w):BoolAll 132 #[.bool b,.string s,.func (.func f1) #[] #[],.func (.func f2) #[] #[]] (bif b then z1 else z2) w:=fun W hW=>by
 have X1:=Lib.hid (h1.at hW)
 have X2:=Lib.hid (h2.at hW)
 clear h1 h2 hW
 go_enter Tryz.func132,Tryz.ntmps132
 cases b with
 | true=>
   go_wp2_with fail
   refine X1.out.mono ?_
   rintro r w2 ⟨rfl,hb⟩
   have HB:=Lib.hid hb
   clear hb X1 X2
   go_wp2_with fail
   go_ret
   exact⟨rfl,HB.out⟩
 | false=>
   go_wp2_with fail
   refine X2.out.mono ?_
   rintro r w2 ⟨rfl,hb⟩
   have HB:=Lib.hid hb
   clear hb X1 X2
   go_wp2_with fail
   go_ret
   exact⟨rfl,HB.out⟩
theorem noneE_any (a:Option Addr)(m c:Nat)(w:World):BoolAll 115 #[.slice a m c] (m == 0) w:=fun W hW=>by
 have E:Hid ((m == 0)=((m:Int) == 0)):=(nat_eq0 m).symm
 clear hW
 go_enter Tryz.func115,Tryz.ntmps115
 go_wp2_with fail
 go_ret
 exact⟨by rw[E.out];rfl,Below.refl _ _⟩
theorem noneS_any (a:Option Addr)(m c:Nat)(w:World):BoolAll 118 #[.slice a m c] (m == 0) w:=fun W hW=>by
 have E:Hid ((m == 0)=((m:Int) == 0)):=(nat_eq0 m).symm
 clear hW
 go_enter Tryz.func118,Tryz.ntmps118
 go_wp2_with fail
 go_ret
 exact⟨by rw[E.out];rfl,Below.refl _ _⟩
theorem noName_any (s:ByteArray)(w:World):BoolAll 131 #[.string s] s.toList.isEmpty w:=fun W hW=>by
 clear hW
 go_enter Tryz.func131,Tryz.ntmps131
 go_wp2_with fail
 go_ret
 exact⟨rfl,Below.refl _ _⟩
theorem allT_any (g:Nat)(p:ByteArray→Bool)(a:Option Addr)(m cap:Nat)(xs:List ByteArray)(w:World)(eg:∀args w,(callFunc g args).run Tryz.prog w= .ok (.enter g args) w)(hm:xs.length=m)(hs:Pak.Sits strSh (Pak.Lo w.heap.size) w a xs)
 (hf:∀x W,x∈xs→x.size≤maxLen→Below w.heap.size w W→Calls Tryz.prog g #[.string x] W (SoundEnd (p x) W)):
 Calls Tryz.prog 70 #[.slice a m cap,.func (.func g) #[] #[]] w (SoundEnd (xs.all p) w):=by
 have HS:=Lib.hid hs
 have HF:=Lib.hid hf
 have HM:=Lib.hid hm
 have hmm:m≤9223372036854775807:=by rw[←hm];exact hs.1
 have HHIT:Hid (∀j,(h:j<xs.length)→p xs[j]=false→xs.all p=false):=fun j h e=>all_hit h e
 have HMISS:Hid ((∀j,(h:j<xs.length)→p xs[j]=true)→xs.all p=true):=fun h=>all_miss h
 clear hs hf hm
 generalize xs.all p=r at HHIT HMISS
 go_enter Tryz.func70,Tryz.ntmps70
 go_wp2_with fail
 go_loopw [9] (fun i wr=>∃j:Nat,j≤m∧i= .int .i64 j∧Hid (∀q,(h:q<xs.length)→q<j→p xs[q]=true)∧Hid (Below w.heap.size w wr)) (fun i _=>m - (intOf i).toNat)
 case atStart=>exact⟨0,Nat.zero_le _,rfl,fun q _ h=>absurd h (Nat.not_lt_zero _),Below.refl _ _⟩
 case round=>
  obtain⟨j,hj,rfl,hno,hb⟩:=hrel
  obtain⟨wo,rfl⟩:∃wo:World,wo=wr:=⟨_,rfl⟩
  by_cases hlt:j<m
  ·have hlx:j<xs.length:=by rw[HM.out];exact hlt
   have hji:(j:Int)<(m:Int):=by omega
   obtain⟨b,off,cs,rfl,hbl,hc,rfl,hsz⟩:=(HS.out.below hb.out hb.out.size).2 j hlx
   have c0:=hc 0 _ rfl
   rw[show strSh.k=1 from rfl,Nat.add_zero,Nat.mul_one]at c0
   have HC:=Lib.hid (HF.out xs[j] _ (List.getElem_mem hlx) hsz hb.out)
   have HH:=Lib.hid (HHIT.out j hlx)
   have HN:Hid (p xs[j]=true→∀q,(h:q<xs.length)→q<j+1→p xs[q]=true):=fun h q hq hlq=>by
    by_cases e:q=j
    ·subst e;exact h
    ·exact hno.out q hq (by omega)
   clear hc hsz
   generalize p xs[j]=z at HC HH HN
   generalize xs[j]=x at*
   go_wp2_with fail
   refine HC.out.mono ?_
   rintro e w2 ⟨rfl,hb2⟩
   have HB2:=Lib.hid (hb.out.trans (hb2.mono hb.out.size))
   clear hb2 HC c0
   cases z with
   | false=>
     obtain rfl:=HH.out rfl
     clear HH HN
     go_wp2_with fail
     go_ret
     exact⟨rfl,HB2.out⟩
   | true=>
     have HN2:=Lib.hid (HN.out rfl)
     clear HH HN
     go_wp2_with fail
     go_roundw
     case rel=>exact⟨j+1,by omega,by go_num,HN2,HB2⟩
     case measure=>simp[intOf];omega
  ·obtain rfl:j=m:=by omega
   obtain rfl:=HMISS.out (fun q hq=>hno.out q hq (by rw[HM.out]at hq;exact hq))
   go_wp2_with fail
   go_ret
   exact⟨rfl,hb.out⟩
def hasB (k:Nat)(what:Int):Bool:= !(bits .and .i64 (belL.getD k 0) what == 0)
theorem has_any (k:Nat)(what:Int)(b:Nat)(w:World)(hk:k<10)(hL:Laid w)(hc:w.cell? ⟨b,0,none⟩=some (.int .i64 k)):Calls Tryz.prog 105 #[.int .i64 what,.pointer (some ⟨b,0,none⟩)] w (SoundEnd (hasB k what) w):=by
 have hv:belV[k]? =some (.int .i64 (belL.getD k 0)):=by
  have h2:k<belL.length:=hk
  simp[belV,List.getElem?_eq_getElem h2]
 have c1:=hL.bel k _ hv
 have E:Hid (hasB k what= !(bits .and .i64 (belL.getD k 0) what == 0)):=rfl
 have hki:(k:Int)<10:=by omega
 clear hL hv
 generalize belL.getD k 0=x at*
 go_enter Tryz.func105,Tryz.ntmps105
 go_wp2_with fail
 go_ret
 exact⟨by rw[E.out];rfl,Below.refl _ _⟩
end
section
open Go.RowKit
theorem sits_blk {T:Type}{sh:Pak.Sh T}{S:Nat→Prop}{W:World}{g:Nat}{cs:List Value}{t:TypeId}{x:T}(hg:W.heap[g]? =some (.cells cs.toArray t (0,0)))(hS:S g)(h:sh.rel S W cs x):Pak.Sits sh S W (some ⟨g,0,none⟩) [x]:=
 ⟨show 1≤9223372036854775807 from by decide,fun i hi=>by
   have h0:i=0:=by simpa using hi
   subst h0
   refine⟨g,0,cs,rfl,hS,fun j u hu=> ?_,h⟩
   rw[Nat.zero_mul,Nat.add_zero,Nat.zero_add,cell_of_row _ _ _ _ _ _ hg]
   rw[List.getElem?_toArray];exact hu⟩
theorem sits_two2 {T:Type}{sh:Pak.Sh T}{W:World}{g:Nat}{cs ds:List Value}{x y:T}{t:TypeId}(hg:W.heap[g]? =some (.cells (cs ++ ds).toArray t (0,0)))(hlt:g<W.heap.size)(hl:cs.length=sh.k)(h1:sh.rel (Pak.Lo W.heap.size) W cs x)(h2:sh.rel (Pak.Lo W.heap.size) W ds y):Pak.Sits sh (Pak.Lo W.heap.size) W (some ⟨g,0,none⟩) [x,y]:=by
 refine⟨by simp,fun i hi=> ?_⟩
 have hc:∀(o:Nat) v,(cs ++ ds)[o]? =some v→W.cell? ⟨g,o,none⟩=some v:=fun o v hv=>(cell_of_row _ _ _ _ _ _ hg).trans (by rw[List.getElem?_toArray];exact hv)
 have hi2:i=0∨i=1:=by simp at hi;omega
 rcases hi2 with rfl | rfl
 ·refine⟨g,0,cs,rfl,hlt,fun j u hu=>hc _ _ ?_,h1⟩
  rw[show 0+0*sh.k+j=j by omega,List.getElem?_append_left (List.getElem?_eq_some_iff.1 hu).1]
  exact hu
 ·refine⟨g,0,ds,rfl,hlt,fun j u hu=>hc _ _ ?_,h2⟩
  rw[show 0+1*sh.k+j=cs.length+j by omega,List.getElem?_append_right (Nat.le_add_right _ _),Nat.add_sub_cancel_left]
  exact hu
def ptA:Nat→AT→Nat
 | 0,_=>0
 | n+1,a=>1+ptC n a.c+ptE n a.e+ptE n a.v+(a.ks.map (ptA n)).sum
def ptAs (n:Nat)(l:List AT):Nat:=(l.map (ptA n)).sum
theorem ptA_succ (n:Nat)(a:AT):ptA (n+1) a=1+ptC n a.c+ptE n a.e+ptE n a.v+ptAs n a.ks:=rfl
theorem ptAs_snoc {n:Nat}{l:List AT}{j:Nat}(h:j<l.length):ptAs n (l.take (j+1))=ptAs n (l.take j)+ptA n l[j]:=by
 unfold ptAs
 rw[List.take_succ_eq_append_getElem h,List.map_append,List.sum_append]
 simp
def nmA2:Nat→AT→Prop
 | 0,_=>True
 | n+1,a=>nmC2 n a.c∧nmE2 n a.e∧nmE2 n a.v∧a.field.size≤200∧∀k∈a.ks,nmA2 n k
theorem ptCs_one (n:Nat)(c:CT):ptCs n [c]=ptC n c:=by simp[ptCs]
theorem ptEs_two (n:Nat)(e v:ET):ptEs n [e,v]=ptE n e+ptE n v:=by simp[ptEs]
end
section
open Go.RowKit
theorem sizeA_box (n:Nat)(es:List AT)(a:Option Addr)(m cap:Nat)(l dd:Int)(w:World)(hm:es.length=m)(hd0:0≤dd)(hd1:dd≤300)(hl0: -1≤l)(hl1:l≤1000000)(hs:Pak.Sits (assnSh (n+1)) (Pak.Lo w.heap.size) w a es)
 (hk:∀(x:AT) (u:Option Addr) (c:Nat) (q:Int) (W:World),x∈es→1≤dd→ -1≤q→q≤1000000→Below w.heap.size w W→Pak.Sits (assnSh n) (Pak.Lo W.heap.size) W u x.ks→Calls Tryz.prog 29 #[.slice u x.ks.length c,.int .i64 q,.int .i64 (dd - 1)] W (SzP (∀k∈x.ks,nmA2 n k) (ptAs n x.ks) q W)):
 Calls Tryz.prog 29 #[.slice a m cap,.int .i64 l,.int .i64 dd] w (SzP (∀x∈es,nmA2 (n+1) x) (ptAs (n+1) es) l w):=by
 have HS:=Lib.hid hs
 have HM:=Lib.hid hm
 have hmm:m≤9223372036854775807:=by rw[←hm];exact hs.1
 have HK:=Lib.hid hk
 have HD0:=Lib.hid hd0
 have HD1:=Lib.hid hd1
 have HL0:=Lib.hid hl0
 have HL1:=Lib.hid hl1
 clear hs hm hk hd0 hd1 hl0 hl1
 by_cases hz:dd=0
 ·have e0:(dd == 0)=true:=by rw[hz];rfl
  clear hz
  go_enter Tryz.func29,Tryz.ntmps29
  go_wp2_with fail
  go_ret
  exact⟨-1,rfl,by omega,HL0.out,fun h=>absurd h (by decide),Below.refl _ _⟩
 ·have e0:(dd == 0)=false:=beq_eq_false_iff_ne.2 hz
  have HD2:Hid (1≤dd):=Lib.hid (by have:=HD0.out;omega)
  have ed:IntKind.i64.wrap (dd - 1)=dd - 1:=IntWalk.i64_in _ (by have:=HD0.out;have:=HD1.out;omega)
  clear hz
  go_enter Tryz.func29,Tryz.ntmps29
  go_wp2_with fail
  go_loopw [1,7] (fun t i wr=>∃(j:Nat) (x:Int),j≤m∧t= .int .i64 x∧i= .int .i64 j∧Hid (-1≤x∧x≤l∧(0≤x→x+ptAs (n+1) (es.take j)≤l∧∀y∈es.take j,nmA2 (n+1) y))∧Hid (Below w.heap.size w wr)) (fun _ i _=>m - (intOf i).toNat)
  case atStart=>exact⟨0,l,Nat.zero_le _,rfl,rfl,Lib.hid ⟨HL0.out,Int.le_refl _,fun _=>⟨by simp[ptAs],fun y h=>by simp at h⟩⟩,Below.refl _ _⟩
  case round=>
   obtain⟨j,x,hj,rfl,rfl,hin,hbr⟩:=hrel
   by_cases hx:0≤x
   ·have g1:decide (x ≥ 0)=true:=decide_eq_true hx
    have g2:decide (0≤x)=true:=decide_eq_true hx
    have ex:IntKind.i64.wrap (x - 1)=x - 1:=IntWalk.i64_in _ (by have:=hin.out;have:=HL1.out;omega)
    have HX:=Lib.hid hx
    clear hx
    by_cases hlt:j<m
    ·have hlx:j<es.length:=by rw[HM.out];exact hlt
     obtain⟨b,off,cs,rfl,hbl,hc,hrl⟩:=HS.out.2 j hlx
     have HND:=Lib.hid (And.intro (ptAs_snoc (n:=n+1) hlx) (fun(h1:∀y∈es.take j,nmA2 (n+1) y) (h2:nmA2 (n+1) es[j])=>take_snoc_all hlx h1 h2))
     have HKJ:=Lib.hid (fun u c q W=>HK.out es[j] u c q W (List.getElem_mem hlx) HD2.out)
     obtain⟨k,a1,d1,a2,d2,a3,d3,a4,d4,a5,d5,hnk,rfl,hnn,hrc,hre,hrv,hks⟩:=assn_form hrl
     rw[←hnk]at hrc hre hrv hks
     clear hnk hrl
     generalize es[j]=y at*
     generalize hfs:y.field=fs at hc
     have HQ:Hid (∀W,Below w.heap.size w W→∀i v,([.int .i64 y.kind,.int .i64 y.c.kind,.slice a1 y.c.es.length d1,.slice a2 y.c.ks.length d2,.int .i64 y.e.kind,.int .i64 y.e.n,.string y.e.name,.slice a3 y.e.ks.length d3,.int .i64 y.v.kind,.int .i64 y.v.n,.string y.v.name,.slice a4 y.v.ks.length d4,.string fs,.int .i64 y.n,.slice a5 y.ks.length d5]:List Value)[i]? =some v→W.cell? ⟨b,off+j*15+i,none⟩=some v):=Lib.hid fun W hW i v hv=>by
      have:=(hW.cell (p:=⟨b,_,none⟩) hbl).trans (hc i v hv)
      rwa [assnSh_k]at this
     have HC1:=Lib.hid (fun q W hq0 hq1 (hW:Below w.heap.size w W)=>sizeC_any n [y.c] (some ⟨W.heap.size,0,none⟩) 1 q (dd - 1) (W.alloc (.cells #[.int .i64 y.c.kind,.slice a1 y.c.es.length d1,.slice a2 y.c.ks.length d2] 41)) (by have:=HD2.out;omega) (by have:=HD1.out;omega) hq0 hq1 (sits_blk (heap_alloc_new W _) (by simp) (rel_low hrc (hW.alloc hW.size _))))
     have HC2:=Lib.hid (fun q W hq0 hq1 (hW:Below w.heap.size w W)=>sizeE_any n [y.e,y.v] (some ⟨W.heap.size,0,none⟩) 2 q (dd - 1) (W.alloc (.cells #[.int .i64 y.e.kind,.int .i64 y.e.n,.string y.e.name,.slice a3 y.e.ks.length d3,.int .i64 y.v.kind,.int .i64 y.v.n,.string y.v.name,.slice a4 y.v.ks.length d4] 37)) (by have:=HD2.out;omega) (by have:=HD1.out;omega) hq0 hq1 (sits_two2 (cs:=[.int .i64 y.e.kind,.int .i64 y.e.n,.string y.e.name,.slice a3 y.e.ks.length d3]) (ds:=[.int .i64 y.v.kind,.int .i64 y.v.n,.string y.v.name,.slice a4 y.v.ks.length d4]) (heap_alloc_new W _) (by simp) (by rw[exprSh_k];rfl) (rel_low hre (hW.alloc hW.size _)) (rel_low hrv (hW.alloc hW.size _))))
     have HC3:=Lib.hid (fun q W hq0 hq1 (hW:Below w.heap.size w W)=>HKJ.out a5 d5 q W hq0 hq1 hW (hks.below hW hW.size))
     have HN0:Hid (ptA (n+1) y=1+ptC n y.c+ptE n y.e+ptE n y.v+ptAs n y.ks∧(nmC2 n y.c→nmE2 n y.e→nmE2 n y.v→fs.size≤200→(∀k∈y.ks,nmA2 n k)→nmA2 (n+1) y)):=Lib.hid ⟨ptA_succ n y,fun h1 h2 h3 h4 h5=>⟨h1,h2,h3,by rw[hfs];exact h4,h5⟩⟩
     have hji:(j:Int)<(m:Int):=by omega
     clear hc hks hrc hre hrv HKJ hnn
     generalize ptAs n y.ks=nk at*
     have c1:=HQ.out _ hbr.out 1 _ rfl
     have c2:=HQ.out _ hbr.out 2 _ rfl
     have c3:=HQ.out _ hbr.out 3 _ rfl
     go_wp2_with fail
     refine(HC1.out (x - 1) _ (by have:=HX.out;omega) (by have:=hin.out;have:=HL1.out;omega) hbr.out).mono ?_
     rintro r w3 ⟨x2,rfl,h1,h2,h3,hb⟩
     have HB3:=Lib.hid ((hbr.out.alloc hbr.out.size _).trans (hb.mono (hbr.out.alloc hbr.out.size _).size))
     have H12:Hid (-1≤x2∧x2≤x - 1∧(0≤x2→x2+ptC n y.c≤x - 1∧nmC2 n y.c)):=Lib.hid ⟨h1,h2,fun h=>⟨by have h4:=(h3 h).1;rwa [ptCs_one]at h4,(h3 h).2 _ (List.mem_singleton.2 rfl)⟩⟩
     clear h1 h2 h3 hb HC1 c1 c2 c3
     by_cases hx2:0≤x2
     ·have p1:decide (x2 ≥ 0)=true:=decide_eq_true hx2
      have p2:decide (0≤x2)=true:=decide_eq_true hx2
      have HX2:=Lib.hid hx2
      have c4:=HQ.out _ HB3.out 4 _ rfl
      have c5:=HQ.out _ HB3.out 5 _ rfl
      have c6:=HQ.out _ HB3.out 6 _ rfl
      have c7:=HQ.out _ HB3.out 7 _ rfl
      have c8:=HQ.out _ HB3.out 8 _ rfl
      have c9:=HQ.out _ HB3.out 9 _ rfl
      have c10:=HQ.out _ HB3.out 10 _ rfl
      have c11:=HQ.out _ HB3.out 11 _ rfl
      clear hx2
      have HC2D:=Lib.hid (HC2.out x2 w3.drew H12.out.1 (by have:=H12.out;have:=hin.out;have:=HL1.out;omega) HB3.out.drew)
      have HB3D:Hid (Below w.heap.size w (w3.drew.alloc (.cells #[.int .i64 y.e.kind,.int .i64 y.e.n,.string y.e.name,.slice a3 y.e.ks.length d3,.int .i64 y.v.kind,.int .i64 y.v.n,.string y.v.name,.slice a4 y.v.ks.length d4] 37))):=Lib.hid (HB3.out.drew.alloc HB3.out.drew.size _)
      clear HC2
      go_wp2_with fail
      go_region_with (go_at_call 64;refine HC2D.out.mono ?_;rintro r w4 ⟨x3,rfl,h1,h2,h3,hb⟩)
      all_goals (
       have HB4:=Lib.hid (HB3D.out.trans (hb.mono HB3D.out.size))
       have H23:Hid (-1≤x3∧x3≤x2∧(0≤x3→x3+((ptE n y.e+ptE n y.v:Nat):Int)≤x2∧nmE2 n y.e∧nmE2 n y.v)):=Lib.hid ⟨h1,h2,fun h=>⟨by have h4:=(h3 h).1;rwa [ptEs_two]at h4,(h3 h).2 _ (by simp),(h3 h).2 _ (by simp)⟩⟩
       clear h1 h2 h3 hb HC2D HB3D c4 c5 c6 c7 c8 c9 c10 c11
       by_cases hx3:0≤x3
       ·have r1:decide (x3 ≥ 0)=true:=decide_eq_true hx3
        have r2:decide (0≤x3)=true:=decide_eq_true hx3
        have HX3:=Lib.hid hx3
        have c14:=HQ.out _ HB4.out 14 _ rfl
        clear hx3
        go_wp2_with fail
        refine(HC3.out x3 _ H23.out.1 (by have:=H23.out;have:=H12.out;have:=hin.out;have:=HL1.out;omega) HB4.out).mono ?_
        rintro r w5 ⟨x4,rfl,h1,h2,h3,hb⟩
        have HB5:=Lib.hid (HB4.out.trans (hb.mono HB4.out.size))
        have HN:Hid (fs.size≤200→ -1≤x4∧x4≤l∧(0≤x4→x4+ptAs (n+1) (es.take (j+1))≤l∧∀y∈es.take (j+1),nmA2 (n+1) y)):=Lib.hid (by
         intro hfsz
         have q1a:=H23.out.2.1
         have q2a:=H12.out.2.1
         have q3a:=hin.out.2.1
         refine⟨h1,by omega,fun h=> ?_⟩
         have q4:=h3 h
         have q5:=hin.out.2.2 HX.out
         have q6:=H23.out.2.2 HX3.out
         have q7:=H12.out.2.2 HX2.out
         have q8:=HN0.out.1
         have q9:=HND.out.1
         exact⟨(by have r4:=q4.1;have r5:=q5.1;have r6:=q6.1;have r7:=q7.1;omega),HND.out.2 q5.2 (HN0.out.2 q7.2 q6.2.1 q6.2.2 hfsz q4.2)⟩)
        clear h1 h2 h3 hb HC3 hin hbr c14
        have c12:=HQ.out _ HB5.out 12 _ rfl
        by_cases hn:(200:Int)<(fs.size:Int)
        ·have t1:decide ((fs.size:Int) > 200)=true:=decide_eq_true hn
         have t2:decide ((200:Int)<(fs.size:Int))=true:=decide_eq_true hn
         have t3:200<fs.size:=by omega
         clear hn
         go_wp2_with fail
         go_ret
         exact⟨-1,rfl,by omega,HL0.out,fun h=>absurd h (by decide),HB5.out⟩
        ·have t1:decide ((fs.size:Int) > 200)=false:=decide_eq_false hn
         have t2:decide ((200:Int)<(fs.size:Int))=false:=decide_eq_false hn
         have t3:¬ 200<fs.size:=by omega
         clear hn
         go_wp2_with fail
         go_roundw
         case rel=>exact⟨j+1,x4,by omega,rfl,by go_num,Lib.hid (HN.out (by omega)),HB5⟩
         case measure=>simp[intOf];omega
       ·have r1:decide (x3 ≥ 0)=false:=decide_eq_false hx3
        have r2:decide (0≤x3)=false:=decide_eq_false hx3
        have HN:Hid (-1≤x3∧x3≤l∧(0≤x3→x3+ptAs (n+1) (es.take (j+1))≤l∧∀y∈es.take (j+1),nmA2 (n+1) y)):=Lib.hid (by have:=H23.out;have:=H12.out;have:=hin.out;exact⟨by omega,by omega,fun h=>absurd h hx3⟩)
        clear hx3 HC3 hin hbr
        have c12:=HQ.out _ HB4.out 12 _ rfl
        by_cases hn:(200:Int)<(fs.size:Int)
        ·have t1:decide ((fs.size:Int) > 200)=true:=decide_eq_true hn
         have t2:decide ((200:Int)<(fs.size:Int))=true:=decide_eq_true hn
         have t3:200<fs.size:=by omega
         clear hn
         go_wp2_with fail
         go_ret
         exact⟨-1,rfl,by omega,HL0.out,fun h=>absurd h (by decide),HB4.out⟩
        ·have t1:decide ((fs.size:Int) > 200)=false:=decide_eq_false hn
         have t2:decide ((200:Int)<(fs.size:Int))=false:=decide_eq_false hn
         have t3:¬ 200<fs.size:=by omega
         clear hn
         go_wp2_with fail
         go_roundw
         case rel=>exact⟨j+1,x3,by omega,rfl,by go_num,HN,HB4⟩
         case measure=>simp[intOf];omega
      )
     ·have p1:decide (x2 ≥ 0)=false:=decide_eq_false hx2
      have p2:decide (0≤x2)=false:=decide_eq_false hx2
      have HN:Hid (-1≤x2∧x2≤l∧(0≤x2→x2+ptAs (n+1) (es.take (j+1))≤l∧∀y∈es.take (j+1),nmA2 (n+1) y)):=Lib.hid (by have:=H12.out;have:=hin.out;exact⟨by omega,by omega,fun h=>absurd h hx2⟩)
      clear hx2 HC2 HC3 hin hbr
      have c12:=HQ.out _ HB3.out 12 _ rfl
      by_cases hn:(200:Int)<(fs.size:Int)
      ·have t1:decide ((fs.size:Int) > 200)=true:=decide_eq_true hn
       have t2:decide ((200:Int)<(fs.size:Int))=true:=decide_eq_true hn
       have t3:200<fs.size:=by omega
       clear hn
       go_wp2_with fail
       go_ret
       exact⟨-1,rfl,by omega,HL0.out,fun h=>absurd h (by decide),HB3.out⟩
      ·have t1:decide ((fs.size:Int) > 200)=false:=decide_eq_false hn
       have t2:decide ((200:Int)<(fs.size:Int))=false:=decide_eq_false hn
       have t3:¬ 200<fs.size:=by omega
       clear hn
       go_wp2_with fail
       go_roundw
       case rel=>exact⟨j+1,x2,by omega,rfl,by go_num,HN,HB3⟩
       case measure=>simp[intOf];omega
    ·obtain rfl:j=m:=by omega
     have HE:Hid (SzP (∀x∈es,nmA2 (n+1) x) (ptAs (n+1) es) l w (.returned (.int .i64 x)) wr):=Lib.hid ⟨x,rfl,hin.out.1,hin.out.2.1,by have h:=hin.out.2.2;rw[←HM.out,List.take_length]at h;exact h,hbr.out⟩
     go_wp2_with fail
     go_ret
     exact HE.out
   ·have g1:decide (x ≥ 0)=false:=decide_eq_false hx
    have g2:decide (0≤x)=false:=decide_eq_false hx
    have HE:Hid (SzP (∀x∈es,nmA2 (n+1) x) (ptAs (n+1) es) l w (.returned (.int .i64 x)) wr):=Lib.hid ⟨x,rfl,hin.out.1,hin.out.2.1,fun h=>absurd h hx,hbr.out⟩
    clear hx
    by_cases hlt:j<m
    ·have hji:(j:Int)<(m:Int):=by omega
     go_wp2_with fail
     go_ret
     exact HE.out
    ·obtain rfl:j=m:=by omega
     go_wp2_with fail
     go_ret
     exact HE.out
theorem sizeA_all:∀(n:Nat) (es:List AT) (a:Option Addr) (cap:Nat) (l dd:Int) (w:World),0≤dd→dd≤300→ -1≤l→l≤1000000→Pak.Sits (assnSh n) (Pak.Lo w.heap.size) w a es→
 Calls Tryz.prog 29 #[.slice a es.length cap,.int .i64 l,.int .i64 dd] w (SzP (∀x∈es,nmA2 n x) (ptAs n es) l w)
 | 0,es,a,cap,l,dd,w,h1,h2,h3,h4,hs=>by
   have he:es=[]:=by
    cases es with
    | nil=>rfl
    | cons x xs=>
      obtain⟨_,_,_,_,_,_,hr⟩:=hs.2 0 (by simp)
      exact hr.elim
   subst he
   have h:=sizeA_box 0 [] a 0 cap l dd w rfl h1 h2 h3 h4 (Pak.Sits.nil _ _ _ _) fun x u c q W hx _ _ _ _ _=>absurd hx (by simp)
   exact h.mono fun r w2 ⟨x,e1,e2,e3,e4,e5⟩=>⟨x,e1,e2,e3,fun h=>⟨by simpa [ptAs]using(e4 h).1,fun y hy=>by simp at hy⟩,e5⟩
 | n+1,es,a,cap,l,dd,w,h1,h2,h3,h4,hs=>
   sizeA_box n es a es.length cap l dd w rfl h1 h2 h3 h4 hs fun x u c q W _ hd hq0 hq1 hW hsx=>
    sizeA_all n x.ks u c q (dd - 1) W (by omega) (by omega) hq0 hq1 hsx
end
section
open Go.RowKit
def ValAll (g:Nat)(args:Array Value)(v:Value)(w:World):Prop:=∀W,Below w.heap.size w W→Calls Tryz.prog g args W fun r w'=>r= .returned v∧Below W.heap.size W w'
theorem ValAll.at {g:Nat}{args:Array Value}{z:Value}{w W:World}(h:ValAll g args z w)(hb:Below w.heap.size w W):Calls Tryz.prog g args W fun r w'=>r= .returned z∧Below W.heap.size W w':=h W hb
theorem ValAll.up {g:Nat}{args:Array Value}{z:Value}{w W:World}(h:ValAll g args z w)(hb:Below w.heap.size w W):ValAll g args z W:=fun V hV=>h V (hb.trans (hV.mono hb.size))
theorem ValAll.reg {g:Nat}{args:Array Value}{z:Value}{w:World}(h:ValAll g args z w)(d:Nat)(os:Array Obj):Calls Tryz.prog g args (Go.Sort.grow (redrawn w d) os) fun e w''=>e= .returned z∧∃p:Regrown,w''=Go.Sort.grow (redrawn w p.d) p.os:=
 Calls.regrown_of (h _ (below_regrown w d os))
def mxF {T:Type}(f:T→Nat)(acc:Nat)(xs:List T):Nat:=xs.foldl (fun d x=>max d (f x)) acc
theorem mx_snoc {T:Type}(f:T→Nat)(acc:Nat)(xs:List T)(j:Nat)(h:j<xs.length):mxF f acc (xs.take (j+1))=max (mxF f acc (xs.take j)) (f xs[j]):=by
 unfold mxF
 rw[List.take_succ_eq_append_getElem h,List.foldl_append]
 rfl
theorem mx_le {T:Type}{f:T→Nat}{B:Nat}:∀(xs:List T) {acc:Nat},acc≤B→(∀x,f x≤B)→mxF f acc xs≤B
 | [],acc,h,_=>h
 | x :: r,acc,h,hf=>mx_le r (acc:=max acc (f x)) (Nat.max_le.2 ⟨h,hf x⟩) hf
theorem mx_gt {T:Type}{f:T→Nat}{B:Nat}:∀(xs:List T) {acc:Nat},B<mxF f acc xs↔B<acc∨∃x∈xs,B<f x
 | [],acc=>by simp[mxF]
 | x :: r,acc=>by
   have:=mx_gt (f:=f) (B:=B) r (acc:=max acc (f x))
   show B<mxF f (max acc (f x)) r↔_
   rw[this]
   simp only[List.mem_cons,exists_eq_or_imp]
   constructor
   ·rintro(h | h)
    ·rcases Nat.lt_or_ge B acc with h1 | h1
     ·exact .inl h1
     ·exact .inr (.inl (by omega))
    ·exact .inr (.inr h)
   ·rintro(h | h | h)
    ·exact .inl (by omega)
    ·exact .inl (by omega)
    ·exact .inr h
def dE:Nat→ET→Nat
 | 0,_=>1
 | b+1,e=>mxF (dE b) 0 e.ks+1
def dC:Nat→CT→Nat
 | 0,_=>1
 | b+1,c=>mxF (dC b) (mxF (dE b) 0 c.es) c.ks+1
def dA:Nat→AT→Nat
 | 0,_=>1
 | b+1,a=>mxF (dA b) (max (dC b a.c) (max (dE b a.e) (dE b a.v))) a.ks+1
def dS:Nat→ST→Nat
 | 0,_=>1
 | b+1,s=>mxF (dS b) (mxF (dS b) (mxF (dE b) (mxF (dE b) (max (max (dC b s.p.c) (max (dE b s.p.e) (dE b s.p.v))) (dA b s.p.a)) s.p.args) s.p.ghosts) s.body) s.els+1
theorem dE_le:∀(b:Nat) (e:ET),dE b e≤b+1
 | 0,_=>Nat.le_refl _
 | b+1,e=>Nat.succ_le_succ (mx_le _ (Nat.zero_le _) (dE_le b))
theorem dC_le:∀(b:Nat) (e:CT),dC b e≤b+1
 | 0,_=>Nat.le_refl _
 | b+1,e=>Nat.succ_le_succ (mx_le _ (mx_le _ (Nat.zero_le _) (dE_le b)) (dC_le b))
theorem dA_le:∀(b:Nat) (e:AT),dA b e≤b+1
 | 0,_=>Nat.le_refl _
 | b+1,e=>Nat.succ_le_succ (mx_le _ (Nat.max_le.2 ⟨dC_le b _,Nat.max_le.2 ⟨dE_le b _,dE_le b _⟩⟩) (dA_le b))
theorem dS_le:∀(b:Nat) (e:ST),dS b e≤b+1
 | 0,_=>Nat.le_refl _
 | b+1,e=>Nat.succ_le_succ (mx_le _ (mx_le _ (mx_le _ (mx_le _ (Nat.max_le.2 ⟨Nat.max_le.2 ⟨dC_le b _,Nat.max_le.2 ⟨dE_le b _,dE_le b _⟩⟩,dA_le b _⟩) (dE_le b)) (dE_le b)) (dS_le b)) (dS_le b))
theorem dE_gt:∀(b:Nat) (e:ET),b<dE b e↔dpE b e=true
 | 0,_=>by simp[dE,dpE]
 | b+1,e=>by simp only[dE,dpE,Nat.add_lt_add_iff_right,mx_gt,dE_gt b,List.any_eq_true,Nat.not_lt_zero,false_or]
theorem dC_gt:∀(b:Nat) (e:CT),b<dC b e↔dpC b e=true
 | 0,_=>by simp[dC,dpC]
 | b+1,e=>by simp only[dC,dpC,Nat.add_lt_add_iff_right,mx_gt,dE_gt b,dC_gt b,List.any_eq_true,Nat.not_lt_zero,false_or,Bool.or_eq_true]
theorem lt_max {a b c:Nat}:a<max b c↔a<b∨a<c:=by omega
theorem dA_gt:∀(b:Nat) (e:AT),b<dA b e↔dpA b e=true
 | 0,_=>by simp[dA,dpA]
 | b+1,e=>by simp only[dA,dpA,Nat.add_lt_add_iff_right,mx_gt,lt_max,dE_gt b,dC_gt b,dA_gt b,List.any_eq_true,Bool.or_eq_true,or_assoc]
theorem dS_gt:∀(b:Nat) (e:ST),b<dS b e↔dpS b e=true
 | 0,_=>by simp[dS,dpS]
 | b+1,e=>by
   simp only[dS,dpS,Nat.add_lt_add_iff_right,mx_gt,lt_max,dE_gt b,dC_gt b,dA_gt b,dS_gt b,List.any_eq_true,Bool.or_eq_true]
   constructor
   ·rintro((((((h | h | h) | h) | h) | h) | h) | h)<;>simp_all
   ·rintro(((((((h | h) | h) | h) | h) | h) | h) | h)<;>simp_all
theorem big_any (a b:Nat)(w:World):ValAll 83 #[.int .i64 a,.int .i64 b] (.int .i64 ((max a b:Nat):Int)) w:=fun W hW=>by
 clear hW
 by_cases h:b<a
 ·have e:max a b=a:=by omega
  have h1:decide ((b:Int)<(a:Int))=true:=decide_eq_true (by omega)
  rw[e]
  clear e
  go_enter Tryz.func83,Tryz.ntmps83
  go_wp2_with fail
  go_ret
  exact⟨rfl,Below.refl _ _⟩
 ·have e:max a b=b:=by omega
  have h1:decide ((b:Int)<(a:Int))=false:=decide_eq_false (by omega)
  have h2:decide (b<a)=false:=decide_eq_false h
  rw[e]
  clear e
  go_enter Tryz.func83,Tryz.ntmps83
  go_wp2_with fail
  go_ret
  exact⟨rfl,Below.refl _ _⟩
theorem depthE_box (b n:Nat)(hb0:b≤1000)(cs:List Value)(w:World)
 (xs:List ET) (a:Option Addr) (m c:Nat) (hm0:xs.length=m) (hs0:Pak.Sits (exprSh n) (Pak.Lo w.heap.size) w a xs) (q0:cs[3]? =some (.slice a m c))
 (hx0:∀(x:ET) cs' W,Below w.heap.size w W→(exprSh n).rel (Pak.Lo W.heap.size) W cs' x→Calls Tryz.prog 85 #[.agg cs'.toArray,.int .i64 b] W fun r w'=>r= .returned (.int .i64 (dE b x:Nat))∧Below W.heap.size W w')
 :Calls Tryz.prog 85 #[.agg cs.toArray,.int .i64 ((b:Int)+1)] w fun r w'=>r= .returned (.int .i64 ((mxF (dE b) 0 xs+1:Nat):Int))∧Below w.heap.size w w':=by
 have HA:Hid (Below w.heap.size w (w.alloc (.cells cs.toArray 37))):=box_low
 have BIG:=Lib.hid (fun W (a b:Nat)=>big_any a b W W (Below.refl _ _))
 have HS0:=Lib.hid hs0
 have HM0:=Lib.hid hm0
 have HX0:=Lib.hid hx0
 have hmm0:m≤9223372036854775807:=by rw[←hm0];exact hs0.1
 have HCL0:=Lib.hid (fun W (hb:Below (w.alloc (.cells cs.toArray 37)).heap.size (w.alloc (.cells cs.toArray 37)) W)=>box_at q0 hb)
 clear hs0 hm0 hx0 q0
 have HACC0:Hid (0≤b+1):=Nat.zero_le _
 have HB0:Hid (Below (w.alloc (.cells cs.toArray 37)).heap.size (w.alloc (.cells cs.toArray 37)) (w.alloc (.cells cs.toArray 37))):=Below.refl _ _
 go_enter Tryz.func85,Tryz.ntmps85
 go_wp2_with fail
 go_loopw [5,6] (fun d i wr=>∃j:Nat,j≤m∧i= .int .i64 j∧d= .int .i64 ((mxF (dE b) 0 (xs.take j):Nat):Int)∧Hid (Below (w.alloc (.cells cs.toArray 37)).heap.size (w.alloc (.cells cs.toArray 37)) wr)) (fun _ i _=>m - (intOf i).toNat)
 case atStart=>exact⟨0,Nat.zero_le _,rfl,rfl,HB0⟩
 case round=>
  obtain⟨j,hj,rfl,rfl,hb⟩:=hrel
  obtain⟨wo0,rfl⟩:∃wo:World,wo=wr:=⟨_,rfl⟩
  have HWO0:=Lib.hid (HA.out.trans (hb.out.mono HA.out.size))
  have k0:=HCL0.out _ hb.out
  by_cases hlt:j<m
  ·have hlx:j<xs.length:=by rw[HM0.out];exact hlt
   have hji:(j:Int)<(m:Int):=by omega
   obtain⟨b',off,cs',e',hbl,hc,hr⟩:=(HS0.out.below HWO0.out HWO0.out.size).2 j hlx
   subst e'
   have hlen:=(exprSh n).len hr
   rw[exprSh_k]at hlen hc
   have HC0:Hid (∀i v,cs'[i]? =some v→wo0.cell? ((⟨b',off+j*4,none⟩:Addr).add i)=some v):=fun i v hv=>by
    rw[show(⟨b',off+j*4,none⟩:Addr).add i=⟨b',off+j*4+i,none⟩ by unfold Addr.add;split<;>simp_all]
    exact hc i v hv
   have HL:=Lib.hid hlen
   have HN:=Lib.hid (mx_snoc (dE b) 0 xs j hlx)
   have HD:mxF (dE b) 0 (xs.take j)≤b+1:=mx_le _ HACC0.out (dE_le b)
   have HD2:dE b xs[j]≤b+1:=dE_le b _
   have X:Hid (ValAll 85 #[.agg cs'.toArray,.int .i64 b] (.int .i64 (dE b xs[j]:Nat)) wo0):=Lib.hid (fun W hW=>HX0.out _ _ W (HWO0.out.trans (hW.mono HWO0.out.size)) (rel_low hr hW))
   clear hc hr hlen
   generalize mxF (dE b) 0 (xs.take j)=D at*
   generalize dE b xs[j]=y at*
   go_wp2_with (refine wpList_load_w rfl 37 _ rfl ⟨b',off+j*4,none⟩ rfl cs' _ HC0.out Tryz.underlying37 rfl (by rw[HL.out];kernel_rfl) ?_)
   refine(X.out.at (Below.refl _ _)).mono ?_
   rintro r w1 ⟨rfl,hb1⟩
   have HB1:=Lib.hid (hb.out.trans (hb1.mono hb.out.size))
   clear hb1 X HC0 k0
   go_wp2_with fail
   refine(BIG.out w1 D y).mono ?_
   rintro r w2 ⟨rfl,hb2⟩
   have HB2:=Lib.hid (HB1.out.trans (hb2.mono HB1.out.size))
   clear hb2
   go_wp2_with fail
   go_roundw
   case rel=>exact⟨j+1,by omega,by go_num,by rw[HN.out],HB2⟩
   case measure=>simp[intOf];omega
  ·have hjm:j=m:=by omega
   have HF0:Hid (mxF (dE b) 0 (xs.take j)=mxF (dE b) 0 xs):=Lib.hid (by rw[hjm,←HM0.out,List.take_length])
   have HACC1:Hid (mxF (dE b) 0 (xs.take j)≤b+1):=mx_le _ HACC0.out (dE_le b)
   generalize mxF (dE b) 0 (xs.take j)=acc1 at*
   clear hlt
   obtain rfl:=hjm
   have HBN0:=Lib.hid hb.out
   have hA2:=HACC1.out
   have HZ:=Lib.hid (HA.out.trans (HBN0.out.mono HA.out.size))
   go_wp2_with fail
   go_ret
   exact⟨by rw[←HF0.out];rfl,HZ.out⟩
theorem depthC_box (b n:Nat)(hb0:b≤1000)(cs:List Value)(w:World)
 (xs:List ET) (a:Option Addr) (m c:Nat) (hm0:xs.length=m) (hs0:Pak.Sits (exprSh n) (Pak.Lo w.heap.size) w a xs) (q0:cs[1]? =some (.slice a m c))
 (hx0:∀(x:ET) cs' W,Below w.heap.size w W→(exprSh n).rel (Pak.Lo W.heap.size) W cs' x→Calls Tryz.prog 85 #[.agg cs'.toArray,.int .i64 b] W fun r w'=>r= .returned (.int .i64 (dE b x:Nat))∧Below W.heap.size W w')
 (ys:List CT) (a2:Option Addr) (m2 c2:Nat) (hm1:ys.length=m2) (hs1:Pak.Sits (condSh n) (Pak.Lo w.heap.size) w a2 ys) (q1:cs[2]? =some (.slice a2 m2 c2))
 (hx1:∀(x:CT) cs' W,Below w.heap.size w W→(condSh n).rel (Pak.Lo W.heap.size) W cs' x→Calls Tryz.prog 84 #[.agg cs'.toArray,.int .i64 b] W fun r w'=>r= .returned (.int .i64 (dC b x:Nat))∧Below W.heap.size W w')
 :Calls Tryz.prog 84 #[.agg cs.toArray,.int .i64 ((b:Int)+1)] w fun r w'=>r= .returned (.int .i64 ((mxF (dC b) (mxF (dE b) 0 xs) ys+1:Nat):Int))∧Below w.heap.size w w':=by
 have HA:Hid (Below w.heap.size w (w.alloc (.cells cs.toArray 41))):=box_low
 have BIG:=Lib.hid (fun W (a b:Nat)=>big_any a b W W (Below.refl _ _))
 have HS0:=Lib.hid hs0
 have HM0:=Lib.hid hm0
 have HX0:=Lib.hid hx0
 have hmm0:m≤9223372036854775807:=by rw[←hm0];exact hs0.1
 have HCL0:=Lib.hid (fun W (hb:Below (w.alloc (.cells cs.toArray 41)).heap.size (w.alloc (.cells cs.toArray 41)) W)=>box_at q0 hb)
 have HS1:=Lib.hid hs1
 have HM1:=Lib.hid hm1
 have HX1:=Lib.hid hx1
 have hmm1:m2≤9223372036854775807:=by rw[←hm1];exact hs1.1
 have HCL1:=Lib.hid (fun W (hb:Below (w.alloc (.cells cs.toArray 41)).heap.size (w.alloc (.cells cs.toArray 41)) W)=>box_at q1 hb)
 clear hs0 hm0 hx0 q0 hs1 hm1 hx1 q1
 have HACC0:Hid (0≤b+1):=Nat.zero_le _
 have HB0:Hid (Below (w.alloc (.cells cs.toArray 41)).heap.size (w.alloc (.cells cs.toArray 41)) (w.alloc (.cells cs.toArray 41))):=Below.refl _ _
 go_enter Tryz.func84,Tryz.ntmps84
 go_wp2_with fail
 go_loopw [5,6] (fun d i wr=>∃j:Nat,j≤m∧i= .int .i64 j∧d= .int .i64 ((mxF (dE b) 0 (xs.take j):Nat):Int)∧Hid (Below (w.alloc (.cells cs.toArray 41)).heap.size (w.alloc (.cells cs.toArray 41)) wr)) (fun _ i _=>m - (intOf i).toNat)
 case atStart=>exact⟨0,Nat.zero_le _,rfl,rfl,HB0⟩
 case round=>
  obtain⟨j,hj,rfl,rfl,hb⟩:=hrel
  obtain⟨wo0,rfl⟩:∃wo:World,wo=wr:=⟨_,rfl⟩
  have HWO0:=Lib.hid (HA.out.trans (hb.out.mono HA.out.size))
  have k0:=HCL0.out _ hb.out
  by_cases hlt:j<m
  ·have hlx:j<xs.length:=by rw[HM0.out];exact hlt
   have hji:(j:Int)<(m:Int):=by omega
   obtain⟨b',off,cs',e',hbl,hc,hr⟩:=(HS0.out.below HWO0.out HWO0.out.size).2 j hlx
   subst e'
   have hlen:=(exprSh n).len hr
   rw[exprSh_k]at hlen hc
   have HC0:Hid (∀i v,cs'[i]? =some v→wo0.cell? ((⟨b',off+j*4,none⟩:Addr).add i)=some v):=fun i v hv=>by
    rw[show(⟨b',off+j*4,none⟩:Addr).add i=⟨b',off+j*4+i,none⟩ by unfold Addr.add;split<;>simp_all]
    exact hc i v hv
   have HL:=Lib.hid hlen
   have HN:=Lib.hid (mx_snoc (dE b) 0 xs j hlx)
   have HD:mxF (dE b) 0 (xs.take j)≤b+1:=mx_le _ HACC0.out (dE_le b)
   have HD2:dE b xs[j]≤b+1:=dE_le b _
   have X:Hid (ValAll 85 #[.agg cs'.toArray,.int .i64 b] (.int .i64 (dE b xs[j]:Nat)) wo0):=Lib.hid (fun W hW=>HX0.out _ _ W (HWO0.out.trans (hW.mono HWO0.out.size)) (rel_low hr hW))
   clear hc hr hlen
   generalize mxF (dE b) 0 (xs.take j)=D at*
   generalize dE b xs[j]=y at*
   go_wp2_with (refine wpList_load_w rfl 37 _ rfl ⟨b',off+j*4,none⟩ rfl cs' _ HC0.out Tryz.underlying37 rfl (by rw[HL.out];kernel_rfl) ?_)
   refine(X.out.at (Below.refl _ _)).mono ?_
   rintro r w1 ⟨rfl,hb1⟩
   have HB1:=Lib.hid (hb.out.trans (hb1.mono hb.out.size))
   clear hb1 X HC0 k0
   go_wp2_with fail
   refine(BIG.out w1 D y).mono ?_
   rintro r w2 ⟨rfl,hb2⟩
   have HB2:=Lib.hid (HB1.out.trans (hb2.mono HB1.out.size))
   clear hb2
   go_wp2_with fail
   go_roundw
   case rel=>exact⟨j+1,by omega,by go_num,by rw[HN.out],HB2⟩
   case measure=>simp[intOf];omega
  ·have hjm:j=m:=by omega
   have HF0:Hid (mxF (dE b) 0 (xs.take j)=mxF (dE b) 0 xs):=Lib.hid (by rw[hjm,←HM0.out,List.take_length])
   have HACC1:Hid (mxF (dE b) 0 (xs.take j)≤b+1):=mx_le _ HACC0.out (dE_le b)
   generalize mxF (dE b) 0 (xs.take j)=acc1 at*
   clear hlt
   obtain rfl:=hjm
   have HBN0:=Lib.hid hb.out
   go_wp2_with fail
   go_loopw [5,7] (fun d i wr=>∃j:Nat,j≤m2∧i= .int .i64 j∧d= .int .i64 ((mxF (dC b) acc1 (ys.take j):Nat):Int)∧Hid (Below (w.alloc (.cells cs.toArray 41)).heap.size (w.alloc (.cells cs.toArray 41)) wr)) (fun _ i _=>m2 - (intOf i).toNat)
   case atStart=>exact⟨0,Nat.zero_le _,rfl,rfl,HBN0⟩
   case round=>
    obtain⟨j,hj,rfl,rfl,hb⟩:=hrel
    obtain⟨wo1,rfl⟩:∃wo:World,wo=wr:=⟨_,rfl⟩
    have HWO1:=Lib.hid (HA.out.trans (hb.out.mono HA.out.size))
    have k0:=HCL1.out _ hb.out
    by_cases hlt:j<m2
    ·have hlx:j<ys.length:=by rw[HM1.out];exact hlt
     have hji:(j:Int)<(m2:Int):=by omega
     obtain⟨b',off,cs',e',hbl,hc,hr⟩:=(HS1.out.below HWO1.out HWO1.out.size).2 j hlx
     subst e'
     have hlen:=(condSh n).len hr
     rw[condSh_k]at hlen hc
     have HC0:Hid (∀i v,cs'[i]? =some v→wo1.cell? ((⟨b',off+j*3,none⟩:Addr).add i)=some v):=fun i v hv=>by
      rw[show(⟨b',off+j*3,none⟩:Addr).add i=⟨b',off+j*3+i,none⟩ by unfold Addr.add;split<;>simp_all]
      exact hc i v hv
     have HL:=Lib.hid hlen
     have HN:=Lib.hid (mx_snoc (dC b) acc1 ys j hlx)
     have HD:mxF (dC b) acc1 (ys.take j)≤b+1:=mx_le _ HACC1.out (dC_le b)
     have HD2:dC b ys[j]≤b+1:=dC_le b _
     have X:Hid (ValAll 84 #[.agg cs'.toArray,.int .i64 b] (.int .i64 (dC b ys[j]:Nat)) wo1):=Lib.hid (fun W hW=>HX1.out _ _ W (HWO1.out.trans (hW.mono HWO1.out.size)) (rel_low hr hW))
     clear hc hr hlen
     generalize mxF (dC b) acc1 (ys.take j)=D at*
     generalize dC b ys[j]=y at*
     go_wp2_with (refine wpList_load_w rfl 41 _ rfl ⟨b',off+j*3,none⟩ rfl cs' _ HC0.out Tryz.underlying41 rfl (by rw[HL.out];kernel_rfl) ?_)
     refine(X.out.at (Below.refl _ _)).mono ?_
     rintro r w1 ⟨rfl,hb1⟩
     have HB1:=Lib.hid (hb.out.trans (hb1.mono hb.out.size))
     clear hb1 X HC0 k0
     go_wp2_with fail
     refine(BIG.out w1 D y).mono ?_
     rintro r w2 ⟨rfl,hb2⟩
     have HB2:=Lib.hid (HB1.out.trans (hb2.mono HB1.out.size))
     clear hb2
     go_wp2_with fail
     go_roundw
     case rel=>exact⟨j+1,by omega,by go_num,by rw[HN.out],HB2⟩
     case measure=>simp[intOf];omega
    ·have hjm:j=m2:=by omega
     have HF1:Hid (mxF (dC b) acc1 (ys.take j)=mxF (dC b) acc1 ys):=Lib.hid (by rw[hjm,←HM1.out,List.take_length])
     have HACC2:Hid (mxF (dC b) acc1 (ys.take j)≤b+1):=mx_le _ HACC1.out (dC_le b)
     generalize mxF (dC b) acc1 (ys.take j)=acc2 at*
     clear hlt
     obtain rfl:=hjm
     have HBN1:=Lib.hid hb.out
     have hA2:=HACC2.out
     have HZ:=Lib.hid (HA.out.trans (HBN1.out.mono HA.out.size))
     go_wp2_with fail
     go_ret
     exact⟨by rw[←HF0.out,←HF1.out];rfl,HZ.out⟩
theorem depthE_zero (cs:List Value)(w:World)(a0:Option Addr)(m0 c0:Nat)(q0:cs[3]? =some (.slice a0 m0 c0))
 :Calls Tryz.prog 85 #[.agg cs.toArray,.int .i64 0] w fun r w'=>r= .returned (.int .i64 1)∧Below w.heap.size w w':=by
 have HA:Hid (Below w.heap.size w (w.alloc (.cells cs.toArray 37))):=box_low
 have k0:=box_at (t:=37) q0 (Below.refl _ (w.alloc (.cells cs.toArray 37)))
 clear q0
 rcases Nat.eq_zero_or_pos m0 with h0 | h0
 ·subst h0
  go_enter Tryz.func85,Tryz.ntmps85
  go_wp2_with fail
  go_loop [5,6] (fun d i=>d= .int .i64 0∧i= .int .i64 0) (fun _ _=>0)
  case atStart=>exact⟨rfl,rfl⟩
  case round=>
   obtain⟨rfl,rfl⟩:=hrel
   go_wp2_with fail
   go_ret
   exact⟨rfl,HA.out⟩
 ·have g0:decide ((0:Int)<(m0:Int))=true:=decide_eq_true (by omega)
  go_enter Tryz.func85,Tryz.ntmps85
  go_wp2_with fail
  go_loop [5,6] (fun d i=>d= .int .i64 0∧i= .int .i64 0) (fun _ _=>0)
  case atStart=>exact⟨rfl,rfl⟩
  case round=>
   obtain⟨rfl,rfl⟩:=hrel
   go_wp2_with fail
   go_ret
   exact⟨rfl,HA.out⟩
theorem depthC_zero (cs:List Value)(w:World)(a0:Option Addr)(m0 c0:Nat)(q0:cs[1]? =some (.slice a0 m0 c0))(a1:Option Addr)(m1 c1:Nat)(q1:cs[2]? =some (.slice a1 m1 c1))
 :Calls Tryz.prog 84 #[.agg cs.toArray,.int .i64 0] w fun r w'=>r= .returned (.int .i64 1)∧Below w.heap.size w w':=by
 have HA:Hid (Below w.heap.size w (w.alloc (.cells cs.toArray 41))):=box_low
 have k0:=box_at (t:=41) q0 (Below.refl _ (w.alloc (.cells cs.toArray 41)))
 have k1:=box_at (t:=41) q1 (Below.refl _ (w.alloc (.cells cs.toArray 41)))
 clear q0 q1
 rcases Nat.eq_zero_or_pos m0 with h0 | h0
 ·subst h0
  rcases Nat.eq_zero_or_pos m1 with h1 | h1
  ·subst h1
   go_enter Tryz.func84,Tryz.ntmps84
   go_wp2_with fail
   go_loop [5,6] (fun d i=>d= .int .i64 0∧i= .int .i64 0) (fun _ _=>0)
   case atStart=>exact⟨rfl,rfl⟩
   case round=>
    obtain⟨rfl,rfl⟩:=hrel
    go_wp2_with fail
    go_loop [5,7] (fun d i=>d= .int .i64 0∧i= .int .i64 0) (fun _ _=>0)
    case atStart=>exact⟨rfl,rfl⟩
    case round=>
     obtain⟨rfl,rfl⟩:=hrel
     go_wp2_with fail
     go_ret
     exact⟨rfl,HA.out⟩
  ·have g1:decide ((0:Int)<(m1:Int))=true:=decide_eq_true (by omega)
   go_enter Tryz.func84,Tryz.ntmps84
   go_wp2_with fail
   go_loop [5,6] (fun d i=>d= .int .i64 0∧i= .int .i64 0) (fun _ _=>0)
   case atStart=>exact⟨rfl,rfl⟩
   case round=>
    obtain⟨rfl,rfl⟩:=hrel
    go_wp2_with fail
    go_loop [5,7] (fun d i=>d= .int .i64 0∧i= .int .i64 0) (fun _ _=>0)
    case atStart=>exact⟨rfl,rfl⟩
    case round=>
     obtain⟨rfl,rfl⟩:=hrel
     go_wp2_with fail
     go_ret
     exact⟨rfl,HA.out⟩
 ·have g0:decide ((0:Int)<(m0:Int))=true:=decide_eq_true (by omega)
  rcases Nat.eq_zero_or_pos m1 with h1 | h1
  ·subst h1
   go_enter Tryz.func84,Tryz.ntmps84
   go_wp2_with fail
   go_loop [5,6] (fun d i=>d= .int .i64 0∧i= .int .i64 0) (fun _ _=>0)
   case atStart=>exact⟨rfl,rfl⟩
   case round=>
    obtain⟨rfl,rfl⟩:=hrel
    go_wp2_with fail
    go_loop [5,7] (fun d i=>d= .int .i64 0∧i= .int .i64 0) (fun _ _=>0)
    case atStart=>exact⟨rfl,rfl⟩
    case round=>
     obtain⟨rfl,rfl⟩:=hrel
     go_wp2_with fail
     go_ret
     exact⟨rfl,HA.out⟩
  ·have g1:decide ((0:Int)<(m1:Int))=true:=decide_eq_true (by omega)
   go_enter Tryz.func84,Tryz.ntmps84
   go_wp2_with fail
   go_loop [5,6] (fun d i=>d= .int .i64 0∧i= .int .i64 0) (fun _ _=>0)
   case atStart=>exact⟨rfl,rfl⟩
   case round=>
    obtain⟨rfl,rfl⟩:=hrel
    go_wp2_with fail
    go_loop [5,7] (fun d i=>d= .int .i64 0∧i= .int .i64 0) (fun _ _=>0)
    case atStart=>exact⟨rfl,rfl⟩
    case round=>
     obtain⟨rfl,rfl⟩:=hrel
     go_wp2_with fail
     go_ret
     exact⟨rfl,HA.out⟩
theorem rdepthE_any:∀(n b:Nat) (e:ET) (cs:List Value) (w:World),b≤1000→(exprSh n).rel (Pak.Lo w.heap.size) w cs e→
 Calls Tryz.prog 85 #[.agg cs.toArray,.int .i64 b] w fun r w'=>r= .returned (.int .i64 (dE b e:Nat))∧Below w.heap.size w w'
 | 0,_,_,_,_,_,h=>h.elim
 | n+1,0,e,cs,w,_,h=>by
   obtain⟨v,rfl,_,a,cap,rfl,hs⟩:=h
   exact depthE_zero _ w a e.ks.length cap rfl
 | n+1,b+1,e,cs,w,hb,h=>by
   obtain⟨v,rfl,_,a,cap,rfl,hs⟩:=h
   exact depthE_box b n (by omega) _ w e.ks a e.ks.length cap rfl hs rfl (fun x cs' W hW hr=>rdepthE_any n b x cs' W (by omega) hr)
theorem rdepthC_any:∀(n b:Nat) (e:CT) (cs:List Value) (w:World),b≤1000→(condSh n).rel (Pak.Lo w.heap.size) w cs e→
 Calls Tryz.prog 84 #[.agg cs.toArray,.int .i64 b] w fun r w'=>r= .returned (.int .i64 (dC b e:Nat))∧Below w.heap.size w w'
 | 0,_,_,_,_,_,h=>h.elim
 | n+1,0,e,cs,w,_,h=>by
   obtain⟨u,v,rfl,_,⟨a1,c1,rfl,hs1⟩,⟨a2,c2,rfl,hs2⟩⟩:=h
   exact depthC_zero _ w a1 e.es.length c1 rfl a2 e.ks.length c2 rfl
 | n+1,b+1,e,cs,w,hb,h=>by
   obtain⟨u,v,rfl,_,⟨a1,c1,rfl,hs1⟩,⟨a2,c2,rfl,hs2⟩⟩:=h
   exact depthC_box b n (by omega) _ w e.es a1 e.es.length c1 rfl hs1 rfl (fun x cs' W hW hr=>rdepthE_any n b x cs' W (by omega) hr) e.ks a2 e.ks.length c2 rfl hs2 rfl (fun x cs' W hW hr=>rdepthC_any n b x cs' W (by omega) hr)
end
end Go.Proofs.YtfcaclmcnlflfaaGreatDoor
