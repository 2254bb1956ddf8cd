/- Parts of a proof. -/
import Derived.Test.YtfcaclmcnlflfaaGreatDoorQ01
import Derived.Test.YtfcaclmcnlflfaaGreatDoorQ02
import Derived.Test.YtfcaclmcnlflfaaGreatDoorQ03
import Derived.Test.YtfcaclmcnlflfaaGreatDoorQ04
import Derived.Lib.Strings
import Derived.Test.YtfcaclmcnlflfaaGreatDoorRows
import Derived.ChangeSame
import Derived.ChangeVars
import Derived.JoinedOf
import Derived.RowKit
import Derived.RowKitTokens
import Derived.LaidLaws
import Derived.LaidHandle
import Derived.Stop.Joined
import Derived.BigQuiet
import Derived.Lib.LaidTab
import Derived.ChangeArms
import Derived.ChangeAt
import Derived.ProofKit
import Derived.OpenShut
import Derived.ChangeOld
import Derived.ChangeMaps5
set_option linter.unusedVariables false
set_option linter.unusedSimpArgs false
set_option maxHeartbeats 60000000
set_option maxRecDepth 100000
namespace Go.Proofs.YtfcaclmcnlflfaaGreatDoor
section
open Go.RowKit
def BoolAll (g:Nat)(args:Array Value)(z:Bool)(w:World):Prop:=∀W,Below w.heap.size w W→Calls Tryz.prog g args W (SoundEnd z W)
theorem BoolAll.at {g:Nat}{args:Array Value}{z:Bool}{w W:World}(h:BoolAll g args z w)(hb:Below w.heap.size w W):Calls Tryz.prog g args W (SoundEnd z W):=h W hb
theorem BoolAll.up {g:Nat}{args:Array Value}{z:Bool}{w W:World}(h:BoolAll g args z w)(hb:Below w.heap.size w W):BoolAll g args z W:=fun V hV=>h V (hb.trans (hV.mono hb.size))
theorem someS_any (n:Nat)(g:Nat)(most:Int)(p:ST→Bool)(a:Option Addr)(m cap:Nat)(xs:List ST)(w:World)(eg:∀args w,(callFunc g args).run Tryz.prog w= .ok (.enter g args) w)(hm:xs.length=m)(hs:Pak.Sits (stmtSh n) (Pak.Lo w.heap.size) w a xs)
 (hf:∀cs x W,x∈xs→Below w.heap.size w W→(stmtSh n).rel (Pak.Lo W.heap.size) W cs x→Calls Tryz.prog g #[.agg cs.toArray,.int .i64 most] W (SoundEnd (p x) W)):
 Calls Tryz.prog 32 #[.slice a m cap,.int .i64 most,.func (.func g) #[] #[]] w (SoundEnd (xs.any p) w):=by
 have HS:=Lib.hid hs
 have HF:=Lib.hid hf
 have HM:=Lib.hid hm
 have hmm:m≤9223372036854775807:=by rw[←hm];exact hs.1
 have HHIT:Hid (∀j,(h:j<xs.length)→p xs[j]=true→xs.any p=true):=fun j h e=>any_hit h e
 have HMISS:Hid ((∀j,(h:j<xs.length)→p xs[j]=false)→xs.any p=false):=fun h=>any_miss h
 clear hs hf hm
 generalize xs.any p=r at HHIT HMISS
 go_enter Tryz.func32,Tryz.ntmps32
 go_wp2_with fail
 go_loopw [11] (fun i wr=>∃j:Nat,j≤m∧i= .int .i64 j∧Hid (∀q,(h:q<xs.length)→q<j→p xs[q]=false)∧Hid (Below w.heap.size w wr)) (fun i _=>m - (intOf i).toNat)
 case atStart=>exact⟨0,Nat.zero_le _,rfl,fun q _ h=>absurd h (Nat.not_lt_zero _),Below.refl _ _⟩
 case round=>
  obtain⟨j,hj,rfl,hno,hb⟩:=hrel
  obtain⟨wo,rfl⟩:∃wo:World,wo=wr:=⟨_,rfl⟩
  by_cases hlt:j<m
  ·have hlx:j<xs.length:=by rw[HM.out];exact hlt
   have hji:(j:Int)<(m:Int):=by omega
   obtain⟨b,off,cs,rfl,hbl,hc,hr⟩:=(HS.out.below hb.out hb.out.size).2 j hlx
   have hlen:=(stmtSh n).len hr
   have hone:=(stmtSh n).one hr
   rw[stmtSh_k]at hlen hc
   have HC0:Hid (∀i v,cs[i]? =some v→wo.cell? ((⟨b,off+j*35,none⟩:Addr).add i)=some v):=fun i v hv=>by
    rw[show(⟨b,off+j*35,none⟩:Addr).add i=⟨b,off+j*35+i,none⟩ by unfold Addr.add;split<;>simp_all]
    exact hc i v hv
   have hA:Below wo.heap.size wo (wo.alloc (.cells cs.toArray 47)):=box_low
   have HB:=Lib.hid (hb.out.trans (hA.mono hb.out.size))
   have HC:=Lib.hid (HF.out _ xs[j] _ (List.getElem_mem hlx) HB.out (rel_low hr hA))
   have HX:Hid (∀i v,cs[i]? =some v→(wo.alloc (.cells cs.toArray 47)).cell? ((⟨wo.heap.size,0,none⟩:Addr).add i)=some v):=box_part (o:=0) (fun i v h=>by rw[Nat.zero_add];exact h) (Below.refl _ _)
   have HL:=Lib.hid hlen
   have HO:=Lib.hid hone
   have HH:=Lib.hid (HHIT.out j hlx)
   have HN:Hid (p xs[j]=false→∀q,(h:q<xs.length)→q<j+1→p xs[q]=false):=fun h q hq hlq=>by
    by_cases e:q=j
    ·subst e;exact h
    ·exact hno.out q hq (by omega)
   clear hc hr hA hlen hone
   generalize p xs[j]=z at HC HH HN
   go_wp2_with (first | (refine wpList_store_new rfl 47 _ _ rfl _ rfl cs rfl (by rw[HL.out];kernel_rfl) (by rw[HL.out];rfl) HO.out ?_) | (refine wpList_load_w rfl 47 _ rfl ⟨b,off+j*35,none⟩ rfl cs _ HC0.out Tryz.underlying47 rfl (by rw[HL.out];kernel_rfl) ?_) | (refine wpList_load_w rfl 47 _ rfl ⟨wo.heap.size,0,none⟩ rfl cs _ HX.out Tryz.underlying47 rfl (by rw[HL.out];kernel_rfl) ?_))
   refine HC.out.mono ?_
   rintro e w2 ⟨rfl,hb2⟩
   have HB2:=Lib.hid (HB.out.trans (hb2.mono HB.out.size))
   clear hb2 HC HC0 HX
   cases z with
   | true=>
     obtain rfl:=HH.out rfl
     clear HH HN
     go_wp2_with fail
     go_ret
     exact⟨rfl,HB2.out⟩
   | false=>
     have HN2:=Lib.hid (HN.out rfl)
     clear HH HN
     go_wp2_with fail
     go_roundw
     case rel=>exact⟨j+1,by omega,by go_num,HN2,HB2⟩
     case measure=>simp[intOf];omega
  ·obtain rfl:j=m:=by omega
   obtain rfl:=HMISS.out (fun q hq=>hno.out q hq (by rw[HM.out]at hq;exact hq))
   go_wp2_with fail
   go_ret
   exact⟨rfl,hb.out⟩
theorem allS_any (n:Nat)(g:Nat)(p:ST→Bool)(a:Option Addr)(m cap:Nat)(xs:List ST)(w:World)(eg:∀args w,(callFunc g args).run Tryz.prog w= .ok (.enter g args) w)(hm:xs.length=m)(hs:Pak.Sits (stmtSh n) (Pak.Lo w.heap.size) w a xs)
 (hf:∀cs x W,x∈xs→Below w.heap.size w W→(stmtSh n).rel (Pak.Lo W.heap.size) W cs x→Calls Tryz.prog g #[.agg cs.toArray] W (SoundEnd (p x) W)):
 Calls Tryz.prog 72 #[.slice a m cap,.func (.func g) #[] #[]] w (SoundEnd (xs.all p) w):=by
 have HS:=Lib.hid hs
 have HF:=Lib.hid hf
 have HM:=Lib.hid hm
 have hmm:m≤9223372036854775807:=by rw[←hm];exact hs.1
 have HHIT:Hid (∀j,(h:j<xs.length)→p xs[j]=false→xs.all p=false):=fun j h e=>all_hit h e
 have HMISS:Hid ((∀j,(h:j<xs.length)→p xs[j]=true)→xs.all p=true):=fun h=>all_miss h
 clear hs hf hm
 generalize xs.all p=r at HHIT HMISS
 go_enter Tryz.func72,Tryz.ntmps72
 go_wp2_with fail
 go_loopw [9] (fun i wr=>∃j:Nat,j≤m∧i= .int .i64 j∧Hid (∀q,(h:q<xs.length)→q<j→p xs[q]=true)∧Hid (Below w.heap.size w wr)) (fun i _=>m - (intOf i).toNat)
 case atStart=>exact⟨0,Nat.zero_le _,rfl,fun q _ h=>absurd h (Nat.not_lt_zero _),Below.refl _ _⟩
 case round=>
  obtain⟨j,hj,rfl,hno,hb⟩:=hrel
  obtain⟨wo,rfl⟩:∃wo:World,wo=wr:=⟨_,rfl⟩
  by_cases hlt:j<m
  ·have hlx:j<xs.length:=by rw[HM.out];exact hlt
   have hji:(j:Int)<(m:Int):=by omega
   obtain⟨b,off,cs,rfl,hbl,hc,hr⟩:=(HS.out.below hb.out hb.out.size).2 j hlx
   have hlen:=(stmtSh n).len hr
   have hone:=(stmtSh n).one hr
   rw[stmtSh_k]at hlen hc
   have HC0:Hid (∀i v,cs[i]? =some v→wo.cell? ((⟨b,off+j*35,none⟩:Addr).add i)=some v):=fun i v hv=>by
    rw[show(⟨b,off+j*35,none⟩:Addr).add i=⟨b,off+j*35+i,none⟩ by unfold Addr.add;split<;>simp_all]
    exact hc i v hv
   have hA:Below wo.heap.size wo (wo.alloc (.cells cs.toArray 47)):=box_low
   have HB:=Lib.hid (hb.out.trans (hA.mono hb.out.size))
   have HC:=Lib.hid (HF.out _ xs[j] _ (List.getElem_mem hlx) HB.out (rel_low hr hA))
   have HX:Hid (∀i v,cs[i]? =some v→(wo.alloc (.cells cs.toArray 47)).cell? ((⟨wo.heap.size,0,none⟩:Addr).add i)=some v):=box_part (o:=0) (fun i v h=>by rw[Nat.zero_add];exact h) (Below.refl _ _)
   have HL:=Lib.hid hlen
   have HO:=Lib.hid hone
   have HH:=Lib.hid (HHIT.out j hlx)
   have HN:Hid (p xs[j]=true→∀q,(h:q<xs.length)→q<j+1→p xs[q]=true):=fun h q hq hlq=>by
    by_cases e:q=j
    ·subst e;exact h
    ·exact hno.out q hq (by omega)
   clear hc hr hA hlen hone
   generalize p xs[j]=z at HC HH HN
   go_wp2_with (first | (refine wpList_store_new rfl 47 _ _ rfl _ rfl cs rfl (by rw[HL.out];kernel_rfl) (by rw[HL.out];rfl) HO.out ?_) | (refine wpList_load_w rfl 47 _ rfl ⟨b,off+j*35,none⟩ rfl cs _ HC0.out Tryz.underlying47 rfl (by rw[HL.out];kernel_rfl) ?_) | (refine wpList_load_w rfl 47 _ rfl ⟨wo.heap.size,0,none⟩ rfl cs _ HX.out Tryz.underlying47 rfl (by rw[HL.out];kernel_rfl) ?_))
   refine HC.out.mono ?_
   rintro e w2 ⟨rfl,hb2⟩
   have HB2:=Lib.hid (HB.out.trans (hb2.mono HB.out.size))
   clear hb2 HC HC0 HX
   cases z with
   | false=>
     obtain rfl:=HH.out rfl
     clear HH HN
     go_wp2_with fail
     go_ret
     exact⟨rfl,HB2.out⟩
   | true=>
     have HN2:=Lib.hid (HN.out rfl)
     clear HH HN
     go_wp2_with fail
     go_roundw
     case rel=>exact⟨j+1,by omega,by go_num,HN2,HB2⟩
     case measure=>simp[intOf];omega
  ·obtain rfl:j=m:=by omega
   obtain rfl:=HMISS.out (fun q hq=>hno.out q hq (by rw[HM.out]at hq;exact hq))
   go_wp2_with fail
   go_ret
   exact⟨rfl,hb.out⟩
theorem allQ_any (n:Nat)(g:Nat)(p:QT→Bool)(a:Option Addr)(m cap:Nat)(xs:List QT)(w:World)(eg:∀args w,(callFunc g args).run Tryz.prog w= .ok (.enter g args) w)(hm:xs.length=m)(hs:Pak.Sits (procSh n) (Pak.Lo w.heap.size) w a xs)
 (hf:∀cs x W,x∈xs→Below w.heap.size w W→(procSh n).rel (Pak.Lo W.heap.size) W cs x→Calls Tryz.prog g #[.agg cs.toArray] W (SoundEnd (p x) W)):
 Calls Tryz.prog 34 #[.slice a m cap,.func (.func g) #[] #[]] w (SoundEnd (xs.all p) w):=by
 have HS:=Lib.hid hs
 have HF:=Lib.hid hf
 have HM:=Lib.hid hm
 have hmm:m≤9223372036854775807:=by rw[←hm];exact hs.1
 have HHIT:Hid (∀j,(h:j<xs.length)→p xs[j]=false→xs.all p=false):=fun j h e=>all_hit h e
 have HMISS:Hid ((∀j,(h:j<xs.length)→p xs[j]=true)→xs.all p=true):=fun h=>all_miss h
 clear hs hf hm
 generalize xs.all p=r at HHIT HMISS
 go_enter Tryz.func34,Tryz.ntmps34
 go_wp2_with fail
 go_loopw [9] (fun i wr=>∃j:Nat,j≤m∧i= .int .i64 j∧Hid (∀q,(h:q<xs.length)→q<j→p xs[q]=true)∧Hid (Below w.heap.size w wr)) (fun i _=>m - (intOf i).toNat)
 case atStart=>exact⟨0,Nat.zero_le _,rfl,fun q _ h=>absurd h (Nat.not_lt_zero _),Below.refl _ _⟩
 case round=>
  obtain⟨j,hj,rfl,hno,hb⟩:=hrel
  obtain⟨wo,rfl⟩:∃wo:World,wo=wr:=⟨_,rfl⟩
  by_cases hlt:j<m
  ·have hlx:j<xs.length:=by rw[HM.out];exact hlt
   have hji:(j:Int)<(m:Int):=by omega
   obtain⟨b,off,cs,rfl,hbl,hc,hr⟩:=(HS.out.below hb.out hb.out.size).2 j hlx
   have hlen:=(procSh n).len hr
   have hone:=(procSh n).one hr
   rw[procSh_k]at hlen hc
   have HC0:Hid (∀i v,cs[i]? =some v→wo.cell? ((⟨b,off+j*34,none⟩:Addr).add i)=some v):=fun i v hv=>by
    rw[show(⟨b,off+j*34,none⟩:Addr).add i=⟨b,off+j*34+i,none⟩ by unfold Addr.add;split<;>simp_all]
    exact hc i v hv
   have hA:Below wo.heap.size wo (wo.alloc (.cells cs.toArray 49)):=box_low
   have HB:=Lib.hid (hb.out.trans (hA.mono hb.out.size))
   have HC:=Lib.hid (HF.out _ xs[j] _ (List.getElem_mem hlx) HB.out (rel_low hr hA))
   have HX:Hid (∀i v,cs[i]? =some v→(wo.alloc (.cells cs.toArray 49)).cell? ((⟨wo.heap.size,0,none⟩:Addr).add i)=some v):=box_part (o:=0) (fun i v h=>by rw[Nat.zero_add];exact h) (Below.refl _ _)
   have HL:=Lib.hid hlen
   have HO:=Lib.hid hone
   have HH:=Lib.hid (HHIT.out j hlx)
   have HN:Hid (p xs[j]=true→∀q,(h:q<xs.length)→q<j+1→p xs[q]=true):=fun h q hq hlq=>by
    by_cases e:q=j
    ·subst e;exact h
    ·exact hno.out q hq (by omega)
   clear hc hr hA hlen hone
   generalize p xs[j]=z at HC HH HN
   go_wp2_with (first | (refine wpList_store_new rfl 49 _ _ rfl _ rfl cs rfl (by rw[HL.out];kernel_rfl) (by rw[HL.out];rfl) HO.out ?_) | (refine wpList_load_w rfl 49 _ rfl ⟨b,off+j*34,none⟩ rfl cs _ HC0.out Tryz.underlying49 rfl (by rw[HL.out];kernel_rfl) ?_) | (refine wpList_load_w rfl 49 _ rfl ⟨wo.heap.size,0,none⟩ rfl cs _ HX.out Tryz.underlying49 rfl (by rw[HL.out];kernel_rfl) ?_))
   refine HC.out.mono ?_
   rintro e w2 ⟨rfl,hb2⟩
   have HB2:=Lib.hid (HB.out.trans (hb2.mono HB.out.size))
   clear hb2 HC HC0 HX
   cases z with
   | false=>
     obtain rfl:=HH.out rfl
     clear HH HN
     go_wp2_with fail
     go_ret
     exact⟨rfl,HB2.out⟩
   | true=>
     have HN2:=Lib.hid (HN.out rfl)
     clear HH HN
     go_wp2_with fail
     go_roundw
     case rel=>exact⟨j+1,by omega,by go_num,HN2,HB2⟩
     case measure=>simp[intOf];omega
  ·obtain rfl:j=m:=by omega
   obtain rfl:=HMISS.out (fun q hq=>hno.out q hq (by rw[HM.out]at hq;exact hq))
   go_wp2_with fail
   go_ret
   exact⟨rfl,hb.out⟩
end
section
open Go.RowKit
def keyA (i:Nat):ByteArray:=⟨(keysL.getD i []).toArray⟩
theorem keyA_data (i:Nat):(keyA i).data.toList=keysL.getD i []:=by simp[keyA]
def keysV:List Value:=keysL.map fun l=> .string ⟨l.toArray⟩
theorem keysV_at {i:Nat}(h:i<19):keysV[i]? =some (.string (keyA i)):=by
 have h2:i<keysL.length:=h
 simp[keysV,keyA,List.getElem?_eq_getElem h2]
def belL:List Int:=[0,9,11,26,129,10,800,352,32,4]
def belV:List Value:=belL.map fun x=> .int .i64 x
structure Laid (w:World):Prop where
 keys:∀j v,keysV[j]? =some v→w.cell? ⟨2,j,none⟩=some v
 bel:∀j v,belV[j]? =some v→w.cell? ⟨1,j,none⟩=some v
theorem Laid.pos {w:World}(h:Laid w):2<w.heap.size:=block_lt_of_cell (a:=⟨2,0,none⟩) (h.keys 0 _ rfl)
theorem Laid.below {w w':World}{B:Nat}(h:Laid w)(hb:Below B w w')(hB:2<B):Laid w':=
 ⟨fun j v hv=>(hb.cell (p:=⟨2,j,none⟩) (show 2<B by omega)).trans (h.keys j v hv),fun j v hv=>(hb.cell (p:=⟨1,j,none⟩) (show 1<B by omega)).trans (h.bel j v hv)⟩
theorem Laid.up {w w':World}(h:Laid w)(hb:Below w.heap.size w w'):Laid w':=h.below hb h.pos
theorem keyA_ne {s:ByteArray}{i:Nat}:((keyA i).toList == s.toList)=decide (keysL.getD i []=s.data.toList):=by
 rw[Bool.eq_iff_iff]
 simp only[Lib.toList_data,keyA_data,beq_iff_eq,decide_eq_true_eq]
theorem keyB_hit2 {s:ByteArray}{i:Nat}(h:i<19)(e:keysL.getD i []=s.data.toList):keyB s.data.toList=true:=
 keyB_hit (i:=i) h (by rw[List.getD_eq_getElem?_getD,List.getElem?_eq_getElem (show i<keysL.length from h)]at e;exact e)
theorem keyB_miss2 {s:ByteArray}(h:∀i,i<19→keysL.getD i []≠s.data.toList):keyB s.data.toList=false:=
 keyB_miss fun i hi e=>h i hi (by rw[List.getD_eq_getElem?_getD,List.getElem?_eq_getElem hi];exact e)
theorem key_any (s:ByteArray)(w:World)(hL:Laid w):Calls Tryz.prog 100 #[.string s] w fun e w'=>e= .returned (.bool (keyB s.data.toList))∧w=w':=by
 have hk:=hL.keys
 have HX:Hid (∀(i:Nat) W,i<19→(Instr.index 170 (.agg keysV.toArray) (.int .i64 i)).run Tryz.prog W= .ok (.string (keyA i)) W):=fun i W h=>
  run_index_list W _ 9 19 keysV i _ Tryz.underlying170 h (keysV_at h) Tryz.underlying9 (by kernel_rfl)
 have HL:Hid (keysV.length=19):=rfl
 have HH:=Lib.hid (fun i (h:i<19)=>keyB_hit2 (s:=s) h)
 have HM:=Lib.hid (keyB_miss2 (s:=s))
 have hk':∀j v,keysV[j]? =some v→w.cell? ((⟨2,0,none⟩:Addr).add j)=some v:=fun j v hv=>by
  rw[show(⟨2,0,none⟩:Addr).add j=⟨2,j,none⟩ by unfold Addr.add;split<;>simp_all]
  exact hk j v hv
 have HK:=Lib.hid hk'
 clear hL hk hk'
 generalize keysV=kv at*
 generalize keyB s.data.toList=r at*
 go_enter Tryz.func100,Tryz.ntmps100
 go_wp2_with (refine wpList_load_list rfl 170 _ rfl ⟨2,0,none⟩ rfl kv _ HK.out Tryz.underlying170 rfl (by rw[HL.out];kernel_rfl) ?_)
 go_loop [6] (fun i=>∃j:Nat,j≤19∧i= .int .i64 j∧Hid (∀q,q<j→keysL.getD q []≠s.data.toList)) (fun i=>19 - (intOf i).toNat)
 case atStart=>exact⟨0,Nat.zero_le _,rfl,fun q h=>absurd h (Nat.not_lt_zero _)⟩
 case round=>
  obtain⟨j,hj,rfl,hno⟩:=hrel
  by_cases hlt:j<19
  ·have hlti:(j:Int)<19:=by omega
   have hx:∀W,(Instr.index 170 (.agg kv.toArray) (.int .i64 j)).run Tryz.prog W= .ok (.string (keyA j)) W:=fun W=>HX.out j W hlt
   have he:=keyA_ne (s:=s) (i:=j)
   by_cases hq:keysL.getD j []=s.data.toList
   ·obtain rfl:=HH.out j hlt hq
    rw[decide_eq_true hq]at he
    clear hq
    go_wp2
    go_ret
    exact⟨rfl,rfl⟩
   ·have hno2:Hid (∀q,q<j+1→keysL.getD q []≠s.data.toList):=fun q h=>by
     by_cases e:q=j
     ·rw[e];exact hq
     ·exact hno.out q (by omega)
    rw[decide_eq_false hq]at he
    clear hq
    go_wp2
    go_round
    case rel=>exact⟨j+1,by omega,by go_num,hno2⟩
    case measure=>simp[intOf];omega
  ·obtain rfl:j=19:=by omega
   obtain rfl:=HM.out (fun i h=>hno.out i h)
   go_wp2
   go_ret
   exact⟨rfl,rfl⟩
theorem rkey_any (s:ByteArray)(w:World):Calls Tryz.prog 86 #[.string s] w fun e w'=>e= .returned (.bool (keyB s.data.toList))∧Below w.heap.size w w':=by
 have HC:Hid (∀j,j<19→(w.alloc (.cells #[.string ⟨#[112,114,111,99]⟩,.string ⟨#[114,101,113,117,105,114,101,115]⟩,.string ⟨#[101,110,115,117,114,101,115]⟩,.string ⟨#[115,107,105,112]⟩,.string ⟨#[112,117,116]⟩,.string ⟨#[103,101,116]⟩,.string ⟨#[110,101,119]⟩,.string ⟨#[102,114,101,101]⟩,.string ⟨#[105,102]⟩,.string ⟨#[101,108,115,101]⟩,.string ⟨#[119,104,105,108,101]⟩,.string ⟨#[105,110,118,97,114,105,97,110,116]⟩,.string ⟨#[97,115,115,101,114,116]⟩,.string ⟨#[99,97,108,108]⟩,.string ⟨#[116,114,117,101]⟩,.string ⟨#[102,97,108,115,101]⟩,.string ⟨#[101,109,112]⟩,.string ⟨#[97,99,99]⟩,.string ⟨#[112,116,115]⟩] 9)).cell? ⟨w.heap.size,j,none⟩=some (.string (keyA j))):=fun j h=>by
  rw[cell_of_row _ _ _ _ _ _ (heap_alloc_new w _)]
  have e:(#[.string ⟨#[112,114,111,99]⟩,.string ⟨#[114,101,113,117,105,114,101,115]⟩,.string ⟨#[101,110,115,117,114,101,115]⟩,.string ⟨#[115,107,105,112]⟩,.string ⟨#[112,117,116]⟩,.string ⟨#[103,101,116]⟩,.string ⟨#[110,101,119]⟩,.string ⟨#[102,114,101,101]⟩,.string ⟨#[105,102]⟩,.string ⟨#[101,108,115,101]⟩,.string ⟨#[119,104,105,108,101]⟩,.string ⟨#[105,110,118,97,114,105,97,110,116]⟩,.string ⟨#[97,115,115,101,114,116]⟩,.string ⟨#[99,97,108,108]⟩,.string ⟨#[116,114,117,101]⟩,.string ⟨#[102,97,108,115,101]⟩,.string ⟨#[101,109,112]⟩,.string ⟨#[97,99,99]⟩,.string ⟨#[112,116,115]⟩]:Array Value)=keysV.toArray:=by rfl
  rw[e,List.getElem?_toArray]
  exact keysV_at h
 have HB:Hid (Below w.heap.size w (w.alloc (.cells #[.string ⟨#[112,114,111,99]⟩,.string ⟨#[114,101,113,117,105,114,101,115]⟩,.string ⟨#[101,110,115,117,114,101,115]⟩,.string ⟨#[115,107,105,112]⟩,.string ⟨#[112,117,116]⟩,.string ⟨#[103,101,116]⟩,.string ⟨#[110,101,119]⟩,.string ⟨#[102,114,101,101]⟩,.string ⟨#[105,102]⟩,.string ⟨#[101,108,115,101]⟩,.string ⟨#[119,104,105,108,101]⟩,.string ⟨#[105,110,118,97,114,105,97,110,116]⟩,.string ⟨#[97,115,115,101,114,116]⟩,.string ⟨#[99,97,108,108]⟩,.string ⟨#[116,114,117,101]⟩,.string ⟨#[102,97,108,115,101]⟩,.string ⟨#[101,109,112]⟩,.string ⟨#[97,99,99]⟩,.string ⟨#[112,116,115]⟩] 9))):=(Below.refl _ w).alloc (Nat.le_refl _) _
 have HH:=Lib.hid (fun i (h:i<19)=>keyB_hit2 (s:=s) h)
 have HM:=Lib.hid (keyB_miss2 (s:=s))
 generalize keyB s.data.toList=r at*
 go_enter Tryz.func86,Tryz.ntmps86
 go_wp2
 generalize w.alloc (.cells #[.string ⟨#[112,114,111,99]⟩,.string ⟨#[114,101,113,117,105,114,101,115]⟩,.string ⟨#[101,110,115,117,114,101,115]⟩,.string ⟨#[115,107,105,112]⟩,.string ⟨#[112,117,116]⟩,.string ⟨#[103,101,116]⟩,.string ⟨#[110,101,119]⟩,.string ⟨#[102,114,101,101]⟩,.string ⟨#[105,102]⟩,.string ⟨#[101,108,115,101]⟩,.string ⟨#[119,104,105,108,101]⟩,.string ⟨#[105,110,118,97,114,105,97,110,116]⟩,.string ⟨#[97,115,115,101,114,116]⟩,.string ⟨#[99,97,108,108]⟩,.string ⟨#[116,114,117,101]⟩,.string ⟨#[102,97,108,115,101]⟩,.string ⟨#[101,109,112]⟩,.string ⟨#[97,99,99]⟩,.string ⟨#[112,116,115]⟩] 9)=W1 at*
 go_loop [4] (fun i=>∃j:Nat,j≤19∧i= .int .i64 j∧Hid (∀q,q<j→keysL.getD q []≠s.data.toList)) (fun i=>19 - (intOf i).toNat)
 case atStart=>exact⟨0,Nat.zero_le _,rfl,fun q h=>absurd h (Nat.not_lt_zero _)⟩
 case round=>
  obtain⟨j,hj,rfl,hno⟩:=hrel
  by_cases hlt:j<19
  ·have hlti:(j:Int)<19:=by omega
   have hx:=HC.out j hlt
   have he:=keyA_ne (s:=s) (i:=j)
   by_cases hq:keysL.getD j []=s.data.toList
   ·obtain rfl:=HH.out j hlt hq
    rw[decide_eq_true hq]at he
    clear hq
    go_wp2
    go_ret
    exact⟨rfl,HB.out⟩
   ·have hno2:Hid (∀q,q<j+1→keysL.getD q []≠s.data.toList):=fun q h=>by
     by_cases e:q=j
     ·rw[e];exact hq
     ·exact hno.out q (by omega)
    rw[decide_eq_false hq]at he
    clear hq
    go_wp2
    go_round
    case rel=>exact⟨j+1,by omega,by go_num,hno2⟩
    case measure=>simp[intOf];omega
  ·obtain rfl:j=19:=by omega
   obtain rfl:=HM.out (fun i h=>hno.out i h)
   go_wp2
   go_ret
   exact⟨rfl,HB.out⟩
end
section
open Go.RowKit
def nameB (l:List UInt8):Bool:=decide (0<l.length) && decide (l.length≤32) && decide (wordN l=l.length) && !keyB l
theorem rletter_any (c:UInt8)(w:World):Calls Tryz.prog 122 #[.int .u8 (c.toNat:Int)] w fun e w'=>e= .returned (.bool (isLet c))∧w=w':=by
 have hlt:=c.toNat_lt
 have q95:decide (c.toNat=95)=((c.toNat:Int) == 95):=by rw[Bool.eq_iff_iff];simp;omega
 have q97:decide (97≤c.toNat)=decide (97≤(c.toNat:Int)):=by rw[Bool.eq_iff_iff];simp;omega
 have q122:decide (c.toNat≤122)=decide ((c.toNat:Int)≤122):=by rw[Bool.eq_iff_iff];simp;omega
 have q65:decide (65≤c.toNat)=decide (65≤(c.toNat:Int)):=by rw[Bool.eq_iff_iff];simp;omega
 have q90:decide (c.toNat≤90)=decide ((c.toNat:Int)≤90):=by rw[Bool.eq_iff_iff];simp;omega
 have E:Hid (isLet c=(((c.toNat:Int) == 95) || (decide (97≤(c.toNat:Int)) && decide ((c.toNat:Int)≤122)) || (decide (65≤(c.toNat:Int)) && decide ((c.toNat:Int)≤90)))):=by
  show _=_
  unfold isLet;rw[q95,q97,q122,q65,q90]
 clear q95 q97 q122 q65 q90
 generalize (c.toNat:Int)=r at*
 have go:∀(b1 b2 b3 b4 b5:Bool),decide (97≤r)=b1→decide (r≤122)=b2→decide (65≤r)=b3→decide (r≤90)=b4→(r == 95)=b5→Calls Tryz.prog 122 #[.int .u8 r] w fun e w'=>e= .returned (.bool (b5 || (b1 && b2) || (b3 && b4)))∧w=w':=fun b1 b2 b3 b4 b5 h1 h2 h3 h4 h5=>by
  clear E hlt
  cases b1<;>cases b2<;>cases b3<;>cases b4<;>cases b5
  all_goals
   go_enter Tryz.func122,Tryz.ntmps122
   go_wp2
   go_ret
   exact⟨rfl,rfl⟩
 rw[E.out]
 exact go _ _ _ _ _ rfl rfl rfl rfl rfl
theorem rdig_any (c:UInt8)(w:World):Calls Tryz.prog 123 #[.int .u8 (c.toNat:Int)] w fun e w'=>e= .returned (.bool (isDig c))∧w=w':=by
 have q1:decide (48≤c.toNat)=decide (48≤(c.toNat:Int)):=by rw[Bool.eq_iff_iff];simp;omega
 have q2:decide (c.toNat≤57)=decide ((c.toNat:Int)≤57):=by rw[Bool.eq_iff_iff];simp;omega
 have E:Hid (isDig c=(decide (48≤(c.toNat:Int)) && decide ((c.toNat:Int)≤57))):=by
  show _=_
  unfold isDig;rw[q1,q2]
 clear q1 q2
 generalize (c.toNat:Int)=r at*
 have go:∀(b1 b2:Bool),decide (48≤r)=b1→decide (r≤57)=b2→Calls Tryz.prog 123 #[.int .u8 r] w fun e w'=>e= .returned (.bool (b1 && b2))∧w=w':=fun b1 b2 h1 h2=>by
  clear E
  cases b1<;>cases b2
  all_goals
   go_enter Tryz.func123,Tryz.ntmps123
   go_wp2
   go_ret
   exact⟨rfl,rfl⟩
 rw[E.out]
 exact go _ _ rfl rfl
theorem wordD_lt {l:List UInt8}{at' n:Nat}(h:n<wordN (l.drop at')):∃hk:at'+n<l.length,nameAt n (l[at'+n])=true:=by
 obtain⟨h1,h2⟩:=wordN_lt h
 rw[List.length_drop]at h1
 exact⟨by omega,by rw[List.getElem_drop]at h2;exact h2⟩
theorem wordD_at {l:List UInt8}{at':Nat}(h:at'+wordN (l.drop at')<l.length):nameAt (wordN (l.drop at')) (l[at'+wordN (l.drop at')])=false:=by
 have:=wordN_at (l:=l.drop at') (by rw[List.length_drop];omega)
 rw[List.getElem_drop]at this
 exact this
theorem wordD_le {l:List UInt8}{at':Nat}(h:at'≤l.length):at'+wordN (l.drop at')≤l.length:=by
 have:=wordN_le (l.drop at')
 rw[List.length_drop]at this
 omega
theorem rword_any (s:ByteArray)(at':Nat)(w:World)(hs:s.size≤1000000)(ha:at'≤s.size):Calls Tryz.prog 87 #[.string s,.int .i64 at'] w fun e w'=>e= .returned (.int .i64 (wordN (s.data.toList.drop at')))∧w=w':=by
 have hsz:=size_l s
 have HLT:=Lib.hid (fun n=>wordD_lt (l:=s.data.toList) (at':=at') (n:=n))
 have HAT:=Lib.hid (wordD_at (l:=s.data.toList) (at':=at'))
 have hle:=wordD_le (l:=s.data.toList) (at':=at') (by omega)
 generalize wordN (s.data.toList.drop at')=N at*
 have hN:at'+N≤s.size:=by omega
 have HZ:=Lib.hid hsz
 clear hsz hle
 go_enter Tryz.func87,Tryz.ntmps87
 go_wp2
 go_loop [5] (fun i=>∃n:Nat,n≤N∧i= .int .i64 n) (fun i=>N - (intOf i).toNat)
 case atStart=>exact⟨0,Nat.zero_le _,rfl⟩
 case round=>
  obtain⟨n,hn,rfl⟩:=hrel
  by_cases hin:at'+n<s.size
  ·have hini:(at':Int)+(n:Int)<(s.size:Int):=by omega
   have hix:∀W,(Instr.index 9 (.string s) (.int .i64 ((at':Int)+(n:Int)))).run Tryz.prog W= .ok (.int .u8 ((s[at'+n]'hin).toNat:Int)) W:=fun W=>by
    have e:((at':Int)+(n:Int))=((at'+n:Nat):Int):=by omega
    rw[e,run_index_string W _ s .i64 _ Tryz.underlying9,dif_pos ⟨by omega,by omega⟩]
    rfl
   have hg:=get_l s (at'+n) hin
   have HL:=Lib.hid (fun W=>rletter_any (s[at'+n]'hin) W)
   have HD:=Lib.hid (fun W=>rdig_any (s[at'+n]'hin) W)
   by_cases hlt:n<N
   ·obtain⟨_,hna⟩:=HLT.out n hlt
    rw[←hg]at hna
    clear hg
    generalize s[at'+n]'hin=c at*
    unfold nameAt at hna
    have hlti:¬N≤n:=by omega
    cases hl:isLet c with
    | true=>
      rw[hl]at HL
      clear hna hl
      go_wp2_with fail
      refine(HL.out _).mono ?_
      rintro e w1 ⟨rfl,rfl⟩
      go_wp2
      go_round
      case rel=>exact⟨n+1,by omega,by go_num⟩
      case measure=>simp[intOf];omega
    | false=>
      rw[hl]at hna HL
      simp only[Bool.false_or,Bool.and_eq_true,decide_eq_true_eq]at hna
      obtain⟨hn0,hd⟩:=hna
      rw[hd]at HD
      have hn0i:(0:Int)<(n:Int):=by omega
      clear hl hd
      go_wp2_with fail
      refine(HL.out _).mono ?_
      rintro e w1 ⟨rfl,rfl⟩
      go_wp2_with fail
      refine(HD.out _).mono ?_
      rintro e w1 ⟨rfl,rfl⟩
      go_wp2
      go_round
      case rel=>exact⟨n+1,by omega,by go_num⟩
      case measure=>simp[intOf];omega
   ·obtain rfl:n=N:=by omega
    have hna:=HAT.out (by rw[HZ.out];exact hin)
    rw[←hg]at hna
    clear hg
    generalize s[at'+n]'hin=c at*
    unfold nameAt at hna
    rw[Bool.or_eq_false_iff]at hna
    obtain⟨hl,hna⟩:=hna
    rw[hl]at HL
    by_cases hn0:0<n
    ·have hd:isDig c=false:=by simpa [hn0]using hna
     rw[hd]at HD
     have hn0i:(0:Int)<(n:Int):=by omega
     clear hl hd hna
     go_wp2_with fail
     refine(HL.out _).mono ?_
     rintro e w1 ⟨rfl,rfl⟩
     go_wp2_with fail
     refine(HD.out _).mono ?_
     rintro e w1 ⟨rfl,rfl⟩
     go_wp2
     go_ret
     exact⟨rfl,rfl⟩
    ·have hn0i:¬(0:Int)<(n:Int):=by omega
     clear hl hna
     go_wp2_with fail
     refine(HL.out _).mono ?_
     rintro e w1 ⟨rfl,rfl⟩
     go_wp2
     go_ret
     exact⟨rfl,rfl⟩
  ·obtain rfl:n=N:=by
    rcases Nat.lt_or_ge n N with h | h
    ·obtain⟨h1,_⟩:=HLT.out n h
     rw[HZ.out]at h1;exact absurd h1 hin
    ·omega
   have hini:¬(at':Int)+(n:Int)<(s.size:Int):=by omega
   go_wp2
   go_ret
   exact⟨rfl,rfl⟩
end
section
open Go.RowKit
theorem deepS_box (k:Nat)(cs ce cv cc ca:List Value)(a1 a2 a4 a5:Option Addr)(m1 m2 m4 m5 c1 c2 c4 c5:Nat)(z1 z2 z3 z4 z5 z6 z7 z8:Bool)(w:World)(hk:k≤1000000)
 (p1:Part cs 4 ce) (p2:Part cs 8 cv) (p3:Part cs 12 cc) (p4:Part cs 15 ca) (p5:cs[30]? =some (.slice a1 m1 c1)) (p6:cs[31]? =some (.slice a2 m2 c2)) (p7:cs[33]? =some (.slice a4 m4 c4)) (p8:cs[34]? =some (.slice a5 m5 c5))
 (l1:ce.length=4) (l2:cv.length=4) (l3:cc.length=3) (l4:ca.length=15)
 (h1:BoolAll 66 #[.agg ce.toArray,.int .i64 k] z1 w) (h2:BoolAll 66 #[.agg cv.toArray,.int .i64 k] z2 w) (h3:BoolAll 65 #[.agg cc.toArray,.int .i64 k] z3 w) (h4:BoolAll 31 #[.agg ca.toArray,.int .i64 k] z4 w)
 (h5:BoolAll 68 #[.slice a1 m1 c1,.int .i64 k,.func (.func 66) #[] #[]] z5 w) (h6:BoolAll 68 #[.slice a2 m2 c2,.int .i64 k,.func (.func 66) #[] #[]] z6 w)
 (h7:BoolAll 32 #[.slice a4 m4 c4,.int .i64 k,.func (.func 33) #[] #[]] z7 w) (h8:BoolAll 32 #[.slice a5 m5 c5,.int .i64 k,.func (.func 33) #[] #[]] z8 w):
 Calls Tryz.prog 33 #[.agg cs.toArray,.int .i64 ((k:Int)+1)] w (SoundEnd (z1 || z2 || z3 || z4 || z5 || z6 || z7 || z8) w):=by
 have HA:Hid (Below w.heap.size w (w.alloc (.cells cs.toArray 47))):=box_low
 have HB0:Hid (Below (w.alloc (.cells cs.toArray 47)).heap.size (w.alloc (.cells cs.toArray 47)) (w.alloc (.cells cs.toArray 47))):=Below.refl _ _
 have P1:=Lib.hid (fun W (hb:Below (w.alloc (.cells cs.toArray 47)).heap.size (w.alloc (.cells cs.toArray 47)) W)=>box_part p1 hb)
 have L1:=Lib.hid l1
 have X1:=Lib.hid h1
 have P2:=Lib.hid (fun W (hb:Below (w.alloc (.cells cs.toArray 47)).heap.size (w.alloc (.cells cs.toArray 47)) W)=>box_part p2 hb)
 have L2:=Lib.hid l2
 have X2:=Lib.hid h2
 have P3:=Lib.hid (fun W (hb:Below (w.alloc (.cells cs.toArray 47)).heap.size (w.alloc (.cells cs.toArray 47)) W)=>box_part p3 hb)
 have L3:=Lib.hid l3
 have X3:=Lib.hid h3
 have P4:=Lib.hid (fun W (hb:Below (w.alloc (.cells cs.toArray 47)).heap.size (w.alloc (.cells cs.toArray 47)) W)=>box_part p4 hb)
 have L4:=Lib.hid l4
 have X4:=Lib.hid h4
 have P5:=Lib.hid (fun W (hb:Below (w.alloc (.cells cs.toArray 47)).heap.size (w.alloc (.cells cs.toArray 47)) W)=>box_at p5 hb)
 have X5:=Lib.hid h5
 have P6:=Lib.hid (fun W (hb:Below (w.alloc (.cells cs.toArray 47)).heap.size (w.alloc (.cells cs.toArray 47)) W)=>box_at p6 hb)
 have X6:=Lib.hid h6
 have P7:=Lib.hid (fun W (hb:Below (w.alloc (.cells cs.toArray 47)).heap.size (w.alloc (.cells cs.toArray 47)) W)=>box_at p7 hb)
 have X7:=Lib.hid h7
 have P8:=Lib.hid (fun W (hb:Below (w.alloc (.cells cs.toArray 47)).heap.size (w.alloc (.cells cs.toArray 47)) W)=>box_at p8 hb)
 have X8:=Lib.hid h8
 have hk0:((k:Int)+1 == 0)=false:=by simp;omega
 clear h1 p1 h2 p2 h3 p3 h4 p4 h5 p5 h6 p6 h7 p7 h8 p8 l1 l2 l3 l4
 go_enter Tryz.func33,Tryz.ntmps33
 go_wp2_with (refine wpList_load_w rfl 37 _ rfl ⟨w.heap.size,4,none⟩ rfl ce _ (P1.out _ HB0.out) Tryz.underlying37 rfl (by rw[L1.out];kernel_rfl) ?_)
 refine(X1.out.at HA.out).mono ?_
 rintro r w1 ⟨rfl,hb⟩
 have HB1:=Lib.hid (HB0.out.trans (hb.mono HB0.out.size))
 have HW1:=Lib.hid (HA.out.trans (hb.mono HA.out.size))
 clear hb X1 P1
 cases z1 with
 | true=>
   clear X2 P2 X3 P3 X4 P4 X5 P5 X6 P6 X7 P7 X8 P8
   go_wp2_with fail
   go_ret
   exact⟨by simp,HW1.out⟩
 | false=>
 skip
 go_wp2_with (refine wpList_load_w rfl 37 _ rfl ⟨w.heap.size,8,none⟩ rfl cv _ (P2.out _ HB1.out) Tryz.underlying37 rfl (by rw[L2.out];kernel_rfl) ?_)
 refine(X2.out.at HW1.out).mono ?_
 rintro r w2 ⟨rfl,hb⟩
 have HB2:=Lib.hid (HB1.out.trans (hb.mono HB1.out.size))
 have HW2:=Lib.hid (HW1.out.trans (hb.mono HW1.out.size))
 clear hb X2 P2
 cases z2 with
 | true=>
   clear X3 P3 X4 P4 X5 P5 X6 P6 X7 P7 X8 P8
   go_wp2_with fail
   go_ret
   exact⟨by simp,HW2.out⟩
 | false=>
 skip
 go_wp2_with (refine wpList_load_w rfl 41 _ rfl ⟨w.heap.size,12,none⟩ rfl cc _ (P3.out _ HB2.out) Tryz.underlying41 rfl (by rw[L3.out];kernel_rfl) ?_)
 refine(X3.out.at HW2.out).mono ?_
 rintro r w3 ⟨rfl,hb⟩
 have HB3:=Lib.hid (HB2.out.trans (hb.mono HB2.out.size))
 have HW3:=Lib.hid (HW2.out.trans (hb.mono HW2.out.size))
 clear hb X3 P3
 cases z3 with
 | true=>
   clear X4 P4 X5 P5 X6 P6 X7 P7 X8 P8
   go_wp2_with fail
   go_ret
   exact⟨by simp,HW3.out⟩
 | false=>
 skip
 go_wp2_with (refine wpList_load_w rfl 44 _ rfl ⟨w.heap.size,15,none⟩ rfl ca _ (P4.out _ HB3.out) Tryz.underlying44 rfl (by rw[L4.out];kernel_rfl) ?_)
 refine(X4.out.at HW3.out).mono ?_
 rintro r w4 ⟨rfl,hb⟩
 have HB4:=Lib.hid (HB3.out.trans (hb.mono HB3.out.size))
 have HW4:=Lib.hid (HW3.out.trans (hb.mono HW3.out.size))
 clear hb X4 P4
 cases z4 with
 | true=>
   clear X5 P5 X6 P6 X7 P7 X8 P8
   go_wp2_with fail
   go_ret
   exact⟨by simp,HW4.out⟩
 | false=>
 skip
 have q5:=P5.out _ HB4.out
 go_wp2_with fail
 refine(X5.out.at HW4.out).mono ?_
 rintro r w5 ⟨rfl,hb⟩
 have HB5:=Lib.hid (HB4.out.trans (hb.mono HB4.out.size))
 have HW5:=Lib.hid (HW4.out.trans (hb.mono HW4.out.size))
 clear q5
 clear hb X5 P5
 cases z5 with
 | true=>
   clear X6 P6 X7 P7 X8 P8
   go_wp2_with fail
   go_ret
   exact⟨by simp,HW5.out⟩
 | false=>
 skip
 have q6:=P6.out _ HB5.out
 go_wp2_with fail
 refine(X6.out.at HW5.out).mono ?_
 rintro r w6 ⟨rfl,hb⟩
 have HB6:=Lib.hid (HB5.out.trans (hb.mono HB5.out.size))
 have HW6:=Lib.hid (HW5.out.trans (hb.mono HW5.out.size))
 clear q6
 clear hb X6 P6
 cases z6 with
 | true=>
   clear X7 P7 X8 P8
   go_wp2_with fail
   go_ret
   exact⟨by simp,HW6.out⟩
 | false=>
 skip
 have q7:=P7.out _ HB6.out
 go_wp2_with fail
 refine(X7.out.at HW6.out).mono ?_
 rintro r w7 ⟨rfl,hb⟩
 have HB7:=Lib.hid (HB6.out.trans (hb.mono HB6.out.size))
 have HW7:=Lib.hid (HW6.out.trans (hb.mono HW6.out.size))
 clear q7
 clear hb X7 P7
 cases z7 with
 | true=>
   clear X8 P8
   go_wp2_with fail
   go_ret
   exact⟨by simp,HW7.out⟩
 | false=>
 skip
 have q8:=P8.out _ HB7.out
 go_wp2_with fail
 refine(X8.out.at HW7.out).mono ?_
 rintro r w8 ⟨rfl,hb⟩
 have HB8:=Lib.hid (HB7.out.trans (hb.mono HB7.out.size))
 have HW8:=Lib.hid (HW7.out.trans (hb.mono HW7.out.size))
 clear q8
 clear hb X8 P8
 go_wp2_with fail
 go_ret
 exact⟨by simp,HW8.out⟩
def dpS:Nat→ST→Bool
 | 0,_=>true
 | m+1,s=>dpE m s.p.e || dpE m s.p.v || dpC m s.p.c || dpA m s.p.a || s.p.args.any (dpE m) || s.p.ghosts.any (dpE m) || s.body.any (dpS m) || s.els.any (dpS m)
theorem deepS_any:∀(n m:Nat) (s:ST) (cs:List Value) (w:World),m≤1000000→(stmtSh n).rel (Pak.Lo w.heap.size) w cs s→
 Calls Tryz.prog 33 #[.agg cs.toArray,.int .i64 m] w (SoundEnd (dpS m s) w)
 | 0,_,_,_,_,_,h=>h.elim
 | n+1,0,s,cs,w,hm,h=>by
   have hd:dpS 0 s=true:=rfl
   rw[hd]
   clear h
   go_enter Tryz.func33,Tryz.ntmps33
   go_wp2_with fail
   go_ret
   exact⟨rfl,box_low⟩
 | n+1,m+1,s,cs,w,hm,h=>by
   have IH:=deepS_any n
   obtain⟨ce,cv,cc,ca,a1,a2,a3,a4,a5,c1,c2,c3,c4,c5,H⟩:=stmt_is h
   exact deepS_box m cs ce cv cc ca a1 a2 a4 a5 _ _ _ _ c1 c2 c4 c5 _ _ _ _ _ _ _ _ w (by omega) H.pe H.pv H.pc H.pa H.args H.ghosts H.body H.els
    (((exprSh n).len H.re).trans (exprSh_k n)) (((exprSh n).len H.rv).trans (exprSh_k n)) (((condSh n).len H.rc).trans (condSh_k n)) (((assnSh n).len H.ra).trans (assnSh_k n))
    (fun W hb=>deepE_any n m _ _ W (by omega) (rel_low H.re hb)) (fun W hb=>deepE_any n m _ _ W (by omega) (rel_low H.rv hb)) (fun W hb=>deepC_any n m _ _ W (by omega) (rel_low H.rc hb)) (fun W hb=>deepA_any n m _ _ W (by omega) (rel_low H.ra hb))
    (fun W hb=>someE_any n 66 m (dpE m) a1 _ c1 s.p.args W (fun args w=>by kernel_rfl) rfl (H.rargs.below hb hb.size) (fun cs x V hx hv hr=>deepE_any n m x cs V (by omega) hr))
    (fun W hb=>someE_any n 66 m (dpE m) a2 _ c2 s.p.ghosts W (fun args w=>by kernel_rfl) rfl (H.rghosts.below hb hb.size) (fun cs x V hx hv hr=>deepE_any n m x cs V (by omega) hr))
    (fun W hb=>someS_any n 33 m (dpS m) a4 _ c4 s.body W (fun args w=>by kernel_rfl) rfl (H.rbody.below hb hb.size) (fun cs x V hx hv hr=>IH m x cs V (by omega) hr))
    (fun W hb=>someS_any n 33 m (dpS m) a5 _ c5 s.els W (fun args w=>by kernel_rfl) rfl (H.rels.below hb hb.size) (fun cs x V hx hv hr=>IH m x cs V (by omega) hr))
end
section
open Go.RowKit
theorem nameB_of {l:List UInt8}(h0:0<l.length)(h1:l.length≤32):nameB l=(decide (wordN l=l.length) && !keyB l):=by
 unfold nameB;simp[h0,h1]
theorem nameB_no {l:List UInt8}(h:¬(0<l.length∧l.length≤32)):nameB l=false:=by
 unfold nameB
 rw[Bool.eq_false_iff]
 intro e
 simp only[Bool.and_eq_true,decide_eq_true_eq]at e
 exact h ⟨e.1.1.1,e.1.1.2⟩
theorem name_any (s:ByteArray)(w:World)(hs:s.size≤9223372036854775807)(hL:Laid w):Calls Tryz.prog 69 #[.string s] w fun e w'=>e= .returned (.bool (nameB s.data.toList))∧Below w.heap.size w w':=by
 have hsz:=size_l s
 have HW:=Lib.hid (fun W=>word_any s W)
 have HK:=Lib.hid (fun W (hb:Below w.heap.size w W)=>key_any s W (hL.up hb))
 by_cases hok:0<s.size∧s.size≤32
 ·rw[nameB_of (by omega) (by omega)]
  have h0:(0:Int)<(s.size:Int):=by omega
  have h1:(s.size:Int)≤32:=by omega
  have hwl:=wordN_le s.data.toList
  rw[hsz]at hwl⊢
  generalize wordN s.data.toList=N at*
  generalize keyB s.data.toList=kb at*
  clear hL hsz hok
  by_cases hN:N=s.size
  ·subst hN
   have hNN:((s.size:Int) == (s.size:Int))=true:=by simp
   go_enter Tryz.func69,Tryz.ntmps69
   go_wp2_with fail
   refine(HW.out _).mono ?_
   rintro e w1 ⟨rfl,hb1⟩
   have B1:=Lib.hid hb1
   clear hb1 HW
   go_wp2_with fail
   refine(HK.out _ B1.out).mono ?_
   rintro e w2 ⟨rfl,rfl⟩
   go_wp2
   go_ret
   exact⟨by simp,B1.out⟩
  ·have hNN:((N:Int) == (s.size:Int))=false:=by rw[Bool.eq_false_iff];simp only[ne_eq,beq_iff_eq];omega
   have E:Hid ((decide (N=s.size) && !kb)=false):=by show _=_;rw[decide_eq_false hN];rfl
   clear hN
   go_enter Tryz.func69,Tryz.ntmps69
   go_wp2_with fail
   refine(HW.out _).mono ?_
   rintro e w1 ⟨rfl,hb1⟩
   have B1:=Lib.hid hb1
   clear hb1 HW
   go_wp2
   go_ret
   exact⟨by rw[E.out];rfl,B1.out⟩
 ·rw[nameB_no (by rw[hsz];exact hok)]
  by_cases h0:0<s.size
  ·have h0i:(0:Int)<(s.size:Int):=by omega
   have h1:¬(s.size:Int)≤32:=by omega
   clear hL hsz hok
   go_enter Tryz.func69,Tryz.ntmps69
   go_wp2
   go_ret
   exact⟨rfl,Below.refl _ _⟩
  ·have h0i:¬(0:Int)<(s.size:Int):=by omega
   clear hL hsz hok
   go_enter Tryz.func69,Tryz.ntmps69
   go_wp2
   go_ret
   exact⟨rfl,Below.refl _ _⟩
theorem rname_any (s:ByteArray)(w:World)(hs:s.size≤9223372036854775807):Calls Tryz.prog 47 #[.string s] w fun e w'=>e= .returned (.bool (nameB s.data.toList))∧Below w.heap.size w w':=by
 have hsz:=size_l s
 have HK:=Lib.hid (rkey_any s w)
 by_cases hok:0<s.size∧s.size≤32
 ·have HW:=Lib.hid (fun W=>rword_any s 0 W (by omega) (Nat.zero_le _))
  rw[nameB_of (by omega) (by omega)]
  have h0:(0:Int)<(s.size:Int):=by omega
  have h1:(s.size:Int)≤32:=by omega
  have hwl:=wordN_le s.data.toList
  simp only[List.drop_zero,Int.natCast_zero]at HW
  rw[hsz]at hwl⊢
  generalize wordN s.data.toList=N at*
  generalize keyB s.data.toList=kb at*
  clear hsz hok
  by_cases hN:N=s.size
  ·subst hN
   have hNN:((s.size:Int) == (s.size:Int))=true:=by simp
   go_enter Tryz.func47,Tryz.ntmps47
   go_wp2_with fail
   refine HK.out.mono ?_
   rintro e w1 ⟨rfl,hb1⟩
   have B1:=Lib.hid hb1
   clear hb1 HK
   go_wp2_with fail
   refine(HW.out _).mono ?_
   rintro e w2 ⟨rfl,rfl⟩
   go_wp2
   go_ret
   exact⟨by simp,B1.out⟩
  ·have hNN:((N:Int) == (s.size:Int))=false:=by rw[Bool.eq_false_iff];simp only[ne_eq,beq_iff_eq];omega
   have E:Hid ((decide (N=s.size) && !kb)=false):=by show _=_;rw[decide_eq_false hN];rfl
   clear hN
   go_enter Tryz.func47,Tryz.ntmps47
   go_wp2_with fail
   refine HK.out.mono ?_
   rintro e w1 ⟨rfl,hb1⟩
   have B1:=Lib.hid hb1
   clear hb1 HK
   go_wp2_with fail
   refine(HW.out _).mono ?_
   rintro e w2 ⟨rfl,rfl⟩
   go_wp2
   go_ret
   exact⟨by rw[E.out];rfl,B1.out⟩
 ·rw[nameB_no (by rw[hsz];exact hok)]
  by_cases h0:0<s.size
  ·have h0i:(0:Int)<(s.size:Int):=by omega
   have h1:¬(s.size:Int)≤32:=by omega
   clear hsz hok
   go_enter Tryz.func47,Tryz.ntmps47
   go_wp2_with fail
   refine HK.out.mono ?_
   rintro e w1 ⟨rfl,hb1⟩
   go_wp2
   go_ret
   exact⟨rfl,hb1⟩
  ·have h0i:¬(0:Int)<(s.size:Int):=by omega
   clear hsz hok
   go_enter Tryz.func47,Tryz.ntmps47
   go_wp2_with fail
   refine HK.out.mono ?_
   rintro e w1 ⟨rfl,hb1⟩
   go_wp2
   go_ret
   exact⟨rfl,hb1⟩
end
section
open Go.ChangeShapes Go.WideShapes Go.ChangeAt Go.RowKit
theorem Tryz.own:ownKnob Tryz.prog.godebug=none:=by kernel_rfl
theorem Tryz.laidOut:laidOutB Tryz.prog=true:=by kernel_rfl
def laidT:List (String×DataW Unit):=[("trammel/scan.keys",Rows.laid_trammel_scan_keys),("trammel/show.belongs",Rows.laid_trammel_show_belongs)]
def laidE:List (String×DataW Unit):=[("errors.errorType",Rows.laid_errors_errorType)]
def laidL:List (String×DataW Unit):=laidE ++ laidT
theorem Tryz.et:Tryz.prog.globalNamed "errors.errorType" =some 0:=by kernel_rfl
theorem Tryz.rt:(Tryz.prog.cutTypes.find? (·.1 == "internal/reflectlite.rtype")).map (·.2)=some 136:=by kernel_rfl
theorem Tryz.oneRow:((List.range 204).filter fun t=>Tryz.prog.rowNamed t [101,114,114,111,114])=[28]:=by kernel_rfl
theorem Tryz.size:Tryz.prog.types.size=204:=by kernel_rfl
theorem laid_tail {P:Program}{x:String×DataW Unit}{l:List (String×DataW Unit)}{w:World}(h:laidMet P (x :: l) w):laidMet P l w:=by
 obtain⟨ps,h1,h2,h3⟩:=h
 obtain⟨g,t,cs,fuel,p,q,_,_,_,_,h4,rfl⟩:=h1
 exact⟨q,h4,(List.nodup_append.1 h2).2.1,fun b off hb=>h3 b off (List.mem_append.2 (.inr hb))⟩
theorem laid_head {P:Program}{n:String}{d:DataW Unit}{l:List (String×DataW Unit)}{w:World}{g:Nat}{t:TypeId}(h:laidMet P ((n,d) :: l) w)(hg:P.globalNamed n=some g)(ht:(P.globals[g]?).map (·.type)=some t):
 ∃cs fuel p,w.var? P n=some cs∧DataW.trod (fun _=>()) P w 0 (fun _=>true) false fuel t cs.toList=some (d,p):=by
 obtain⟨ps,⟨g',t',cs,fuel,p,q,hg',ht',hvar,hd,_,_⟩,_⟩:=h
 obtain rfl:=Option.some.inj (hg.symm.trans hg')
 obtain rfl:=Option.some.inj (ht.symm.trans ht')
 exact⟨cs,fuel,p,hvar,hd⟩
section
variable {H:Type} {enc:TypeId×Value→H} {P:Program} {w:World} {base:Nat} {sp:Nat→Bool} {held:Bool}
theorem cells_of_strs {fuel:Nat}{t e:TypeId}{n:Nat}{cs:List Value}{zs:List (List UInt8)}{p:List MemPlace}
 (ht:P.underlying t=some (.array n e)) (he:P.underlying e=some .string) (hce:P.cellsOf e=1) (hct:P.cellsOf t=n)
 (h:DataW.trod enc P w base sp held fuel t cs=some (.agg (zs.map fun z=> .lit (.string z)),p)):cs=zs.map fun z=>Value.string ⟨z.toArray⟩:=by
 cases fuel with
 | zero=>simp[DataW.trod]at h
 | succ fuel=>
   simp only[DataW.trod,ht,hce,hct,Nat.mul_one]at h
   split at h
   ·rename_i hl
    obtain⟨xs,hm,hx⟩:=Option.map_eq_some_iff.1 h
    have hxs:xs.map (·.1)=zs.map fun z=>(DataW.lit (.string z):DataW H):=by
     have:=congrArg Prod.fst hx
     simpa using this
    have hxl:xs.length=n:=by simpa using Lib.mapM_length hm
    have hzl:zs.length=n:=by
     have:=congrArg List.length hxs
     simp at this
     omega
    apply List.ext_getElem?
    intro i
    by_cases hi:i<n
    ·obtain⟨b,hb,hf⟩:=Lib.mapM_at hm i i (by simp[hi])
     obtain⟨z,hc,rfl,_⟩:=DataW.trod_string he hf
     have h1:cs[i]? =some (.string z):=by
      have:=congrArg (·[0]?) hc
      simpa [List.getElem?_take,List.getElem?_drop]using this
     have h2:(xs.map (·.1))[i]? =some (DataW.lit (.string z.data.toList):DataW H):=by simp[hb]
     rw[hxs]at h2
     simp only[List.getElem?_map,Option.map_eq_some_iff,DataW.lit.injEq,Lit.string.injEq]at h2
     obtain⟨z',hz',e'⟩:=h2
     simp[h1,hz',e']
    ·rw[List.getElem?_eq_none (by omega),List.getElem?_eq_none (by simp;omega)]
   ·cases h
end
theorem Tryz.gK:Tryz.prog.globalNamed "trammel/scan.keys" =some 2:=by kernel_rfl
theorem Tryz.gB:Tryz.prog.globalNamed "trammel/show.belongs" =some 1:=by kernel_rfl
theorem laid_parts {W:World}(h:laidMetH Tryz.prog laidL W):laidMet Tryz.prog laidT W∧handlesMet Tryz.prog laidE W:=h
theorem tabs_of_laid {W:World}(h0:laidMetH Tryz.prog laidL W):Laid W:=by
 have h:laidMet Tryz.prog laidT W:=(laid_parts h0).1
 obtain⟨c3,f3,p3,v3,t3⟩:=laid_head h Tryz.gK (t:=170) (by kernel_rfl)
 have k3:c3.toList=keysV:=cells_of_strs (zs:=keysL) Tryz.underlying170 Tryz.underlying9 (by kernel_rfl) (by kernel_rfl) t3
 have hb:=Lib.tabIs_of_head (k:= .i64) (zs:=belL) (rest:=[]) Tryz.gB (t:=155) (by kernel_rfl) Tryz.underlying155 Tryz.underlying3 (by kernel_rfl) (by kernel_rfl) (laid_tail h)
 refine⟨fun j v hv=> ?_,fun j v hv=> ?_⟩
 ·rw[World.var?_cell Tryz.gK v3 j,←Array.getElem?_toList,k3];exact hv
 ·rw[World.var?_cell Tryz.gB hb j,List.getElem?_toArray];exact hv
theorem handle_of_laid0 {W:World}(h:laidMetH Tryz.prog laidL W):Laid0 W:=by
 obtain⟨name,u,ty,e1,e2,e3,e4,e5⟩:=(laid_parts h).2 _ (List.mem_singleton.2 rfl)
 have en:name=[101,114,114,111,114]:=(Option.some.inj e1).symm
 subst en
 obtain rfl:=Option.some.inj (Tryz.rt.symm.trans e2)
 have hm:ty∈(List.range 204).filter fun t=>Tryz.prog.rowNamed t [101,114,114,111,114]:=List.mem_filter.2 ⟨List.mem_range.2 (by rw[←Tryz.size];exact e3),e4⟩
 rw[Tryz.oneRow]at hm
 obtain rfl:=List.mem_singleton.1 hm
 have hh:typeHandle Tryz.prog 28= .pointer (some ⟨3,28,none⟩):=by kernel_rfl
 rw[hh]at e5
 unfold Laid0
 simpa using World.var?_cell Tryz.et e5 0
theorem handle_of_laid {W:World}(h:laidMetH Tryz.prog laidL W):Laid W∧Laid0 W:=⟨tabs_of_laid h,handle_of_laid0 h⟩
noncomputable def laidWorld (os:Os):World:=
 let w0:=World.holding Tryz.prog os ⟨#[], #[],[]⟩
 { w0 with heap:=((w0.heap.modify 2 fun
    | .cells _ t frozen=> .cells #[.string ⟨#[112,114,111,99]⟩,.string ⟨#[114,101,113,117,105,114,101,115]⟩,.string ⟨#[101,110,115,117,114,101,115]⟩,.string ⟨#[115,107,105,112]⟩,.string ⟨#[112,117,116]⟩,.string ⟨#[103,101,116]⟩,.string ⟨#[110,101,119]⟩,.string ⟨#[102,114,101,101]⟩,.string ⟨#[105,102]⟩,.string ⟨#[101,108,115,101]⟩,.string ⟨#[119,104,105,108,101]⟩,.string ⟨#[105,110,118,97,114,105,97,110,116]⟩,.string ⟨#[97,115,115,101,114,116]⟩,.string ⟨#[99,97,108,108]⟩,.string ⟨#[116,114,117,101]⟩,.string ⟨#[102,97,108,115,101]⟩,.string ⟨#[101,109,112]⟩,.string ⟨#[97,99,99]⟩,.string ⟨#[112,116,115]⟩] t frozen
    | o=>o).modify 1 fun
    | .cells _ t frozen=> .cells #[.int .i64 0,.int .i64 9,.int .i64 11,.int .i64 26,.int .i64 129,.int .i64 10,.int .i64 800,.int .i64 352,.int .i64 32,.int .i64 4] t frozen
    | o=>o).modify 0 fun
    | .cells _ t frozen=> .cells #[.iface 136 (.agg #[.pointer (some ⟨3,28,none⟩)])] t frozen
    | o=>o }
theorem laidWorld_met (os:Os)(args:Array Value):laidMetH Tryz.prog laidL ((laidWorld os).forCall (fun _ _=>0) ⟨#[],args,[]⟩).memory:=
 laidMetH_of_parts (laidMet_of_run' 8 (by kernel_rfl) (by kernel_rfl):laidMet Tryz.prog laidT _) (by kernel_rfl)
end
end Go.Proofs.YtfcaclmcnlflfaaGreatDoor
