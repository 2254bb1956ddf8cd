/- Parts of a proof. -/
import Derived.Test.YtfinhpfjokpcfaaGreatDoorQ17
import Derived.Test.YtfinhpfjokpcfaaGreatDoorQ20
import Derived.Deep.CutBlock
import Derived.Deep.CutRange
import Derived.Deep.DeepCutAuto
import Derived.Deep.AppendLies
set_option linter.unusedVariables false
set_option linter.unusedSimpArgs false
set_option maxHeartbeats 60000000
set_option maxRecDepth 100000
namespace Go.Proofs.YtfinhpfjokpcfaaGreatDoor
section
open Go.RowKit
def VRow (e:TypeId)(B:Nat)(vs:List Value)(v:Value)(w:World):Prop:=w.ownsRow B e 1 v vs.length vs
theorem VRow.nil (e:TypeId)(B:Nat)(w:World):VRow e B [] (.slice none 0 0) w:=World.ownsRow_nil _ _ _ _
theorem VRow.below {e:TypeId}{B:Nat}{vs:List Value}{v:Value}{w w':World}(h:VRow e B vs v w)(hb:Below w.heap.size w w'):VRow e B vs v w':=
 World.ownsRow.kept (row:=none) h ⟨hb.os,hb.tape,hb.output,hb.size,fun q hq _=>hb.block q hq⟩ (by cases v.ownBlock<;>simp)
theorem addr0 (g i:Nat):(⟨g,0,none⟩:Addr).add i=⟨g,i,none⟩:=by unfold Addr.add;split<;>simp_all
theorem VRow.cell {e:TypeId}{B:Nat}{vs:List Value}{v:Value}{w:World}(h:VRow e B vs v w){i:Nat}{x:Value}(hi:vs[i]? =some x):∃g c,v= .slice (some ⟨g,0,none⟩) vs.length c∧w.cell? ⟨g,i,none⟩=some x:=by
 have hc:=fun g=>World.ownsRow.cells h (g:=g)
 have hp:0<vs.length:=Nat.lt_of_le_of_lt (Nat.zero_le _) (List.getElem?_eq_some_iff.1 hi).1
 obtain⟨_,⟨e,e0⟩ | ⟨g,cap,cur,rfl,_⟩⟩:=h
 ·omega
 ·refine⟨g,cap,rfl, ?_⟩
  have:=hc g rfl i x hi
  rwa [addr0]at this
theorem VRow.two {e:TypeId}{B:Nat}{x y:Value}{v:Value}{w:World}(h:VRow e B [x,y] v w):∃g c,v= .slice (some ⟨g,0,none⟩) 2 c∧w.cell? ⟨g,0,none⟩=some x∧w.cell? ⟨g,1,none⟩=some y:=by
 obtain⟨g,c,e1,h1⟩:=h.cell (i:=0) rfl
 obtain⟨g2,c2,e2,h2⟩:=h.cell (i:=1) rfl
 rw[e1]at e2
 injection e2 with e3 _ _
 injection e3 with e3
 injection e3 with e3 _ _
 subst e3
 exact⟨g,c,e1,h1,h2⟩
theorem VRow.one {e:TypeId}{B:Nat}{x:Value}{v:Value}{w:World}(h:VRow e B [x] v w):∃g c,v= .slice (some ⟨g,0,none⟩) 1 c∧w.cell? ⟨g,0,none⟩=some x:=h.cell (i:=0) rfl
theorem run_push1 {P:Program}{w:World}(B:Nat)(t e:TypeId)(i:TypeInfo)(z:Value)(by':Nat)(ht:P.underlying t=some (.slice e))(hi:P.info? e=some i)(hz:i.zero=some z)(hs:i.size=1)(hby:i.bytes=by')(hb0:0<by')(hb9:by'≤16)(hzs:z.cells.size=1)
 (v:Value) (vs:List Value) (x:Value) (hx:x.oneCell'=true) (hown:VRow e B vs v w) (hB:B≤w.heap.size) (hsz:vs.length≤1000000):
 ∃a' c' w',(∀ty,(Builtin.append_ #[t,t] ty #[v,.slice (some ⟨w.heap.size,0,none⟩) 1 1]).run P (w.alloc (.cells #[x] e))= .ok (.slice a' (vs.length+1) c') w')∧VRow e B (vs ++ [x]) (.slice a' (vs.length+1) c') w'∧Below B w w':=by
 have hA:Below w.heap.size w (w.alloc (.cells #[x] e)):=box_low
 have hown2:=hown.below hA
 have hvb:=fun k (hk:v.ownBlock=some k)=>(World.ownsRow.lt hown2 k hk).1
 have hn:=heap_alloc_new w (.cells #[x] e)
 obtain⟨g,cap',w',hr,h2,h3,h4,h5⟩:=run_append_lies (P:=P) (w.alloc (.cells #[x] e)) t 0 B e i z 1 by' ht hi hz hs hby hzs (by decide) v vs.length vs hown2 ⟨w.heap.size,0,none⟩ 1 1 [x] rfl
  (fun j u hu=>by
    have hj:j=0:=by
     have:=(List.getElem?_eq_some_iff.1 hu).1
     simp at this;omega
    subst hj
    rw[show(⟨w.heap.size,0,none⟩:Addr).add 0=⟨w.heap.size,0,none⟩ from rfl,cell_of_row _ _ _ _ _ _ hn]
    simpa using hu)
  (fun u hu=>by simp at hu;rw[hu];exact hx) (by omega) (by unfold maxLen;omega) (by have:(vs.length+1)*by'≤(vs.length+1)*16:=Nat.mul_le_mul_left _ hb9;omega) (Nat.le_trans hB hA.size) _ rfl
 refine⟨_,cap',w',fun ty=>hr, ?_,(hA.mono hB).trans ((Below.refl B _).grown h3 (Nat.le_trans hB hA.size) hvb)⟩
 unfold VRow
 rw[List.length_append]
 exact h2
theorem Tryz.infoI:(Tryz.prog.info? 3).map (fun i=>(i.zero,i.size,i.bytes))=some (some (.int .i64 0),1,8):=by kernel_rfl
theorem Tryz.infoB:(Tryz.prog.info? 4).map (fun i=>(i.zero,i.size,i.bytes))=some (some (.bool false),1,1):=by kernel_rfl
theorem push_int {w:World}{B:Nat}{vs:List Value}{v:Value}(x:Int)(h:VRow 3 B vs v w)(hB:B≤w.heap.size)(hsz:vs.length≤1000000):
 ∃a' c' w',(∀ty,(Builtin.append_ #[99,99] ty #[v,.slice (some ⟨w.heap.size,0,none⟩) 1 1]).run Tryz.prog (w.alloc (.cells #[.int .i64 x] 3))= .ok (.slice a' (vs.length+1) c') w')∧VRow 3 B (vs ++ [.int .i64 x]) (.slice a' (vs.length+1) c') w'∧Below B w w':=by
 obtain⟨i,hi,h1,h2,h3⟩:=Pak.info_parts Tryz.infoI
 exact run_push1 B _ _ i _ 8 Tryz.underlying99 hi h1 h2 h3 (by decide) (by decide) rfl v vs _ rfl h hB hsz
theorem push_bool {w:World}{B:Nat}{vs:List Value}{v:Value}(x:Bool)(h:VRow 4 B vs v w)(hB:B≤w.heap.size)(hsz:vs.length≤1000000):
 ∃a' c' w',(∀ty,(Builtin.append_ #[100,100] ty #[v,.slice (some ⟨w.heap.size,0,none⟩) 1 1]).run Tryz.prog (w.alloc (.cells #[.bool x] 4))= .ok (.slice a' (vs.length+1) c') w')∧VRow 4 B (vs ++ [.bool x]) (.slice a' (vs.length+1) c') w'∧Below B w w':=by
 obtain⟨i,hi,h1,h2,h3⟩:=Pak.info_parts Tryz.infoB
 exact run_push1 B _ _ i _ 1 Tryz.underlying100 hi h1 h2 h3 (by decide) (by decide) rfl v vs _ rfl h hB hsz
def RTru (x:Bool×Bool)(w:World)(r:Ending)(w':World):Prop:=∃b:Bool,r= .returned (.tuple #[.bool b,.bool x.2])∧(x.2=true→b=x.1)∧Below w.heap.size w w'
def esV (ρ:ByteArray→Int)(n:Nat)(es:List ET)(j:Nat):List Value:=(es.take j).map fun x=> .int .i64 (valE ρ n x).1
def esN (ρ:ByteArray→Int)(n:Nat)(es:List ET)(j:Nat):Bool:=(es.take j).all fun x=>(valE ρ n x).2
def ksN (ρ:ByteArray→Int)(n:Nat)(ks:List CT)(j:Nat):Bool:=(ks.take j).all fun x=>(truC ρ n x).2
theorem esV_len {ρ:ByteArray→Int}{n:Nat}{es:List ET}{j:Nat}(h:j≤es.length):(esV ρ n es j).length=j:=by
 unfold esV;rw[List.length_map,List.length_take];omega
theorem esV_succ {ρ:ByteArray→Int}{n:Nat}{es:List ET}{j:Nat}(h:j<es.length):esV ρ n es (j+1)=esV ρ n es j ++ [.int .i64 (valE ρ n es[j]).1]:=by
 unfold esV;rw[List.take_succ_eq_append_getElem h,List.map_append];rfl
theorem esN_succ {ρ:ByteArray→Int}{n:Nat}{es:List ET}{j:Nat}(h:j<es.length):esN ρ n es (j+1)=(esN ρ n es j && (valE ρ n es[j]).2):=all_take h
theorem ksN_succ {ρ:ByteArray→Int}{n:Nat}{ks:List CT}{j:Nat}(h:j<ks.length):ksN ρ n ks (j+1)=(ksN ρ n ks j && (truC ρ n ks[j]).2):=all_take h
structure KRow (ρ:ByteArray→Int)(n:Nat)(ks:List CT)(B j:Nat)(v:Value)(w:World):Prop where
 row:∃bs:List Bool,bs.length=j∧VRow 4 B (bs.map .bool) v w∧(ksN ρ n ks j=true→∀q,(h:q<ks.length)→q<j→bs[q]? =some (truC ρ n ks[q]).1)
theorem KRow.below {ρ:ByteArray→Int}{n:Nat}{ks:List CT}{B j:Nat}{v:Value}{w w':World}(h:KRow ρ n ks B j v w)(hb:Below w.heap.size w w'):KRow ρ n ks B j v w':=by
 obtain⟨bs,h1,h2,h3⟩:=h.row
 exact⟨⟨bs,h1,h2.below hb,h3⟩⟩
theorem truC_mk (ρ:ByteArray→Int)(n:Nat)(kd:Int)(es:List ET)(ks:List CT):truC ρ (n+1) (.mk kd es ks)=if es.length=2 then(cmpV kd (valE ρ n (es.getD 0 default)).1 (valE ρ n (es.getD 1 default)).1,(valE ρ n (es.getD 0 default)).2 && (valE ρ n (es.getD 1 default)).2)
 else if kd=0 then(true,true)
 else if kd=1 then(false,true)
 else if(truC ρ n (ks.getD 0 default)).2=false then(false,false)
 else if kd=6 then(!(truC ρ n (ks.getD 0 default)).1,true)
 else if(truC ρ n (ks.getD 1 default)).2=false then(false,false)
 else if kd=7 then((truC ρ n (ks.getD 0 default)).1 && (truC ρ n (ks.getD 1 default)).1,true)
 else((truC ρ n (ks.getD 0 default)).1 || (truC ρ n (ks.getD 1 default)).1,true):=rfl
theorem truC_near {ρ:ByteArray→Int}{n:Nat}{c:CT}{m1 m2:Nat}(hk:(m1=2∧m2=0∧(c.kind=2∨c.kind=3∨c.kind=4∨c.kind=5))∨(m1=0∧m2=0∧(c.kind=0∨c.kind=1))∨(m1=0∧m2=1∧c.kind=6)∨(m1=0∧m2=2∧(c.kind=7∨c.kind=8)))(hm1:c.es.length=m1)(hm2:c.ks.length=m2):
 (truC ρ (n+1) c).2=((c.es.all fun x=>(valE ρ n x).2) && c.ks.all fun x=>(truC ρ n x).2):=by
 obtain⟨kd,es,ks⟩:=c
 rw[truC_mk]
 change es.length=m1 at hm1
 change ks.length=m2 at hm2
 change (m1=2∧m2=0∧(kd=2∨kd=3∨kd=4∨kd=5))∨(m1=0∧m2=0∧(kd=0∨kd=1))∨(m1=0∧m2=1∧kd=6)∨(m1=0∧m2=2∧(kd=7∨kd=8))at hk
 show _=((es.all fun x=>(valE ρ n x).2) && ks.all fun x=>(truC ρ n x).2)
 rcases hk with ⟨rfl,rfl,hk⟩ | ⟨rfl,rfl,hk⟩ | ⟨rfl,rfl,hk⟩ | ⟨rfl,rfl,hk⟩
 ·rw[if_pos hm1,List.length_eq_zero_iff.1 hm2]
  match es,hm1 with
  | [x,y],_=>simp
 ·rw[List.length_eq_zero_iff.1 hm1,List.length_eq_zero_iff.1 hm2,if_neg (by decide)]
  rcases hk with hk | hk
  ·rw[if_pos hk];rfl
  ·rw[if_neg (by omega),if_pos hk];rfl
 ·rw[List.length_eq_zero_iff.1 hm1,if_neg (by decide),if_neg (by omega),if_neg (by omega)]
  match ks,hm2 with
  | [x],_=>
    show(if(truC ρ n x).2=false then(false,false) else if kd=6 then(!(truC ρ n x).1,true) else _:Bool×Bool).2=_
    cases h:(truC ρ n x).2 with
    | false=>simp[h]
    | true=>simp[h,hk]
 ·rw[List.length_eq_zero_iff.1 hm1,if_neg (by decide),if_neg (by omega),if_neg (by omega)]
  match ks,hm2 with
  | [x,y],_=>
    show(if(truC ρ n x).2=false then(false,false) else if kd=6 then(!(truC ρ n x).1,true) else if(truC ρ n y).2=false then(false,false) else if kd=7 then((truC ρ n x).1 && (truC ρ n y).1,true) else((truC ρ n x).1 || (truC ρ n y).1,true):Bool×Bool).2=_
    rw[if_neg (show ¬kd=6 by omega)]
    cases h:(truC ρ n x).2 with
    | false=>simp[h]
    | true=>
      cases h2:(truC ρ n y).2 with
      | false=>simp[h,h2]
      | true=>
        by_cases h7:kd=7
        ·simp[h,h2,h7]
        ·simp[h,h2,h7]
theorem rtruth_box (n:Nat)(ρ:ByteArray→Int)(c:CT)(vs:Value)(a1:Option Addr)(m1 c1:Nat)(a2:Option Addr)(m2 c2:Nat)(w:World)(hm1:c.es.length=m1)(hs1:Pak.Sits (exprSh n) (Pak.Lo w.heap.size) w a1 c.es)(hm2:c.ks.length=m2)(hs2:Pak.Sits (condSh n) (Pak.Lo w.heap.size) w a2 c.ks)
 (hk:(m1=2∧m2=0∧(c.kind=2∨c.kind=3∨c.kind=4∨c.kind=5))∨(m1=0∧m2=0∧(c.kind=0∨c.kind=1))∨(m1=0∧m2=1∧c.kind=6)∨(m1=0∧m2=2∧(c.kind=7∨c.kind=8)))
 (hf1:∀cs x W,x∈c.es→Below w.heap.size w W→(exprSh n).rel (Pak.Lo W.heap.size) W cs x→Calls Tryz.prog 25 #[.agg cs.toArray,vs] W (ValIn (valE ρ n x) W))
 (hf2:∀cs x W,x∈c.ks→Below w.heap.size w W→(condSh n).rel (Pak.Lo W.heap.size) W cs x→Calls Tryz.prog 26 #[.agg cs.toArray,vs] W (RTru (truC ρ n x) W)):
 Calls Tryz.prog 26 #[.agg #[.int .i64 c.kind,.slice a1 m1 c1,.slice a2 m2 c2],vs] w (RTru (truC ρ (n+1) c) w):=by
 have HK:=Lib.hid hk
 have HS1:=Lib.hid hs1
 have HS2:=Lib.hid hs2
 have HF1:=Lib.hid hf1
 have HF2:=Lib.hid hf2
 have HM1:=Lib.hid hm1
 have HM2:=Lib.hid hm2
 have hmm1:m1≤2:=by omega
 have hmm2:m2≤2:=by omega
 have HA:Hid (Below w.heap.size w (w.alloc (.cells #[.int .i64 c.kind,.slice a1 m1 c1,.slice a2 m2 c2] 27))):=box_low
 obtain⟨B,hB⟩:∃B,(w.alloc (.cells #[.int .i64 c.kind,.slice a1 m1 c1,.slice a2 m2 c2] 27)).heap.size=B:=⟨_,rfl⟩
 have HB0:Hid (Below B (w.alloc (.cells #[.int .i64 c.kind,.slice a1 m1 c1,.slice a2 m2 c2] 27)) (w.alloc (.cells #[.int .i64 c.kind,.slice a1 m1 c1,.slice a2 m2 c2] 27))):=Below.refl _ _
 have HAB:Hid (w.heap.size≤B):=Lib.hid (by rw[←hB];exact HA.out.size)
 have HBB:Hid (∀W,Below B (w.alloc (.cells #[.int .i64 c.kind,.slice a1 m1 c1,.slice a2 m2 c2] 27)) W→B≤W.heap.size):=Lib.hid (fun W h=>by rw[←hB];exact h.size)
 have HQ:Hid (∀W,Below B (w.alloc (.cells #[.int .i64 c.kind,.slice a1 m1 c1,.slice a2 m2 c2] 27)) W→W.cell? ⟨w.heap.size,0,none⟩=some (.int .i64 c.kind)∧W.cell? ⟨w.heap.size,1,none⟩=some (.slice a1 m1 c1)∧W.cell? ⟨w.heap.size,2,none⟩=some (.slice a2 m2 c2)):=fun W hb=>
  ⟨box_at (cs:=[.int .i64 c.kind,.slice a1 m1 c1,.slice a2 m2 c2]) rfl (by rw[hB];exact hb),box_at (cs:=[.int .i64 c.kind,.slice a1 m1 c1,.slice a2 m2 c2]) rfl (by rw[hB];exact hb),box_at (cs:=[.int .i64 c.kind,.slice a1 m1 c1,.slice a2 m2 c2]) rfl (by rw[hB];exact hb)⟩
 clear hs1 hs2 hf1 hf2 hm1 hm2 hk hB
 go_enter Tryz.func26,Tryz.ntmps26
 go_wp2_with fail
 go_loopw [6,7,8] (fun f r i wr=>∃j:Nat,j≤m1∧i= .int .i64 j∧f= .bool (esN ρ n c.es j)∧Hid (VRow 3 B (esV ρ n c.es j) r wr)∧Hid (Below B (w.alloc (.cells #[.int .i64 c.kind,.slice a1 m1 c1,.slice a2 m2 c2] 27)) wr)) (fun _ _ i _=>m1 - (intOf i).toNat)
 case atStart=>exact⟨0,Nat.zero_le _,rfl,rfl,VRow.nil _ _ _,HB0⟩
 case round=>
  obtain⟨j,hj,rfl,rfl,hrow,hb⟩:=hrel
  obtain⟨wo,rfl⟩:∃wo:World,wo=wr:=⟨_,rfl⟩
  have HWO:=Lib.hid (HA.out.trans (hb.out.mono HAB.out))
  obtain⟨q0,q1,q2⟩:=HQ.out _ hb.out
  by_cases hlt:j<m1
  ·have hlx:j<c.es.length:=by rw[HM1.out];exact hlt
   have hji:(j:Int)<(m1:Int):=by omega
   obtain⟨b,off,cs,rfl,hbl,hc,hr⟩:=(HS1.out.below HWO.out HWO.out.size).2 j hlx
   have hlen:=(exprSh n).len hr
   rw[exprSh_k]at hlen hc
   have HC0:Hid (∀i v,cs[i]? =some v→wo.cell? ((⟨b,off+j*4,none⟩:Addr).add i)=some v):=fun i v hv=>by
    rw[show(⟨b,off+j*4,none⟩:Addr).add i=⟨b,off+j*4+i,none⟩ by unfold Addr.add;split<;>simp_all]
    exact hc i v hv
   have HL:=Lib.hid hlen
   have HC:=Lib.hid (HF1.out cs c.es[j] _ (List.getElem_mem hlx) HWO.out hr)
   have HEV:=Lib.hid (esV_succ (ρ:=ρ) (n:=n) hlx)
   have HEN:=Lib.hid (esN_succ (ρ:=ρ) (n:=n) hlx)
   have HVL:Hid ((esV ρ n c.es j).length=j):=Lib.hid (esV_len (Nat.le_of_lt hlx))
   clear hc hr hlen
   generalize valE ρ n c.es[j]=y at HC HEV HEN
   obtain⟨yv,yn⟩:=y
   go_wp2_with (first | go_skip | (refine wpList_load_w (by kernel_rfl) 24 _ rfl ⟨b,off+j*4,none⟩ rfl cs _ HC0.out Tryz.underlying24 rfl (by rw[HL.out];kernel_rfl) ?_))
   refine HC.out.mono ?_
   rintro r w2 ⟨rfl,hb2⟩
   have HB2:=Lib.hid (hb.out.trans (hb2.mono (HBB.out _ hb.out)))
   obtain⟨a',c',w3,hr3,hrow3,hb3⟩:=push_int (w:=w2) yv (hrow.out.below hb2) (HBB.out _ HB2.out) (by rw[HVL.out];omega)
   have HB3:=Lib.hid (HB2.out.trans hb3)
   rw[HVL.out]at hr3 hrow3
   have HR3:Hid (VRow 3 B (esV ρ n c.es (j+1)) (.slice a' (j+1) c') w3):=Lib.hid (by rw[HEV.out];exact hrow3)
   clear hb2 hb3 hrow3 HC HC0 hrow HEV q0 q1 q2
   cases hfe:esN ρ n c.es j with
   | false=>
     rw[hfe]at HEN
     have HEN2:Hid (esN ρ n c.es (j+1)=false):=Lib.hid (by rw[HEN.out];rfl)
     clear HEN hfe
     go_wp2_with (at_builtin;refine Lib.wpList_append_run _ rfl _ _ _ _ rfl _ _ rfl rfl _ _ (hr3 _) ?_)
     go_roundw
     case rel=>exact⟨j+1,by omega,by go_num,by rw[HEN2.out],HR3,HB3⟩
     case measure=>simp[intOf];omega
   | true=>
     rw[hfe]at HEN
     have HEN2:Hid (esN ρ n c.es (j+1)=yn):=Lib.hid (by rw[HEN.out];rfl)
     clear HEN hfe
     go_wp2_with (at_builtin;refine Lib.wpList_append_run _ rfl _ _ _ _ rfl _ _ rfl rfl _ _ (hr3 _) ?_)
     go_roundw
     case rel=>exact⟨j+1,by omega,by go_num,by rw[HEN2.out],HR3,HB3⟩
     case measure=>simp[intOf];omega
  ·have hjm:j=m1:=by omega
   subst hjm
   have HN1:Hid (esV ρ n c.es j=c.es.map (fun x=> .int .i64 (valE ρ n x).1)):=Lib.hid (by unfold esV;rw[←HM1.out,List.take_length])
   have HN2:Hid (esN ρ n c.es j=c.es.all (fun x=>(valE ρ n x).2)):=Lib.hid (by unfold esN;rw[←HM1.out,List.take_length])
   generalize hz1:esN ρ n c.es j=z1 at*
   have HZ1:=Lib.hid hz1
   have HROW1:=Lib.hid hrow.out
   have HB1:=hb
   clear hz1 HWO
   obtain⟨w1,rfl⟩:∃w1:World,w1=wo:=⟨_,rfl⟩
   have HRU:Hid (∀W,Below w1.heap.size w1 W→VRow 3 B (esV ρ n c.es j) u7 W):=Lib.hid (fun W h=>HROW1.out.below h)
   go_wp2_with fail
   clear q0 q1 q2
   go_loopw [6,11,12] (fun f r i wr=>∃k:Nat,k≤m2∧i= .int .i64 k∧f= .bool (z1 && ksN ρ n c.ks k)∧Hid (KRow ρ n c.ks w1.heap.size k r wr)∧Hid (Below w1.heap.size w1 wr)) (fun _ _ i _=>m2 - (intOf i).toNat)
   case atStart=>exact⟨0,Nat.zero_le _,rfl,by rw[show ksN ρ n c.ks 0=true from rfl,Bool.and_true],⟨⟨[],rfl,VRow.nil _ _ _,fun _ q _ h=>absurd h (Nat.not_lt_zero _)⟩⟩,Below.refl _ _⟩
   case round=>
    obtain⟨k,hk,rfl,rfl,hkr,hbk⟩:=hrel
    obtain⟨wo,rfl⟩:∃wo:World,wo=wr:=⟨_,rfl⟩
    have HBo:=Lib.hid (HB1.out.trans (hbk.out.mono (HBB.out _ HB1.out)))
    have HWO:=Lib.hid (HA.out.trans (HBo.out.mono HAB.out))
    obtain⟨q0,q1,q2⟩:=HQ.out _ HBo.out
    by_cases hlt:k<m2
    ·have hlx:k<c.ks.length:=by rw[HM2.out];exact hlt
     have hji:(k:Int)<(m2:Int):=by omega
     obtain⟨b,off,cs,e2,hbl,hc,hr⟩:=(HS2.out.below HWO.out HWO.out.size).2 k hlx
     subst e2
     have hlen:=(condSh n).len hr
     rw[condSh_k]at hlen hc
     have HC0:Hid (∀i v,cs[i]? =some v→wo.cell? ((⟨b,off+k*3,none⟩:Addr).add i)=some v):=fun i v hv=>by
      rw[show(⟨b,off+k*3,none⟩:Addr).add i=⟨b,off+k*3+i,none⟩ by unfold Addr.add;split<;>simp_all]
      exact hc i v hv
     have HL:=Lib.hid hlen
     have HC:=Lib.hid (HF2.out cs c.ks[k] _ (List.getElem_mem hlx) HWO.out hr)
     have HKN:=Lib.hid (ksN_succ (ρ:=ρ) (n:=n) hlx)
     clear hc hr hlen
     generalize hy:truC ρ n c.ks[k]=y at HC HKN
     have HY:=Lib.hid hy
     clear hy
     obtain⟨yv,yn⟩:=y
     go_wp2_with (first | go_skip | (refine wpList_load_w (by kernel_rfl) 27 _ rfl ⟨b,off+k*3,none⟩ rfl cs _ HC0.out Tryz.underlying27 rfl (by rw[HL.out];kernel_rfl) ?_))
     refine HC.out.mono ?_
     rintro r w2 ⟨xb,rfl,hxb,hb2⟩
     have HB2:=Lib.hid (hbk.out.trans (hb2.mono hbk.out.size))
     obtain⟨bs,hbl2,hbr,hbq⟩:=(hkr.out.below hb2).row
     obtain⟨a',c',w3,hr3,hrow3,hb3⟩:=push_bool (w:=w2) xb hbr HB2.out.size (by rw[List.length_map,hbl2];omega)
     have HB3:=Lib.hid (HB2.out.trans hb3)
     rw[List.length_map,hbl2]at hr3 hrow3
     have HR3:Hid (KRow ρ n c.ks w1.heap.size (k+1) (.slice a' (k+1) c') w3):=⟨⟨bs ++ [xb],by simp[hbl2],by rw[List.map_append];exact hrow3,fun hn q hq hlq=>by
      rw[HKN.out]at hn
      obtain⟨hn1,hn2⟩:=Bool.and_eq_true_iff.1 hn
      by_cases e:q=k
      ·subst e
       rw[HY.out,List.getElem?_append_right (by rw[hbl2];exact Nat.le_refl _),hbl2,Nat.sub_self]
       have:xb=yv:=hxb hn2
       rw[this];rfl
      ·rw[List.getElem?_append_left (by rw[hbl2];omega)]
       exact hbq hn1 q hq (by omega)⟩⟩
     clear hb2 hb3 hrow3 HC HC0 hkr q0 q1 q2 hbl2 hbr hbq hxb
     cases hfe:(z1 && ksN ρ n c.ks k)with
     | false=>
       have HEN2:Hid ((z1 && ksN ρ n c.ks (k+1))=false):=Lib.hid (by rw[HKN.out,←Bool.and_assoc,hfe];rfl)
       clear HKN hfe
       go_wp2_with (at_builtin;refine Lib.wpList_append_run _ rfl _ _ _ _ rfl _ _ rfl rfl _ _ (hr3 _) ?_)
       go_roundw
       case rel=>exact⟨k+1,by omega,by go_num,by rw[HEN2.out],HR3,HB3⟩
       case measure=>simp[intOf];omega
     | true=>
       have HEN2:Hid ((z1 && ksN ρ n c.ks (k+1))=yn):=Lib.hid (by rw[HKN.out,←Bool.and_assoc,hfe];rfl)
       clear HKN hfe
       go_wp2_with (at_builtin;refine Lib.wpList_append_run _ rfl _ _ _ _ rfl _ _ rfl rfl _ _ (hr3 _) ?_)
       go_roundw
       case rel=>exact⟨k+1,by omega,by go_num,by rw[HEN2.out],HR3,HB3⟩
       case measure=>simp[intOf];omega
    ·have hkm:k=m2:=by omega
     subst hkm
     have HN3:Hid (ksN ρ n c.ks k=c.ks.all (fun x=>(truC ρ n x).2)):=Lib.hid (by unfold ksN;rw[←HM2.out,List.take_length])
     obtain⟨V,hV⟩:∃V,truC ρ (n+1) c=(V,z1 && ksN ρ n c.ks k):=⟨(truC ρ (n+1) c).1,Prod.ext rfl (by
      show(truC ρ (n+1) c).2=_
      rw[HN3.out]
      first | rw[←HZ1.out,HN2.out] | rw[HN2.out]
      exact truC_near HK.out HM1.out HM2.out)⟩
     have HV:=Lib.hid hV
     obtain⟨bs,hbl2,hbr,hbq⟩:=hkr.out.row
     have HBQ:=Lib.hid hbq
     have HBL:=Lib.hid hbl2
     have HBR:=Lib.hid hbr
     have HRW:=Lib.hid (HRU.out _ hbk.out)
     generalize hzz:(z1 && ksN ρ n c.ks k)=zz at*
     have HZZ:=Lib.hid hzz
     clear hV hbl2 hbr hbq hzz
     go_upto_block 4 with fail
     go_cut [15] (fun s wr=>(∃b:Bool,s= .bool b∧Hid (zz=true→b=V))∧Hid (Below w.heap.size w wr))
     case first=>
      have hLE:∀W:World,Below w1.heap.size w1 W→True:=fun _ _=>trivial
      have HKK:=Lib.hid HK.out
      generalize hkd:c.kind=kd at*
      have HKD:=Lib.hid hkd
      clear hkd hLE
      rcases HKK.out with ⟨h2,h0,hkk⟩ | ⟨h2,h0,hkk⟩ | ⟨h2,h0,h1⟩ | ⟨h2,h0,hkk⟩
      ·obtain⟨e0,e1,he⟩:∃e0 e1,c.es=[e0,e1]:=by
        match hE:c.es,HM1.out.trans h2 with
        | [x,y],_=>exact⟨x,y,rfl⟩
       have HRX:Hid (VRow 3 B [.int .i64 (valE ρ n e0).1,.int .i64 (valE ρ n e1).1] u7 wo):=Lib.hid (by have:=HRW.out;rw[HN1.out,he]at this;exact this)
       have HVV:Hid (V=cmpV kd (valE ρ n e0).1 (valE ρ n e1).1):=Lib.hid (by
        have h:=congrArg Prod.fst HV.out
        rw[truC_succ,he,HKD.out]at h
        exact h.symm)
       obtain⟨g7,c7,rfl,d0,d1⟩:=HRX.out.two
       clear HRX he HRW HN1 HROW1 HRU h2 h0
       generalize (valE ρ n e0).1=v0 at*
       generalize (valE ρ n e1).1=v1 at*
       have r0:=cell_regrown d0
       have r1:=cell_regrown d1
       rcases hkk with h1 | h1 | h1 | h1
       ·have HCM:Hid (V=(v0 == v1)):=Lib.hid (by rw[HVV.out,h1];rfl)
        have t0:(kd == 0)=false:=by rw[h1];rfl
        have t2:(kd == 2)=true:=by rw[h1];rfl
        have t3:(kd == 3)=false:=by rw[h1];rfl
        have t4:(kd == 4)=false:=by rw[h1];rfl
        have t5:(kd == 5)=false:=by rw[h1];rfl
        have t6:(kd == 6)=false:=by rw[h1];rfl
        have t7:(kd == 7)=false:=by rw[h1];rfl
        have t8:(kd == 8)=false:=by rw[h1];rfl
        clear h1
        clear HVV
        go_wp2_with fail
        refine wp_region_quiet_below (by kernel_rfl) (by kernel_rfl) ?_
        repeat (go_big_quiet_step (fail))
        refine wpQuiet_nil ?_
        intro w9 hw'
        obtain⟨⟨dq,osq⟩,hw''⟩:=hw'
        have H9:Hid (Below w.heap.size w w9):=Lib.hid (by rw[hw''];exact HWO.out.trans ((below_regrown _ dq osq).mono HWO.out.size))
        clear hw'' r0 r1 d0 d1
        go_wp2_with fail
        go_meet
        case rel=>exact⟨⟨_,rfl,Lib.hid (fun _=>HCM.out.symm)⟩,H9⟩
       ·have HCM:Hid (V=(!(v0 == v1))):=Lib.hid (by rw[HVV.out,h1];rfl)
        have t0:(kd == 0)=false:=by rw[h1];rfl
        have t2:(kd == 2)=false:=by rw[h1];rfl
        have t3:(kd == 3)=true:=by rw[h1];rfl
        have t4:(kd == 4)=false:=by rw[h1];rfl
        have t5:(kd == 5)=false:=by rw[h1];rfl
        have t6:(kd == 6)=false:=by rw[h1];rfl
        have t7:(kd == 7)=false:=by rw[h1];rfl
        have t8:(kd == 8)=false:=by rw[h1];rfl
        clear h1
        clear HVV
        go_wp2_with fail
        refine wp_region_quiet_below (by kernel_rfl) (by kernel_rfl) ?_
        repeat (go_big_quiet_step (fail))
        refine wpQuiet_nil ?_
        intro w9 hw'
        obtain⟨⟨dq,osq⟩,hw''⟩:=hw'
        have H9:Hid (Below w.heap.size w w9):=Lib.hid (by rw[hw''];exact HWO.out.trans ((below_regrown _ dq osq).mono HWO.out.size))
        clear hw'' r0 r1 d0 d1
        go_wp2_with fail
        go_meet
        case rel=>exact⟨⟨_,rfl,Lib.hid (fun _=>HCM.out.symm)⟩,H9⟩
       ·have HCM:Hid (V=(decide (v0<v1))):=Lib.hid (by rw[HVV.out,h1];rfl)
        have t0:(kd == 0)=false:=by rw[h1];rfl
        have t2:(kd == 2)=false:=by rw[h1];rfl
        have t3:(kd == 3)=false:=by rw[h1];rfl
        have t4:(kd == 4)=true:=by rw[h1];rfl
        have t5:(kd == 5)=false:=by rw[h1];rfl
        have t6:(kd == 6)=false:=by rw[h1];rfl
        have t7:(kd == 7)=false:=by rw[h1];rfl
        have t8:(kd == 8)=false:=by rw[h1];rfl
        clear h1
        clear HVV
        go_wp2_with fail
        refine wp_region_quiet_below (by kernel_rfl) (by kernel_rfl) ?_
        repeat (go_big_quiet_step (fail))
        refine wpQuiet_nil ?_
        intro w9 hw'
        obtain⟨⟨dq,osq⟩,hw''⟩:=hw'
        have H9:Hid (Below w.heap.size w w9):=Lib.hid (by rw[hw''];exact HWO.out.trans ((below_regrown _ dq osq).mono HWO.out.size))
        clear hw'' r0 r1 d0 d1
        go_wp2_with fail
        go_meet
        case rel=>exact⟨⟨_,rfl,Lib.hid (fun _=>HCM.out.symm)⟩,H9⟩
       ·have HCM:Hid (V=(decide (v0≤v1))):=Lib.hid (by rw[HVV.out,h1];rfl)
        have t0:(kd == 0)=false:=by rw[h1];rfl
        have t2:(kd == 2)=false:=by rw[h1];rfl
        have t3:(kd == 3)=false:=by rw[h1];rfl
        have t4:(kd == 4)=false:=by rw[h1];rfl
        have t5:(kd == 5)=true:=by rw[h1];rfl
        have t6:(kd == 6)=false:=by rw[h1];rfl
        have t7:(kd == 7)=false:=by rw[h1];rfl
        have t8:(kd == 8)=false:=by rw[h1];rfl
        clear h1
        clear HVV
        go_wp2_with fail
        refine wp_region_quiet_below (by kernel_rfl) (by kernel_rfl) ?_
        repeat (go_big_quiet_step (fail))
        refine wpQuiet_nil ?_
        intro w9 hw'
        obtain⟨⟨dq,osq⟩,hw''⟩:=hw'
        have H9:Hid (Below w.heap.size w w9):=Lib.hid (by rw[hw''];exact HWO.out.trans ((below_regrown _ dq osq).mono HWO.out.size))
        clear hw'' r0 r1 d0 d1
        go_wp2_with fail
        go_meet
        case rel=>exact⟨⟨_,rfl,Lib.hid (fun _=>HCM.out.symm)⟩,H9⟩
      ·have HVV:Hid (V=(kd == 0)):=Lib.hid (by
        have h:=congrArg Prod.fst HV.out
        rw[truC_succ,if_neg (by rw[HM1.out];omega),HKD.out]at h
        rcases hkk with h1 | h1
        ·rw[if_pos h1]at h;rw[h1];exact h.symm
        ·rw[if_neg (by omega),if_pos h1]at h;rw[h1];exact h.symm)
       rcases hkk with h1 | h1
       ·have HCM:Hid (V=true):=Lib.hid (by rw[HVV.out,h1];rfl)
        have t0:(kd == 0)=true:=by rw[h1];rfl
        have t2:(kd == 2)=false:=by rw[h1];rfl
        have t3:(kd == 3)=false:=by rw[h1];rfl
        have t4:(kd == 4)=false:=by rw[h1];rfl
        have t5:(kd == 5)=false:=by rw[h1];rfl
        have t6:(kd == 6)=false:=by rw[h1];rfl
        have t7:(kd == 7)=false:=by rw[h1];rfl
        have t8:(kd == 8)=false:=by rw[h1];rfl
        clear h1
        clear HVV
        go_wp2_with fail
        go_meet
        case rel=>exact⟨⟨_,rfl,Lib.hid (fun _=>HCM.out.symm)⟩,HWO⟩
       ·have HCM:Hid (V=false):=Lib.hid (by rw[HVV.out,h1];rfl)
        have t0:(kd == 0)=false:=by rw[h1];rfl
        have t2:(kd == 2)=false:=by rw[h1];rfl
        have t3:(kd == 3)=false:=by rw[h1];rfl
        have t4:(kd == 4)=false:=by rw[h1];rfl
        have t5:(kd == 5)=false:=by rw[h1];rfl
        have t6:(kd == 6)=false:=by rw[h1];rfl
        have t7:(kd == 7)=false:=by rw[h1];rfl
        have t8:(kd == 8)=false:=by rw[h1];rfl
        clear h1
        clear HVV
        go_wp2_with fail
        go_meet
        case rel=>exact⟨⟨_,rfl,Lib.hid (fun _=>HCM.out.symm)⟩,HWO⟩
      ·obtain⟨b0,hb0⟩:∃b0,bs=[b0]:=by
        match hE:bs,HBL.out.trans h0 with
        | [x],_=>exact⟨x,rfl⟩
       subst hb0
       obtain⟨g7,c7,rfl,d0⟩:=HBR.out.one
       have HVV:Hid (zz=true→(!b0)=V):=Lib.hid (fun hz=>by
        rw[←HZZ.out]at hz
        obtain⟨hz1,hz2⟩:=Bool.and_eq_true_iff.1 hz
        have hq:=HBQ.out hz2 0 (by rw[HM2.out];omega) (by omega)
        injection hq with hq
        have h:=congrArg Prod.fst HV.out
        have hg:c.ks.getD 0 default=c.ks[0]'(by rw[HM2.out];omega):=by rw[List.getD_eq_getElem?_getD,List.getElem?_eq_getElem (by rw[HM2.out];omega)];rfl
        have hn:(truC ρ n (c.ks[0]'(by rw[HM2.out];omega))).2=true:=by
         rw[HN3.out]at hz2
         exact List.all_eq_true.1 hz2 _ (List.getElem_mem _)
        rw[truC_succ,if_neg (by rw[HM1.out];omega),HKD.out,if_neg (by omega),if_neg (by omega),hg,if_neg (by rw[hn];decide),if_pos h1]at h
        rw[hq];exact h)
       clear HBQ HBR h2 h0
       have t0:(kd == 0)=false:=by rw[h1];rfl
       have t2:(kd == 2)=false:=by rw[h1];rfl
       have t3:(kd == 3)=false:=by rw[h1];rfl
       have t4:(kd == 4)=false:=by rw[h1];rfl
       have t5:(kd == 5)=false:=by rw[h1];rfl
       have t6:(kd == 6)=true:=by rw[h1];rfl
       have t7:(kd == 7)=false:=by rw[h1];rfl
       have t8:(kd == 8)=false:=by rw[h1];rfl
       clear h1
       go_wp2_with fail
       go_meet
       case rel=>exact⟨⟨_,rfl,HVV⟩,HWO⟩
      ·obtain⟨b0,b1,hb0⟩:∃b0 b1,bs=[b0,b1]:=by
        match hE:bs,HBL.out.trans h0 with
        | [x,y],_=>exact⟨x,y,rfl⟩
       subst hb0
       obtain⟨g7,c7,rfl,d0,d1⟩:=HBR.out.two
       have HVV:Hid (zz=true→(if kd=7 then b0 && b1 else b0 || b1)=V):=Lib.hid (fun hz=>by
        rw[←HZZ.out]at hz
        obtain⟨hz1,hz2⟩:=Bool.and_eq_true_iff.1 hz
        have hq0:=HBQ.out hz2 0 (by rw[HM2.out];omega) (by omega)
        have hq1:=HBQ.out hz2 1 (by rw[HM2.out];omega) (by omega)
        injection hq0 with hq0
        injection hq1 with hq1
        have h:=congrArg Prod.fst HV.out
        have hg0:c.ks.getD 0 default=c.ks[0]'(by rw[HM2.out];omega):=by rw[List.getD_eq_getElem?_getD,List.getElem?_eq_getElem (by rw[HM2.out];omega)];rfl
        have hg1:c.ks.getD 1 default=c.ks[1]'(by rw[HM2.out];omega):=by rw[List.getD_eq_getElem?_getD,List.getElem?_eq_getElem (by rw[HM2.out];omega)];rfl
        have hn0:(truC ρ n (c.ks[0]'(by rw[HM2.out];omega))).2=true:=by
         rw[HN3.out]at hz2
         exact List.all_eq_true.1 hz2 _ (List.getElem_mem _)
        have hn1:(truC ρ n (c.ks[1]'(by rw[HM2.out];omega))).2=true:=by
         rw[HN3.out]at hz2
         exact List.all_eq_true.1 hz2 _ (List.getElem_mem _)
        rw[truC_succ,if_neg (by rw[HM1.out];omega),HKD.out,if_neg (by omega),if_neg (by omega),hg0,hg1,if_neg (by rw[hn0];decide),if_neg (by omega),if_neg (by rw[hn1];decide)]at h
        rw[hq0,hq1]
        by_cases h7:kd=7
        ·rw[if_pos h7]at h⊢;exact h
        ·rw[if_neg h7]at h⊢;exact h)
       clear HBQ HBR h2 h0
       rcases hkk with h1 | h1
       ·have HCM:Hid (zz=true→(b0 && b1)=V):=Lib.hid (fun h=>by have:=HVV.out h;rw[h1]at this;exact this)
        have t0:(kd == 0)=false:=by rw[h1];rfl
        have t2:(kd == 2)=false:=by rw[h1];rfl
        have t3:(kd == 3)=false:=by rw[h1];rfl
        have t4:(kd == 4)=false:=by rw[h1];rfl
        have t5:(kd == 5)=false:=by rw[h1];rfl
        have t6:(kd == 6)=false:=by rw[h1];rfl
        have t7:(kd == 7)=true:=by rw[h1];rfl
        have t8:(kd == 8)=false:=by rw[h1];rfl
        clear h1
        clear HVV
        cases b0 with
        | false=>
          go_wp2_with fail
          go_meet
          case rel=>exact⟨⟨_,rfl,HCM⟩,HWO⟩
        | true=>
          go_wp2_with fail
          go_meet
          case rel=>exact⟨⟨_,rfl,HCM⟩,HWO⟩
       ·have HCM:Hid (zz=true→(b0 || b1)=V):=Lib.hid (fun h=>by have:=HVV.out h;rw[h1]at this;exact this)
        have t0:(kd == 0)=false:=by rw[h1];rfl
        have t2:(kd == 2)=false:=by rw[h1];rfl
        have t3:(kd == 3)=false:=by rw[h1];rfl
        have t4:(kd == 4)=false:=by rw[h1];rfl
        have t5:(kd == 5)=false:=by rw[h1];rfl
        have t6:(kd == 6)=false:=by rw[h1];rfl
        have t7:(kd == 7)=false:=by rw[h1];rfl
        have t8:(kd == 8)=true:=by rw[h1];rfl
        clear h1
        clear HVV
        cases b0 with
        | false=>
          go_wp2_with fail
          go_meet
          case rel=>exact⟨⟨_,rfl,HCM⟩,HWO⟩
        | true=>
          go_wp2_with fail
          go_meet
          case rel=>exact⟨⟨_,rfl,HCM⟩,HWO⟩
     case rest=>
      obtain⟨⟨b,rfl,hbv⟩,hz⟩:=hcut
      go_wp2_with fail
      go_ret2
      exact⟨b,by rw[HV.out];rfl,by rw[HV.out];exact hbv.out,hz.out⟩
theorem rtruth_any (nm:ByteArray→Bool)(xs:List (ByteArray×Int))(av:Option Addr)(cv:Nat):∀(n:Nat) (c:CT) (cs:List Value) (w:World),snC nm n c=true→(condSh n).rel (Pak.Lo w.heap.size) w cs c→Pak.Sits varSh (Pak.Lo w.heap.size) w av xs→
 Calls Tryz.prog 26 #[.agg cs.toArray,.slice av xs.length cv] w (RTru (truC (fun s=>varOf s xs) n c) w)
 | 0,_,_,_,_,h,_=>h.elim
 | n+1,c,cs,w,hs,h,hv=>by
   obtain⟨hk,hes,hks⟩:=snC_parts hs
   obtain⟨u,v,rfl,_,⟨a1,c1,rfl,hs1⟩,⟨a2,c2,rfl,hs2⟩⟩:=h
   have hk2:c.es.length=2→2≤c.kind→c.kind≤5→c.ks.length=0:=fun _ h1 h2=>by
    unfold snC at hs
    rw[if_pos (by omega)]at hs
    simp only[Bool.and_eq_true,beq_iff_eq]at hs
    have:=hs.1.1.2
    unfold ksC at this
    rw[if_neg (by omega),if_neg (by omega)]at this
    exact this
   refine rtruth_box n _ c _ a1 _ c1 a2 _ c2 w rfl hs1 rfl hs2 ?_ (fun cs x W hx hb hr=>rvalue_any nm xs av cv n x cs W (hes x hx) hr (hv.below hb hb.size)) (fun cs x W hx hb hr=>rtruth_any nm xs av cv n x cs W (hks x hx) hr (hv.below hb hb.size))
   rcases hk with ⟨he,h1,h2⟩ | ⟨he,hk⟩
   ·exact .inl ⟨he,hk2 he h1 h2,by omega⟩
   ·rcases hk with ⟨h1,h2⟩ | ⟨h1,h2⟩ | ⟨h1,h2⟩ | ⟨h1,h2⟩
    ·exact .inr (.inl ⟨he,h2,h1⟩)
    ·exact .inr (.inr (.inl ⟨he,h2,h1⟩))
    ·exact .inr (.inr (.inr ⟨he,h2,.inl h1⟩))
    ·exact .inr (.inr (.inr ⟨he,h2,.inr h1⟩))
end
end Go.Proofs.YtfinhpfjokpcfaaGreatDoor
