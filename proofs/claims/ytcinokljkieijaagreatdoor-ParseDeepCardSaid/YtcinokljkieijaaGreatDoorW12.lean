/- Parts of a proof. -/
import Derived.Test.YtcinokljkieijaaGreatDoorW01
import Derived.Test.YtcinokljkieijaaGreatDoorW03
import Derived.Test.YtcinokljkieijaaGreatDoorW04
import Derived.Test.YtcinokljkieijaaGreatDoorW05
import Derived.Test.YtcinokljkieijaaGreatDoorW06
import Derived.Test.YtcinokljkieijaaGreatDoorW07
import Derived.Test.YtcinokljkieijaaGreatDoorW08
import Derived.Test.YtcinokljkieijaaGreatDoorW09
import Derived.Test.YtcinokljkieijaaGreatDoorW10
import Derived.Test.YtcinokljkieijaaGreatDoorW11
import Derived.Test.YtcinokljkieijaaGreatDoorQ17
import Derived.Laws.Tables
import Derived.Great.Ranges
set_option linter.unusedVariables false
set_option linter.unusedSimpArgs false
set_option maxHeartbeats 60000000
set_option maxRecDepth 100000
namespace Go.Proofs.YtcinokljkieijaaGreatDoor
namespace Dc
open Go.RowKit
theorem wpList_build_one {P:Program}{ops:Array Oper}{rest:List Oper}{o:Oper}{a:Act}{w:World}{Q:Exit→Act→World→Prop}(hw:Region.wanted o (yielded ops a.tmps)=true)(t e:TypeId)(x:Operand)(ho:o.op= .buildSlice t 1 #[(0,x)])(cs:List Value)(hx:a.eval x= .agg cs.toArray)(ht:P.underlying t=some (.slice e)){k b:Nat}
 (hin:(P.info? e).map (fun i=>(i.zero.map fun z=>z.cells.size,i.size,i.bytes))=some (some k,k,b)) (hk:0<k) (hk2:k≤1000) (hl:cs.length=k)
 (h:wpList P ops Q rest (a.put o.dst (.slice (some ⟨w.heap.size,0,none⟩) 1 1)) (w.alloc (.cells cs.toArray e))):wpList P ops Q (o :: rest) a w:=
 wpList_step fun K hK=>by
  rw[if_pos hw]
  exact wp_build_one t e x ho cs hx ht hin hk hk2 hl (hK _ _ h)
theorem md_stmt {C:PC}{s:PS}{w:World}(h:PSt C s w)(n:Nat):Md C.tk s (dstmt C.tk C.en n s).2:=md_of (ag_stmt h.sh n (Sq.same h.ok)) (mv_stmt n s)
theorem md_stmts2 {tk:List Tok}{en:Nat}(T:∀t∈tk,Shape t.kind t.text.data.toList){s:PS}(ok:s.er=none→s.ne≤50)(n k:Nat)(l:List ST):Md tk s (dstmts tk (dstmt tk en n) k l s).2:=md_of (ag_stmts T (fun h'=>ag_stmt T n h') (fun s=>mv_stmt n s) k l l s s (Sq.same ok) (fun _=>rfl)) (mv_stmts (fun s=>mv_stmt n s) k l s)
theorem md_block2 {tk:List Tok}{en:Nat}(T:∀t∈tk,Shape t.kind t.text.data.toList){s:PS}(ok:s.er=none→s.ne≤50)(n:Nat):Md tk s (dblock tk en (dstmt tk en n) s).2:=md_of (ag_block T (fun h'=>ag_stmt T n h') (fun s=>mv_stmt n s) (Sq.same ok)) (mv_block (fun s=>mv_stmt n s) s)
theorem dstmt_lt {C:PC}{s:PS}{w:World}(h:PSt C s w)(n:Nat)(e:(dstmt C.tk C.en (n+1) s).2.er=none):s.nx<(dstmt C.tk C.en (n+1) s).2.nx:=by
 have hr:=ag_stmt (en:=C.en) h.sh (n+1) (Sq.same h.ok)
 have e1:(pstmt C.tk C.en (n+1) s).2.er=none:=by rw[hr.1.er];exact e
 rw[←hr.1.eq e1]
 exact stmt_lt e1
def SSaid (n:Nat):Prop:=∀(C:PC) (s:PS) (w:World),PSt C s w→Fd n s→Calls Tryz.prog 69 #[C.p] w (PE (Vx stX) (dstmt C.tk C.en n) C s w)
def BSaid (n:Nat):Prop:=∀(C:PC) (s:PS) (w:World),PSt C s w→Fd (n+1) s→1≤n→Calls Tryz.prog 29 #[C.p] w (PE (Vs stX) (dblock C.tk C.en (dstmt C.tk C.en n)) C s w)
theorem block_loop (n:Nat)(IH:SSaid n):BSaid n:=fun C s w h hf hn1=>by
 have hlen:=h.len.1
 obtain⟨s1,hs1⟩:∃s',s'=dbegin C.tk C.en (⟨#[123]⟩:ByteArray) s:=⟨_,rfl⟩
 obtain⟨T,hT⟩:∃T,T=dstmts C.tk (dstmt C.tk C.en n) (C.tk.length+2) [] s1:=⟨_,rfl⟩
 have he:dblock C.tk C.en (dstmt C.tk C.en n) s=(T.1,dfin C.tk C.en (⟨#[125]⟩:ByteArray) T.2):=by rw[hT,hs1];rfl
 have HBG:=Lib.hid (begin_any C s (⟨#[123]⟩:ByteArray) w h (by decide))
 have X1:Hid (∀e1 W1,PU (dbegin C.tk C.en (⟨#[123]⟩:ByteArray)) C s w e1 W1→e1= .returned (.tuple #[])∧RP stX 65 C w s1 [] (.slice none 0 0) W1):=fun e1 W1 hu=>⟨hu.1,by rw[hs1];exact(RP.start (sh:=stX) (e:=65) h).step hu.2.2 hu.2.1⟩
 have hfd:Fd n s1:=by rw[hs1];exact hf.begin hn1 (by decide)
 have hok1:s1.er=none→s1.ne≤50:=by rw[hs1];exact begin_ok (by decide) h.ok
 have hmdT:Md C.tk s1 T.2:=by rw[hT];exact md_stmts2 h.sh hok1 n _ _
 have HS:=Lib.hid (fun s2 W (hW:PSt C s2 W) (m:Md C.tk s1 s2)=>IH C s2 W hW (hfd.mv m))
 have HSH:=Lib.hid (fun(s2:PS) W (hW:PSt C s2 W)=>md_stmt hW n)
 obtain⟨n',hn'⟩:∃n',n=n'+1:=⟨n - 1,by omega⟩
 have HLT:Hid (∀(s2:PS) W,PSt C s2 W→(dstmt C.tk C.en n s2).2.er=none→s2.nx<(dstmt C.tk C.en n s2).2.nx):=fun s2 W hW e=>by
  rw[hn']at e⊢
  exact dstmt_lt hW n' e
 have HFI:Hid (∀W,PSt C T.2 W→Calls Tryz.prog 70 #[C.p,.string (⟨#[125]⟩:ByteArray)] W (PU (dfin C.tk C.en (⟨#[125]⟩:ByteArray)) C T.2 W)):=fun W hW=>finish_any C T.2 (⟨#[125]⟩:ByteArray) W hW (by decide) (fun e=>by
  obtain⟨e1,_⟩:=(md_eat (en:=C.en) (tk:=C.tk) (t:=(⟨#[125]⟩:ByteArray)) (by decide) T.2).nx e
  obtain⟨e2,_,e3⟩:=hmdT.nx e1
  rw[hs1]at e2 e3
  obtain⟨e4,_,e5,_⟩:=begin_ne (by decide) e2
  have:=(h.inv e4).1
  omega)
 have HEND:Hid (∀W v xs s2 e1 W1,RP stX 65 C w s2 xs v W→(xs,s2)=T→xs.length≤70000→PU (dfin C.tk C.en (⟨#[125]⟩:ByteArray)) C T.2 W e1 W1→e1= .returned (.tuple #[])∧PE (Vs stX) (dblock C.tk C.en (dstmt C.tk C.en n)) C s w (.returned v) W1):=fun W v xs s2 e1 W1 hr ht hl hu=>⟨hu.1,(hr.step hu.2.2 hu.2.1).fin (by rw[he,←ht]) hl⟩
 have HT0:Hid (dstmts C.tk (dstmt C.tk C.en n) (C.tk.length+2) [] s1=T):=hT.symm
 have HLEN:=Lib.hid hlen
 generalize PE (Vs stX) (dblock C.tk C.en (dstmt C.tk C.en n)) C s w=Q at*
 unfold PC.p at*
 clear h hT he hfd hok1 hmdT hn' hf hs1
 go_enter Tryz.func29,Tryz.ntmps29
 go_wp2_with fail
 refine HBG.out.mono ?_
 rintro e w1 hu
 obtain⟨rfl,hr1⟩:=X1.out _ _ hu
 have HR1:=Lib.hid hr1
 clear hu hr1 HBG X1
 go_wp2_with fail
 go_loopw [3] (fun l wr=>∃(k:Nat) (s2:PS) (xs:List ST),Hid (RP stX 65 C w s2 xs l wr)∧Hid (dstmts C.tk (dstmt C.tk C.en n) k xs s2=T)∧Hid (Md C.tk s1 s2)∧Hid (1≤k∧(s2.er=none→C.tk.length+2≤k+s2.nx)∧xs.length+k≤C.tk.length+2)) (fun _ wr=>mz C wr)
 case atStart=>exact⟨_,_,_,HR1,HT0,Md.refl _ _,Lib.hid ⟨Nat.succ_le_succ (Nat.zero_le _),fun _=>Nat.le_add_right _ _,by simp⟩⟩
 case round=>
  clear HR1 HT0
  obtain⟨k,s2,xs,hr,hk,hmv,hfu⟩:=hrel
  obtain⟨wo,rfl⟩:∃wo:World,wo=wr:=⟨_,rfl⟩
  have hxs:xs.length≤70000:=by have:=hfu.out.2.2;have:=HLEN.out;omega
  have c4:=hr.out.ps.c4
  by_cases h20:s2.er=none
  ·have hz:ebad s2=0:=by unfold ebad;rw[h20]
   rw[hz]at c4
   have HN:=Lib.hid (next_any C s2 wo hr.out.ps)
   by_cases hc:dnx C.tk s2=(⟨#[125]⟩:ByteArray)
   ·have HT:Hid ((xs,s2)=T):=by
     obtain⟨k,rfl⟩:∃k',k=k'+1:=⟨k - 1,by have:=hfu.out.1;omega⟩
     have:=hk.out
     unfold dstmts at this
     rw[if_neg (fun e=>e.2 hc)]at this
     exact this
    have HG:Hid (∀W,Below wo.heap.size wo W→RP stX 65 C w s2 xs _ W):=fun W hb=>hr.out.step (KeptG.of_below hb) (hr.out.ps.up hb)
    have hx1:=(str_eq (⟨#[125]⟩:ByteArray)).2
    have hx2:=(str_eq (⟨#[125]⟩:ByteArray)).1
    rw[hc]at HN
    have hx3:(⟨#[125]⟩:ByteArray).toList=[125]:=by rw[Lib.toList_data]
    clear hc hr hk hfu hmv hz
    go_wp2_with fail
    refine HN.out.mono ?_
    rintro e w3 ⟨rfl,hb⟩
    have HR3:=Lib.hid (HG.out w3 hb)
    have HF3:Hid _:=Lib.hid (HFI.out w3 (by rw[←HT.out];exact HR3.out.ps))
    clear hb HN HG
    go_wp2_with fail
    refine HF3.out.mono ?_
    rintro e w4 hu
    obtain⟨rfl,hq⟩:=HEND.out _ _ _ _ _ _ HR3.out HT.out hxs hu
    have HQ:=Lib.hid hq
    clear hu hq HF3 HR3 HEND HFI
    go_wp2_with fail
    try go_ret
    exact HQ.out
   ·have hx1:=ne_lit [125] hc
    have HG:Hid (∀W,Below wo.heap.size wo W→RP stX 65 C w s2 xs _ W):=fun W hb=>hr.out.step (KeptG.of_below hb) (hr.out.ps.up hb)
    have HS3:=Lib.hid (fun W (hW:PSt C s2 W)=>HS.out s2 W hW hmv.out)
    have XF:Hid (∀W e1 W1 v,RP stX 65 C w s2 xs v W→PE (Vx stX) (dstmt C.tk C.en n) C s2 W e1 W1→∃cs:List Value,e1= .returned (.agg cs.toArray)∧cs.length=35∧∃v6 w6,(∀ty,(Builtin.append_ #[61,61] ty #[v,.slice (some ⟨W1.heap.size,0,none⟩) 1 1]).run Tryz.prog (W1.alloc (.cells cs.toArray 65))= .ok v6 w6)∧RP stX 65 C w (dstmt C.tk C.en n s2).2 (xs ++ [(dstmt C.tk C.en n s2).1]) v6 w6):=fun W e1 W1 v hr hq=>by
     obtain⟨cs,b1,b2,_,b3,b4,b5⟩:=pe_x hq
     obtain⟨v6,w6,r1,r2⟩:=hr.push (t:=61) (x:=(dstmt C.tk C.en n s2).1) Tryz.underlying61 Tryz.rowStmt (by decide) (by decide) b5 b4 b3 hxs
     exact⟨cs,b1,b2,v6,w6,r1,r2⟩
    have HL:Hid (∀v6 w6,RP stX 65 C w (dstmt C.tk C.en n s2).2 (xs ++ [(dstmt C.tk C.en n s2).1]) v6 w6→(∃(k:Nat) (s2:PS) (xs:List ST),Hid (RP stX 65 C w s2 xs v6 w6)∧Hid (dstmts C.tk (dstmt C.tk C.en n) k xs s2=T)∧Hid (Md C.tk s1 s2)∧Hid (1≤k∧(s2.er=none→C.tk.length+2≤k+s2.nx)∧xs.length+k≤C.tk.length+2))∧mz C w6<mz C wo):=fun v6 w6 h6=>by
     have hlt:=HLT.out s2 wo hr.out.ps
     have hfk:=hfu.out.2.1 h20
     have hfl:=hfu.out.2.2
     have hnl:=(hr.out.ps.inv h20).2.2
     obtain⟨k,rfl⟩:∃k',k=k'+1:=⟨k - 1,by omega⟩
     refine⟨⟨k,_,_,h6, ?_,hmv.out.trans (HSH.out s2 wo hr.out.ps), ?_⟩,mz_less hr.out.ps h20 h6.ps hlt⟩
     ·have:=hk.out
      unfold dstmts at this
      rw[if_pos ⟨h20,hc⟩]at this
      exact this
     ·exact⟨by omega,fun e=>by have:=hlt e;omega,by rw[List.length_append];simp only[List.length_singleton];omega⟩
    generalize dnx C.tk s2=tx at*
    clear hc hr hk hfu hmv hz h20 HLT HSH HS
    go_wp2_with fail
    refine HN.out.mono ?_
    rintro e w3 ⟨rfl,hb⟩
    have HR3:=Lib.hid (HG.out w3 hb)
    have HF3:=Lib.hid (HS3.out w3 HR3.out.ps)
    clear hb HN HG HS3 c4
    go_wp2_with fail
    refine HF3.out.mono ?_
    rintro e w4 hq
    obtain⟨cs4,rfl,hl4,v6,w6,hrun,hR6⟩:=XF.out _ _ _ _ HR3.out hq
    have HL6:=Lib.hid (HL.out _ _ hR6)
    clear hq HF3 HR3 hR6 HL XF
    go_wp2_with (first | (refine wpList_build_one (by kernel_rfl) 61 65 _ rfl cs4 rfl Tryz.underlying61 Tryz.rowStmt (by decide) (by decide) hl4 ?_) | (at_builtin;refine Lib.wpList_append_run _ rfl _ _ _ _ rfl _ _ rfl rfl _ _ (hrun _) ?_))
    go_roundw
    case rel=>first | exact HL6.out.1 | ((repeat apply Exists.intro);exact⟨HL6.out.1,rfl⟩)
    case measure=>exact HL6.out.2
  ·have hz:ebad s2≠0:=by
    rcases hr.out.ps.bad with ⟨e,_⟩ | ⟨_,e⟩
    ·exact absurd e h20
    ·exact e
   have hz1:(ebad s2 == 0)=false:=by simpa using hz
   have HT:Hid ((xs,s2)=T):=by
    obtain⟨k,rfl⟩:∃k',k=k'+1:=⟨k - 1,by have:=hfu.out.1;omega⟩
    have:=hk.out
    unfold dstmts at this
    rw[if_neg (fun e=>h20 e.1)]at this
    exact this
   have HR3:=Lib.hid hr.out
   have HF3:Hid _:=Lib.hid (HFI.out wo (by rw[←HT.out];exact HR3.out.ps))
   generalize ebad s2=zb at*
   clear hr hk hfu hmv h20
   go_wp2_with fail
   refine HF3.out.mono ?_
   rintro e w4 hu
   obtain⟨rfl,hq⟩:=HEND.out _ _ _ _ _ _ HR3.out HT.out hxs hu
   have HQ:=Lib.hid hq
   clear hu hq HF3 HR3 HEND HFI
   go_wp2_with fail
   try go_ret
   exact HQ.out
end Dc
namespace Dc
open Go.RowKit
section
variable {P:Program}
theorem wpList_build_z {ops:Array Oper}{rest:List Oper}{o:Oper}{a:Act}{w:World}{Q:Exit→Act→World→Prop}(hw:Region.wanted o (yielded ops a.tmps)=true)(ty:TypeId)(ho:o.op= .build ty #[])(zs:List Value)(hz:P.built ty []=some zs.toArray)
 (h:wpList P ops Q rest (a.put o.dst (.agg zs.toArray)) w):wpList P ops Q (o :: rest) a w:=
 wpList_step fun K hK=>by
  rw[if_pos hw]
  have hr:(execOp a.eval o).run P w= .ok (.value (.agg zs.toArray)) w:=by
   unfold execOp
   have:=run_build (P:=P) w ty #[] zs.toArray hz
   simp only[ho,List.map_toArray,List.map_nil,Sem.run_bind,this,Result.andThen_ok,Sem.run_pure]
  unfold Oper.wp
  rw[hr,Oper.upon_value]
  exact hK _ _ h
theorem wpList_alloc_z {ops:Array Oper}{rest:List Oper}{o:Oper}{a:Act}{w:World}{Q:Exit→Act→World→Prop}(hw:Region.wanted o (yielded ops a.tmps)=true)(ty:TypeId)(ho:o.op= .alloc ty)(zs:List Value)(hz:(P.info? ty).map (·.zero)=some (some (.agg zs.toArray)))
 (h:wpList P ops Q rest (a.put o.dst (.pointer (some ⟨w.heap.size,0,none⟩))) (w.alloc (.cells zs.toArray ty))):wpList P ops Q (o :: rest) a w:=
 wpList_step fun K hK=>by
  rw[if_pos hw]
  obtain⟨i,hi,hzi⟩:∃i,P.info? ty=some i∧i.zero=some (.agg zs.toArray):=by
   cases hp:P.info? ty with
   | none=>rw[hp]at hz;cases hz
   | some i=>rw[hp]at hz;exact⟨i,rfl,by simpa using hz⟩
  have hzr:(zeroValue ty).run P w= .ok (.agg zs.toArray) w:=by simp[zeroValue,typeInfo,hi,hzi]
  have hr:(execOp a.eval o).run P w= .ok (.value (.pointer (some ⟨w.heap.size,0,none⟩))) (w.alloc (.cells zs.toArray ty)):=by
   unfold execOp
   simp only[ho,Instr.alloc,Sem.run_bind,hzr,Result.andThen_ok,newVar,newRow,run_newObj_alloc,Sem.run_pure,Value.cells]
  unfold Oper.wp
  rw[hr,Oper.upon_value]
  exact hK _ _ h
end
theorem Tryz.stZero:(Tryz.prog.info? 65).map (·.zero)=some (some (.agg zSt.toArray)):=by kernel_rfl
theorem Tryz.stBuilt:Tryz.prog.built 65 []=some zSt.toArray:=by kernel_rfl
theorem Tryz.qtZero:(Tryz.prog.info? 63).map (·.zero)=some (some (.agg zQt.toArray)):=by kernel_rfl
theorem Tryz.qtBuilt:Tryz.prog.built 63 []=some zQt.toArray:=by kernel_rfl
theorem Tryz.stSize:(Tryz.prog.info? 65).map (·.size)=some zSt.length:=by kernel_rfl
theorem Tryz.qtSize:(Tryz.prog.info? 63).map (·.size)=some zQt.length:=by kernel_rfl
theorem zSt_one:∀u∈zSt,u.oneCell'=true:=stX.one (zSt_rel (fun _=>True) default)
theorem zQt_one:∀u∈zQt,u.oneCell'=true:=qtX.one (zQt_rel (fun _=>True) default)
end Dc
namespace Dc
open Go.RowKit
theorem stmt_name (n:Nat)(C:PC)(s:PS)(w:World)(h:PSt C s w)(hm:pkd C.tk s=1):
 Calls Tryz.prog 69 #[C.p] w (PE (Vx stX) (dstmt C.tk C.en (n+1)) C s w):=by
 have hg:=h.lt
 have hl0:=LP.fresh (sh:=stX) (t:=65) h rfl zSt_ni zSt_rel
 have HN:=Lib.hid (next_any C s _ hl0.ps)
 have HKD:=Lib.hid (fun W (hW:PSt C s W)=>kind_any C s W hW)
 have HLX:Hid (∀W,Below ((w.alloc (.cells zSt.toArray 65)).alloc (.cells zSt.toArray 65)).heap.size ((w.alloc (.cells zSt.toArray 65)).alloc (.cells zSt.toArray 65)) W→LP stX C w (w.heap.size+1) s default zSt W):=fun W hb=>hl0.step (KeptG.of_below hb) (hl0.ps.up hb)
 obtain⟨fq0,hfq0⟩:∃x',x'=(dtext C.tk C.en 1 s).1:=⟨_,rfl⟩
 obtain⟨s1,hs1⟩:∃s',s'=(dtext C.tk C.en 1 s).2:=⟨_,rfl⟩
 have H0:=Lib.hid (fun W (hW:PSt C s W)=>text_any C s 1 W hW (by decide))
 have X0:Hid (∀W e1 W1,PSt C s W→PE Vt (dtext C.tk C.en 1) C s W e1 W1→e1= .returned (.string fq0)∧fq0.size≤maxLen∧PSt C s1 W1∧KeptG C.g W W1):=fun W e1 W1 hS hq=>by rw[hs1,hfq0];exact⟨(pe_v hq).1,dtext_size 1 hS (by decide),(pe_v hq).2⟩
 obtain⟨s2,hs2⟩:∃s',s'=deat C.tk C.en (⟨#[58,61]⟩:ByteArray) s1:=⟨_,rfl⟩
 have H1:=Lib.hid (fun W (hW:PSt C s1 W)=>eat_any C s1 (⟨#[58,61]⟩:ByteArray) W hW (by decide))
 have X1:Hid (∀W e1 W1,PU (deat C.tk C.en (⟨#[58,61]⟩:ByteArray)) C s1 W e1 W1→e1= .returned (.tuple #[])∧PSt C s2 W1∧KeptG C.g W W1):=fun W e1 W1 hu=>by rw[hs2];exact hu
 obtain⟨s3,hs3⟩:∃s',s'=(dwhat C.tk C.en { sp0 with name:=fq0 } s2).2:=⟨_,rfl⟩
 have H2:=Lib.hid (fun W cs (hl:LP stX C w (w.heap.size+1) s2 (ST.mk { sp0 with name:=fq0 } [] []) cs W)=>what_any C s2 w W (w.heap.size+1) _ cs hl)
 have hs_s3:=Lib.hid hs3
 obtain⟨s4,hs4⟩:∃s',s'=deat C.tk C.en (⟨#[59]⟩:ByteArray) s3:=⟨_,rfl⟩
 have H3:=Lib.hid (fun W (hW:PSt C s3 W)=>eat_any C s3 (⟨#[59]⟩:ByteArray) W hW (by decide))
 have X3:Hid (∀W e1 W1,PU (deat C.tk C.en (⟨#[59]⟩:ByteArray)) C s3 W e1 W1→e1= .returned (.tuple #[])∧PSt C s4 W1∧KeptG C.g W W1):=fun W e1 W1 hu=>by rw[hs4];exact hu
 have ed:dstmt C.tk C.en (n+1) s=((ST.mk (dwhat C.tk C.en { sp0 with name:=fq0 } s2).1 [] []),s4):=by
  rw[dstmt,if_pos hm]
  subst_vars
  rfl
 have HO:=Lib.hid (fun W cs (hl:LP stX C w (w.heap.size+1) s4 (ST.mk (dwhat C.tk C.en { sp0 with name:=fq0 } s2).1 [] []) cs W)=>hl.outw (f:=dstmt C.tk C.en (n+1)) ed)
 have hk1:(pkd C.tk s == 1)=true:=by rw[hm];rfl
 have hk2:pkd C.tk s=1:=hm
 generalize dnx C.tk s=tx at*
 generalize pkd C.tk s=kd at*
 generalize PE (Vx stX) (dstmt C.tk C.en (n+1)) C s w=Q at*
 clear hl0 h ed hm hfq0 hs1 hs2 hs3 hs4 
 unfold PC.p at*
 go_enter Tryz.func69,Tryz.ntmps69
 go_wp2_with (first | (refine wpList_alloc_z (by kernel_rfl) 65 rfl zSt Tryz.stZero ?_) | (refine wpList_build_z (by kernel_rfl) 65 rfl zSt Tryz.stBuilt ?_) | (refine gateS 65 3 rfl ?_;refine wpList_store_fresh (by kernel_rfl) 65 _ _ rfl zSt.toArray rfl zSt rfl Tryz.stSize (by simp) zSt_one ?_))
 refine HN.out.mono ?_
 rintro e w0 ⟨rfl,hb⟩
 have HL0:=Lib.hid (HLX.out w0 hb)
 have HK0:=Lib.hid (HKD.out w0 HL0.out.ps)
 clear hb HN HLX HKD
 go_wp2_with fail
 refine HK0.out.mono ?_
 rintro e w1 ⟨rfl,hb⟩
 have HL1:=Lib.hid (HL0.out.step (KeptG.of_below hb) (HL0.out.ps.up hb))
 clear hb HK0 HL0
 go_wp2_with fail
 refine(H0.out _ HL1.out.ps).mono ?_
 rintro e w2 hq
 obtain⟨rfl,hb,hp,hk⟩:=X0.out _ _ _ HL1.out.ps hq
 have HM2:=Lib.hid (HL1.out.step hk hp)
 obtain⟨⟨v2,_,y2c⟩,f2c⟩:=HM2.out.cell (j:=1) (by show 1<35;omega)
 have HL2:Hid (LP stX C (w) (w.heap.size+1) s1 (ST.mk { sp0 with name:=fq0 } [] []) _ (w2.setCell ⟨w.heap.size+1,1,none⟩ (.string fq0))):=Lib.hid (HM2.out.set1 (o:=1) (v:= .string fq0) (by show 1<35;omega) (st_ni HM2.out.tree) (fun S W h=>(st_name fq0 hb) h))
 clear hq hp hk hb H0 X0 HM2
 clear HL1
 go_wp2_with fail
 clear y2c f2c
 refine(H1.out _ HL2.out.ps).mono ?_
 rintro e w3 hq
 obtain⟨rfl,hp,hk⟩:=X1.out _ _ _ hq
 have HL3:=Lib.hid (HL2.out.step hk hp)
 clear hq hp hk H1 X1
 clear HL2
 go_wp2_with fail
 refine(H2.out _ _ HL3.out).mono ?_
 rintro e w4 hq
 obtain⟨rfl,cs4,hl4⟩:=hq
 have HL4:Hid (LP stX C w (w.heap.size+1) s3 (ST.mk (dwhat C.tk C.en { sp0 with name:=fq0 } s2).1 [] []) cs4 w4):=Lib.hid (by rw[hs_s3.out];exact hl4)
 clear H2 hl4
 clear HL3
 go_wp2_with fail
 refine(H3.out _ HL4.out.ps).mono ?_
 rintro e w5 hq
 obtain⟨rfl,hp,hk⟩:=X3.out _ _ _ hq
 have HL5:=Lib.hid (HL4.out.step hk hp)
 clear hq hp hk H3 X3
 clear HL4
 obtain⟨hl9,h19,hr9,ht9,hf9⟩:=HO.out _ _ HL5.out
 have HF9:=Lib.hid hf9
 clear hf9 HL5
 go_wp2_with (first | (refine gateL 65 3 rfl ?_;refine wpList_load_mid rfl 65 _ rfl (w.heap.size+1) 0 rfl _ _ hr9 Tryz.underlying65 rfl (by rw[hl9];kernel_rfl) ?_) | (refine gateS 65 2 rfl ?_;refine wpList_store_there rfl 65 _ _ rfl w.heap.size 0 rfl _ rfl (by rw[hl9];kernel_rfl) h19 ht9 ?_;intro w9 hst))
 exact bodyPost_ret (v:=_) (results_one rfl _ _ _ _ _ rfl (Tryz.stLoad hst.at' hl9)) rfl (HF9.out _ hst)
theorem stmt_skip (n:Nat)(C:PC)(s:PS)(w:World)(h:PSt C s w)(hk:¬pkd C.tk s=1)(hm:dnx C.tk s=(⟨#[115,107,105,112]⟩:ByteArray)):
 Calls Tryz.prog 69 #[C.p] w (PE (Vx stX) (dstmt C.tk C.en (n+1)) C s w):=by
 have hg:=h.lt
 have hl0:=LP.fresh (sh:=stX) (t:=65) h rfl zSt_ni zSt_rel
 have HN:=Lib.hid (next_any C s _ hl0.ps)
 have HKD:=Lib.hid (fun W (hW:PSt C s W)=>kind_any C s W hW)
 have HLX:Hid (∀W,Below ((w.alloc (.cells zSt.toArray 65)).alloc (.cells zSt.toArray 65)).heap.size ((w.alloc (.cells zSt.toArray 65)).alloc (.cells zSt.toArray 65)) W→LP stX C w (w.heap.size+1) s default zSt W):=fun W hb=>hl0.step (KeptG.of_below hb) (hl0.ps.up hb)
 obtain⟨h0,hnx⟩:=dnx_inv (tk:=C.tk) (s:=s) (by rw[hm];decide)
 obtain⟨s1,hs1⟩:∃s',s'=pgo s:=⟨_,rfl⟩
 have X0:Hid (∀W,PSt C s W→(W.cell? ⟨C.g,2,none⟩=some (.int .i64 s.nx)∧W.frozen? ⟨C.g,2,none⟩=false∧IntKind.i64.wrap ((s.nx:Int)+1)=(s.nx:Int)+1)∧PSt C s1 (W.setCell ⟨C.g,2,none⟩ (.int .i64 ((s.nx:Int)+1)))):=fun W hW=>⟨two_wrap hW h0,by rw[hs1];exact hW.go h0 hnx⟩
 obtain⟨s2,hs2⟩:∃s',s'=deat C.tk C.en (⟨#[59]⟩:ByteArray) s1:=⟨_,rfl⟩
 have H1:=Lib.hid (fun W (hW:PSt C s1 W)=>eat_any C s1 (⟨#[59]⟩:ByteArray) W hW (by decide))
 have X1:Hid (∀W e1 W1,PU (deat C.tk C.en (⟨#[59]⟩:ByteArray)) C s1 W e1 W1→e1= .returned (.tuple #[])∧PSt C s2 W1∧KeptG C.g W W1):=fun W e1 W1 hu=>by rw[hs2];exact hu
 have ed:dstmt C.tk C.en (n+1) s=(default,s2):=by
  rw[dstmt,if_neg hk,if_neg (by rw[hm];decide),if_neg (by rw[hm];decide)]
  unfold dsimple
  rw[if_pos hm]
  subst_vars
  rfl
 have HO:=Lib.hid (fun W cs (hl:LP stX C w (w.heap.size+1) s2 default cs W)=>hl.outw (f:=dstmt C.tk C.en (n+1)) ed)
 have hx0:=eq_lit [115,107,105,112] hm
 have hk1:(pkd C.tk s == 1)=false:=by simpa using hk
 have hk2:¬pkd C.tk s=1:=hk
 generalize dnx C.tk s=tx at*
 generalize pkd C.tk s=kd at*
 generalize PE (Vx stX) (dstmt C.tk C.en (n+1)) C s w=Q at*
 clear hl0 h ed hk hm h0 hnx hs1 hs2 
 unfold PC.p at*
 go_enter Tryz.func69,Tryz.ntmps69
 go_wp2_with (first | (refine wpList_alloc_z (by kernel_rfl) 65 rfl zSt Tryz.stZero ?_) | (refine wpList_build_z (by kernel_rfl) 65 rfl zSt Tryz.stBuilt ?_) | (refine gateS 65 3 rfl ?_;refine wpList_store_fresh (by kernel_rfl) 65 _ _ rfl zSt.toArray rfl zSt rfl Tryz.stSize (by simp) zSt_one ?_))
 refine HN.out.mono ?_
 rintro e w0 ⟨rfl,hb⟩
 have HL0:=Lib.hid (HLX.out w0 hb)
 have HK0:=Lib.hid (HKD.out w0 HL0.out.ps)
 clear hb HN HLX HKD
 go_wp2_with fail
 refine HK0.out.mono ?_
 rintro e w1 ⟨rfl,hb⟩
 have HL1:=Lib.hid (HL0.out.step (KeptG.of_below hb) (HL0.out.ps.up hb))
 clear hb HK0 HL0
 obtain⟨⟨c2_0,f2_0,hw2_0⟩,hp⟩:=X0.out _ HL1.out.ps
 have HG0:=Lib.hid (HL1.out.step (KeptG.set (g:=C.g)) hp)
 clear hp X0
 clear HL1
 go_wp2_with fail
 clear c2_0 f2_0 hw2_0
 refine(H1.out _ HG0.out.ps).mono ?_
 rintro e w2 hq
 obtain⟨rfl,hp,hk⟩:=X1.out _ _ _ hq
 have HL2:=Lib.hid (HG0.out.step hk hp)
 clear hq hp hk H1 X1
 clear HG0
 obtain⟨hl9,h19,hr9,ht9,hf9⟩:=HO.out _ _ HL2.out
 have HF9:=Lib.hid hf9
 clear hf9 HL2
 go_wp2_with (first | (refine gateL 65 3 rfl ?_;refine wpList_load_mid rfl 65 _ rfl (w.heap.size+1) 0 rfl _ _ hr9 Tryz.underlying65 rfl (by rw[hl9];kernel_rfl) ?_) | (refine gateS 65 2 rfl ?_;refine wpList_store_there rfl 65 _ _ rfl w.heap.size 0 rfl _ rfl (by rw[hl9];kernel_rfl) h19 ht9 ?_;intro w9 hst))
 exact bodyPost_ret (v:=_) (results_one rfl _ _ _ _ _ rfl (Tryz.stLoad hst.at' hl9)) rfl (HF9.out _ hst)
theorem stmt_put (n:Nat)(C:PC)(s:PS)(w:World)(h:PSt C s w)(hk:¬pkd C.tk s=1)(hm:dnx C.tk s=(⟨#[112,117,116]⟩:ByteArray)):
 Calls Tryz.prog 69 #[C.p] w (PE (Vx stX) (dstmt C.tk C.en (n+1)) C s w):=by
 have hg:=h.lt
 have hl0:=LP.fresh (sh:=stX) (t:=65) h rfl zSt_ni zSt_rel
 have HN:=Lib.hid (next_any C s _ hl0.ps)
 have HKD:=Lib.hid (fun W (hW:PSt C s W)=>kind_any C s W hW)
 have HLX:Hid (∀W,Below ((w.alloc (.cells zSt.toArray 65)).alloc (.cells zSt.toArray 65)).heap.size ((w.alloc (.cells zSt.toArray 65)).alloc (.cells zSt.toArray 65)) W→LP stX C w (w.heap.size+1) s default zSt W):=fun W hb=>hl0.step (KeptG.of_below hb) (hl0.ps.up hb)
 obtain⟨h0,hnx⟩:=dnx_inv (tk:=C.tk) (s:=s) (by rw[hm];decide)
 obtain⟨s1,hs1⟩:∃s',s'=pgo s:=⟨_,rfl⟩
 have X0:Hid (∀W,PSt C s W→(W.cell? ⟨C.g,2,none⟩=some (.int .i64 s.nx)∧W.frozen? ⟨C.g,2,none⟩=false∧IntKind.i64.wrap ((s.nx:Int)+1)=(s.nx:Int)+1)∧PSt C s1 (W.setCell ⟨C.g,2,none⟩ (.int .i64 ((s.nx:Int)+1)))):=fun W hW=>⟨two_wrap hW h0,by rw[hs1];exact hW.go h0 hnx⟩
 obtain⟨eq1,heq1⟩:∃x',x'=(dex C.tk C.en s1).1:=⟨_,rfl⟩
 obtain⟨s2,hs2⟩:∃s',s'=(dex C.tk C.en s1).2:=⟨_,rfl⟩
 have H1:=Lib.hid (fun W (hW:PSt C s1 W)=>expr_any C s1 W hW)
 have X1:Hid (∀W e1 W1 cs,LP stX C (w) (w.heap.size+1) s1 (ST.mk { sp0 with kind:=3 } [] []) cs W→PE (Vx exX) (dex C.tk C.en) C s1 W e1 W1→∃cs2:List Value,e1= .returned (.agg cs2.toArray)∧cs2.length=4∧(∀u∈cs2,u.oneCell'=true)∧W1.there (w.heap.size+1) 4 cs2.length∧∀W9,Stored (w.heap.size+1) 4 cs2 W1 W9→LP stX C (w) (w.heap.size+1) s2 (ST.mk { sp0 with kind:=3,e:=eq1 } [] []) (spl cs 4 cs2) W9):=fun W e1 W1 cs hl hq=>by
  obtain⟨cs2,a1,a2,a3,a4,a5,a6⟩:=pe_x hq
  have a2:cs2.length=4:=a2
  rw[←hs2]at a5
  rw[←heq1]at a4
  exact⟨cs2,a1,a2,a3,by rw[a2];exact hl.part a6 a5 (by show 4+4≤35;omega),fun W9 hst=>hl.setP a6 a5 a4 (by show 4+4≤35;omega) (st_ni hl.tree) hst (fun S W hx hy=>st_e hy hx)⟩
 obtain⟨s3,hs3⟩:∃s',s'=deat C.tk C.en (⟨#[46]⟩:ByteArray) s2:=⟨_,rfl⟩
 have H2:=Lib.hid (fun W (hW:PSt C s2 W)=>eat_any C s2 (⟨#[46]⟩:ByteArray) W hW (by decide))
 have X2:Hid (∀W e1 W1,PU (deat C.tk C.en (⟨#[46]⟩:ByteArray)) C s2 W e1 W1→e1= .returned (.tuple #[])∧PSt C s3 W1∧KeptG C.g W W1):=fun W e1 W1 hu=>by rw[hs3];exact hu
 obtain⟨fq3,hfq3⟩:∃x',x'=(dtext C.tk C.en 1 s3).1:=⟨_,rfl⟩
 obtain⟨s4,hs4⟩:∃s',s'=(dtext C.tk C.en 1 s3).2:=⟨_,rfl⟩
 have H3:=Lib.hid (fun W (hW:PSt C s3 W)=>text_any C s3 1 W hW (by decide))
 have X3:Hid (∀W e1 W1,PSt C s3 W→PE Vt (dtext C.tk C.en 1) C s3 W e1 W1→e1= .returned (.string fq3)∧fq3.size≤maxLen∧PSt C s4 W1∧KeptG C.g W W1):=fun W e1 W1 hS hq=>by rw[hs4,hfq3];exact⟨(pe_v hq).1,dtext_size 1 hS (by decide),(pe_v hq).2⟩
 obtain⟨s5,hs5⟩:∃s',s'=deat C.tk C.en (⟨#[58,61]⟩:ByteArray) s4:=⟨_,rfl⟩
 have H4:=Lib.hid (fun W (hW:PSt C s4 W)=>eat_any C s4 (⟨#[58,61]⟩:ByteArray) W hW (by decide))
 have X4:Hid (∀W e1 W1,PU (deat C.tk C.en (⟨#[58,61]⟩:ByteArray)) C s4 W e1 W1→e1= .returned (.tuple #[])∧PSt C s5 W1∧KeptG C.g W W1):=fun W e1 W1 hu=>by rw[hs5];exact hu
 obtain⟨vq5,hvq5⟩:∃x',x'=(dex C.tk C.en s5).1:=⟨_,rfl⟩
 obtain⟨s6,hs6⟩:∃s',s'=(dex C.tk C.en s5).2:=⟨_,rfl⟩
 have H5:=Lib.hid (fun W (hW:PSt C s5 W)=>expr_any C s5 W hW)
 have X5:Hid (∀W e1 W1 cs,LP stX C (w) (w.heap.size+1) s5 (ST.mk { sp0 with kind:=3,e:=eq1,field:=fq3 } [] []) cs W→PE (Vx exX) (dex C.tk C.en) C s5 W e1 W1→∃cs2:List Value,e1= .returned (.agg cs2.toArray)∧cs2.length=4∧(∀u∈cs2,u.oneCell'=true)∧W1.there (w.heap.size+1) 8 cs2.length∧∀W9,Stored (w.heap.size+1) 8 cs2 W1 W9→LP stX C (w) (w.heap.size+1) s6 (ST.mk { sp0 with kind:=3,e:=eq1,field:=fq3,v:=vq5 } [] []) (spl cs 8 cs2) W9):=fun W e1 W1 cs hl hq=>by
  obtain⟨cs2,a1,a2,a3,a4,a5,a6⟩:=pe_x hq
  have a2:cs2.length=4:=a2
  rw[←hs6]at a5
  rw[←hvq5]at a4
  exact⟨cs2,a1,a2,a3,by rw[a2];exact hl.part a6 a5 (by show 8+4≤35;omega),fun W9 hst=>hl.setP a6 a5 a4 (by show 8+4≤35;omega) (st_ni hl.tree) hst (fun S W hx hy=>st_v hy hx)⟩
 obtain⟨s7,hs7⟩:∃s',s'=deat C.tk C.en (⟨#[59]⟩:ByteArray) s6:=⟨_,rfl⟩
 have H6:=Lib.hid (fun W (hW:PSt C s6 W)=>eat_any C s6 (⟨#[59]⟩:ByteArray) W hW (by decide))
 have X6:Hid (∀W e1 W1,PU (deat C.tk C.en (⟨#[59]⟩:ByteArray)) C s6 W e1 W1→e1= .returned (.tuple #[])∧PSt C s7 W1∧KeptG C.g W W1):=fun W e1 W1 hu=>by rw[hs7];exact hu
 have ed:dstmt C.tk C.en (n+1) s=((ST.mk { sp0 with kind:=3,e:=eq1,field:=fq3,v:=vq5 } [] []),s7):=by
  rw[dstmt,if_neg hk,if_neg (by rw[hm];decide),if_neg (by rw[hm];decide)]
  unfold dsimple
  rw[if_neg (by rw[hm];decide),if_pos hm]
  subst_vars
  rfl
 have HO:=Lib.hid (fun W cs (hl:LP stX C w (w.heap.size+1) s7 (ST.mk { sp0 with kind:=3,e:=eq1,field:=fq3,v:=vq5 } [] []) cs W)=>hl.outw (f:=dstmt C.tk C.en (n+1)) ed)
 have hx0:((dnx C.tk s).toList == [115,107,105,112])=false:=ne_lit [115,107,105,112] (by rw[hm];decide)
 have hx1:=eq_lit [112,117,116] hm
 have hk1:(pkd C.tk s == 1)=false:=by simpa using hk
 have hk2:¬pkd C.tk s=1:=hk
 generalize dnx C.tk s=tx at*
 generalize pkd C.tk s=kd at*
 generalize PE (Vx stX) (dstmt C.tk C.en (n+1)) C s w=Q at*
 clear hl0 h ed hk hm h0 hnx hs1 heq1 hs2 hs3 hfq3 hs4 hs5 hvq5 hs6 hs7 
 unfold PC.p at*
 go_enter Tryz.func69,Tryz.ntmps69
 go_wp2_with (first | (refine wpList_alloc_z (by kernel_rfl) 65 rfl zSt Tryz.stZero ?_) | (refine wpList_build_z (by kernel_rfl) 65 rfl zSt Tryz.stBuilt ?_) | (refine gateS 65 3 rfl ?_;refine wpList_store_fresh (by kernel_rfl) 65 _ _ rfl zSt.toArray rfl zSt rfl Tryz.stSize (by simp) zSt_one ?_))
 refine HN.out.mono ?_
 rintro e w0 ⟨rfl,hb⟩
 have HL0:=Lib.hid (HLX.out w0 hb)
 have HK0:=Lib.hid (HKD.out w0 HL0.out.ps)
 clear hb HN HLX HKD
 go_wp2_with fail
 refine HK0.out.mono ?_
 rintro e w1 ⟨rfl,hb⟩
 have HL1:=Lib.hid (HL0.out.step (KeptG.of_below hb) (HL0.out.ps.up hb))
 clear hb HK0 HL0
 obtain⟨⟨c2_0,f2_0,hw2_0⟩,hp⟩:=X0.out _ HL1.out.ps
 have HG0:=Lib.hid (HL1.out.step (KeptG.set (g:=C.g)) hp)
 clear hp X0
 clear HL1
 obtain⟨⟨v1_1_0k,_,y1_1_0k⟩,f1_1_0k⟩:=HG0.out.cell (j:=0) (by show 0<35;omega)
 have HK1_1_0:Hid (LP stX C (w) (w.heap.size+1) s1 (ST.mk { sp0 with kind:=3 } [] []) _ ((w1.setCell ⟨C.g,2,none⟩ (.int .i64 ((s.nx:Int)+1))).setCell ⟨w.heap.size+1,0,none⟩ (.int .i64 3))):=Lib.hid (HG0.out.set1 (o:=0) (v:= .int .i64 3) (by show 0<35;omega) (st_ni HG0.out.tree) (fun S W h=>st_kind (x:=default) 3 ⟨by decide,by decide⟩ h))
 clear HG0
 go_wp2_with fail
 clear c2_0 f2_0 hw2_0 y1_1_0k f1_1_0k
 refine(H1.out _ HK1_1_0.out.ps).mono ?_
 rintro e w2 hq
 obtain⟨c2,rfl,l2,o2,t2,fin⟩:=X1.out _ _ _ _ HK1_1_0.out hq
 have HF2:=Lib.hid fin
 clear hq fin H1 X1
 clear HK1_1_0
 go_wp2_with (first | (refine gateS 57 45 rfl ?_;refine wpList_store_there rfl 57 _ _ rfl (w.heap.size+1) 4 rfl _ rfl (by rw[l2];kernel_rfl) o2 t2 ?_;intro w29 hst;have HL2:=Lib.hid (HF2.out _ hst);clear hst HF2))
 clear l2 o2 t2
 refine(H2.out _ HL2.out.ps).mono ?_
 rintro e w3 hq
 obtain⟨rfl,hp,hk⟩:=X2.out _ _ _ hq
 have HL3:=Lib.hid (HL2.out.step hk hp)
 clear hq hp hk H2 X2
 clear HL2
 go_wp2_with fail
 refine(H3.out _ HL3.out.ps).mono ?_
 rintro e w4 hq
 obtain⟨rfl,hb,hp,hk⟩:=X3.out _ _ _ HL3.out.ps hq
 have HM4:=Lib.hid (HL3.out.step hk hp)
 obtain⟨⟨v4,_,y4c⟩,f4c⟩:=HM4.out.cell (j:=2) (by show 2<35;omega)
 have HL4:Hid (LP stX C (w) (w.heap.size+1) s4 (ST.mk { sp0 with kind:=3,e:=eq1,field:=fq3 } [] []) _ (w4.setCell ⟨w.heap.size+1,2,none⟩ (.string fq3))):=Lib.hid (HM4.out.set1 (o:=2) (v:= .string fq3) (by show 2<35;omega) (st_ni HM4.out.tree) (fun S W h=>(st_field fq3 hb) h))
 clear hq hp hk hb H3 X3 HM4
 clear HL3
 go_wp2_with fail
 clear y4c f4c
 refine(H4.out _ HL4.out.ps).mono ?_
 rintro e w5 hq
 obtain⟨rfl,hp,hk⟩:=X4.out _ _ _ hq
 have HL5:=Lib.hid (HL4.out.step hk hp)
 clear hq hp hk H4 X4
 clear HL4
 go_wp2_with fail
 refine(H5.out _ HL5.out.ps).mono ?_
 rintro e w6 hq
 obtain⟨c6,rfl,l6,o6,t6,fin⟩:=X5.out _ _ _ _ HL5.out hq
 have HF6:=Lib.hid fin
 clear hq fin H5 X5
 clear HL5
 go_wp2_with (first | (refine gateS 57 55 rfl ?_;refine wpList_store_there rfl 57 _ _ rfl (w.heap.size+1) 8 rfl _ rfl (by rw[l6];kernel_rfl) o6 t6 ?_;intro w69 hst;have HL6:=Lib.hid (HF6.out _ hst);clear hst HF6))
 clear l6 o6 t6
 refine(H6.out _ HL6.out.ps).mono ?_
 rintro e w7 hq
 obtain⟨rfl,hp,hk⟩:=X6.out _ _ _ hq
 have HL7:=Lib.hid (HL6.out.step hk hp)
 clear hq hp hk H6 X6
 clear HL6
 obtain⟨hl9,h19,hr9,ht9,hf9⟩:=HO.out _ _ HL7.out
 have HF9:=Lib.hid hf9
 clear hf9 HL7
 go_wp2_with (first | (refine gateL 65 3 rfl ?_;refine wpList_load_mid rfl 65 _ rfl (w.heap.size+1) 0 rfl _ _ hr9 Tryz.underlying65 rfl (by rw[hl9];kernel_rfl) ?_) | (refine gateS 65 2 rfl ?_;refine wpList_store_there rfl 65 _ _ rfl w.heap.size 0 rfl _ rfl (by rw[hl9];kernel_rfl) h19 ht9 ?_;intro w9 hst))
 exact bodyPost_ret (v:=_) (results_one rfl _ _ _ _ _ rfl (Tryz.stLoad hst.at' hl9)) rfl (HF9.out _ hst)
theorem stmt_free (n:Nat)(C:PC)(s:PS)(w:World)(h:PSt C s w)(hk:¬pkd C.tk s=1)(hm:dnx C.tk s=(⟨#[102,114,101,101]⟩:ByteArray)):
 Calls Tryz.prog 69 #[C.p] w (PE (Vx stX) (dstmt C.tk C.en (n+1)) C s w):=by
 have hg:=h.lt
 have hl0:=LP.fresh (sh:=stX) (t:=65) h rfl zSt_ni zSt_rel
 have HN:=Lib.hid (next_any C s _ hl0.ps)
 have HKD:=Lib.hid (fun W (hW:PSt C s W)=>kind_any C s W hW)
 have HLX:Hid (∀W,Below ((w.alloc (.cells zSt.toArray 65)).alloc (.cells zSt.toArray 65)).heap.size ((w.alloc (.cells zSt.toArray 65)).alloc (.cells zSt.toArray 65)) W→LP stX C w (w.heap.size+1) s default zSt W):=fun W hb=>hl0.step (KeptG.of_below hb) (hl0.ps.up hb)
 obtain⟨h0,hnx⟩:=dnx_inv (tk:=C.tk) (s:=s) (by rw[hm];decide)
 obtain⟨s1,hs1⟩:∃s',s'=pgo s:=⟨_,rfl⟩
 have X0:Hid (∀W,PSt C s W→(W.cell? ⟨C.g,2,none⟩=some (.int .i64 s.nx)∧W.frozen? ⟨C.g,2,none⟩=false∧IntKind.i64.wrap ((s.nx:Int)+1)=(s.nx:Int)+1)∧PSt C s1 (W.setCell ⟨C.g,2,none⟩ (.int .i64 ((s.nx:Int)+1)))):=fun W hW=>⟨two_wrap hW h0,by rw[hs1];exact hW.go h0 hnx⟩
 obtain⟨eq1,heq1⟩:∃x',x'=(dex C.tk C.en s1).1:=⟨_,rfl⟩
 obtain⟨s2,hs2⟩:∃s',s'=(dex C.tk C.en s1).2:=⟨_,rfl⟩
 have H1:=Lib.hid (fun W (hW:PSt C s1 W)=>expr_any C s1 W hW)
 have X1:Hid (∀W e1 W1 cs,LP stX C (w) (w.heap.size+1) s1 (ST.mk { sp0 with kind:=5 } [] []) cs W→PE (Vx exX) (dex C.tk C.en) C s1 W e1 W1→∃cs2:List Value,e1= .returned (.agg cs2.toArray)∧cs2.length=4∧(∀u∈cs2,u.oneCell'=true)∧W1.there (w.heap.size+1) 4 cs2.length∧∀W9,Stored (w.heap.size+1) 4 cs2 W1 W9→LP stX C (w) (w.heap.size+1) s2 (ST.mk { sp0 with kind:=5,e:=eq1 } [] []) (spl cs 4 cs2) W9):=fun W e1 W1 cs hl hq=>by
  obtain⟨cs2,a1,a2,a3,a4,a5,a6⟩:=pe_x hq
  have a2:cs2.length=4:=a2
  rw[←hs2]at a5
  rw[←heq1]at a4
  exact⟨cs2,a1,a2,a3,by rw[a2];exact hl.part a6 a5 (by show 4+4≤35;omega),fun W9 hst=>hl.setP a6 a5 a4 (by show 4+4≤35;omega) (st_ni hl.tree) hst (fun S W hx hy=>st_e hy hx)⟩
 obtain⟨s3,hs3⟩:∃s',s'=deat C.tk C.en (⟨#[46]⟩:ByteArray) s2:=⟨_,rfl⟩
 have H2:=Lib.hid (fun W (hW:PSt C s2 W)=>eat_any C s2 (⟨#[46]⟩:ByteArray) W hW (by decide))
 have X2:Hid (∀W e1 W1,PU (deat C.tk C.en (⟨#[46]⟩:ByteArray)) C s2 W e1 W1→e1= .returned (.tuple #[])∧PSt C s3 W1∧KeptG C.g W W1):=fun W e1 W1 hu=>by rw[hs3];exact hu
 obtain⟨fq3,hfq3⟩:∃x',x'=(dtext C.tk C.en 1 s3).1:=⟨_,rfl⟩
 obtain⟨s4,hs4⟩:∃s',s'=(dtext C.tk C.en 1 s3).2:=⟨_,rfl⟩
 have H3:=Lib.hid (fun W (hW:PSt C s3 W)=>text_any C s3 1 W hW (by decide))
 have X3:Hid (∀W e1 W1,PSt C s3 W→PE Vt (dtext C.tk C.en 1) C s3 W e1 W1→e1= .returned (.string fq3)∧fq3.size≤maxLen∧PSt C s4 W1∧KeptG C.g W W1):=fun W e1 W1 hS hq=>by rw[hs4,hfq3];exact⟨(pe_v hq).1,dtext_size 1 hS (by decide),(pe_v hq).2⟩
 obtain⟨s5,hs5⟩:∃s',s'=deat C.tk C.en (⟨#[59]⟩:ByteArray) s4:=⟨_,rfl⟩
 have H4:=Lib.hid (fun W (hW:PSt C s4 W)=>eat_any C s4 (⟨#[59]⟩:ByteArray) W hW (by decide))
 have X4:Hid (∀W e1 W1,PU (deat C.tk C.en (⟨#[59]⟩:ByteArray)) C s4 W e1 W1→e1= .returned (.tuple #[])∧PSt C s5 W1∧KeptG C.g W W1):=fun W e1 W1 hu=>by rw[hs5];exact hu
 have ed:dstmt C.tk C.en (n+1) s=((ST.mk { sp0 with kind:=5,e:=eq1,field:=fq3 } [] []),s5):=by
  rw[dstmt,if_neg hk,if_neg (by rw[hm];decide),if_neg (by rw[hm];decide)]
  unfold dsimple
  rw[if_neg (by rw[hm];decide),if_neg (by rw[hm];decide),if_pos hm]
  subst_vars
  rfl
 have HO:=Lib.hid (fun W cs (hl:LP stX C w (w.heap.size+1) s5 (ST.mk { sp0 with kind:=5,e:=eq1,field:=fq3 } [] []) cs W)=>hl.outw (f:=dstmt C.tk C.en (n+1)) ed)
 have hx0:((dnx C.tk s).toList == [115,107,105,112])=false:=ne_lit [115,107,105,112] (by rw[hm];decide)
 have hx1:((dnx C.tk s).toList == [112,117,116])=false:=ne_lit [112,117,116] (by rw[hm];decide)
 have hx2:=eq_lit [102,114,101,101] hm
 have hk1:(pkd C.tk s == 1)=false:=by simpa using hk
 have hk2:¬pkd C.tk s=1:=hk
 generalize dnx C.tk s=tx at*
 generalize pkd C.tk s=kd at*
 generalize PE (Vx stX) (dstmt C.tk C.en (n+1)) C s w=Q at*
 clear hl0 h ed hk hm h0 hnx hs1 heq1 hs2 hs3 hfq3 hs4 hs5 
 unfold PC.p at*
 go_enter Tryz.func69,Tryz.ntmps69
 go_wp2_with (first | (refine wpList_alloc_z (by kernel_rfl) 65 rfl zSt Tryz.stZero ?_) | (refine wpList_build_z (by kernel_rfl) 65 rfl zSt Tryz.stBuilt ?_) | (refine gateS 65 3 rfl ?_;refine wpList_store_fresh (by kernel_rfl) 65 _ _ rfl zSt.toArray rfl zSt rfl Tryz.stSize (by simp) zSt_one ?_))
 refine HN.out.mono ?_
 rintro e w0 ⟨rfl,hb⟩
 have HL0:=Lib.hid (HLX.out w0 hb)
 have HK0:=Lib.hid (HKD.out w0 HL0.out.ps)
 clear hb HN HLX HKD
 go_wp2_with fail
 refine HK0.out.mono ?_
 rintro e w1 ⟨rfl,hb⟩
 have HL1:=Lib.hid (HL0.out.step (KeptG.of_below hb) (HL0.out.ps.up hb))
 clear hb HK0 HL0
 obtain⟨⟨c2_0,f2_0,hw2_0⟩,hp⟩:=X0.out _ HL1.out.ps
 have HG0:=Lib.hid (HL1.out.step (KeptG.set (g:=C.g)) hp)
 clear hp X0
 clear HL1
 obtain⟨⟨v1_1_0k,_,y1_1_0k⟩,f1_1_0k⟩:=HG0.out.cell (j:=0) (by show 0<35;omega)
 have HK1_1_0:Hid (LP stX C (w) (w.heap.size+1) s1 (ST.mk { sp0 with kind:=5 } [] []) _ ((w1.setCell ⟨C.g,2,none⟩ (.int .i64 ((s.nx:Int)+1))).setCell ⟨w.heap.size+1,0,none⟩ (.int .i64 5))):=Lib.hid (HG0.out.set1 (o:=0) (v:= .int .i64 5) (by show 0<35;omega) (st_ni HG0.out.tree) (fun S W h=>st_kind (x:=default) 5 ⟨by decide,by decide⟩ h))
 clear HG0
 go_wp2_with fail
 clear c2_0 f2_0 hw2_0 y1_1_0k f1_1_0k
 refine(H1.out _ HK1_1_0.out.ps).mono ?_
 rintro e w2 hq
 obtain⟨c2,rfl,l2,o2,t2,fin⟩:=X1.out _ _ _ _ HK1_1_0.out hq
 have HF2:=Lib.hid fin
 clear hq fin H1 X1
 clear HK1_1_0
 go_wp2_with (first | (refine gateS 57 68 rfl ?_;refine wpList_store_there rfl 57 _ _ rfl (w.heap.size+1) 4 rfl _ rfl (by rw[l2];kernel_rfl) o2 t2 ?_;intro w29 hst;have HL2:=Lib.hid (HF2.out _ hst);clear hst HF2))
 clear l2 o2 t2
 refine(H2.out _ HL2.out.ps).mono ?_
 rintro e w3 hq
 obtain⟨rfl,hp,hk⟩:=X2.out _ _ _ hq
 have HL3:=Lib.hid (HL2.out.step hk hp)
 clear hq hp hk H2 X2
 clear HL2
 go_wp2_with fail
 refine(H3.out _ HL3.out.ps).mono ?_
 rintro e w4 hq
 obtain⟨rfl,hb,hp,hk⟩:=X3.out _ _ _ HL3.out.ps hq
 have HM4:=Lib.hid (HL3.out.step hk hp)
 obtain⟨⟨v4,_,y4c⟩,f4c⟩:=HM4.out.cell (j:=2) (by show 2<35;omega)
 have HL4:Hid (LP stX C (w) (w.heap.size+1) s4 (ST.mk { sp0 with kind:=5,e:=eq1,field:=fq3 } [] []) _ (w4.setCell ⟨w.heap.size+1,2,none⟩ (.string fq3))):=Lib.hid (HM4.out.set1 (o:=2) (v:= .string fq3) (by show 2<35;omega) (st_ni HM4.out.tree) (fun S W h=>(st_field fq3 hb) h))
 clear hq hp hk hb H3 X3 HM4
 clear HL3
 go_wp2_with fail
 clear y4c f4c
 refine(H4.out _ HL4.out.ps).mono ?_
 rintro e w5 hq
 obtain⟨rfl,hp,hk⟩:=X4.out _ _ _ hq
 have HL5:=Lib.hid (HL4.out.step hk hp)
 clear hq hp hk H4 X4
 clear HL4
 obtain⟨hl9,h19,hr9,ht9,hf9⟩:=HO.out _ _ HL5.out
 have HF9:=Lib.hid hf9
 clear hf9 HL5
 go_wp2_with (first | (refine gateL 65 3 rfl ?_;refine wpList_load_mid rfl 65 _ rfl (w.heap.size+1) 0 rfl _ _ hr9 Tryz.underlying65 rfl (by rw[hl9];kernel_rfl) ?_) | (refine gateS 65 2 rfl ?_;refine wpList_store_there rfl 65 _ _ rfl w.heap.size 0 rfl _ rfl (by rw[hl9];kernel_rfl) h19 ht9 ?_;intro w9 hst))
 exact bodyPost_ret (v:=_) (results_one rfl _ _ _ _ _ rfl (Tryz.stLoad hst.at' hl9)) rfl (HF9.out _ hst)
theorem stmt_assert (n:Nat)(C:PC)(s:PS)(w:World)(h:PSt C s w)(hk:¬pkd C.tk s=1)(hm:dnx C.tk s=(⟨#[97,115,115,101,114,116]⟩:ByteArray)):
 Calls Tryz.prog 69 #[C.p] w (PE (Vx stX) (dstmt C.tk C.en (n+1)) C s w):=by
 have hg:=h.lt
 have hl0:=LP.fresh (sh:=stX) (t:=65) h rfl zSt_ni zSt_rel
 have HN:=Lib.hid (next_any C s _ hl0.ps)
 have HKD:=Lib.hid (fun W (hW:PSt C s W)=>kind_any C s W hW)
 have HLX:Hid (∀W,Below ((w.alloc (.cells zSt.toArray 65)).alloc (.cells zSt.toArray 65)).heap.size ((w.alloc (.cells zSt.toArray 65)).alloc (.cells zSt.toArray 65)) W→LP stX C w (w.heap.size+1) s default zSt W):=fun W hb=>hl0.step (KeptG.of_below hb) (hl0.ps.up hb)
 obtain⟨h0,hnx⟩:=dnx_inv (tk:=C.tk) (s:=s) (by rw[hm];decide)
 obtain⟨s1,hs1⟩:∃s',s'=pgo s:=⟨_,rfl⟩
 have X0:Hid (∀W,PSt C s W→(W.cell? ⟨C.g,2,none⟩=some (.int .i64 s.nx)∧W.frozen? ⟨C.g,2,none⟩=false∧IntKind.i64.wrap ((s.nx:Int)+1)=(s.nx:Int)+1)∧PSt C s1 (W.setCell ⟨C.g,2,none⟩ (.int .i64 ((s.nx:Int)+1)))):=fun W hW=>⟨two_wrap hW h0,by rw[hs1];exact hW.go h0 hnx⟩
 obtain⟨cq1,hcq1⟩:∃x',x'=(dco C.tk C.en s1).1:=⟨_,rfl⟩
 obtain⟨s2,hs2⟩:∃s',s'=(dco C.tk C.en s1).2:=⟨_,rfl⟩
 have H1:=Lib.hid (fun W (hW:PSt C s1 W)=>cond_any C s1 W hW)
 have X1:Hid (∀W e1 W1 cs,LP stX C (w) (w.heap.size+1) s1 (ST.mk { sp0 with kind:=8 } [] []) cs W→PE (Vx cnX) (dco C.tk C.en) C s1 W e1 W1→∃cs2:List Value,e1= .returned (.agg cs2.toArray)∧cs2.length=3∧(∀u∈cs2,u.oneCell'=true)∧W1.there (w.heap.size+1) 12 cs2.length∧∀W9,Stored (w.heap.size+1) 12 cs2 W1 W9→LP stX C (w) (w.heap.size+1) s2 (ST.mk { sp0 with kind:=8,c:=cq1 } [] []) (spl cs 12 cs2) W9):=fun W e1 W1 cs hl hq=>by
  obtain⟨cs2,a1,a2,a3,a4,a5,a6⟩:=pe_x hq
  have a2:cs2.length=3:=a2
  rw[←hs2]at a5
  rw[←hcq1]at a4
  exact⟨cs2,a1,a2,a3,by rw[a2];exact hl.part a6 a5 (by show 12+3≤35;omega),fun W9 hst=>hl.setP a6 a5 a4 (by show 12+3≤35;omega) (st_ni hl.tree) hst (fun S W hx hy=>st_c hy hx)⟩
 obtain⟨s3,hs3⟩:∃s',s'=deat C.tk C.en (⟨#[59]⟩:ByteArray) s2:=⟨_,rfl⟩
 have H2:=Lib.hid (fun W (hW:PSt C s2 W)=>eat_any C s2 (⟨#[59]⟩:ByteArray) W hW (by decide))
 have X2:Hid (∀W e1 W1,PU (deat C.tk C.en (⟨#[59]⟩:ByteArray)) C s2 W e1 W1→e1= .returned (.tuple #[])∧PSt C s3 W1∧KeptG C.g W W1):=fun W e1 W1 hu=>by rw[hs3];exact hu
 have ed:dstmt C.tk C.en (n+1) s=((ST.mk { sp0 with kind:=8,c:=cq1 } [] []),s3):=by
  rw[dstmt,if_neg hk,if_neg (by rw[hm];decide),if_neg (by rw[hm];decide)]
  unfold dsimple
  rw[if_neg (by rw[hm];decide),if_neg (by rw[hm];decide),if_neg (by rw[hm];decide),if_pos hm]
  subst_vars
  rfl
 have HO:=Lib.hid (fun W cs (hl:LP stX C w (w.heap.size+1) s3 (ST.mk { sp0 with kind:=8,c:=cq1 } [] []) cs W)=>hl.outw (f:=dstmt C.tk C.en (n+1)) ed)
 have hx0:((dnx C.tk s).toList == [115,107,105,112])=false:=ne_lit [115,107,105,112] (by rw[hm];decide)
 have hx1:((dnx C.tk s).toList == [112,117,116])=false:=ne_lit [112,117,116] (by rw[hm];decide)
 have hx2:((dnx C.tk s).toList == [102,114,101,101])=false:=ne_lit [102,114,101,101] (by rw[hm];decide)
 have hx3:=eq_lit [97,115,115,101,114,116] hm
 have hk1:(pkd C.tk s == 1)=false:=by simpa using hk
 have hk2:¬pkd C.tk s=1:=hk
 generalize dnx C.tk s=tx at*
 generalize pkd C.tk s=kd at*
 generalize PE (Vx stX) (dstmt C.tk C.en (n+1)) C s w=Q at*
 clear hl0 h ed hk hm h0 hnx hs1 hcq1 hs2 hs3 
 unfold PC.p at*
 go_enter Tryz.func69,Tryz.ntmps69
 go_wp2_with (first | (refine wpList_alloc_z (by kernel_rfl) 65 rfl zSt Tryz.stZero ?_) | (refine wpList_build_z (by kernel_rfl) 65 rfl zSt Tryz.stBuilt ?_) | (refine gateS 65 3 rfl ?_;refine wpList_store_fresh (by kernel_rfl) 65 _ _ rfl zSt.toArray rfl zSt rfl Tryz.stSize (by simp) zSt_one ?_))
 refine HN.out.mono ?_
 rintro e w0 ⟨rfl,hb⟩
 have HL0:=Lib.hid (HLX.out w0 hb)
 have HK0:=Lib.hid (HKD.out w0 HL0.out.ps)
 clear hb HN HLX HKD
 go_wp2_with fail
 refine HK0.out.mono ?_
 rintro e w1 ⟨rfl,hb⟩
 have HL1:=Lib.hid (HL0.out.step (KeptG.of_below hb) (HL0.out.ps.up hb))
 clear hb HK0 HL0
 obtain⟨⟨c2_0,f2_0,hw2_0⟩,hp⟩:=X0.out _ HL1.out.ps
 have HG0:=Lib.hid (HL1.out.step (KeptG.set (g:=C.g)) hp)
 clear hp X0
 clear HL1
 obtain⟨⟨v1_1_0k,_,y1_1_0k⟩,f1_1_0k⟩:=HG0.out.cell (j:=0) (by show 0<35;omega)
 have HK1_1_0:Hid (LP stX C (w) (w.heap.size+1) s1 (ST.mk { sp0 with kind:=8 } [] []) _ ((w1.setCell ⟨C.g,2,none⟩ (.int .i64 ((s.nx:Int)+1))).setCell ⟨w.heap.size+1,0,none⟩ (.int .i64 8))):=Lib.hid (HG0.out.set1 (o:=0) (v:= .int .i64 8) (by show 0<35;omega) (st_ni HG0.out.tree) (fun S W h=>st_kind (x:=default) 8 ⟨by decide,by decide⟩ h))
 clear HG0
 go_wp2_with fail
 clear c2_0 f2_0 hw2_0 y1_1_0k f1_1_0k
 refine(H1.out _ HK1_1_0.out.ps).mono ?_
 rintro e w2 hq
 obtain⟨c2,rfl,l2,o2,t2,fin⟩:=X1.out _ _ _ _ HK1_1_0.out hq
 have HF2:=Lib.hid fin
 clear hq fin H1 X1
 clear HK1_1_0
 go_wp2_with (first | (refine gateS 55 86 rfl ?_;refine wpList_store_there rfl 55 _ _ rfl (w.heap.size+1) 12 rfl _ rfl (by rw[l2];kernel_rfl) o2 t2 ?_;intro w29 hst;have HL2:=Lib.hid (HF2.out _ hst);clear hst HF2))
 clear l2 o2 t2
 refine(H2.out _ HL2.out.ps).mono ?_
 rintro e w3 hq
 obtain⟨rfl,hp,hk⟩:=X2.out _ _ _ hq
 have HL3:=Lib.hid (HL2.out.step hk hp)
 clear hq hp hk H2 X2
 clear HL2
 obtain⟨hl9,h19,hr9,ht9,hf9⟩:=HO.out _ _ HL3.out
 have HF9:=Lib.hid hf9
 clear hf9 HL3
 go_wp2_with (first | (refine gateL 65 3 rfl ?_;refine wpList_load_mid rfl 65 _ rfl (w.heap.size+1) 0 rfl _ _ hr9 Tryz.underlying65 rfl (by rw[hl9];kernel_rfl) ?_) | (refine gateS 65 2 rfl ?_;refine wpList_store_there rfl 65 _ _ rfl w.heap.size 0 rfl _ rfl (by rw[hl9];kernel_rfl) h19 ht9 ?_;intro w9 hst))
 exact bodyPost_ret (v:=_) (results_one rfl _ _ _ _ _ rfl (Tryz.stLoad hst.at' hl9)) rfl (HF9.out _ hst)
theorem stmt_call (n:Nat)(C:PC)(s:PS)(w:World)(h:PSt C s w)(hk:¬pkd C.tk s=1)(hm:dnx C.tk s=(⟨#[99,97,108,108]⟩:ByteArray)):
 Calls Tryz.prog 69 #[C.p] w (PE (Vx stX) (dstmt C.tk C.en (n+1)) C s w):=by
 have hg:=h.lt
 have hl0:=LP.fresh (sh:=stX) (t:=65) h rfl zSt_ni zSt_rel
 have HN:=Lib.hid (next_any C s _ hl0.ps)
 have HKD:=Lib.hid (fun W (hW:PSt C s W)=>kind_any C s W hW)
 have HLX:Hid (∀W,Below ((w.alloc (.cells zSt.toArray 65)).alloc (.cells zSt.toArray 65)).heap.size ((w.alloc (.cells zSt.toArray 65)).alloc (.cells zSt.toArray 65)) W→LP stX C w (w.heap.size+1) s default zSt W):=fun W hb=>hl0.step (KeptG.of_below hb) (hl0.ps.up hb)
 obtain⟨h0,hnx⟩:=dnx_inv (tk:=C.tk) (s:=s) (by rw[hm];decide)
 obtain⟨s1,hs1⟩:∃s',s'=(dcall C.tk C.en sp0 s).2:=⟨_,rfl⟩
 have H0:=Lib.hid (fun W cs (hl:LP stX C w (w.heap.size+1) s default cs W)=>call_any C s w W (w.heap.size+1) _ cs hl)
 have hs_s1:=Lib.hid hs1
 obtain⟨s2,hs2⟩:∃s',s'=deat C.tk C.en (⟨#[59]⟩:ByteArray) s1:=⟨_,rfl⟩
 have H1:=Lib.hid (fun W (hW:PSt C s1 W)=>eat_any C s1 (⟨#[59]⟩:ByteArray) W hW (by decide))
 have X1:Hid (∀W e1 W1,PU (deat C.tk C.en (⟨#[59]⟩:ByteArray)) C s1 W e1 W1→e1= .returned (.tuple #[])∧PSt C s2 W1∧KeptG C.g W W1):=fun W e1 W1 hu=>by rw[hs2];exact hu
 have ed:dstmt C.tk C.en (n+1) s=((ST.mk (dcall C.tk C.en sp0 s).1 [] []),s2):=by
  rw[dstmt,if_neg hk,if_neg (by rw[hm];decide),if_neg (by rw[hm];decide)]
  unfold dsimple
  rw[if_neg (by rw[hm];decide),if_neg (by rw[hm];decide),if_neg (by rw[hm];decide),if_neg (by rw[hm];decide),if_pos hm]
  subst_vars
  rfl
 have HO:=Lib.hid (fun W cs (hl:LP stX C w (w.heap.size+1) s2 (ST.mk (dcall C.tk C.en sp0 s).1 [] []) cs W)=>hl.outw (f:=dstmt C.tk C.en (n+1)) ed)
 have hx0:((dnx C.tk s).toList == [115,107,105,112])=false:=ne_lit [115,107,105,112] (by rw[hm];decide)
 have hx1:((dnx C.tk s).toList == [112,117,116])=false:=ne_lit [112,117,116] (by rw[hm];decide)
 have hx2:((dnx C.tk s).toList == [102,114,101,101])=false:=ne_lit [102,114,101,101] (by rw[hm];decide)
 have hx3:((dnx C.tk s).toList == [97,115,115,101,114,116])=false:=ne_lit [97,115,115,101,114,116] (by rw[hm];decide)
 have hx4:=eq_lit [99,97,108,108] hm
 have hk1:(pkd C.tk s == 1)=false:=by simpa using hk
 have hk2:¬pkd C.tk s=1:=hk
 generalize dnx C.tk s=tx at*
 generalize pkd C.tk s=kd at*
 generalize PE (Vx stX) (dstmt C.tk C.en (n+1)) C s w=Q at*
 clear hl0 h ed hk hm h0 hnx hs1 hs2 
 unfold PC.p at*
 go_enter Tryz.func69,Tryz.ntmps69
 go_wp2_with (first | (refine wpList_alloc_z (by kernel_rfl) 65 rfl zSt Tryz.stZero ?_) | (refine wpList_build_z (by kernel_rfl) 65 rfl zSt Tryz.stBuilt ?_) | (refine gateS 65 3 rfl ?_;refine wpList_store_fresh (by kernel_rfl) 65 _ _ rfl zSt.toArray rfl zSt rfl Tryz.stSize (by simp) zSt_one ?_))
 refine HN.out.mono ?_
 rintro e w0 ⟨rfl,hb⟩
 have HL0:=Lib.hid (HLX.out w0 hb)
 have HK0:=Lib.hid (HKD.out w0 HL0.out.ps)
 clear hb HN HLX HKD
 go_wp2_with fail
 refine HK0.out.mono ?_
 rintro e w1 ⟨rfl,hb⟩
 have HL1:=Lib.hid (HL0.out.step (KeptG.of_below hb) (HL0.out.ps.up hb))
 clear hb HK0 HL0
 go_wp2_with fail
 refine(H0.out _ _ HL1.out).mono ?_
 rintro e w2 hq
 obtain⟨rfl,cs2,hl2⟩:=hq
 have HL2:Hid (LP stX C w (w.heap.size+1) s1 (ST.mk (dcall C.tk C.en sp0 s).1 [] []) cs2 w2):=Lib.hid (by rw[hs_s1.out];exact hl2)
 clear H0 hl2
 clear HL1
 go_wp2_with fail
 refine(H1.out _ HL2.out.ps).mono ?_
 rintro e w3 hq
 obtain⟨rfl,hp,hk⟩:=X1.out _ _ _ hq
 have HL3:=Lib.hid (HL2.out.step hk hp)
 clear hq hp hk H1 X1
 clear HL2
 obtain⟨hl9,h19,hr9,ht9,hf9⟩:=HO.out _ _ HL3.out
 have HF9:=Lib.hid hf9
 clear hf9 HL3
 go_wp2_with (first | (refine gateL 65 3 rfl ?_;refine wpList_load_mid rfl 65 _ rfl (w.heap.size+1) 0 rfl _ _ hr9 Tryz.underlying65 rfl (by rw[hl9];kernel_rfl) ?_) | (refine gateS 65 2 rfl ?_;refine wpList_store_there rfl 65 _ _ rfl w.heap.size 0 rfl _ rfl (by rw[hl9];kernel_rfl) h19 ht9 ?_;intro w9 hst))
 exact bodyPost_ret (v:=_) (results_one rfl _ _ _ _ _ rfl (Tryz.stLoad hst.at' hl9)) rfl (HF9.out _ hst)
theorem stmt_no (n:Nat)(C:PC)(s:PS)(w:World)(h:PSt C s w)(hk:¬pkd C.tk s=1)(n0:¬dnx C.tk s=(⟨#[115,107,105,112]⟩:ByteArray))(n1:¬dnx C.tk s=(⟨#[112,117,116]⟩:ByteArray))(n2:¬dnx C.tk s=(⟨#[102,114,101,101]⟩:ByteArray))(n3:¬dnx C.tk s=(⟨#[97,115,115,101,114,116]⟩:ByteArray))(n4:¬dnx C.tk s=(⟨#[99,97,108,108]⟩:ByteArray))(n5:¬dnx C.tk s=(⟨#[105,102]⟩:ByteArray))(n6:¬dnx C.tk s=(⟨#[119,104,105,108,101]⟩:ByteArray)):
 Calls Tryz.prog 69 #[C.p] w (PE (Vx stX) (dstmt C.tk C.en (n+1)) C s w):=by
 have hg:=h.lt
 have hl0:=LP.fresh (sh:=stX) (t:=65) h rfl zSt_ni zSt_rel
 have HN:=Lib.hid (next_any C s _ hl0.ps)
 have HKD:=Lib.hid (fun W (hW:PSt C s W)=>kind_any C s W hW)
 have HLX:Hid (∀W,Below ((w.alloc (.cells zSt.toArray 65)).alloc (.cells zSt.toArray 65)).heap.size ((w.alloc (.cells zSt.toArray 65)).alloc (.cells zSt.toArray 65)) W→LP stX C w (w.heap.size+1) s default zSt W):=fun W hb=>hl0.step (KeptG.of_below hb) (hl0.ps.up hb)
 obtain⟨s1,hs1⟩:∃s',s'=pfail C.tk C.en 11 s:=⟨_,rfl⟩
 have H0:=Lib.hid (fun W (hW:PSt C s W)=>amiss_any C s 11 W hW (by decide))
 have X0:Hid (∀W e1 W1,PU (pfail C.tk C.en 11) C s W e1 W1→e1= .returned (.tuple #[])∧PSt C s1 W1∧KeptG C.g W W1):=fun W e1 W1 hu=>by rw[hs1];exact hu
 obtain⟨s2,hs2⟩:∃s',s'=deat C.tk C.en (⟨#[59]⟩:ByteArray) s1:=⟨_,rfl⟩
 have H1:=Lib.hid (fun W (hW:PSt C s1 W)=>eat_any C s1 (⟨#[59]⟩:ByteArray) W hW (by decide))
 have X1:Hid (∀W e1 W1,PU (deat C.tk C.en (⟨#[59]⟩:ByteArray)) C s1 W e1 W1→e1= .returned (.tuple #[])∧PSt C s2 W1∧KeptG C.g W W1):=fun W e1 W1 hu=>by rw[hs2];exact hu
 have ed:dstmt C.tk C.en (n+1) s=(default,s2):=by
  rw[dstmt,if_neg hk,if_neg n5,if_neg n6]
  unfold dsimple
  rw[if_neg n0,if_neg n1,if_neg n2,if_neg n3,if_neg n4]
  subst_vars
  rfl
 have HO:=Lib.hid (fun W cs (hl:LP stX C w (w.heap.size+1) s2 default cs W)=>hl.outw (f:=dstmt C.tk C.en (n+1)) ed)
 have hx0:=ne_lit [115,107,105,112] n0
 have hx1:=ne_lit [112,117,116] n1
 have hx2:=ne_lit [102,114,101,101] n2
 have hx3:=ne_lit [97,115,115,101,114,116] n3
 have hx4:=ne_lit [99,97,108,108] n4
 have hx5:=ne_lit [105,102] n5
 have hx6:=ne_lit [119,104,105,108,101] n6
 have hk1:(pkd C.tk s == 1)=false:=by simpa using hk
 have hk2:¬pkd C.tk s=1:=hk
 generalize dnx C.tk s=tx at*
 generalize pkd C.tk s=kd at*
 generalize PE (Vx stX) (dstmt C.tk C.en (n+1)) C s w=Q at*
 clear hl0 h ed hk n0 n1 n2 n3 n4 n5 n6 hs1 hs2 
 unfold PC.p at*
 go_enter Tryz.func69,Tryz.ntmps69
 go_wp2_with (first | (refine wpList_alloc_z (by kernel_rfl) 65 rfl zSt Tryz.stZero ?_) | (refine wpList_build_z (by kernel_rfl) 65 rfl zSt Tryz.stBuilt ?_) | (refine gateS 65 3 rfl ?_;refine wpList_store_fresh (by kernel_rfl) 65 _ _ rfl zSt.toArray rfl zSt rfl Tryz.stSize (by simp) zSt_one ?_))
 refine HN.out.mono ?_
 rintro e w0 ⟨rfl,hb⟩
 have HL0:=Lib.hid (HLX.out w0 hb)
 have HK0:=Lib.hid (HKD.out w0 HL0.out.ps)
 clear hb HN HLX HKD
 go_wp2_with fail
 refine HK0.out.mono ?_
 rintro e w1 ⟨rfl,hb⟩
 have HL1:=Lib.hid (HL0.out.step (KeptG.of_below hb) (HL0.out.ps.up hb))
 clear hb HK0 HL0
 go_wp2_with fail
 refine(H0.out _ HL1.out.ps).mono ?_
 rintro e w2 hq
 obtain⟨rfl,hp,hk⟩:=X0.out _ _ _ hq
 have HL2:=Lib.hid (HL1.out.step hk hp)
 clear hq hp hk H0 X0
 clear HL1
 go_wp2_with fail
 refine(H1.out _ HL2.out.ps).mono ?_
 rintro e w3 hq
 obtain⟨rfl,hp,hk⟩:=X1.out _ _ _ hq
 have HL3:=Lib.hid (HL2.out.step hk hp)
 clear hq hp hk H1 X1
 clear HL2
 obtain⟨hl9,h19,hr9,ht9,hf9⟩:=HO.out _ _ HL3.out
 have HF9:=Lib.hid hf9
 clear hf9 HL3
 go_wp2_with (first | (refine gateL 65 3 rfl ?_;refine wpList_load_mid rfl 65 _ rfl (w.heap.size+1) 0 rfl _ _ hr9 Tryz.underlying65 rfl (by rw[hl9];kernel_rfl) ?_) | (refine gateS 65 2 rfl ?_;refine wpList_store_there rfl 65 _ _ rfl w.heap.size 0 rfl _ rfl (by rw[hl9];kernel_rfl) h19 ht9 ?_;intro w9 hst))
 exact bodyPost_ret (v:=_) (results_one rfl _ _ _ _ _ rfl (Tryz.stLoad hst.at' hl9)) rfl (HF9.out _ hst)
end Dc
end Go.Proofs.YtcinokljkieijaaGreatDoor
