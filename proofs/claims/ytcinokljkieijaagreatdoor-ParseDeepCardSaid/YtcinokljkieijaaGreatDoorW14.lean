/- Parts of a proof. -/
import Derived.Test.YtcinokljkieijaaGreatDoorW01
import Derived.Test.YtcinokljkieijaaGreatDoorW02
import Derived.Test.YtcinokljkieijaaGreatDoorW03
import Derived.Test.YtcinokljkieijaaGreatDoorW04
import Derived.Test.YtcinokljkieijaaGreatDoorW05
import Derived.Test.YtcinokljkieijaaGreatDoorW06
import Derived.Test.YtcinokljkieijaaGreatDoorW07
import Derived.Test.YtcinokljkieijaaGreatDoorW08
import Derived.Test.YtcinokljkieijaaGreatDoorW09
import Derived.Test.YtcinokljkieijaaGreatDoorW10
import Derived.Test.YtcinokljkieijaaGreatDoorW11
import Derived.Test.YtcinokljkieijaaGreatDoorW12
import Derived.Test.YtcinokljkieijaaGreatDoorW13
import Derived.Test.YtcinokljkieijaaGreatDoorQ18
import Derived.RegionTactic
import Derived.Test.YtcinokljkieijaaGreatDoorRows
import Derived.BigQuiet
set_option linter.unusedVariables false
set_option linter.unusedSimpArgs false
set_option maxHeartbeats 60000000
set_option maxRecDepth 100000
namespace Go.Proofs.YtcinokljkieijaaGreatDoor
namespace Dc
open Go.RowKit
theorem _root_.Go.Proofs.YtcinokljkieijaaGreatDoor.Far.drew {h:Nat}{w w':World}(k:Far h w w'):Far h w w'.drew:=⟨k.os,k.tape,k.output,k.size,k.block⟩
def DEnd (r:Int×Int×List QT)(w:World)(e:Ending)(w':World):Prop:=
 ∃v,e= .returned (.tuple #[.agg #[v],.int .i64 r.1,.int .i64 r.2.1])∧Pak.Slot qtX (InS w.heap.size w') w' v r.2.2∧Below w.heap.size w w'
theorem results_three {fn:Func}{p u x:Tmp}{ty:TypeId}(h:fn.results= #[.cell p ty,.tmp u,.tmp x])(tmps:Array Value)(P:Program)(w:World)(g:Addr)(v e e2:Value)(hp:tmps[p]?.getD undef= .pointer (some g))(hu:tmps[u]?.getD undef=e)(hx:tmps[x]?.getD undef=e2)(hl:(loadVar ty g).run P w= .ok v w):(results fn tmps).run P w= .ok (.tuple #[v,e,e2]) w:=by
 simp[results,h,hp,hu,hx,asAddr,hl]
theorem rparse_bad (s:ByteArray)(w:World)(hs:s.size≤9223372036854775807)(h0:(resOf s).1≠0):Calls Tryz.prog 11 #[.string s] w (DEnd (dparse s) w):=by
 have hA:Below w.heap.size w (w.alloc (.cells #[.slice none 0 0] 25)):=(Below.refl _ _).alloc (Nat.le_refl _) _
 have hs1:(w.alloc (.cells #[.slice none 0 0] 25)).heap.size=w.heap.size+1:=by simp
 have n1:=heap_alloc_new w (.cells #[.slice none 0 0] 25)
 have HS:=Lib.hid (rscan_any s (w.alloc (.cells #[.slice none 0 0] 25)) hs)
 have hp:dparse s=((resOf s).1,(resOf s).2.1,[]):=if_neg h0
 have HY:Hid (∀e w1,RScanEnd (resOf s) (w.alloc (.cells #[.slice none 0 0] 25)) e w1→∃va vn vc,e= .returned (.tuple #[.slice va vn vc,.int .i64 (resOf s).1,.int .i64 (resOf s).2.1])∧w1.cell? ⟨w.heap.size,0,none⟩=some (.slice none 0 0)∧w1.frozen? ⟨w.heap.size,0,none⟩=false∧∀w9,Far w.heap.size w1 w9→DEnd (dparse s) w (.returned (.tuple #[.agg #[.slice none 0 0],.int .i64 (resOf s).1,.int .i64 (resOf s).2.1])) w9):=fun e w1 hq=>by
  obtain⟨v,rfl,hrow,hb⟩:=hq
  rw[hs1]at hb
  obtain⟨va,vc,rfl⟩:=TRow.slice hrow
  have hz:=hb.size
  rw[hs1]at hz
  refine⟨va,_,vc,rfl,(hb.cell (p:=⟨w.heap.size,0,none⟩) (Nat.lt_succ_self _)).trans ((cell_of_row _ _ _ _ _ _ n1).trans rfl),(hb.frozen (p:=⟨w.heap.size,0,none⟩) (Nat.lt_succ_self _)).trans (frozen_of_row _ _ _ _ _ n1),fun w9 f=>⟨_,by rw[hp], ?_, ?_⟩⟩
  ·rw[hp];exact slot_none _ _ _
  ·exact hA.trans ((hb.mono (Nat.le_succ _)).trans ⟨f.os,f.tape,f.output,Nat.le_of_eq f.size.symm,fun q hq=>f.block q (by omega)⟩)
 have hne:((resOf s).1 != 0)=true:=by simpa using h0
 have hne2:¬(resOf s).1=0:=h0
 generalize DEnd (dparse s) w=Q at*
 generalize (resOf s).1=c at*
 generalize (resOf s).2.1=ca at*
 generalize RScanEnd (resOf s) (w.alloc (.cells #[.slice none 0 0] 25))=R at*
 clear h0 hA n1 hs1 hp
 go_enter Tryz.func11,Tryz.ntmps11
 go_wp2_with fail
 refine HS.out.mono ?_
 rintro e w1 hq
 obtain⟨va,vn,vc,rfl,hc,hf,hfin⟩:=HY.out _ _ hq
 have HF:=Lib.hid hfin
 clear hq HS HY hfin
 go_wp2_with fail
 exact bodyPost_ret (v:=_) (results_three (p:=2) (u:=3) (x:=4) rfl _ _ _ _ _ (.int .i64 c) (.int .i64 ca) rfl rfl rfl (Tryz.prLoad (World.cell?_setCell_same' _ _ _ (by rw[hc];rfl)))) rfl (HF.out _ ((Far.refl _ _).set _))
theorem PSt.made {s:ByteArray}{ts:List Tok}{a:Option Addr}{cap:Nat}{w1:World}(hlies:TLies w1.heap.size w1 a ts)(hlen:ts.length≤s.size∧s.size≤65536)(hok:∀t∈ts,TokOk 65536 t)(h5:5<w1.heap.size):PSt ⟨w1.heap.size,a,cap,ts,s.size⟩ ps0 (w1.alloc (.cells #[.slice a ts.length cap,.int .i64 s.size,.int .i64 0,.int .i64 0,.int .i64 0,.int .i64 0] 75)):=by
 have n2:=heap_alloc_new w1 (.cells #[.slice a ts.length cap,.int .i64 s.size,.int .i64 0,.int .i64 0,.int .i64 0,.int .i64 0] 75)
 have k1:Below w1.heap.size w1 (w1.alloc (.cells #[.slice a ts.length cap,.int .i64 s.size,.int .i64 0,.int .i64 0,.int .i64 0,.int .i64 0] 75)):=(Below.refl _ _).alloc (Nat.le_refl _) _
 exact⟨(cell_of_row _ _ _ _ _ _ n2).trans rfl,(cell_of_row _ _ _ _ _ _ n2).trans rfl,⟨0,(cell_of_row _ _ _ _ _ _ n2).trans rfl,fun _=>rfl⟩,⟨0,(cell_of_row _ _ _ _ _ _ n2).trans rfl,fun _=>rfl⟩,(cell_of_row _ _ _ _ _ _ n2).trans rfl,⟨0,(cell_of_row _ _ _ _ _ _ n2).trans rfl,fun c a e=>(by cases e)⟩,fun j=>frozen_of_row _ _ _ _ _ n2,hlies.below k1,⟨by show ts.length≤_;omega,hlen.2⟩,fun _=>⟨by decide,by decide,Nat.zero_le _⟩,fun c a e=>(by cases e),fun t ht=>(hok t ht).small,fun t ht=>(hok t ht).sh,h5⟩
theorem RB.start {C:PC}{w0:World}{he:Nat}{s:PS}(hp:PSt C s w0)(hg:C.g<he∧he<w0.heap.size)(hc:w0.cell? ⟨he,0,none⟩=some (.slice none 0 0))(hf:w0.frozen? ⟨he,0,none⟩=false):RB C he w0 s [] (.slice none 0 0) w0:=⟨hp,hg,(KeptG.refl _ _).kh he,hc,hf,Pak.Own.nil _ _ _ _⟩
theorem rparse_good (s:ByteArray)(w:World)(hs:s.size≤9223372036854775807)(hw5:5<w.heap.size)(h0:(resOf s).1=0):Calls Tryz.prog 11 #[.string s] w (DEnd (dparse s) w):=by
 have hA:Below w.heap.size w (w.alloc (.cells #[.slice none 0 0] 25)):=(Below.refl _ _).alloc (Nat.le_refl _) _
 have hs1:(w.alloc (.cells #[.slice none 0 0] 25)).heap.size=w.heap.size+1:=by simp
 have n1:=heap_alloc_new w (.cells #[.slice none 0 0] 25)
 have HS:=Lib.hid (rscan_any s (w.alloc (.cells #[.slice none 0 0] 25)) hs)
 obtain⟨ts,hts⟩:∃ts,ts=(resOf s).2.2:=⟨_,rfl⟩
 have hre:resOf s=(0, -1,ts):=by rw[hts,←h0,←res_code h0]
 obtain⟨r1,r2,r3⟩:=res_toks hre rfl
 have hp:dparse s=dprog ts s.size:=by
  unfold dparse
  rw[if_pos h0,hts]
 rw[hp]
 clear hp hts h0
 have HY:Hid (∀e w1,RScanEnd (resOf s) (w.alloc (.cells #[.slice none 0 0] 25)) e w1→∃a cap,e= .returned (.tuple #[.slice a ts.length cap,.int .i64 0,.int .i64 (-1)])∧w1.cell? ⟨w.heap.size,0,none⟩=some (.slice none 0 0)∧w1.frozen? ⟨w.heap.size,0,none⟩=false∧w.heap.size<w1.heap.size∧Below w.heap.size w w1∧
  RB ⟨w1.heap.size,a,cap,ts,s.size⟩ (w1.heap.size+1) ((w1.alloc (.cells #[.slice a ts.length cap,.int .i64 s.size,.int .i64 0,.int .i64 0,.int .i64 0,.int .i64 0] 75)).alloc (.cells #[.slice none 0 0] 25)) ps0 [] (.slice none 0 0) ((w1.alloc (.cells #[.slice a ts.length cap,.int .i64 s.size,.int .i64 0,.int .i64 0,.int .i64 0,.int .i64 0] 75)).alloc (.cells #[.slice none 0 0] 25))):=fun e w1 hq=>by
  obtain⟨v,rfl,hrow,hb⟩:=hq
  rw[hs1]at hb
  rw[hre]at hrow
  obtain⟨a,cap,rfl,hlies⟩:=hrow.lies
  have hz:=hb.size
  rw[hs1]at hz
  have hb1:Below w.heap.size w w1:=hA.trans (hb.mono (Nat.le_succ _))
  refine⟨a,cap,by rw[hre],(hb.cell (p:=⟨w.heap.size,0,none⟩) (Nat.lt_succ_self _)).trans ((cell_of_row _ _ _ _ _ _ n1).trans rfl),(hb.frozen (p:=⟨w.heap.size,0,none⟩) (Nat.lt_succ_self _)).trans (frozen_of_row _ _ _ _ _ n1),by omega,hb1, ?_⟩
  have hP:=PSt.made (s:=s) (cap:=cap) hlies ⟨r2,r1⟩ r3 (by omega)
  have hs2:(w1.alloc (.cells #[.slice a ts.length cap,.int .i64 s.size,.int .i64 0,.int .i64 0,.int .i64 0,.int .i64 0] 75)).heap.size=w1.heap.size+1:=by simp
  have n3:=heap_alloc_new (w1.alloc (.cells #[.slice a ts.length cap,.int .i64 s.size,.int .i64 0,.int .i64 0,.int .i64 0,.int .i64 0] 75)) (.cells #[.slice none 0 0] 25)
  rw[hs2]at n3
  exact RB.start (hP.alloc _) ⟨Nat.lt_succ_self _,by simp⟩ ((cell_of_row _ _ _ _ _ _ n3).trans rfl) (frozen_of_row _ _ _ _ _ n3)
 have HP:Hid (∀s2 xs,dprocs ts s.size (ts.length+1) [] ps0=(xs,s2)→(s2.er=none→dprog ts s.size=(0, -1,xs))∧(∀c a,s2.er=some (c,a)→dprog ts s.size=(c,a,[]))):=fun s2 xs e=>by
  unfold dprog
  rw[e]
  refine⟨fun h=> ?_,fun c a h=> ?_⟩<;>simp only[h]
 generalize hR:dprog ts s.size=r at*
 have HR3:=Lib.hid r2
 generalize RScanEnd (resOf s) (w.alloc (.cells #[.slice none 0 0] 25))=RS at*
 clear hA n1 hs1 r3 hre hR hw5
 go_enter Tryz.func11,Tryz.ntmps11
 go_wp2_with fail
 refine HS.out.mono ?_
 rintro e w1 hq
 obtain⟨a,cap,rfl,hc0,hf0,hlt,hb1,hRB⟩:=HY.out _ _ hq
 have HR0:=Lib.hid hRB
 have HB1:=Lib.hid hb1
 clear hq HS HY hRB hb1
 go_wp2_with fail
 obtain⟨w3,hw3⟩:∃w3,w3=(w1.alloc (.cells #[.slice a ts.length cap,.int .i64 s.size,.int .i64 0,.int .i64 0,.int .i64 0,.int .i64 0] 75)).alloc (.cells #[.slice none 0 0] 25):=⟨_,rfl⟩
 have hb3:Below w1.heap.size w1 w3:=by rw[hw3];exact((Below.refl _ _).alloc (Nat.le_refl _) _).alloc (by simp) _
 rw[←hw3]at HR0⊢
 have HC3:Hid (w3.cell? ⟨w.heap.size,0,none⟩=some (.slice none 0 0)∧w3.frozen? ⟨w.heap.size,0,none⟩=false):=⟨(hb3.cell (p:=⟨w.heap.size,0,none⟩) hlt).trans hc0,(hb3.frozen (p:=⟨w.heap.size,0,none⟩) hlt).trans hf0⟩
 have HB3:=Lib.hid (HB1.out.trans (hb3.mono (Nat.le_of_lt hlt)))
 clear hw3 hb3 hc0 hf0 HB1
 obtain⟨g,hg⟩:∃g,g=w1.heap.size:=⟨_,rfl⟩
 simp only[←hg]at HR0⊢
 obtain⟨he,hhe⟩:∃he,he=g+1:=⟨_,rfl⟩
 simp only[←hhe]at HR0⊢
 have hgl:w.heap.size<g∧w.heap.size<he:=by omega
 clear hg hhe hlt
 obtain⟨C,hC⟩:∃C:PC,C=⟨g,a,cap,ts,s.size⟩:=⟨_,rfl⟩
 have hCp:C.p= .pointer (some ⟨g,0,none⟩):=by rw[hC]
 have hCg:C.g=g:=by rw[hC]
 have hCt:C.tk=ts:=by rw[hC]
 have hCe:C.en=s.size:=by rw[hC]
 rw[←hC]at HR0
 obtain⟨T,hT⟩:∃T,T=dprocs C.tk C.en (C.tk.length+1) [] ps0:=⟨_,rfl⟩
 have HPT:Hid (∀s2 xs,T=(xs,s2)→(s2.er=none→r=(0, -1,xs))∧(∀c a,s2.er=some (c,a)→r=(c,a,[]))):=fun s2 xs e=>HP.out s2 xs (by rw[←e,hT,hCt,hCe])
 have HLOW:Hid (∀s2 xs v wr w9,RB C he w3 s2 xs v wr→Far w.heap.size wr w9→Below w.heap.size w w9∧w3.heap.size≤wr.heap.size∧w.heap.size≤w3.heap.size):=fun s2 xs v wr w9 hr f=>by
  have hz:=HB3.out.size
  have k:=hr.kept
  exact⟨HB3.out.trans ((⟨k.os,k.tape,k.output,k.size,fun q hq=>k.block q (by omega) (by omega) (by omega)⟩:Below w.heap.size w3 wr).trans ⟨f.os,f.tape,f.output,Nat.le_of_eq f.size.symm,fun q hq=>f.block q (by omega)⟩),k.size,hz⟩
 have HRES:Hid (∀s2 xs v wr,RB C he w3 s2 xs v wr→wr.cell? ⟨w.heap.size,0,none⟩=some (.slice none 0 0)∧wr.frozen? ⟨w.heap.size,0,none⟩=false):=fun s2 xs v wr hr=>by
  have hh:=hr.hg
  have k:=hr.kept.block w.heap.size (by omega) (by omega) (by omega)
  exact⟨(World.cell?_of_block (a:=⟨w.heap.size,0,none⟩) k).trans HC3.out.1,(World.frozen?_of_block (a:=⟨w.heap.size,0,none⟩) k).trans HC3.out.2⟩
 have HLEN:Hid (C.tk.length≤65536):=Lib.hid HR0.out.ps.len.1
 have HOK:Hid (∀s2 xs v wr,RB C he w3 s2 xs v wr→T=(xs,s2)→s2.er=none→xs.length≤70000→∀w9,Far w.heap.size wr w9→DEnd r w (.returned (.tuple #[.agg #[v],.int .i64 0,.int .i64 (-1)])) w9):=fun s2 xs v wr hr hk h0 hx w9 f=>by
  have er:=(HPT.out s2 xs hk).1 h0
  obtain⟨l1,l2,l3⟩:=HLOW.out s2 xs v wr w9 hr f
  have hh:=hr.hg
  rw[er]
  exact⟨v,rfl,(hr.own.sits (by omega)).keep (fun b ⟨a1,a2⟩=>⟨by omega,by rw[f.size];exact a2⟩) (fun b o ⟨a1,a2⟩=>World.cell?_of_block (f.block b (by omega))),l1⟩
 have HERR:Hid (∀s2 xs v wr,RB C he w3 s2 xs v wr→T=(xs,s2)→s2.er≠none→∃c ca:Int,(c != 0)=true∧¬c=0∧wr.cell? ⟨g,4,none⟩=some (.int .i64 c)∧wr.cell? ⟨g,5,none⟩=some (.int .i64 ca)∧∀w9,Far w.heap.size wr w9→DEnd r w (.returned (.tuple #[.agg #[.slice none 0 0],.int .i64 c,.int .i64 ca])) w9):=fun s2 xs v wr hr hk h0=>by
  cases h4:s2.er with
  | none=>exact absurd h4 h0
  | some p=>
    obtain⟨c,ap⟩:=p
    have hc0:=hr.ps.eo c ap h4
    have er:=(HPT.out s2 xs hk).2 c ap h4
    obtain⟨v5,c5,hv5⟩:=hr.ps.c5
    have c4:=hr.ps.c4
    have e4:ebad s2=c:=by unfold ebad;rw[h4]
    rw[e4,hCg]at c4
    rw[hv5 c ap h4,hCg]at c5
    refine⟨c,ap,by simpa using hc0,hc0,c4,c5,fun w9 f=> ?_⟩
    obtain⟨l1,l2,l3⟩:=HLOW.out s2 xs v wr w9 hr f
    rw[er]
    exact⟨_,rfl,slot_none _ _ _,l1⟩
 have HT0:Hid (dprocs C.tk C.en (C.tk.length+1) [] ps0=T):=hT.symm
 have HMD:=Lib.hid (fun(s2:PS) W (hW:PSt C s2 W)=>md_proc2 hW)
 have HLT:=Lib.hid (fun(s2:PS) W (hW:PSt C s2 W) h=>dproc_lt (s:=s2) hW h)
 have hL:C.tk.length=ts.length:=by rw[hCt]
 obtain⟨L,hLL⟩:∃L,L=ts.length:=⟨_,rfl⟩
 rw[←hLL]at hL
 simp only[←hLL]
 have HLL:=Lib.hid hL
 generalize DEnd r w=Q at*
 clear hT HP HB3 HC3 HLOW hC hCt hCe hLL hL hCp HPT r1 r2 HR3
 subst hCg
 go_loopw [] (fun wr=>∃(k:Nat) (s2:PS) (xs:List QT) (va:Option Addr) (vn vc:Nat),Hid (RB C he w3 s2 xs (.slice va vn vc) wr)∧Hid (dprocs C.tk C.en k xs s2=T)∧Hid (1≤k∧(s2.er=none→C.tk.length+1≤k+s2.nx)∧xs.length+k≤C.tk.length+1)) (fun wr=>mz C wr)
 case atStart=>exact⟨_,_,_,_,_,_,HR0,HT0,Lib.hid ⟨Nat.succ_le_succ (Nat.zero_le _),fun _=>Nat.le_add_right _ _,by simp⟩⟩
 case round=>
  clear HR0 HT0
  obtain⟨k,sp,xs,va,vn,vc,hr,hk,hfu⟩:=hrel
  obtain⟨wo,rfl⟩:∃wo:World,wo=wr:=⟨_,rfl⟩
  have hxs:xs.length≤70000:=by have:=hfu.out.2.2;have:=HLEN.out;omega
  have c4:=hr.out.ps.c4
  have hpc:=hr.out.cell
  by_cases h20:sp.er=none
  ·have hz:ebad sp=0:=by unfold ebad;rw[h20]
   rw[hz]at c4
   have c2:=hr.out.ps.two h20
   have hnl:=(hr.out.ps.inv h20).2.2
   by_cases hlt:sp.nx<C.tk.length
   ·have hdn:sp.nx<L:=by rw[←HLL.out];exact hlt
    have hd:decide (sp.nx<L)=true:=decide_eq_true hdn
    have hl0:=LX.start (sh:=qtX) (t:=63) (z:=zQt) (x:=qt0) hr.out.ps rfl zQt_rel
    have HL0:=Lib.hid hl0
    obtain⟨s1,hs1⟩:∃s',s'=deat C.tk C.en (⟨#[112,114,111,99]⟩:ByteArray) sp:=⟨_,rfl⟩
    have H0:=Lib.hid (fun W (hW:PSt C sp W)=>eat_any C sp (⟨#[112,114,111,99]⟩:ByteArray) W hW (by decide))
    have X0:Hid (∀W e1 W1,PU (deat C.tk C.en (⟨#[112,114,111,99]⟩:ByteArray)) C sp W e1 W1→e1= .returned (.tuple #[])∧PSt C s1 W1∧KeptG C.g W W1):=fun W e1 W1 hu=>by rw[hs1];exact hu
    obtain⟨fq1,hfq1⟩:∃x',x'=(dtext C.tk C.en 1 s1).1:=⟨_,rfl⟩
    obtain⟨s2,hs2⟩:∃s',s'=(dtext C.tk C.en 1 s1).2:=⟨_,rfl⟩
    have H1:=Lib.hid (fun W (hW:PSt C s1 W)=>text_any C s1 1 W hW (by decide))
    have X1:Hid (∀W e1 W1,PSt C s1 W→PE Vt (dtext C.tk C.en 1) C s1 W e1 W1→e1= .returned (.string fq1)∧fq1.size≤maxLen∧PSt C s2 W1∧KeptG C.g W W1):=fun W e1 W1 hS hq=>by rw[hs2,hfq1];exact⟨(pe_v hq).1,dtext_size 1 hS (by decide),(pe_v hq).2⟩
    obtain⟨s3,hs3⟩:∃s',s'=deat C.tk C.en (⟨#[40]⟩:ByteArray) s2:=⟨_,rfl⟩
    have H2:=Lib.hid (fun W (hW:PSt C s2 W)=>eat_any C s2 (⟨#[40]⟩:ByteArray) W hW (by decide))
    have X2:Hid (∀W e1 W1,PU (deat C.tk C.en (⟨#[40]⟩:ByteArray)) C s2 W e1 W1→e1= .returned (.tuple #[])∧PSt C s3 W1∧KeptG C.g W W1):=fun W e1 W1 hu=>by rw[hs3];exact hu
    obtain⟨aq3,haq3⟩:∃x',x'=(dnames C.tk C.en false s3).1:=⟨_,rfl⟩
    obtain⟨s4,hs4⟩:∃s',s'=(dnames C.tk C.en false s3).2:=⟨_,rfl⟩
    have H3:=Lib.hid (fun W (hW:PSt C s3 W)=>names0_any C s3 W hW)
    have X3:Hid (∀W e1 W1 cs,LX qtX C (wo) (wo.heap.size) s3 ({ qt0 with name:=fq1 }:QT) cs W→PE (Vs strSh) (dnames C.tk C.en false) C s3 W e1 W1→∃a c,e1= .returned (.slice a aq3.length c)∧(∃z,W1.cell? ⟨wo.heap.size,1,none⟩=some z)∧W1.frozen? ⟨wo.heap.size,1,none⟩=false∧LX qtX C (wo) (wo.heap.size) s4 ({ qt0 with name:=fq1,params:=aq3 }:QT) (spl cs 1 [.slice a aq3.length c]) (W1.setCell ⟨wo.heap.size,1,none⟩ (.slice a aq3.length c))):=fun W e1 W1 cs hl hq=>by
     obtain⟨a,c,a1,a2,a3,a4⟩:=pe_rw hq
     rw[←hs4]at a3
     rw[←haq3]at a1 a2
     obtain⟨⟨z,_,z1⟩,z2⟩:=(hl.step a4 a3).cell (j:=1) (by show 1<34;omega)
     exact⟨a,c,a1,⟨z,z1⟩,z2,hl.setS a4 a3 a2 (by show 1<34;omega) (qt_ni hl.tree) (fun S W hx hv=>qt_params hv hx)⟩
    obtain⟨s5,hs5⟩:∃s',s'=deat C.tk C.en (⟨#[59]⟩:ByteArray) s4:=⟨_,rfl⟩
    have H4:=Lib.hid (fun W (hW:PSt C s4 W)=>eat_any C s4 (⟨#[59]⟩:ByteArray) W hW (by decide))
    have X4:Hid (∀W e1 W1,PU (deat C.tk C.en (⟨#[59]⟩:ByteArray)) C s4 W e1 W1→e1= .returned (.tuple #[])∧PSt C s5 W1∧KeptG C.g W W1):=fun W e1 W1 hu=>by rw[hs5];exact hu
    obtain⟨gq5,hgq5⟩:∃x',x'=(dnames C.tk C.en false s5).1:=⟨_,rfl⟩
    obtain⟨s6,hs6⟩:∃s',s'=(dnames C.tk C.en false s5).2:=⟨_,rfl⟩
    have H5:=Lib.hid (fun W (hW:PSt C s5 W)=>names0_any C s5 W hW)
    have X5:Hid (∀W e1 W1 cs,LX qtX C (wo) (wo.heap.size) s5 ({ qt0 with name:=fq1,params:=aq3 }:QT) cs W→PE (Vs strSh) (dnames C.tk C.en false) C s5 W e1 W1→∃a c,e1= .returned (.slice a gq5.length c)∧(∃z,W1.cell? ⟨wo.heap.size,2,none⟩=some z)∧W1.frozen? ⟨wo.heap.size,2,none⟩=false∧LX qtX C (wo) (wo.heap.size) s6 ({ qt0 with name:=fq1,params:=aq3,ghosts:=gq5 }:QT) (spl cs 2 [.slice a gq5.length c]) (W1.setCell ⟨wo.heap.size,2,none⟩ (.slice a gq5.length c))):=fun W e1 W1 cs hl hq=>by
     obtain⟨a,c,a1,a2,a3,a4⟩:=pe_rw hq
     rw[←hs6]at a3
     rw[←hgq5]at a1 a2
     obtain⟨⟨z,_,z1⟩,z2⟩:=(hl.step a4 a3).cell (j:=2) (by show 2<34;omega)
     exact⟨a,c,a1,⟨z,z1⟩,z2,hl.setS a4 a3 a2 (by show 2<34;omega) (qt_ni hl.tree) (fun S W hx hv=>qt_ghosts hv hx)⟩
    obtain⟨s7,hs7⟩:∃s',s'=deat C.tk C.en (⟨#[41]⟩:ByteArray) s6:=⟨_,rfl⟩
    have H6:=Lib.hid (fun W (hW:PSt C s6 W)=>eat_any C s6 (⟨#[41]⟩:ByteArray) W hW (by decide))
    have X6:Hid (∀W e1 W1,PU (deat C.tk C.en (⟨#[41]⟩:ByteArray)) C s6 W e1 W1→e1= .returned (.tuple #[])∧PSt C s7 W1∧KeptG C.g W W1):=fun W e1 W1 hu=>by rw[hs7];exact hu
    obtain⟨s8,hs8⟩:∃s',s'=deat C.tk C.en (⟨#[114,101,113,117,105,114,101,115]⟩:ByteArray) s7:=⟨_,rfl⟩
    have H7:=Lib.hid (fun W (hW:PSt C s7 W)=>eat_any C s7 (⟨#[114,101,113,117,105,114,101,115]⟩:ByteArray) W hW (by decide))
    have X7:Hid (∀W e1 W1,PU (deat C.tk C.en (⟨#[114,101,113,117,105,114,101,115]⟩:ByteArray)) C s7 W e1 W1→e1= .returned (.tuple #[])∧PSt C s8 W1∧KeptG C.g W W1):=fun W e1 W1 hu=>by rw[hs8];exact hu
    obtain⟨pq8,hpq8⟩:∃x',x'=(das C.tk C.en s8).1:=⟨_,rfl⟩
    obtain⟨s9,hs9⟩:∃s',s'=(das C.tk C.en s8).2:=⟨_,rfl⟩
    have H8:=Lib.hid (fun W (hW:PSt C s8 W)=>assn_any C s8 W hW)
    have X8:Hid (∀W e1 W1 cs,LX qtX C (wo) (wo.heap.size) s8 ({ qt0 with name:=fq1,params:=aq3,ghosts:=gq5 }:QT) cs W→PE (Vx asX) (das C.tk C.en) C s8 W e1 W1→∃cs2:List Value,e1= .returned (.agg cs2.toArray)∧cs2.length=15∧(∀u∈cs2,u.oneCell'=true)∧W1.there (wo.heap.size) 3 cs2.length∧∀W9,Stored (wo.heap.size) 3 cs2 W1 W9→LX qtX C (wo) (wo.heap.size) s9 ({ qt0 with name:=fq1,params:=aq3,ghosts:=gq5,pre:=pq8 }:QT) (spl cs 3 cs2) W9):=fun W e1 W1 cs hl hq=>by
     obtain⟨cs2,a1,a2,a3,a4,a5,a6⟩:=pe_x hq
     have a2:cs2.length=15:=a2
     rw[←hs9]at a5
     rw[←hpq8]at a4
     exact⟨cs2,a1,a2,a3,by rw[a2];exact hl.part a6 a5 (by show 3+15≤34;omega),fun W9 hst=>hl.setP a6 a5 a4 (by show 3+15≤34;omega) (qt_ni hl.tree) hst (fun S W hx hy=>qt_pre hy hx)⟩
    obtain⟨s10,hs10⟩:∃s',s'=deat C.tk C.en (⟨#[101,110,115,117,114,101,115]⟩:ByteArray) s9:=⟨_,rfl⟩
    have H9:=Lib.hid (fun W (hW:PSt C s9 W)=>eat_any C s9 (⟨#[101,110,115,117,114,101,115]⟩:ByteArray) W hW (by decide))
    have X9:Hid (∀W e1 W1,PU (deat C.tk C.en (⟨#[101,110,115,117,114,101,115]⟩:ByteArray)) C s9 W e1 W1→e1= .returned (.tuple #[])∧PSt C s10 W1∧KeptG C.g W W1):=fun W e1 W1 hu=>by rw[hs10];exact hu
    obtain⟨rq10,hrq10⟩:∃x',x'=(das C.tk C.en s10).1:=⟨_,rfl⟩
    obtain⟨s11,hs11⟩:∃s',s'=(das C.tk C.en s10).2:=⟨_,rfl⟩
    have H10:=Lib.hid (fun W (hW:PSt C s10 W)=>assn_any C s10 W hW)
    have X10:Hid (∀W e1 W1 cs,LX qtX C (wo) (wo.heap.size) s10 ({ qt0 with name:=fq1,params:=aq3,ghosts:=gq5,pre:=pq8 }:QT) cs W→PE (Vx asX) (das C.tk C.en) C s10 W e1 W1→∃cs2:List Value,e1= .returned (.agg cs2.toArray)∧cs2.length=15∧(∀u∈cs2,u.oneCell'=true)∧W1.there (wo.heap.size) 18 cs2.length∧∀W9,Stored (wo.heap.size) 18 cs2 W1 W9→LX qtX C (wo) (wo.heap.size) s11 ({ qt0 with name:=fq1,params:=aq3,ghosts:=gq5,pre:=pq8,post:=rq10 }:QT) (spl cs 18 cs2) W9):=fun W e1 W1 cs hl hq=>by
     obtain⟨cs2,a1,a2,a3,a4,a5,a6⟩:=pe_x hq
     have a2:cs2.length=15:=a2
     rw[←hs11]at a5
     rw[←hrq10]at a4
     exact⟨cs2,a1,a2,a3,by rw[a2];exact hl.part a6 a5 (by show 18+15≤34;omega),fun W9 hst=>hl.setP a6 a5 a4 (by show 18+15≤34;omega) (qt_ni hl.tree) hst (fun S W hx hy=>qt_post hy hx)⟩
    obtain⟨bq11,hbq11⟩:∃x',x'=(dbl C.tk C.en s11).1:=⟨_,rfl⟩
    obtain⟨s12,hs12⟩:∃s',s'=(dbl C.tk C.en s11).2:=⟨_,rfl⟩
    have H11:=Lib.hid (fun W (hW:PSt C s11 W)=>block_any C s11 W hW)
    have X11:Hid (∀W e1 W1 cs,LX qtX C (wo) (wo.heap.size) s11 ({ qt0 with name:=fq1,params:=aq3,ghosts:=gq5,pre:=pq8,post:=rq10 }:QT) cs W→PE (Vs stX) (dbl C.tk C.en) C s11 W e1 W1→∃a c,e1= .returned (.slice a bq11.length c)∧(∃z,W1.cell? ⟨wo.heap.size,33,none⟩=some z)∧W1.frozen? ⟨wo.heap.size,33,none⟩=false∧LX qtX C (wo) (wo.heap.size) s12 ({ qt0 with name:=fq1,params:=aq3,ghosts:=gq5,pre:=pq8,post:=rq10,body:=bq11 }:QT) (spl cs 33 [.slice a bq11.length c]) (W1.setCell ⟨wo.heap.size,33,none⟩ (.slice a bq11.length c))):=fun W e1 W1 cs hl hq=>by
     obtain⟨a,c,a1,a2,a3,a4⟩:=pe_rw hq
     rw[←hs12]at a3
     rw[←hbq11]at a1 a2
     obtain⟨⟨z,_,z1⟩,z2⟩:=(hl.step a4 a3).cell (j:=33) (by show 33<34;omega)
     exact⟨a,c,a1,⟨z,z1⟩,z2,hl.setS a4 a3 a2 (by show 33<34;omega) (qt_ni hl.tree) (fun S W hx hv=>qt_body hv hx)⟩
    have ed:dproc C.tk C.en sp=(({ qt0 with name:=fq1,params:=aq3,ghosts:=gq5,pre:=pq8,post:=rq10,body:=bq11 }:QT),s12):=by
     unfold dproc
     subst_vars
     rfl
    have HNX:Hid (∀wr cs,LX qtX C wo wo.heap.size s12 ({ qt0 with name:=fq1,params:=aq3,ghosts:=gq5,pre:=pq8,post:=rq10,body:=bq11 }:QT) cs wr→cs.length=34∧wr.rangeAt wo.heap.size 0 cs∧wr.cell? ⟨he,0,none⟩=some (.slice va vn vc)∧∃a6 n6 c6 w6,(∀ty,(Builtin.append_ #[23,23] ty #[.slice va vn vc,.slice (some ⟨wr.heap.size,0,none⟩) 1 1]).run Tryz.prog (wr.alloc (.cells cs.toArray 63))= .ok (.slice a6 n6 c6) w6)∧w6.cell? ⟨he,0,none⟩=some (.slice va vn vc)∧w6.frozen? ⟨he,0,none⟩=false∧
     (∃(k:Nat) (s2:PS) (xs:List QT) (va:Option Addr) (vn vc:Nat),Hid (RB C he w3 s2 xs (.slice va vn vc) (w6.setCell ⟨he,0,none⟩ (.slice a6 n6 c6)))∧Hid (dprocs C.tk C.en k xs s2=T)∧Hid (1≤k∧(s2.er=none→C.tk.length+1≤k+s2.nx)∧xs.length+k≤C.tk.length+1))∧mz C (w6.setCell ⟨he,0,none⟩ (.slice a6 n6 c6))<mz C wo):=fun wr cs hl=>by
     obtain⟨b1,a6,n6,c6,w6,b2,b3,b4,b5⟩:=hr.out.push hl hxs
     have hlt2:=HLT.out sp wo hr.out.ps
     rw[ed]at hlt2
     replace hlt2:s12.er=none→sp.nx<s12.nx:=hlt2
     have hfk:=hfu.out.2.1 h20
     have hfl:=hfu.out.2.2
     obtain⟨k,rfl⟩:∃k',k=k'+1:=⟨k - 1,by omega⟩
     refine⟨hl.len,hl.box,b1,a6,n6,c6,w6,b2,b3,b4,⟨k,_,_,a6,n6,c6,b5, ?_, ?_⟩,mz_less hr.out.ps h20 b5.ps hlt2⟩
     ·have:=hk.out
      unfold dprocs at this
      rw[if_pos ⟨h20,hlt⟩,ed]at this
      exact this
     ·exact⟨by omega,fun e=>by have:=hlt2 e;omega,by rw[List.length_append];simp only[List.length_singleton];omega⟩
    clear hl0 hr hk hfu h20 hz hlt hnl ed hs1 hfq1 hs2 hs3 haq3 hs4 hs5 hgq5 hs6 hs7 hs8 hpq8 hs9 hs10 hrq10 hs11 hbq11 hs12 HMD HLT HOK HERR HRES
    unfold PC.p at*
    go_wp2_with (first | (refine wpList_alloc_z (by kernel_rfl) 63 rfl zQt Tryz.qtZero ?_) | (refine wpList_build_z (by kernel_rfl) 63 rfl zQt Tryz.qtBuilt ?_) | (refine gateS 63 10 rfl ?_;refine wpList_store_fresh (by kernel_rfl) 63 _ _ rfl zQt.toArray rfl zQt rfl Tryz.qtSize (by simp) zQt_one ?_))
    go_wp2_with fail
    refine(H0.out _ HL0.out.ps).mono ?_
    rintro e w1 hq
    obtain⟨rfl,hp,hk⟩:=X0.out _ _ _ hq
    have HL1:=Lib.hid (HL0.out.step hk hp)
    clear hq hp hk H0 X0
    clear HL0
    go_wp2_with fail
    refine(H1.out _ HL1.out.ps).mono ?_
    rintro e w2 hq
    obtain⟨rfl,hb,hp,hk⟩:=X1.out _ _ _ HL1.out.ps hq
    have HM2:=Lib.hid (HL1.out.step hk hp)
    obtain⟨⟨v2,_,y2c⟩,f2c⟩:=HM2.out.cell (j:=0) (by show 0<34;omega)
    have HL2:Hid (LX qtX C (wo) (wo.heap.size) s2 ({ qt0 with name:=fq1 }:QT) _ (w2.setCell ⟨wo.heap.size,0,none⟩ (.string fq1))):=Lib.hid (HM2.out.set1 (o:=0) (v:= .string fq1) (by show 0<34;omega) (qt_ni HM2.out.tree) (fun S W h=>(qt_name fq1 hb) h))
    clear hq hp hk hb H1 X1 HM2
    clear HL1
    go_wp2_with fail
    clear y2c f2c
    refine(H2.out _ HL2.out.ps).mono ?_
    rintro e w3 hq
    obtain⟨rfl,hp,hk⟩:=X2.out _ _ _ hq
    have HL3:=Lib.hid (HL2.out.step hk hp)
    clear hq hp hk H2 X2
    clear HL2
    go_wp2_with fail
    refine(H3.out _ HL3.out.ps).mono ?_
    rintro e w4 hq
    obtain⟨ra4,rc4,rfl,⟨rz4,y4c⟩,f4c,hfin⟩:=X3.out _ _ _ _ HL3.out hq
    have HL4:=Lib.hid hfin
    clear hq hfin H3 X3
    clear HL3
    go_wp2_with fail
    clear y4c f4c
    refine(H4.out _ HL4.out.ps).mono ?_
    rintro e w5 hq
    obtain⟨rfl,hp,hk⟩:=X4.out _ _ _ hq
    have HL5:=Lib.hid (HL4.out.step hk hp)
    clear hq hp hk H4 X4
    clear HL4
    go_wp2_with fail
    refine(H5.out _ HL5.out.ps).mono ?_
    rintro e w6 hq
    obtain⟨ra6,rc6,rfl,⟨rz6,y6c⟩,f6c,hfin⟩:=X5.out _ _ _ _ HL5.out hq
    have HL6:=Lib.hid hfin
    clear hq hfin H5 X5
    clear HL5
    go_wp2_with fail
    clear y6c f6c
    refine(H6.out _ HL6.out.ps).mono ?_
    rintro e w7 hq
    obtain⟨rfl,hp,hk⟩:=X6.out _ _ _ hq
    have HL7:=Lib.hid (HL6.out.step hk hp)
    clear hq hp hk H6 X6
    clear HL6
    go_wp2_with fail
    refine(H7.out _ HL7.out.ps).mono ?_
    rintro e w8 hq
    obtain⟨rfl,hp,hk⟩:=X7.out _ _ _ hq
    have HL8:=Lib.hid (HL7.out.step hk hp)
    clear hq hp hk H7 X7
    clear HL7
    go_wp2_with fail
    refine(H8.out _ HL8.out.ps).mono ?_
    rintro e w9 hq
    obtain⟨c9,rfl,l9,o9,t9,fin⟩:=X8.out _ _ _ _ HL8.out hq
    have HF9:=Lib.hid fin
    clear hq fin H8 X8
    clear HL8
    go_wp2_with (first | (refine gateS 60 64 rfl ?_;refine wpList_store_there rfl 60 _ _ rfl (wo.heap.size) 3 rfl _ rfl (by rw[l9];kernel_rfl) o9 t9 ?_;intro w99 hst;have HL9:=Lib.hid (HF9.out _ hst);clear hst HF9))
    clear l9 o9 t9
    refine(H9.out _ HL9.out.ps).mono ?_
    rintro e w10 hq
    obtain⟨rfl,hp,hk⟩:=X9.out _ _ _ hq
    have HL10:=Lib.hid (HL9.out.step hk hp)
    clear hq hp hk H9 X9
    clear HL9
    go_wp2_with fail
    refine(H10.out _ HL10.out.ps).mono ?_
    rintro e w11 hq
    obtain⟨c11,rfl,l11,o11,t11,fin⟩:=X10.out _ _ _ _ HL10.out hq
    have HF11:=Lib.hid fin
    clear hq fin H10 X10
    clear HL10
    go_wp2_with (first | (refine gateS 60 69 rfl ?_;refine wpList_store_there rfl 60 _ _ rfl (wo.heap.size) 18 rfl _ rfl (by rw[l11];kernel_rfl) o11 t11 ?_;intro w119 hst;have HL11:=Lib.hid (HF11.out _ hst);clear hst HF11))
    clear l11 o11 t11
    refine(H11.out _ HL11.out.ps).mono ?_
    rintro e w12 hq
    obtain⟨ra12,rc12,rfl,⟨rz12,y12c⟩,f12c,hfin⟩:=X11.out _ _ _ _ HL11.out hq
    have HL12:=Lib.hid hfin
    clear hq hfin H11 X11
    clear HL11
    obtain⟨hl9,hr9,hpc9,a6,n6,c6,w6,hrun,y6,f6,hfin⟩:=HNX.out _ _ HL12.out
    have HFIN:=Lib.hid hfin
    clear hfin HNX HL12
    go_wp2_with (first | (refine gateL 63 10 rfl ?_;refine wpList_load_mid rfl 63 _ rfl (wo.heap.size) 0 rfl _ _ hr9 Tryz.underlying63 rfl (by rw[hl9];kernel_rfl) ?_) | (refine wpList_build_one (by kernel_rfl) 23 63 _ rfl _ rfl Tryz.underlying23 Tryz.rowProc (by decide) (by decide) hl9 ?_) | (at_builtin;refine Lib.wpList_append_run _ rfl _ _ _ _ rfl _ _ rfl rfl _ _ (hrun _) ?_))
    go_roundw
    case rel=>first | exact HFIN.out.1 | ((repeat apply Exists.intro);exact⟨HFIN.out.1,rfl⟩)
    case measure=>exact HFIN.out.2
   ·have hdn:¬sp.nx<L:=by rw[←HLL.out];exact hlt
    have hd:decide (sp.nx<L)=false:=decide_eq_false hdn
    have HT:Hid (T=(xs,sp)):=by
     obtain⟨k,rfl⟩:∃k',k=k'+1:=⟨k - 1,by have:=hfu.out.1;omega⟩
     have:=hk.out
     unfold dprocs at this
     rw[if_neg (fun e=>hlt e.2)]at this
     exact this.symm
    have HF9:=Lib.hid (HOK.out sp xs _ wo hr.out HT.out h20 hxs)
    obtain⟨rc,rf⟩:=HRES.out sp xs _ wo hr.out
    clear hr hk hfu h20 hz hlt hnl HMD HLT HOK HERR HRES
    unfold PC.p at*
    go_wp2_with fail
    exact bodyPost_ret (v:=_) (results_three (p:=2) (u:=3) (x:=4) rfl _ _ _ _ _ (.int .i64 0) (.int .i64 (-1)) rfl rfl rfl (Tryz.prLoad (World.cell?_setCell_same' _ _ _ (by rw[rc];rfl)))) rfl (HF9.out _ ((Far.refl _ _).set _))
  ·have HT:Hid (T=(xs,sp)):=by
    obtain⟨k,rfl⟩:∃k',k=k'+1:=⟨k - 1,by have:=hfu.out.1;omega⟩
    have:=hk.out
    unfold dprocs at this
    rw[if_neg (fun e=>h20 e.1)]at this
    exact this.symm
   obtain⟨c,ca,hcb,hcn,d4,d5,hfin⟩:=HERR.out sp xs _ wo hr.out HT.out h20
   have HF9:=Lib.hid hfin
   obtain⟨rc,rf⟩:=HRES.out sp xs _ wo hr.out
   have hcz:(c == 0)=false:=by simpa using hcn
   clear hr hk hfu h20 c4 HMD HLT HOK HERR HRES hfin
   unfold PC.p at*
   go_wp2_with fail
   go_region_with fail
   all_goals
    go_wp2_with fail
    exact bodyPost_ret (v:=_) (results_three (p:=2) (u:=3) (x:=4) rfl _ _ _ _ _ (.int .i64 c) (.int .i64 ca) rfl rfl rfl (Tryz.prLoad (World.cell?_setCell_same' _ _ _ (by rw[rc];rfl)))) rfl (HF9.out _ ((Far.refl _ _).set _).drew)
theorem rparse_any (s:ByteArray)(w:World)(hs:s.size≤9223372036854775807)(hw5:5<w.heap.size):Calls Tryz.prog 11 #[.string s] w (DEnd (dparse s) w):=by
 by_cases h0:(resOf s).1=0
 ·exact rparse_good s w hs hw5 h0
 ·exact rparse_bad s w hs h0
end Dc
section
open Go.RowKit
theorem scanF_codes:∀(f:Nat) (r:List UInt8) (i:Nat) (ts:List Tok) (c:Int) (j:Nat),scanF f r i ts= .bad c j→c=2∨c=5∨c=10
 | 0,r,i,ts,c,j,h=>by rw[scanF]at h;cases h
 | f+1,r,i,ts,c,j,h=>by
   rw[scanF]at h
   split at h
   ·cases h
   ·next hs=>injection h with h1 h2;subst h1;exact stp_bad hs
   ·exact scanF_codes f _ _ _ _ _ h
   ·exact scanF_codes f _ _ _ _ _ h
theorem res_codes (s:ByteArray):0≤(resOf s).1∧(resOf s).1≤16:=by
 unfold resOf
 split
 ·exact⟨by decide,by decide⟩
 ·next hs=>
  cases h:scanF s.data.toList.length s.data.toList 0 []with
  | ok ts=>exact⟨by show(0:Int)≤0;omega,by show(0:Int)≤16;omega⟩
  | bad c i=>
    have:=scanF_codes _ _ _ _ _ _ h
    show 0≤c∧c≤16
    omega
theorem pprog_codes (tk:List Tok)(en:Nat):0≤(pprog tk en).1∧(pprog tk en).1≤16:=by
 have k1:ErB (pprocs tk en (tk.length+1) [] ps0).2:=(mb_procs (tk:=tk) (en:=en) _ _ _).f (fun c a e=>by cases e)
 unfold pprog
 generalize pprocs tk en (tk.length+1) [] ps0=r at*
 obtain⟨l,nx,ne,er⟩:=r
 cases er with
 | none=>exact⟨by show(0:Int)≤0;omega,by show(0:Int)≤16;omega⟩
 | some p=>exact k1 p.1 p.2 rfl
theorem pparse_codes (s:ByteArray):0≤(pparse s).1∧(pparse s).1≤16:=by
 unfold pparse
 split
 ·exact pprog_codes _ _
 ·exact res_codes s
theorem pparse_place (s:ByteArray):0≤(pparse s).2.1→(pparse s).1≠0:=fun h e=>by
 rw[pparse_code s e]at h
 exact absurd h (by decide)
theorem told_all {B:Nat}{x at':Int}{er:Value}{w:World}(h:ErrIs B x at' er w)(hx:0≤x∧x≤16)(hp:0≤at'→x≠0)(hg:Laid0 w):ValAll 12 #[er,.int .i64 x,.int .i64 at'] (.bool true) w:=fun W hb=>etold_any (h.below hb) hx hp (hg.below hb hg.pos)
theorem parsePrograms_any (hup:UpSaid14)(s:ByteArray)(w:World)(hs:s.size≤9223372036854775807)(hL:Laid14 w):
 Calls Tryz.prog 3 #[.string s] w fun e w'=>e= .returned (.bool true)∧Below w.heap.size w w':=by
 have HUP:=Lib.hid (hup w hL)
 by_cases h1:3000<s.size∧s.size≤65536
 ·have h1i:(3000:Int)<(s.size:Int):=by omega
  have h2i:(s.size:Int)≤65536:=by omega
  clear hL h1
  go_enter Tryz.func3,Tryz.ntmps3
  go_wp2_with fail
  refine HUP.out.mono ?_
  rintro e w1 ⟨rfl,hb1⟩
  go_wp2_with fail
  go_ret
  exact⟨rfl,hb1⟩
 ·have hh:((3000:Int)<(s.size:Int)∧¬(s.size:Int)≤65536)∨¬(3000:Int)<(s.size:Int):=by omega
  have HP1:=Lib.hid (fun W (hb:Below w.heap.size w W)=>parse_any s W hs (hL.one.up hb))
  have HP2:=Lib.hid (fun W (hb:Below w.heap.size w W)=>Dc.rparse_any s W hs (Nat.lt_of_lt_of_le hL.one.pos hb.size))
  rw[←ag_parse]at HP2
  have HLE:=Lib.hid (fun W (hb:Below w.heap.size w W)=>(hL.up hb).err)
  have HC:=Lib.hid (pparse_codes s)
  have HPL:=Lib.hid (pparse_place s)
  obtain⟨⟨x,at',qs⟩,hr⟩:∃r,pparse s=r:=⟨_,rfl⟩
  rw[hr]at HP1 HP2 HC HPL
  clear hL h1 hr
  rcases hh with ⟨h1i,h2i⟩ | h1i
  all_goals
   go_enter Tryz.func3,Tryz.ntmps3
   go_wp2_with fail
   refine HUP.out.mono ?_
   rintro e w1 ⟨rfl,hb1⟩
   have B3:=Lib.hid hb1
   clear hb1 HUP
   go_wp2_with fail
   refine(HP1.out _ B3.out).mono ?_
   rintro e w4 hq
   obtain⟨v4,er4,rfl,hs4,he4,hb4⟩:=hq
   obtain⟨va4,vc4,rfl,hs4⟩:=hs4
   have hs4:Pak.Slot qtX (InS w1.heap.size w4) w4 (.slice va4 qs.length vc4) qs:=⟨va4,vc4,rfl,hs4⟩
   have hA4:Below w4.heap.size w4 (w4.alloc (.cells #[(.slice va4 qs.length vc4)] 25)):=(Below.refl _ _).alloc (Nat.le_refl _) _
   have hn4:=heap_alloc_new w4 (.cells #[(.slice va4 qs.length vc4)] 25)
   have hz4:w4.heap.size<(w4.alloc (.cells #[(.slice va4 qs.length vc4)] 25)).heap.size:=by simp
   have hs4:=Lib.hid (show Pak.Slot qtX (fun b=>b<(w4.alloc (.cells #[(.slice va4 qs.length vc4)] 25)).heap.size) (w4.alloc (.cells #[(.slice va4 qs.length vc4)] 25)) (.slice va4 qs.length vc4) qs from hs4.keep (fun b ⟨_,hb⟩=>Nat.lt_trans hb hz4) (fun b o ⟨_,hb⟩=>hA4.cell (p:=⟨b,o,none⟩) hb))
   have c4:(w4.alloc (.cells #[(.slice va4 qs.length vc4)] 25)).cell? ⟨w4.heap.size,0,none⟩=some (.slice va4 qs.length vc4):=(cell_of_row _ _ _ _ _ _ hn4).trans rfl
   have C4:=Lib.hid c4
   have B4:=Lib.hid ((B3.out.trans (hb4.mono B3.out.size)).trans (hA4.mono (B3.out.trans (hb4.mono B3.out.size)).size))
   have Z4:=Lib.hid hz4
   have E4:=Lib.hid (he4.below hA4)
   clear he4 hb4 hA4 hn4 hz4 c4 HP1 B3
   go_wp2_with fail
   generalize hW4:w4.alloc (.cells #[(.slice va4 qs.length vc4)] 25)=W4 at*
   refine(HP2.out _ B4.out).mono ?_
   rintro e w5 hq
   obtain⟨v5,rfl,hs5,hb5⟩:=hq
   obtain⟨va5,vc5,rfl,hs5⟩:=hs5
   have hs5:Pak.Slot qtX (InS W4.heap.size w5) w5 (.slice va5 qs.length vc5) qs:=⟨va5,vc5,rfl,hs5⟩
   have hA5:Below w5.heap.size w5 (w5.alloc (.cells #[(.slice va5 qs.length vc5)] 25)):=(Below.refl _ _).alloc (Nat.le_refl _) _
   have hn5:=heap_alloc_new w5 (.cells #[(.slice va5 qs.length vc5)] 25)
   have hz5:w5.heap.size<(w5.alloc (.cells #[(.slice va5 qs.length vc5)] 25)).heap.size:=by simp
   have hs5:Pak.Slot qtX (fun b=>b<(w5.alloc (.cells #[(.slice va5 qs.length vc5)] 25)).heap.size) (w5.alloc (.cells #[(.slice va5 qs.length vc5)] 25)) (.slice va5 qs.length vc5) qs:=hs5.keep (fun b ⟨_,hb⟩=>Nat.lt_trans hb hz5) (fun b o ⟨_,hb⟩=>hA5.cell (p:=⟨b,o,none⟩) hb)
   have c5:(w5.alloc (.cells #[(.slice va5 qs.length vc5)] 25)).cell? ⟨w5.heap.size,0,none⟩=some (.slice va5 qs.length vc5):=(cell_of_row _ _ _ _ _ _ hn5).trans rfl
   have hb45:Below W4.heap.size W4 (w5.alloc (.cells #[(.slice va5 qs.length vc5)] 25)):=hb5.trans (hA5.mono hb5.size)
   have R:=Lib.hid (same_any qs (.slice va4 qs.length vc4) (.slice va5 qs.length vc5) (w5.alloc (.cells #[(.slice va5 qs.length vc5)] 25)) _ _ (hs4.out.keep (S':=fun b=>b<(w5.alloc (.cells #[(.slice va5 qs.length vc5)] 25)).heap.size) (fun b hb=>Nat.lt_of_lt_of_le hb hb45.size) (fun b o hb=>hb45.cell (p:=⟨b,o,none⟩) hb)) hs5 (fun _ h=>h) (fun _ h=>h))
   have P1:Hid (∀W,Below (w5.alloc (.cells #[(.slice va5 qs.length vc5)] 25)).heap.size (w5.alloc (.cells #[(.slice va5 qs.length vc5)] 25)) W→∀k u,([.slice va4 qs.length vc4]:List Value)[k]? =some u→W.cell? ((⟨w4.heap.size,0,none⟩:Addr).add k)=some u):=fun W hW k u hu=>by
    match k,hu with
    | 0,hu=>
      obtain rfl:=Option.some.inj hu
      exact(hW.cell (p:=⟨w4.heap.size,0,none⟩) (Nat.lt_of_lt_of_le Z4.out hb45.size)).trans ((hb45.cell (p:=⟨w4.heap.size,0,none⟩) Z4.out).trans C4.out)
   have P2:Hid (∀W,Below (w5.alloc (.cells #[(.slice va5 qs.length vc5)] 25)).heap.size (w5.alloc (.cells #[(.slice va5 qs.length vc5)] 25)) W→∀k u,([.slice va5 qs.length vc5]:List Value)[k]? =some u→W.cell? ((⟨w5.heap.size,0,none⟩:Addr).add k)=some u):=fun W hW k u hu=>by
    match k,hu with
    | 0,hu=>
      obtain rfl:=Option.some.inj hu
      exact(hW.cell (p:=⟨w5.heap.size,0,none⟩) hz5).trans c5
   have B5:=Lib.hid (B4.out.trans (hb45.mono B4.out.size))
   have T:=Lib.hid (told_all (E4.out.below hb45) HC.out HPL.out (HLE.out _ B5.out))
   clear hb5 hA5 hn5 hz5 c5 HP2 B4 hs4 hs5 hb45 E4 C4 Z4 hW4 HC HPL HLE
   go_wp2_with fail
   generalize w5.alloc (.cells #[(.slice va5 qs.length vc5)] 25)=W5 at*
   refine(T.out _ (Below.refl _ _)).mono ?_
   rintro e w6 ⟨rfl,hb6⟩
   have d4:w6.cell? ⟨w4.heap.size,0,none⟩=some (.slice va4 qs.length vc4):=P1.out w6 hb6 0 _ rfl
   have d5:w6.cell? ⟨w5.heap.size,0,none⟩=some (.slice va5 qs.length vc5):=P2.out w6 hb6 0 _ rfl
   have R6:=Lib.hid (R.out.at hb6)
   have B6:=Lib.hid (B5.out.trans (hb6.mono B5.out.size))
   clear T R P1 P2 B5 hb6
   go_wp2_with fail
   refine R6.out.mono ?_
   rintro e w7 ⟨rfl,hb7⟩
   have B7:=Lib.hid (B6.out.trans (hb7.mono B6.out.size))
   clear R6 B6 hb7
   go_wp2_with fail
   go_ret
   exact⟨rfl,B7.out⟩
end
section
open Go.ChangeShapes Go.WideShapes Go.ChangeAt Go.RowKit
theorem parsePrograms_lifted (hup:UpSaid14)(os:Os)(started:os.Started)(H:Type)(enc:TypeId×Value→H):
 ReturnsInHanded {} Tryz.checked os 3 .any (fun w args=>(Rows.parseProgramsSpec.pre enc Tryz.prog Tryz.f3 [] false w args∧laidMetH Tryz.prog laidL w)∧sizedMet enc Tryz.prog Tryz.f3 (OpenSpec.ofChange Rows.parseProgramsSpec) false w args)
  (Rows.parseProgramsSpec.post enc Tryz.prog Tryz.f3 false true false false):=by
 refine returnsInHanded_of_change_and (C:=Tryz.checked) (X:=fun w _=>laidMetH Tryz.prog laidL w) (fun _ _ _ hh h=>h.of_heap hh) Tryz.own started (by kernel_rfl) Tryz.func3
  (ChangeSpec.witness_at (enc:=enc) (C:=Tryz.checked) (os:=os) (X:=fun w _=>laidMetH Tryz.prog laidL w) false (laidWorld os) #[.string ⟨#[]⟩] 8 rfl (by kernel_rfl) (by kernel_rfl) (by kernel_rfl) (by kernel_rfl) (by kernel_rfl) (laidWorld_met os _)) ?_
 intro W base args ds gs before hval0 hW _ _ hL _
 have hval:∀(j:Nat) t v,Tryz.f3.params[j]? =some t→args[j]? =some v→Value.okWide Tryz.prog W .any base t v:=hval0
 have hW':=hW
 obtain⟨p,q,hA0,hV,rfl,hfz,hnd⟩:=hW
 have hA:DataW.TrodAll enc Tryz.prog W 0 (fun _=>true) true Tryz.f3.params.toList args.toList ds p:=hA0
 rw[Tryz.params3]at hA hval
 obtain⟨v0,vs0,d0,ds0,p0,q0,hargs,rfl,rfl,h0,r0⟩:=trodAll_cons hA
 obtain⟨rfl,rfl,rfl⟩:=trodAll_nil r0
 obtain rfl:args= #[v0]:=by cases args;simp_all
 obtain⟨rfl,rfl⟩:=trodVars_none hV
 have k0:=h0
 have lt0:∀x∈p0,x.block<W.heap.size:=by obtain⟨m,hm⟩:=k0;exact DataW.trod_lt m _ _ _ hm
 obtain⟨s,rfl,_,_,hs0⟩:=Go.ChangeMaps.open_string Tryz.underlying9 (hval 0 9 v0 rfl rfl) h0
 unfold maxLen at hs0
 have hg:=handle_of_laid hL
 clear hA0 hval0
 refine(parsePrograms_any hup s W (by omega) hg).mono fun e W' ⟨he,bel⟩=> ?_
 subst he
 exact⟨_,rfl,_,_,_,[],_,[],hW',trodAll_mk1 (shut_bool Tryz.underlying4 _),(trodAll_cons_mk (Below.trod Tryz.laidOut (by kernel_rfl) (of_decide_eq_true (by kernel_rfl)) k0 bel lt0) trodAll_mk0),rfl,bel.frame _,fun h=>by cases h⟩
theorem parsePrograms_over (hup:UpSaid14):Rows.ParseProgramsSaid:=
 OpenClaim.holds_of_wide 3 Tryz.f3 rfl rfl rfl rfl rfl rfl rfl ⟨rfl,rfl,rfl,rfl,rfl⟩ rfl rfl rfl rfl rfl (by kernel_rfl) Tryz.func3 (by kernel_rfl)
  (of_decide_eq_true (by kernel_rfl)) (by unfold Func.isWrapper;first | (rw[if_pos (by decide+kernel)];kernel_rfl) | (rw[if_neg (by decide+kernel)];exact⟨rfl,rfl⟩))
  (fun os started H enc _=>parsePrograms_lifted hup os started H enc)
end
end Go.Proofs.YtcinokljkieijaaGreatDoor
