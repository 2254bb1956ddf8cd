/- Parts of a proof. -/
import Derived.Test.YtcinokljkieijaaGreatDoorQ03
import Derived.Test.YtcinokljkieijaaGreatDoorQ05
import Derived.Test.YtcinokljkieijaaGreatDoorQ07
import Derived.Test.YtcinokljkieijaaGreatDoorQ10
import Derived.Test.YtcinokljkieijaaGreatDoorQ17
import Derived.RegionTactic
import Derived.BigRegion
import Derived.Test.YtcinokljkieijaaGreatDoorRows
import Derived.ChangeSame
import Derived.ChangeVars
import Derived.JoinedOf
import Derived.RowKit
import Derived.RowKitTokens
import Derived.LaidLaws
import Derived.LaidHandle
import Derived.Stop.Joined
import Derived.BigQuiet
import Derived.Lib.LaidTab
import Derived.ChangeArms
import Derived.ChangeAt
import Derived.ProofKit
import Derived.OpenShut
import Derived.ChangeOld
import Derived.ChangeMaps5
set_option linter.unusedVariables false
set_option linter.unusedSimpArgs false
set_option maxHeartbeats 60000000
set_option maxRecDepth 100000
namespace Go.Proofs.YtcinokljkieijaaGreatDoor
section
open Go.RowKit
def ParseEnd (r:Int×Int×List QT)(w:World)(e:Ending)(w':World):Prop:=
 ∃v er,e= .returned (.tuple #[.agg #[v],er])∧Pak.Slot qtX (InS w.heap.size w') w' v r.2.2∧ErrIs w.heap.size r.1 r.2.1 er w'∧Below w.heap.size w w'
section
variable {C:PC} {he:Nat} {w0:World} {s s2:PS} {xs:List QT} {v u:Value} {wr w1:World} {cs:List Value} {x:QT}
theorem RT.rel (h:RT C he w0 s xs v u wr)(hx:qtX.rel (InS wr.heap.size w1) w1 cs x):qtX.rel (fun b=>w0.heap.size≤b∧b<w1.heap.size∧v.ownBlock≠some b) w1 cs x:=
 qtX.keep (fun b ⟨a1,a2⟩=>⟨Nat.le_trans h.kept.size a1,a2,fun e=>by have:=(h.blk b e).2.1;omega⟩) (fun _ _ _=>rfl) hx
theorem qrel_alloc {S:Nat→Prop}(o:Obj)(hx:qtX.rel (fun b=>w0.heap.size≤b∧b<w1.heap.size∧S b) w1 cs x):qtX.rel (fun b=>w0.heap.size≤b∧b<(w1.alloc o).heap.size∧S b) (w1.alloc o) cs x:=
 qtX.keep (fun b ⟨a1,a2,a3⟩=>⟨a1,by simp;omega,a3⟩) (fun b o ⟨a1,a2,a3⟩=>World.cell?_alloc_lt _ _ _ a2) hx
theorem new_cells (w:World)(cs:List Value)(t:TypeId):∀j u,cs[j]? =some u→(w.alloc (.cells cs.toArray t)).cell? ((⟨w.heap.size,0,none⟩:Addr).add j)=some u:=fun j u hu=>World.news_of_block (heap_alloc_new w (.cells cs.toArray t)) j u (by simpa using hu)
theorem errIs_far {B h:Nat}{x a:Int}{er:Value}{w w':World}(k:ErrIs B x a er w)(f:Far h w w')(hB:h<B):ErrIs B x a er w':=⟨k.1,fun h0=>by
 obtain⟨g,e1,e2,e3,e4,e5⟩:=k.2 h0
 exact⟨g,e1,e2,by rw[f.size];exact e3,(World.cell?_of_block (f.block g (by omega))).trans e4,(World.cell?_of_block (f.block g (by omega))).trans e5⟩⟩
theorem errIs_low {B B':Nat}{x a:Int}{er:Value}{w:World}(k:ErrIs B x a er w)(hB:B'≤B):ErrIs B' x a er w:=⟨k.1,fun h0=>by
 obtain⟨g,e1,e2,e3⟩:=k.2 h0
 exact⟨g,e1,Nat.le_trans hB e2,e3⟩⟩
theorem errIs_form {B:Nat}{x a:Int}{er:Value}{w:World}(k:ErrIs B x a er w)(hx:x≠0):∃t u,er= .iface t u:=by
 by_cases h:a<0
 ·rw[k.1 h,codeV_ne hx];exact⟨_,_,rfl⟩
 ·obtain⟨g,e,_⟩:=k.2 (by omega)
  exact⟨_,_,e⟩
end
theorem results_two {fn:Func}{p u:Tmp}{ty:TypeId}(h:fn.results= #[.cell p ty,.tmp u])(tmps:Array Value)(P:Program)(w:World)(g:Addr)(v e:Value)(hp:tmps[p]?.getD undef= .pointer (some g))(hu:tmps[u]?.getD undef=e)(hl:(loadVar ty g).run P w= .ok v w):(results fn tmps).run P w= .ok (.tuple #[v,e]) w:=by
 simp[results,h,hp,hu,asAddr,hl]
theorem Tryz.prLoad {w:World}{b:Nat}{v:Value}(h:w.cell? ⟨b,0,none⟩=some v):(loadVar 25 ⟨b,0,none⟩).run Tryz.prog w= .ok (.agg #[v]) w:=
 run_loadVar_mid w b 0 _ [v] _ (fun j u hu=>by
  match j,hu with
  | 0,hu=>obtain rfl:=Option.some.inj hu;exact h) Tryz.underlying25 rfl (by kernel_rfl)
theorem parse_bad (s:ByteArray)(w:World)(hs:s.size≤9223372036854775807)(hL:Laid w)(h0:(resOf s).1≠0):Calls Tryz.prog 10 #[.string s] w (ParseEnd (pparse s) w):=by
 have hA:Below w.heap.size w (w.alloc (.cells #[.slice none 0 0] 25)):=(Below.refl _ _).alloc (Nat.le_refl _) _
 have hs1:(w.alloc (.cells #[.slice none 0 0] 25)).heap.size=w.heap.size+1:=by simp
 have n1:=heap_alloc_new w (.cells #[.slice none 0 0] 25)
 have HS:=Lib.hid (scan_any s _ hs (hL.up hA))
 have hp:pparse s=((resOf s).1,(resOf s).2.1,[]):=if_neg h0
 have HY:Hid (∀e w1,ScanEnd (resOf s) (w.alloc (.cells #[.slice none 0 0] 25)) e w1→∃v t u,e= .returned (.tuple #[v,.iface t u])∧w1.cell? ⟨w.heap.size,0,none⟩=some (.slice none 0 0)∧w1.frozen? ⟨w.heap.size,0,none⟩=false∧∀w9,Far w.heap.size w1 w9→ParseEnd (pparse s) w (.returned (.tuple #[.agg #[.slice none 0 0],.iface t u])) w9):=fun e w1 hq=>by
  obtain⟨v,er,rfl,hrow,her,hb⟩:=hq
  rw[hs1]at hb her
  obtain⟨t,u,rfl⟩:=errIs_form her h0
  have hz:=hb.size
  rw[hs1]at hz
  refine⟨v,t,u,rfl,(hb.cell (p:=⟨w.heap.size,0,none⟩) (Nat.lt_succ_self _)).trans ((cell_of_row _ _ _ _ _ _ n1).trans rfl),(hb.frozen (p:=⟨w.heap.size,0,none⟩) (Nat.lt_succ_self _)).trans (frozen_of_row _ _ _ _ _ n1),fun w9 f=>⟨_,_,rfl, ?_, ?_, ?_⟩⟩
  ·rw[hp];exact slot_none _ _ _
  ·rw[hp];exact errIs_low (errIs_far her f (Nat.lt_succ_self _)) (Nat.le_succ _)
  ·exact hA.trans ((hb.mono (Nat.le_succ _)).trans ⟨f.os,f.tape,f.output,Nat.le_of_eq f.size.symm,fun q hq=>f.block q (by omega)⟩)
 generalize ParseEnd (pparse s) w=Q at*
 clear hL h0 hA n1 hs1 hp
 go_enter Tryz.func10,Tryz.ntmps10
 go_wp2_with fail
 refine HS.out.mono ?_
 rintro e w1 hq
 obtain⟨v,t,u,rfl,hc,hf,hfin⟩:=HY.out _ _ hq
 have HF:=Lib.hid hfin
 clear hq HS HY hfin
 go_wp2_with fail
 exact bodyPost_ret (v:=_) (results_two (p:=2) (u:=3) rfl _ _ _ _ _ (.iface t u) rfl rfl (Tryz.prLoad (World.cell?_setCell_same' _ _ _ (by rw[hc];rfl)))) rfl (HF.out _ ((Far.refl _ _).set _))
theorem parse_good (s:ByteArray)(w:World)(hs:s.size≤9223372036854775807)(hL:Laid w)(h0:(resOf s).1=0):Calls Tryz.prog 10 #[.string s] w (ParseEnd (pparse s) w):=by
 have hA:Below w.heap.size w (w.alloc (.cells #[.slice none 0 0] 25)):=(Below.refl _ _).alloc (Nat.le_refl _) _
 have hs1:(w.alloc (.cells #[.slice none 0 0] 25)).heap.size=w.heap.size+1:=by simp
 have n1:=heap_alloc_new w (.cells #[.slice none 0 0] 25)
 have HS:=Lib.hid (scan_any s _ hs (hL.up hA))
 obtain⟨ts,hts⟩:∃ts,ts=(resOf s).2.2:=⟨_,rfl⟩
 have hre:resOf s=(0, -1,ts):=by rw[hts,←h0,←res_code h0]
 obtain⟨r1,r2,r3⟩:=res_toks hre rfl
 have hp:pparse s=pprog ts s.size:=by
  unfold pparse
  rw[if_pos h0,hts]
 rw[hp]
 clear hp hts h0
 have HY:Hid (∀e w1,ScanEnd (resOf s) (w.alloc (.cells #[.slice none 0 0] 25)) e w1→∃a cap,e= .returned (.tuple #[.slice a ts.length cap,.nilIface])∧w1.cell? ⟨w.heap.size,0,none⟩=some (.slice none 0 0)∧w1.frozen? ⟨w.heap.size,0,none⟩=false∧w.heap.size<w1.heap.size∧Below w.heap.size w w1∧
  RT ⟨w1.heap.size,a,cap,ts,s.size⟩ (w1.heap.size+1) ((w1.alloc (.cells #[.slice a ts.length cap,.int .i64 s.size,.int .i64 0,.int .i64 0,.nilIface] 69)).alloc (.cells #[.slice none 0 0] 25)) ps0 [] (.slice none 0 0) (.slice none 0 0) ((w1.alloc (.cells #[.slice a ts.length cap,.int .i64 s.size,.int .i64 0,.int .i64 0,.nilIface] 69)).alloc (.cells #[.slice none 0 0] 25))):=fun e w1 hq=>by
  obtain⟨v,er,rfl,hrow,her,hb⟩:=hq
  rw[hs1]at hb her
  rw[hre]at hrow her
  have her:er= .nilIface:=her.1 (by show(-1:Int)<0;decide)
  subst her
  obtain⟨a,cap,rfl,hlies⟩:=hrow.lies
  have hz:=hb.size
  rw[hs1]at hz
  have hb1:Below w.heap.size w w1:=hA.trans (hb.mono (Nat.le_succ _))
  have hL1:=hL.up hb1
  have hg5:=hL1.pos
  refine⟨a,cap,rfl,(hb.cell (p:=⟨w.heap.size,0,none⟩) (Nat.lt_succ_self _)).trans ((cell_of_row _ _ _ _ _ _ n1).trans rfl),(hb.frozen (p:=⟨w.heap.size,0,none⟩) (Nat.lt_succ_self _)).trans (frozen_of_row _ _ _ _ _ n1),by omega,hb1, ?_⟩
  have k1:Below w1.heap.size w1 (w1.alloc (.cells #[.slice a ts.length cap,.int .i64 s.size,.int .i64 0,.int .i64 0,.nilIface] 69)):=(Below.refl _ _).alloc (Nat.le_refl _) _
  have hP:PSt ⟨w1.heap.size,a,cap,ts,s.size⟩ ps0 (w1.alloc (.cells #[.slice a ts.length cap,.int .i64 s.size,.int .i64 0,.int .i64 0,.nilIface] 69)):=by
   have n2:=heap_alloc_new w1 (.cells #[.slice a ts.length cap,.int .i64 s.size,.int .i64 0,.int .i64 0,.nilIface] 69)
   exact⟨(cell_of_row _ _ _ _ _ _ n2).trans rfl,(cell_of_row _ _ _ _ _ _ n2).trans rfl,(cell_of_row _ _ _ _ _ _ n2).trans rfl,(cell_of_row _ _ _ _ _ _ n2).trans rfl,⟨_,(cell_of_row _ _ _ _ _ _ n2).trans rfl,rfl⟩,fun j=>frozen_of_row _ _ _ _ _ n2,hlies.below k1,⟨by show ts.length≤_;omega,r1⟩,⟨by decide,by decide,Nat.zero_le _,fun _=>by decide⟩,fun t ht=>(r3 t ht).small,hL1.up k1,hg5⟩
  have hs2:(w1.alloc (.cells #[.slice a ts.length cap,.int .i64 s.size,.int .i64 0,.int .i64 0,.nilIface] 69)).heap.size=w1.heap.size+1:=by simp
  have n3:=heap_alloc_new (w1.alloc (.cells #[.slice a ts.length cap,.int .i64 s.size,.int .i64 0,.int .i64 0,.nilIface] 69)) (.cells #[.slice none 0 0] 25)
  rw[hs2]at n3
  exact RT.start (hP.alloc _) (Nat.lt_succ_self _) (by simp) ((cell_of_row _ _ _ _ _ _ n3).trans rfl) (frozen_of_row _ _ _ _ _ n3)
 have HP:Hid (∀s2 xs,pprocs ts s.size (ts.length+1) [] ps0=(xs,s2)→(s2.er=none→pprog ts s.size=(0, -1,xs))∧(∀c a,s2.er=some (c,a)→pprog ts s.size=(c,a,[]))):=fun s2 xs e=>by
  unfold pprog
  rw[e]
  refine⟨fun h=> ?_,fun c a h=> ?_⟩<;>simp only[h]
 generalize hR:pprog ts s.size=r at*
 clear hL hA n1 hs1 r3 hre hR
 go_enter Tryz.func10,Tryz.ntmps10
 go_wp2_with fail
 refine HS.out.mono ?_
 rintro e w1 hq
 obtain⟨a,cap,rfl,hc0,hf0,hlt,hb1,hRT⟩:=HY.out _ _ hq
 have HR0:=Lib.hid hRT
 have HB1:=Lib.hid hb1
 clear hq HS HY hRT hb1
 go_wp2_with fail
 obtain⟨w3,hw3⟩:∃w3,w3=(w1.alloc (.cells #[.slice a ts.length cap,.int .i64 s.size,.int .i64 0,.int .i64 0,.nilIface] 69)).alloc (.cells #[.slice none 0 0] 25):=⟨_,rfl⟩
 have hb3:Below w1.heap.size w1 w3:=by rw[hw3];exact((Below.refl _ _).alloc (Nat.le_refl _) _).alloc (by simp) _
 rw[←hw3]at HR0⊢
 have HC3:Hid (w3.cell? ⟨w.heap.size,0,none⟩=some (.slice none 0 0)∧w3.frozen? ⟨w.heap.size,0,none⟩=false):=⟨(hb3.cell (p:=⟨w.heap.size,0,none⟩) hlt).trans hc0,(hb3.frozen (p:=⟨w.heap.size,0,none⟩) hlt).trans hf0⟩
 have HB3:=Lib.hid (HB1.out.trans (hb3.mono (Nat.le_of_lt hlt)))
 clear hw3 hb3 hc0 hf0 HB1
 obtain⟨g,hg⟩:∃g,g=w1.heap.size:=⟨_,rfl⟩
 simp only[←hg]at HR0⊢
 obtain⟨he,hhe⟩:∃he,he=g+1:=⟨_,rfl⟩
 simp only[←hhe]at HR0⊢
 have hgl:w.heap.size<g∧w.heap.size<he:=by omega
 clear hg hhe hlt
 obtain⟨T,hT⟩:∃T,T=pprocs ts s.size (ts.length+1) [] ps0:=⟨_,rfl⟩
 have HLOW:Hid (∀s2 xs v wr w9,RT (⟨g,a,cap,ts,s.size⟩:PC) he w3 s2 xs v v wr→Far w.heap.size wr w9→Below w.heap.size w w9∧w3.heap.size≤wr.heap.size∧w.heap.size≤w3.heap.size):=fun s2 xs v wr w9 hr f=>by
  have hz:=HB3.out.size
  have hh:=hr.hl
  have k:=hr.kept
  exact⟨HB3.out.trans ((⟨k.os,k.tape,k.output,k.size,fun q hq=>k.block q (by omega) (by show q≠g;omega) (by omega)⟩:Below w.heap.size w3 wr).trans ⟨f.os,f.tape,f.output,Nat.le_of_eq f.size.symm,fun q hq=>f.block q (by omega)⟩),k.size,hz⟩
 have HRES:Hid (∀s2 xs v wr,RT (⟨g,a,cap,ts,s.size⟩:PC) he w3 s2 xs v v wr→wr.cell? ⟨w.heap.size,0,none⟩=some (.slice none 0 0)∧wr.frozen? ⟨w.heap.size,0,none⟩=false):=fun s2 xs v wr hr=>by
  have hh:=hr.hl
  have k:=hr.kept.block w.heap.size (by omega) (by show w.heap.size≠g;omega) (by omega)
  exact⟨(World.cell?_of_block (a:=⟨w.heap.size,0,none⟩) k).trans HC3.out.1,(World.frozen?_of_block (a:=⟨w.heap.size,0,none⟩) k).trans HC3.out.2⟩
 have HOK:Hid (∀k s2 xs v wr,RT (⟨g,a,cap,ts,s.size⟩:PC) he w3 s2 xs v v wr→pprocs ts s.size k xs s2=T→pprocs ts s.size k xs s2=(xs,s2)→s2.er=none→xs.length≤s2.nx+1→∀w9,Far w.heap.size wr w9→ParseEnd r w (.returned (.tuple #[.agg #[v],.nilIface])) w9):=fun k s2 xs v wr hr hk e h0 hx w9 f=>by
  have e2:pprocs ts s.size (ts.length+1) [] ps0=(xs,s2):=by rw[←hT,←hk,e]
  have er:=(HP.out s2 xs e2).1 h0
  obtain⟨l1,l2,l3⟩:=HLOW.out s2 xs v wr w9 hr f
  have hnx:=hr.ps.inv.nx
  have hlen:=hr.ps.len.1
  have hh:=hr.hl
  rw[er]
  exact⟨v,.nilIface,rfl,(hr.own.sits (by show xs.length≤_;omega)).keep (fun b ⟨a1,a2⟩=>⟨by omega,by rw[f.size];exact a2⟩) (fun b o ⟨a1,a2⟩=>World.cell?_of_block (f.block b (by omega))),⟨fun _=>rfl,fun h=>by have h:(0:Int)≤ -1:=h;omega⟩,l1⟩
 have HERR:Hid (∀k s2 xs v wr,RT (⟨g,a,cap,ts,s.size⟩:PC) he w3 s2 xs v v wr→pprocs ts s.size k xs s2=T→ErOk s2→pprocs ts s.size k xs s2=(xs,s2)→s2.er≠none→∃b:Nat,wr.cell? ⟨g,4,none⟩=some (.iface 87 (.pointer (some ⟨b,0,none⟩)))∧∀w9,Far w.heap.size wr w9→ParseEnd r w (.returned (.tuple #[.agg #[.slice none 0 0],.iface 87 (.pointer (some ⟨b,0,none⟩))])) w9):=fun k s2 xs v wr hr hk hok e h0=>by
  have e2:pprocs ts s.size (ts.length+1) [] ps0=(xs,s2):=by rw[←hT,←hk,e]
  obtain⟨v4,c4,hv⟩:=hr.ps.c4
  cases h4:s2.er with
  | none=>exact absurd h4 h0
  | some p=>
    obtain⟨c,ap⟩:=p
    rw[h4]at hv
    obtain⟨b,rfl,hb1,hb2,hb3,hb4⟩:=hv
    obtain⟨hc0,ha0⟩:=hok c ap h4
    have er:=(HP.out s2 xs e2).2 c ap h4
    refine⟨b,c4,fun w9 f=> ?_⟩
    obtain⟨l1,l2,l3⟩:=HLOW.out s2 xs v wr w9 hr f
    have hb1:g<b:=hb1
    rw[er]
    exact⟨_,_,rfl,slot_none _ _ _,⟨fun h=>by have h:ap<0:=h;omega,fun _=>⟨b,rfl,by omega,by rw[f.size];exact hb2,(World.cell?_of_block (f.block b (by omega))).trans hb3,(World.cell?_of_block (f.block b (by omega))).trans (hb4.trans (by rw[codeV_ne hc0]))⟩⟩,l1⟩
 have HT0:Hid (pprocs ts s.size (ts.length+1) [] ps0=T):=hT.symm
 have HE0:Hid (ErOk ps0):=fun c a e=>by cases e
 have HU0:Hid (ps0.er=none→ts.length+1≤ts.length+1+ps0.nx):=fun _=>Nat.le_add_right _ _
 have HX0:Hid (([]:List QT).length≤ps0.nx+1∧(ps0.er=none→([]:List QT).length≤ps0.nx)):=⟨Nat.zero_le _,fun _=>Nat.zero_le _⟩
 have HMV:=Lib.hid (fun s2=>mv_proc (tk:=ts) (en:=s.size) s2)
 have HMW:=Lib.hid (fun s2=>mw_proc (tk:=ts) (en:=s.size) s2)
 have HLT:=Lib.hid (fun(s2:PS) h=>proc_lt (tk:=ts) (en:=s.size) (s:=s2) h)
 generalize ParseEnd r w=Q at*
 clear hT HP HB3 HC3 HLOW
 go_loopw [] (fun wr=>∃(k:Nat) (s2:PS) (xs:List QT) (v:Value),Hid (RT (⟨g,a,cap,ts,s.size⟩:PC) he w3 s2 xs v v wr)∧Hid (pprocs ts s.size k xs s2=T)∧Hid (ErOk s2)∧Hid (s2.er=none→ts.length+1≤k+s2.nx)∧Hid (xs.length≤s2.nx+1∧(s2.er=none→xs.length≤s2.nx))) (fun wr=>mz2 (⟨g,a,cap,ts,s.size⟩:PC) wr)
 case atStart=>exact⟨_,_,_,_,HR0,HT0,HE0,HU0,HX0⟩
 case round=>
  clear HR0 HT0 HE0 HU0 HX0
  obtain⟨k,s2,xs,v,hr,hk,hm,hu,hx⟩:=hrel
  obtain⟨wo,rfl⟩:∃wo:World,wo=wr:=⟨_,rfl⟩
  have c2:wo.cell? ⟨g,2,none⟩=some (.int .i64 s2.nx):=hr.out.ps.c2
  have hE:=err_cell hr.out.ps
  by_cases he0:s2.er=none
  ·have c4:wo.cell? ⟨g,4,none⟩=some .nilIface:=by
    rcases hE with ⟨_,h⟩ | ⟨h,_⟩
    ·exact h
    ·exact absurd he0 h
   clear hE
   by_cases hlt:s2.nx<ts.length
   ·have hd:decide ((s2.nx:Int)<(ts.length:Int))=true:=decide_eq_true (by omega)
    have hu1:=hu.out he0
    have hx1:=hx.out.2 he0
    have hlen:=hr.out.ps.len.1
    have hlen:ts.length≤65536:=hlen
    obtain⟨k,rfl⟩:∃k',k=k'+1:=⟨k - 1,by omega⟩
    have HCW:Hid (∀W2,PSt (⟨g,a,cap,ts,s.size⟩:PC) s2 W2→Calls Tryz.prog 23 #[.pointer (some ⟨g,0,none⟩)] W2 (PE (Vx qtX) (pproc ts s.size) (⟨g,a,cap,ts,s.size⟩:PC) s2 W2)):=fun W2 hp2=>proc_said (⟨g,a,cap,ts,s.size⟩:PC) s2 W2 hp2
    have HL:Hid (∀v6 w9,RT (⟨g,a,cap,ts,s.size⟩:PC) he w3 (pproc ts s.size s2).2 (xs ++ [(pproc ts s.size s2).1]) v6 v6 w9→(∃(k:Nat) (s2:PS) (xs:List QT) (v:Value),Hid (RT (⟨g,a,cap,ts,s.size⟩:PC) he w3 s2 xs v v w9)∧Hid (pprocs ts s.size k xs s2=T)∧Hid (ErOk s2)∧Hid (s2.er=none→ts.length+1≤k+s2.nx)∧Hid (xs.length≤s2.nx+1∧(s2.er=none→xs.length≤s2.nx)))∧mz2 (⟨g,a,cap,ts,s.size⟩:PC) w9<mz2 (⟨g,a,cap,ts,s.size⟩:PC) wo):=fun v6 w9 h9=>by
     have hmn:=(HMV.out s2).nx
     have hln:=fun h=>HLT.out s2 h
     refine⟨⟨k,_,_,v6,h9, ?_,(HMW.out s2).f hm.out,fun h=> ?_, ?_⟩, ?_⟩
     ·have:=hk.out
      unfold pprocs at this
      rw[if_pos ⟨hlt,he0⟩]at this
      exact this
     ·show ts.length+1≤k+(pproc ts s.size s2).2.nx
      have:=hln h
      omega
     ·refine⟨by rw[List.length_append];simp only[List.length_singleton];omega,fun h=> ?_⟩
      have:=hln h
      rw[List.length_append];simp only[List.length_singleton];omega
     ·rw[mz2_none hr.out.ps he0]
      show _<2*(ts.length - s2.nx)+1
      by_cases h6:(pproc ts s.size s2).2.er=none
      ·rw[mz2_none h9.ps h6]
       have:=hln h6
       show 2*(ts.length - _)+1<_
       omega
      ·rw[mz2_some h9.ps h6]
       show 2*(ts.length - _)<_
       omega
    have hx7:xs.length≤70000:=by omega
    have HR0:=Lib.hid hr.out
    clear HERR HOK HRES HMV HMW HLT hk hm hu hx hu1 hx1 he0 hr hlen
    obtain⟨va,vc,rfl, -⟩:=HR0.out.form
    go_wp2_with fail
    clear c2 c4
    have H0:=Lib.hid HR0.out.drew
    have hS0:(fun W=>W.cell? ⟨he,0,none⟩=some (.slice va xs.length vc)) wo.drew:=H0.out.cell
    refine region_u (fun W=>W.cell? ⟨he,0,none⟩=some (.slice va xs.length vc)) (fun j=>decide (7≤j)) (by kernel_rfl) ?_
    change AnyU _ _ _ _ _ _ 8 (Array.replicate 8 false) _ _
    generalize wo.drew=X0 at*
    refine anyU_take (i:=0) (oi:= ?o0) (v:= ?v0) ?hi0 ?hB0 ?hQ0 ?hy0 (by assumption) ?hk0
    case hi0=>simp only[List.getElem?_toArray,List.getElem?_cons_zero,List.getElem?_cons_succ];rfl
    case hB0=>kernel_rfl
    case hQ0=>exact fun _ _ _ h=>h
    case hy0=>exact Or.inl ⟨by rfl,fun W hSW=>by(go_simp;try with_reducible rfl)⟩
    try simp only[Act.put,List.setIfInBounds_toArray,List.set_cons_zero,List.set_cons_succ]
    refine anyU_take (i:=1) (oi:= ?o1) (v:= ?v1) ?hi1 ?hB1 ?hQ1 ?hy1 (by assumption) ?hk1
    case hi1=>simp only[List.getElem?_toArray,List.getElem?_cons_zero,List.getElem?_cons_succ];rfl
    case hB1=>kernel_rfl
    case hQ1=>exact fun _ _ _ h=>h
    case hy1=>exact Or.inl ⟨by rfl,fun W hSW=>by(go_simp;try with_reducible rfl)⟩
    try simp only[Act.put,List.setIfInBounds_toArray,List.set_cons_zero,List.set_cons_succ]
    refine anyU_take (i:=2) (oi:= ?o2) (v:= ?v2) ?hi2 ?hB2 ?hQ2 ?hy2 (by assumption) ?hk2
    case hi2=>simp only[List.getElem?_toArray,List.getElem?_cons_zero,List.getElem?_cons_succ];rfl
    case hB2=>kernel_rfl
    case hQ2=>exact fun _ _ _ h=>h
    case hy2=>exact Or.inl ⟨by rfl,fun W hSW=>by(go_simp;try with_reducible rfl)⟩
    try simp only[Act.put,List.setIfInBounds_toArray,List.set_cons_zero,List.set_cons_succ]
    refine anyU_one (i:=3) (by kernel_rfl) (by simp only[List.getElem?_toArray,List.getElem?_cons_zero,List.getElem?_cons_succ];rfl) (by rfl) (fun K hK=> ?_)
    go_simp
    refine(HCW.out X0 H0.out.ps).mono ?_
    rintro e X1 hq
    obtain⟨cs,rfl,hcl,hc1,hct,hcp,hck⟩:=pe_x hq
    have H1:=Lib.hid (H0.out.keep hck hcp)
    have HC1:=Lib.hid (H0.out.rel hct)
    clear hq hct hcp hck
    refine hK _ _ (fun _=>H1.out.cell) ?_
    clear hK
    try simp only[Act.put,List.setIfInBounds_toArray,List.set_cons_zero,List.set_cons_succ]
    refine anyU_one (i:=4) (by kernel_rfl) (by simp only[List.getElem?_toArray,List.getElem?_cons_zero,List.getElem?_cons_succ];rfl) (by rfl) (fun K hK=> ?_)
    refine wp_build_one 23 63 _ rfl cs rfl Tryz.underlying23 Tryz.rowProc (by decide) (by decide) hcl ?_
    have H2:=Lib.hid (H1.out.alloc (.cells cs.toArray 63))
    have HN2:=Lib.hid (new_cells X1 cs 63)
    have HC2:=Lib.hid (qrel_alloc (.cells cs.toArray 63) HC1.out)
    refine hK _ _ (fun _=>H2.out.cell) ?_
    clear hK
    generalize X1.alloc (.cells cs.toArray 63)=X2 at*
    try simp only[Act.put,List.setIfInBounds_toArray,List.set_cons_zero,List.set_cons_succ]
    refine anyU_one (i:=5) (by kernel_rfl) (by simp only[List.getElem?_toArray,List.getElem?_cons_zero,List.getElem?_cons_succ];rfl) (by rfl) (fun K hK=> ?_)
    obtain⟨gg,cap2,X3,hrun,hA⟩:=H2.out.app hx7 HC2.out HN2.out
    have HA:=Lib.hid hA
    clear hA
    refine wp_append_run _ _ 23 rfl rfl rfl hrun ?_
    refine hK _ _ (fun _=>HA.out.cell) ?_
    clear hK hrun
    try simp only[Act.put,List.setIfInBounds_toArray,List.set_cons_zero,List.set_cons_succ]
    refine anyU_take (i:=6) (oi:= ?o6) (v:= ?v6) ?hi6 ?hB6 ?hQ6 ?hy6 HA.out.cell ?hk6
    case hi6=>simp only[List.getElem?_toArray,List.getElem?_cons_zero,List.getElem?_cons_succ];rfl
    case hB6=>kernel_rfl
    case hQ6=>exact fun _ _ _ h=>h
    case hy6=>exact Or.inl ⟨by rfl,fun W hSW=>by(go_simp;try with_reducible rfl)⟩
    try simp only[Act.put,List.setIfInBounds_toArray,List.set_cons_zero,List.set_cons_succ]
    refine anyU_one (i:=7) (by kernel_rfl) (by simp only[List.getElem?_toArray,List.getElem?_cons_zero,List.getElem?_cons_succ];rfl) (by rfl) (fun K hK=> ?_)
    have q8:=HA.out.cell
    have f8:=HA.out.fz
    go_simp
    refine hK _ _ (fun h=>by simp at h) ?_
    clear hK
    have HZ:=Lib.hid (HA.out.seal (fun n e=>by cases e))
    clear q8 f8
    refine anyU_done (by kernel_rfl) ?_ _
    have HQ9:=Lib.hid (HL.out _ _ HZ.out)
    clear HL HZ HA HC1 HC2 H0 H1 H2 HN2 HCW
    go_wp2_with fail
    go_roundw
    case rel=>first | exact HQ9.out.1 | ((repeat apply Exists.intro);exact⟨HQ9.out.1,rfl⟩)
    case measure=>exact HQ9.out.2
   ·have hd:decide ((s2.nx:Int)<(ts.length:Int))=false:=decide_eq_false (by omega)
    have e:pprocs ts s.size k xs s2=(xs,s2):=by
     cases k with
     | zero=>rfl
     | succ k=>
       unfold pprocs
       rw[if_neg (fun h=>hlt h.1)]
    obtain⟨va,vc,rfl, -⟩:=hr.out.form
    have HF:=Lib.hid (HOK.out k s2 xs _ wo hr.out hk.out e he0 hx.out.1)
    have cz:=hr.out.cell
    obtain⟨rc,rf⟩:=HRES.out s2 xs _ wo hr.out
    clear hr hk hm hu hx HERR HOK HRES HMV HMW HLT he0 e
    go_wp2_with fail
    exact bodyPost_ret (v:=_) (results_two (p:=2) (u:=3) rfl _ _ _ _ _ .nilIface rfl rfl (Tryz.prLoad (World.cell?_setCell_same' _ _ _ (by rw[rc];rfl)))) rfl (HF.out _ ((Far.refl _ _).set _))
  ·have e:pprocs ts s.size k xs s2=(xs,s2):=by
    cases k with
    | zero=>rfl
    | succ k=>
      unfold pprocs
      rw[if_neg (fun h=>he0 h.2)]
   obtain⟨b4,c4,hfin⟩:=HERR.out k s2 xs v wo hr.out hk.out hm.out e he0
   have HF:=Lib.hid hfin
   obtain⟨rc,rf⟩:=HRES.out s2 xs v wo hr.out
   clear hr hk hm hu hx HERR HOK HRES HMV HMW HLT he0 e hE hfin
   by_cases hlt:s2.nx<ts.length
   ·have hd:decide ((s2.nx:Int)<(ts.length:Int))=true:=decide_eq_true (by omega)
    go_wp2_with fail
    go_region
    all_goals (try (go_wp2_with fail))
    all_goals exact bodyPost_ret (v:=_) (results_two (p:=2) (u:=3) rfl _ _ _ _ _ (.iface 87 (.pointer (some ⟨b4,0,none⟩))) rfl rfl (Tryz.prLoad (World.cell?_setCell_same' _ _ _ (by rw[rc];rfl)))) rfl (HF.out _ ⟨rfl,rfl,rfl,by simp[World.setCell],fun q hq=>Below.heap_setCell _ _ _ _ hq⟩)
   ·have hd:decide ((s2.nx:Int)<(ts.length:Int))=false:=decide_eq_false (by omega)
    go_wp2_with fail
    go_region
    all_goals (try (go_wp2_with fail))
    all_goals exact bodyPost_ret (v:=_) (results_two (p:=2) (u:=3) rfl _ _ _ _ _ (.iface 87 (.pointer (some ⟨b4,0,none⟩))) rfl rfl (Tryz.prLoad (World.cell?_setCell_same' _ _ _ (by rw[rc];rfl)))) rfl (HF.out _ ⟨rfl,rfl,rfl,by simp[World.setCell],fun q hq=>Below.heap_setCell _ _ _ _ hq⟩)
theorem parse_any (s:ByteArray)(w:World)(hs:s.size≤9223372036854775807)(hL:Laid w):Calls Tryz.prog 10 #[.string s] w (ParseEnd (pparse s) w):=by
 by_cases h0:(resOf s).1=0
 ·exact parse_good s w hs hL h0
 ·exact parse_bad s w hs hL h0
end
section
open Go.RowKit
theorem slot_only {T:Type}{sh:Pak.Sh T}{S:Nat→Prop}{w:World}{v:Value}{x:T}(h:Pak.Slot sh S w v [x]):∃b off cap cs,v= .slice (some ⟨b,off,none⟩) 1 cap∧S b∧(∀j u,cs[j]? =some u→w.cell? ⟨b,off+j,none⟩=some u)∧sh.rel S w cs x:=by
 obtain⟨a,cap,e,_,h2⟩:=h
 obtain⟨b,off,cs,ea,hb,hc,hr⟩:=h2 0 Nat.zero_lt_one
 subst ea
 exact⟨b,off,cap,cs,e,hb,fun j u hu=>by have:=hc j u hu;rwa [Nat.zero_mul,Nat.add_zero]at this,hr⟩
structure Laid14 (w:World):Prop where
 one:Laid w
 err:Laid0 w
theorem Laid14.up {w w':World}(h:Laid14 w)(hb:Below w.heap.size w w'):Laid14 w':=⟨h.one.up hb,h.err.below hb h.err.pos⟩
def UpSaid14:Prop:=∀w:World,Laid14 w→Calls Tryz.prog 9 #[] w fun e w'=>e= .returned (.bool true)∧Below w.heap.size w w'
theorem up_said14:UpSaid14:=fun w hL=>by
 have H1:=Lib.hid (parse_any exA w (by decide) hL.one)
 have H2:=Lib.hid (fun W (hb:Below w.heap.size w W)=>parse_any exB W (by decide) (hL.one.up hb))
 have HL:=Lib.hid (fun W (hb:Below w.heap.size w W)=>hL.up hb)
 have X1:Hid (∀e w1,ParseEnd (pparse exA) w e w1→∃b1 o1 c1 b2 o2 c2,e= .returned (.tuple #[.agg #[.slice (some ⟨b1,o1,none⟩) 1 c1],.nilIface])∧b1<w1.heap.size∧b2<w1.heap.size∧w1.cell? ⟨b1,o1+33,none⟩=some (.slice (some ⟨b2,o2,none⟩) 1 c2)∧w1.cell? ⟨b2,o2+4,none⟩=some (.int .i64 3)∧Below w.heap.size w w1):=fun e w1 ⟨v,er,e1,hs,her,hb⟩=>by
  obtain⟨y1,y2,q,t,y3,y4,y5⟩:=exA_is
  rw[y3]at hs
  rw[y1,y2]at her
  have her:er= .nilIface:=her.1 (by decide)
  obtain⟨b1,o1,c1,cs,e2,hb1,hc1,n,v1,v2,ca,cb,v3,e3,_,_,_,h3,h4,h5⟩:=slot_only hs
  rw[y4]at h5
  obtain⟨b2,o2,c2,ds,e4,hb2,hc2,h6⟩:=slot_only h5
  have l3:=(assnSh n).len h3
  have l4:=(assnSh n).len h4
  rw[assnSh_k]at l3 l4
  refine⟨b1,o1,c1,b2,o2,c2,by rw[e1,e2,her],hb1.2,hb2.2, ?_, ?_,hb⟩
  ·refine hc1 33 _ ?_
   rw[e3,←e4]
   rw[List.getElem?_append_right (by simp),List.getElem?_append_right (by simp[l3]),List.getElem?_append_right (by simp[l3,l4])]
   simp[l3,l4]
  ·cases n with
   | zero=>exact h6.elim
   | succ n=>
     obtain⟨ce,cv,cc,cd,u1,u2,u3,u4,u5,e5,_,⟨g1,_⟩,_⟩:=h6
     cases n with
     | zero=>exact g1.elim
     | succ n=>
       obtain⟨u,e6,_⟩:=g1
       refine hc2 4 _ ?_
       rw[e5,e6,y5]
       rfl
 have X2:Hid (∀W e w1,ParseEnd (pparse exB) W e w1→∃va vc g,e= .returned (.tuple #[.agg #[.slice va 0 vc],.iface 87 (.pointer (some ⟨g,0,none⟩))])∧g<w1.heap.size∧w1.cell? ⟨g,0,none⟩=some (.int .i64 6)∧w1.cell? ⟨g,1,none⟩=some (.iface 50 (.int .i64 11))∧Below W.heap.size W w1):=fun W e w1 ⟨v,er,e1,hs,her,hb⟩=>by
  rw[exB_is]at hs her
  obtain⟨g,rfl,_,h1,h2,h3⟩:=her.2 (by decide)
  obtain⟨va,vc,rfl,_⟩:=hs
  exact⟨va,vc,g,e1,h1,h2,h3,hb⟩
 unfold exA at H1 X1
 unfold exB at H2 X2
 have n2:=fun W=>Tryz.eqNil W
 clear hL
 generalize hRA:pparse (⟨#[112,114,111,99,32,112,40,120,59,32,41,32,114,101,113,117,105,114,101,115,32,101,109,112,32,101,110,115,117,114,101,115,32,101,109,112,32,123,32,120,32,58,61,32,50,32,42,32,120,32,45,32,49,59,32,125]⟩:ByteArray)=RA at*
 generalize hRB:pparse (⟨#[112,114,111,99,32,112]⟩:ByteArray)=RB at*
 clear hRA hRB
 go_enter Tryz.func9,Tryz.ntmps9
 go_wp2_with fail
 refine H1.out.mono ?_
 rintro e w1 hq
 obtain⟨b1,o1,c1,b2,o2,c2,rfl,l1,l2,d1,d2,hb1⟩:=X1.out _ _ hq
 have hA:Below w1.heap.size w1 (w1.alloc (.cells #[.slice (some ⟨b1,o1,none⟩) 1 c1] 25)):=(Below.refl _ _).alloc (Nat.le_refl _) _
 have n1:=heap_alloc_new w1 (.cells #[.slice (some ⟨b1,o1,none⟩) 1 c1] 25)
 have HC:Hid (∀W,Below (w1.alloc (.cells #[.slice (some ⟨b1,o1,none⟩) 1 c1] 25)).heap.size (w1.alloc (.cells #[.slice (some ⟨b1,o1,none⟩) 1 c1] 25)) W→W.cell? ⟨w1.heap.size,0,none⟩=some (.slice (some ⟨b1,o1,none⟩) 1 c1)∧W.cell? ⟨b1,o1+33,none⟩=some (.slice (some ⟨b2,o2,none⟩) 1 c2)∧W.cell? ⟨b2,o2+4,none⟩=some (.int .i64 3)):=fun W hb=>by
  have hz:w1.heap.size<(w1.alloc (.cells #[.slice (some ⟨b1,o1,none⟩) 1 c1] 25)).heap.size:=by simp
  have hb2:Below w1.heap.size w1 W:=hA.trans (hb.mono (Nat.le_of_lt hz))
  exact⟨(hb.cell (p:=⟨w1.heap.size,0,none⟩) hz).trans ((cell_of_row _ _ _ _ _ _ n1).trans rfl),(hb2.cell (p:=⟨b1,o1+33,none⟩) l1).trans d1,(hb2.cell (p:=⟨b2,o2+4,none⟩) l2).trans d2⟩
 have B1:=Lib.hid (hb1.trans (hA.mono hb1.size))
 clear hq X1 l1 l2 d1 d2 hb1 hA n1 H1
 go_wp2_with fail
 refine(H2.out _ B1.out).mono ?_
 rintro e w2 hq
 obtain⟨va,vc,g,rfl,hg,g0,g1,hb2⟩:=X2.out _ _ _ hq
 have hA:Below w2.heap.size w2 (w2.alloc (.cells #[.slice va 0 vc] 25)):=(Below.refl _ _).alloc (Nat.le_refl _) _
 obtain⟨c5,c6,c7⟩:=HC.out _ (hb2.trans (hA.mono hb2.size))
 have B2:=Lib.hid ((B1.out.trans (hb2.mono B1.out.size)).trans (hA.mono (B1.out.trans (hb2.mono B1.out.size)).size))
 have HI:=Lib.hid (sis_any g 6 11 (w2.alloc (.cells #[.slice va 0 vc] 25)) (HL.out _ B2.out).err (Nat.lt_of_lt_of_le hg hA.size) ((hA.cell (p:=⟨g,0,none⟩) hg).trans g0) ((hA.cell (p:=⟨g,1,none⟩) hg).trans g1))
 clear hq X2 hg g0 g1 hb2 hA HC H2 HL B1
 go_wp2_with fail
 refine HI.out.mono ?_
 rintro e w3 ⟨rfl,hb3⟩
 have B3:=Lib.hid (B2.out.trans (hb3.mono B2.out.size))
 clear hb3 HI
 go_wp2_with fail
 go_ret
 exact⟨rfl,B3.out⟩
end
section
open Go.ChangeShapes Go.WideShapes Go.ChangeAt Go.RowKit
theorem Tryz.own:ownKnob Tryz.prog.godebug=none:=by kernel_rfl
theorem Tryz.laidOut:laidOutB Tryz.prog=true:=by kernel_rfl
def laidT:List (String×DataW Unit):=[("math/bits.deBruijn32tab",Rows.laid_math_bits_deBruijn32tab),("math/bits.deBruijn64tab",Rows.laid_math_bits_deBruijn64tab),("internal/strconv.uint64pow10",Rows.laid_internal_strconv_uint64pow10),("strconv.ErrRange",Rows.laid_strconv_ErrRange),("strconv.ErrSyntax",Rows.laid_strconv_ErrSyntax),("trammel/scan.keys",Rows.laid_trammel_scan_keys),("trammel/scan.operations",Rows.laid_trammel_scan_operations)]
def laidE:List (String×DataW Unit):=[("errors.errorType",Rows.laid_errors_errorType)]
def laidL:List (String×DataW Unit):=[("math/bits.deBruijn32tab",Rows.laid_math_bits_deBruijn32tab),("math/bits.deBruijn64tab",Rows.laid_math_bits_deBruijn64tab),("internal/strconv.uint64pow10",Rows.laid_internal_strconv_uint64pow10),("errors.errorType",Rows.laid_errors_errorType),("strconv.ErrRange",Rows.laid_strconv_ErrRange),("strconv.ErrSyntax",Rows.laid_strconv_ErrSyntax),("trammel/scan.keys",Rows.laid_trammel_scan_keys),("trammel/scan.operations",Rows.laid_trammel_scan_operations)]
theorem Tryz.et:Tryz.prog.globalNamed "errors.errorType" =some 1:=by kernel_rfl
theorem Tryz.rt:(Tryz.prog.cutTypes.find? (·.1 == "internal/reflectlite.rtype")).map (·.2)=some 197:=by kernel_rfl
theorem Tryz.oneRow:((List.range 287).filter fun t=>Tryz.prog.rowNamed t [101,114,114,111,114])=[27]:=by kernel_rfl
theorem Tryz.size:Tryz.prog.types.size=287:=by kernel_rfl
theorem laid_tail {P:Program}{x:String×DataW Unit}{l:List (String×DataW Unit)}{w:World}(h:laidMet P (x :: l) w):laidMet P l w:=by
 obtain⟨ps,h1,h2,h3⟩:=h
 obtain⟨g,t,cs,fuel,p,q,_,_,_,_,h4,rfl⟩:=h1
 exact⟨q,h4,(List.nodup_append.1 h2).2.1,fun b off hb=>h3 b off (List.mem_append.2 (.inr hb))⟩
theorem laid_head {P:Program}{n:String}{d:DataW Unit}{l:List (String×DataW Unit)}{w:World}{g:Nat}{t:TypeId}(h:laidMet P ((n,d) :: l) w)(hg:P.globalNamed n=some g)(ht:(P.globals[g]?).map (·.type)=some t):
 ∃cs fuel p,w.var? P n=some cs∧DataW.trod (fun _=>()) P w 0 (fun _=>true) false fuel t cs.toList=some (d,p):=by
 obtain⟨ps,⟨g',t',cs,fuel,p,q,hg',ht',hvar,hd,_,_⟩,_⟩:=h
 obtain rfl:=Option.some.inj (hg.symm.trans hg')
 obtain rfl:=Option.some.inj (ht.symm.trans ht')
 exact⟨cs,fuel,p,hvar,hd⟩
section
variable {H:Type} {enc:TypeId×Value→H} {P:Program} {w:World} {base:Nat} {sp:Nat→Bool} {held:Bool}
theorem cells_of_strs {fuel:Nat}{t e:TypeId}{n:Nat}{cs:List Value}{zs:List (List UInt8)}{p:List MemPlace}
 (ht:P.underlying t=some (.array n e)) (he:P.underlying e=some .string) (hce:P.cellsOf e=1) (hct:P.cellsOf t=n)
 (h:DataW.trod enc P w base sp held fuel t cs=some (.agg (zs.map fun z=> .lit (.string z)),p)):cs=zs.map fun z=>Value.string ⟨z.toArray⟩:=by
 cases fuel with
 | zero=>simp[DataW.trod]at h
 | succ fuel=>
   simp only[DataW.trod,ht,hce,hct,Nat.mul_one]at h
   split at h
   ·rename_i hl
    obtain⟨xs,hm,hx⟩:=Option.map_eq_some_iff.1 h
    have hxs:xs.map (·.1)=zs.map fun z=>(DataW.lit (.string z):DataW H):=by
     have:=congrArg Prod.fst hx
     simpa using this
    have hxl:xs.length=n:=by simpa using Lib.mapM_length hm
    have hzl:zs.length=n:=by
     have:=congrArg List.length hxs
     simp at this
     omega
    apply List.ext_getElem?
    intro i
    by_cases hi:i<n
    ·obtain⟨b,hb,hf⟩:=Lib.mapM_at hm i i (by simp[hi])
     obtain⟨z,hc,rfl,_⟩:=DataW.trod_string he hf
     have h1:cs[i]? =some (.string z):=by
      have:=congrArg (·[0]?) hc
      simpa [List.getElem?_take,List.getElem?_drop]using this
     have h2:(xs.map (·.1))[i]? =some (DataW.lit (.string z.data.toList):DataW H):=by simp[hb]
     rw[hxs]at h2
     simp only[List.getElem?_map,Option.map_eq_some_iff,DataW.lit.injEq,Lit.string.injEq]at h2
     obtain⟨z',hz',e'⟩:=h2
     simp[h1,hz',e']
    ·rw[List.getElem?_eq_none (by omega),List.getElem?_eq_none (by simp;omega)]
   ·cases h
theorem cells_of_iface {fuel:Nat}{t:TypeId}{ms:Array (String×TypeId)}{cs:List Value}{nm:String}{d:DataW H}{p:List MemPlace}(ht:P.underlying t=some (.interface ms))
 (h:DataW.trod enc P w base sp held fuel t cs=some (.iface nm d,p)):∃u v,cs=[.iface u v]:=by
 cases fuel with
 | zero=>simp[DataW.trod]at h
 | succ n=>
   unfold DataW.trod at h
   rw[ht]at h
   split at h<;>simp_all
end
theorem laid_parts {W:World}(h:laidMetH Tryz.prog laidL W):laidMet Tryz.prog laidT W∧handlesMet Tryz.prog laidE W:=h
theorem handle0_of_laid {W:World}(h:laidMetH Tryz.prog laidL W):Laid0 W:=by
 obtain⟨name,u,ty,e1,e2,e3,e4,e5⟩:=(laid_parts h).2 _ (List.mem_singleton.2 rfl)
 have en:name=[101,114,114,111,114]:=(Option.some.inj e1).symm
 subst en
 obtain rfl:=Option.some.inj (Tryz.rt.symm.trans e2)
 have hm:ty∈(List.range 287).filter fun t=>Tryz.prog.rowNamed t [101,114,114,111,114]:=List.mem_filter.2 ⟨List.mem_range.2 (by rw[←Tryz.size];exact e3),e4⟩
 rw[Tryz.oneRow]at hm
 obtain rfl:=List.mem_singleton.1 hm
 have hh:typeHandle Tryz.prog 27= .pointer (some ⟨9,27,none⟩):=by kernel_rfl
 rw[hh]at e5
 unfold Laid0
 simpa using World.var?_cell Tryz.et e5 0
theorem Tryz.gK:Tryz.prog.globalNamed "trammel/scan.keys" =some 3:=by kernel_rfl
theorem Tryz.gO:Tryz.prog.globalNamed "trammel/scan.operations" =some 0:=by kernel_rfl
theorem Tryz.gS:Tryz.prog.globalNamed "strconv.ErrSyntax" =some 4:=by kernel_rfl
theorem Tryz.gR:Tryz.prog.globalNamed "strconv.ErrRange" =some 5:=by kernel_rfl
theorem handle_of_laid {W:World}(h:laidMetH Tryz.prog laidL W):Laid14 W:=by
 have h1:=laid_tail (laid_tail (laid_tail (laid_parts h).1))
 have h2:=laid_tail h1
 have h3:=laid_tail h2
 have h4:=laid_tail h3
 obtain⟨c1,f1,p1,v1,t1⟩:=laid_head h1 Tryz.gR (t:=27) (by kernel_rfl)
 obtain⟨c2,f2,p2,v2,t2⟩:=laid_head h2 Tryz.gS (t:=27) (by kernel_rfl)
 obtain⟨c3,f3,p3,v3,t3⟩:=laid_head h3 Tryz.gK (t:=216) (by kernel_rfl)
 obtain⟨c4,f4,p4,v4,t4⟩:=laid_head h4 Tryz.gO (t:=128) (by kernel_rfl)
 have k3:c3.toList=keysV:=cells_of_strs (zs:=keysL) Tryz.underlying216 Tryz.underlying9 (by kernel_rfl) (by kernel_rfl) t3
 have k4:c4.toList=opsV:=cells_of_strs (zs:=opsL) Tryz.underlying128 Tryz.underlying9 (by kernel_rfl) (by kernel_rfl) t4
 obtain⟨u1,x1,e1⟩:=cells_of_iface Tryz.underlying27 t1
 obtain⟨u2,x2,e2⟩:=cells_of_iface Tryz.underlying27 t2
 refine⟨⟨fun j v hv=> ?_,fun j v hv=> ?_,⟨u2,x2, ?_⟩,⟨u1,x1, ?_⟩⟩,handle0_of_laid h⟩
 ·rw[World.var?_cell Tryz.gK v3 j,←Array.getElem?_toList,k3];exact hv
 ·rw[World.var?_cell Tryz.gO v4 j,←Array.getElem?_toList,k4];exact hv
 ·rw[World.var?_cell Tryz.gS v2 0,←Array.getElem?_toList,e2];rfl
 ·rw[World.var?_cell Tryz.gR v1 0,←Array.getElem?_toList,e1];rfl
noncomputable def low:Nat:=(World.holding Tryz.prog default ⟨#[], #[],[]⟩).heap.size
noncomputable def laidWorld (os:Os):World:=
 let w0:=World.holding Tryz.prog os ⟨#[.cells #[.string ⟨#[105,110,118,97,108,105,100,32,115,121,110,116,97,120]⟩] 245,.cells #[.string ⟨#[118,97,108,117,101,32,111,117,116,32,111,102,32,114,97,110,103,101]⟩] 245], #[],[]⟩
 { w0 with heap:=((((((((w0.heap.modify 7 fun
    | .cells _ t frozen=> .cells #[.int .u8 0,.int .u8 1,.int .u8 28,.int .u8 2,.int .u8 29,.int .u8 14,.int .u8 24,.int .u8 3,.int .u8 30,.int .u8 22,.int .u8 20,.int .u8 15,.int .u8 25,.int .u8 17,.int .u8 4,.int .u8 8,.int .u8 31,.int .u8 27,.int .u8 13,.int .u8 23,.int .u8 21,.int .u8 19,.int .u8 16,.int .u8 7,.int .u8 26,.int .u8 12,.int .u8 18,.int .u8 6,.int .u8 11,.int .u8 5,.int .u8 10,.int .u8 9] t frozen
    | o=>o).modify 8 fun
    | .cells _ t frozen=> .cells #[.int .u8 0,.int .u8 1,.int .u8 56,.int .u8 2,.int .u8 57,.int .u8 49,.int .u8 28,.int .u8 3,.int .u8 61,.int .u8 58,.int .u8 42,.int .u8 50,.int .u8 38,.int .u8 29,.int .u8 17,.int .u8 4,.int .u8 62,.int .u8 47,.int .u8 59,.int .u8 36,.int .u8 45,.int .u8 43,.int .u8 51,.int .u8 22,.int .u8 53,.int .u8 39,.int .u8 33,.int .u8 30,.int .u8 24,.int .u8 18,.int .u8 12,.int .u8 5,.int .u8 63,.int .u8 55,.int .u8 48,.int .u8 27,.int .u8 60,.int .u8 41,.int .u8 37,.int .u8 16,.int .u8 46,.int .u8 35,.int .u8 44,.int .u8 21,.int .u8 52,.int .u8 32,.int .u8 23,.int .u8 11,.int .u8 54,.int .u8 26,.int .u8 40,.int .u8 15,.int .u8 34,.int .u8 20,.int .u8 31,.int .u8 10,.int .u8 25,.int .u8 14,.int .u8 19,.int .u8 9,.int .u8 13,.int .u8 8,.int .u8 7,.int .u8 6] t frozen
    | o=>o).modify 6 fun
    | .cells _ t frozen=> .cells #[.int .u64 1,.int .u64 10,.int .u64 100,.int .u64 1000,.int .u64 10000,.int .u64 100000,.int .u64 1000000,.int .u64 10000000,.int .u64 100000000,.int .u64 1000000000,.int .u64 10000000000,.int .u64 100000000000,.int .u64 1000000000000,.int .u64 10000000000000,.int .u64 100000000000000,.int .u64 1000000000000000,.int .u64 10000000000000000,.int .u64 100000000000000000,.int .u64 1000000000000000000,.int .u64 10000000000000000000] t frozen
    | o=>o).modify 3 fun
    | .cells _ t frozen=> .cells #[.string ⟨#[112,114,111,99]⟩,.string ⟨#[114,101,113,117,105,114,101,115]⟩,.string ⟨#[101,110,115,117,114,101,115]⟩,.string ⟨#[115,107,105,112]⟩,.string ⟨#[112,117,116]⟩,.string ⟨#[103,101,116]⟩,.string ⟨#[110,101,119]⟩,.string ⟨#[102,114,101,101]⟩,.string ⟨#[105,102]⟩,.string ⟨#[101,108,115,101]⟩,.string ⟨#[119,104,105,108,101]⟩,.string ⟨#[105,110,118,97,114,105,97,110,116]⟩,.string ⟨#[97,115,115,101,114,116]⟩,.string ⟨#[99,97,108,108]⟩,.string ⟨#[116,114,117,101]⟩,.string ⟨#[102,97,108,115,101]⟩,.string ⟨#[101,109,112]⟩,.string ⟨#[97,99,99]⟩,.string ⟨#[112,116,115]⟩] t frozen
    | o=>o).modify 0 fun
    | .cells _ t frozen=> .cells #[.string ⟨#[58,61]⟩,.string ⟨#[61,61]⟩,.string ⟨#[33,61]⟩,.string ⟨#[60,61]⟩,.string ⟨#[38,38]⟩,.string ⟨#[124,124]⟩,.string ⟨#[40]⟩,.string ⟨#[41]⟩,.string ⟨#[123]⟩,.string ⟨#[125]⟩,.string ⟨#[91]⟩,.string ⟨#[93]⟩,.string ⟨#[44]⟩,.string ⟨#[59]⟩,.string ⟨#[46]⟩,.string ⟨#[43]⟩,.string ⟨#[45]⟩,.string ⟨#[42]⟩,.string ⟨#[60]⟩,.string ⟨#[33]⟩,.string ⟨#[38]⟩] t frozen
    | o=>o).modify 4 fun
    | .cells _ t frozen=> .cells #[.iface 243 (.pointer (some ⟨low,0,none⟩))] t frozen
    | o=>o).modify 5 fun
    | .cells _ t frozen=> .cells #[.iface 243 (.pointer (some ⟨low+1,0,none⟩))] t frozen
    | o=>o).modify 1 fun
    | .cells _ t frozen=> .cells #[.iface 197 (.agg #[.pointer (some ⟨9,27,none⟩)])] t frozen
    | o=>o) }
theorem laidWorld_met (os:Os)(args:Array Value):laidMetH Tryz.prog laidL ((laidWorld os).forCall (fun _ _=>0) ⟨#[],args,[]⟩).memory:=
 laidMetH_of_parts (laidMet_of_run' 8 (by kernel_rfl) (by kernel_rfl):laidMet Tryz.prog laidT _) (by kernel_rfl)
end
section
open Go.RowKit
theorem same_any (xs:List QT)(v1 v2:Value)(w:World)(S1 S2:Nat→Prop)(h1:Pak.Slot qtX S1 w v1 xs)(h2:Pak.Slot qtX S2 w v2 xs)(k1:∀b,S1 b→b<w.heap.size)(k2:∀b,S2 b→b<w.heap.size):
 ValAll 13 #[.agg #[v1],.agg #[v2]] (.bool true) w:=by
 obtain⟨n1,h1⟩:=slot_layers procSh_k (fun n=>procUp n) h1
 obtain⟨n2,h2⟩:=slot_layers procSh_k (fun n=>procUp n) h2
 obtain⟨a1,c1,e1,s1⟩:=h1 (n1+n2) (Nat.le_add_right _ _)
 obtain⟨a2,c2,e2,s2⟩:=h2 (n1+n2) (Nat.le_add_left _ _)
 rw[e1,e2]
 exact same_all (n1+n2) xs a1 a2 c1 c2 w (s1.keep (fun b hb=>k1 b hb) (fun _ _ _=>rfl)) (s2.keep (fun b hb=>k2 b hb) (fun _ _ _=>rfl))
theorem pprog_code (tk:List Tok)(en:Nat):(pprog tk en).1=0→(pprog tk en).2.1= -1:=by
 have k1:ErOk (pprocs tk en (tk.length+1) [] ps0).2:=(mw_procs (tk:=tk) (en:=en) _ _ _).f (fun c a e=>by cases e)
 unfold pprog
 generalize pprocs tk en (tk.length+1) [] ps0=r at*
 obtain⟨l,nx,ne,er⟩:=r
 cases er with
 | none=>exact fun _=>rfl
 | some p=>
   obtain⟨c,a⟩:=p
   exact fun h=>absurd h (k1 c a rfl).1
theorem pparse_code (s:ByteArray):(pparse s).1=0→(pparse s).2.1= -1:=by
 unfold pparse
 split
 ·exact pprog_code _ _
 ·next h=>exact fun e=>absurd e h
theorem parse_two {s:ByteArray}{w w':World}{e:Ending}(h:ParseEnd (pparse s) w e w'):∃va m vc er,e= .returned (.tuple #[.agg #[.slice va m vc],er])∧Pak.Slot qtX (InS w.heap.size w') w' (.slice va m vc) (pparse s).2.2∧(((pparse s).1=0∧er= .nilIface)∨((pparse s).1≠0∧∃t u,er= .iface t u))∧Below w.heap.size w w':=by
 obtain⟨v,er,e1,h1,h2,h3⟩:=h
 obtain⟨va,vc,rfl,h4⟩:=h1
 refine⟨va,_,vc,er,e1,⟨va,vc,rfl,h4⟩, ?_,h3⟩
 by_cases h0:(pparse s).1=0
 ·exact .inl ⟨h0,by rw[h2.1 (by rw[pparse_code s h0];decide),h0];rfl⟩
 ·exact .inr ⟨h0,errIs_form h2 h0⟩
theorem take_next (ts:List Tok){j:Nat}(h:j<ts.length):outS (ts.take (j+1))=outS (ts.take j) ++ (ts.getD j tok0).text ++ (⟨#[32]⟩:ByteArray):=by
 rw[List.take_succ_eq_append_getElem h,outS_snoc,List.getD_eq_getElem?_getD,List.getElem?_eq_getElem h]
 rfl
theorem tokLen_take (ts:List Tok)(j:Nat):(outS (ts.take j)).size≤tokLen ts+ts.length:=by
 have h1:tokLen ts=tokLen (ts.take j)+tokLen (ts.drop j):=by
  unfold tokLen
  rw[←List.sum_append,←List.map_append,List.take_append_drop]
 have h2:(ts.take j).length≤ts.length:=by rw[List.length_take];omega
 rw[outS_size]
 omega
theorem blanks_two {s:ByteArray}{er er2:Value}(h0:(resOf s).1=0)(hs:s.size≤3000)(h1:((pparse s).1=0∧er= .nilIface)∨((pparse s).1≠0∧∃t u,er= .iface t u))(h2:((pparse (outS (resOf s).2.2)).1=0∧er2= .nilIface)∨((pparse (outS (resOf s).2.2)).1≠0∧∃t u,er2= .iface t u)):
 (er= .nilIface∧er2= .nilIface)∨((∃t u,er= .iface t u)∧∃t u,er2= .iface t u):=by
 obtain⟨_,h3⟩:=parse_again h0 hs
 rcases h1 with ⟨a,b⟩ | ⟨a,b⟩
 ·rcases h2 with ⟨c,d⟩ | ⟨c,d⟩
  ·exact .inl ⟨b,d⟩
  ·exact absurd (h3.1 a) c
 ·rcases h2 with ⟨c,d⟩ | ⟨c,d⟩
  ·exact absurd (h3.2 c) a
  ·exact .inr ⟨b,d⟩
theorem parseBlanks_any (hup:UpSaid14)(s:ByteArray)(w:World)(hs:s.size≤9223372036854775807)(hL:Laid14 w):
 Calls Tryz.prog 5 #[.string s] w fun e w'=>e= .returned (.bool true)∧Below w.heap.size w w':=by
 have HUP:=Lib.hid (hup w hL)
 by_cases h1:3000<s.size
 ·have h1i:(3000:Int)<(s.size:Int):=by omega
  clear hL
  go_enter Tryz.func5,Tryz.ntmps5
  go_wp2_with fail
  refine HUP.out.mono ?_
  rintro e w1 ⟨rfl,hb1⟩
  go_wp2_with fail
  go_ret
  exact⟨rfl,hb1⟩
 ·have h1i:¬(3000:Int)<(s.size:Int):=by omega
  have HSC:=Lib.hid (fun W (hb:Below w.heap.size w W)=>scan_any s W hs (hL.one.up hb))
  by_cases h0:(resOf s).1=0
  ·have HP1:=Lib.hid (fun W (hb:Below w.heap.size w W)=>parse_any s W hs (hL.one.up hb))
   have hre:resOf s=(0, -1,(resOf s).2.2):=by rw[←res_code h0,←h0]
   obtain⟨z1,z2,z3,_,_⟩:=res_again h0 (by omega)
   have HP2:=Lib.hid (fun W (hb:Below w.heap.size w W)=>parse_any (outS (resOf s).2.2) W (by omega) (hL.one.up hb))
   have HTWO:=Lib.hid (fun er er2=>blanks_two (s:=s) (er:=er) (er2:=er2) h0 (by omega))
   have HEQ:=Lib.hid (parse_again h0 (by omega)).1
   obtain⟨ts,hts⟩:∃ts,ts=(resOf s).2.2:=⟨_,rfl⟩
   rw[←hts]at hre HP2 HTWO HEQ z1 z2 z3
   rw[hre]at HSC
   clear hL hre h0 hts z3
   have n2:=fun W=>Tryz.eqNil W
   have n3:=fun t u W=>Tryz.eqIface t u W
   have n4:=fun W=>Tryz.neNil W
   go_enter Tryz.func5,Tryz.ntmps5
   go_wp2_with fail
   refine HUP.out.mono ?_
   rintro e w1 ⟨rfl,hb1⟩
   have B1:=Lib.hid hb1
   clear hb1 HUP
   go_wp2_with fail
   refine(HSC.out _ B1.out).mono ?_
   rintro e w2 ⟨v,er,rfl,hrow,her,hb2⟩
   obtain rfl:er= .nilIface:=her.1 (by show(-1:Int)<0;decide)
   have B2:=Lib.hid (B1.out.trans (hb2.mono B1.out.size))
   obtain⟨a,ca,rfl,hla⟩:=hrow.lies
   have HLA:=Lib.hid hla
   clear hrow her hb2 hla HSC B1
   have HZ:=Lib.hid z1
   obtain⟨n,hn⟩:∃n,n=ts.length:=⟨_,rfl⟩
   have HN:=Lib.hid hn
   have hn3:n≤3000:=by rw[hn];exact z2
   have ea:((0, -1,ts):Int×Int×List Tok).2.2.length=n:=by rw[hn]
   simp only[ea]
   clear z1 z2 hn ea
   go_wp2_with fail
   go_loopw [6,7] (fun o i wr=>∃j:Nat,j≤n∧o= .string (outS (ts.take j))∧i= .int .i64 j∧Hid (Below w2.heap.size w2 wr)) (fun o i _=>n - (intOf i).toNat)
   case atStart=>exact⟨0,Nat.zero_le _,rfl,rfl,Below.refl _ _⟩
   case round=>
    obtain⟨j,hj,rfl,rfl,hb⟩:=hrel
    obtain⟨wo,rfl⟩:∃wo:World,wo=wr:=⟨_,rfl⟩
    by_cases hlt:j<n
    ·have hlti:(j:Int)<(n:Int):=by omega
     have hlx:j<ts.length:=by rw[←HN.out];exact hlt
     obtain⟨b,off,rfl,hbl,_,_,hc⟩:=(HLA.out.below hb.out) j hlx
     have HO:=Lib.hid (take_next ts hlx)
     have q1:=tokLen_take ts j
     have q2:=tokLen_take ts (j+1)
     have hz:=HZ.out
     have hnn:=HN.out
     rw[take_next ts hlx,ByteArray.size_append,ByteArray.size_append]at q2
     generalize (ts.getD j tok0).text=x at hc HO q2
     generalize outS (ts.take j)=y at*
     have g1:¬(y.size+x.size > 9223372036854775807):=by omega
     have g2:¬((y ++ x).size+1 > 9223372036854775807):=by rw[ByteArray.size_append];omega
     have g3:¬((y ++ x).size+(⟨#[32]⟩:ByteArray).size > 9223372036854775807):=g2
     clear q1 q2 hz hnn
     go_wp2_with fail
     go_roundw
     case rel=>exact⟨j+1,by omega,by rw[HO.out],by go_num,hb⟩
     case measure=>simp[intOf];omega
    ·obtain rfl:j=n:=by omega
     have B3:=Lib.hid (B2.out.trans (hb.out.mono B2.out.size))
     have ey:outS (ts.take j)=outS ts:=by rw[HN.out,List.take_length]
     rw[ey]
     clear ey HLA HN hb B2
     go_wp2_with fail
     refine(HP1.out _ B3.out).mono ?_
     rintro e w4 hq
     obtain⟨va4,m4,vc4,er4,rfl,hs4,he4,hb4⟩:=parse_two hq
     have hA4:Below w4.heap.size w4 (w4.alloc (.cells #[(.slice va4 m4 vc4)] 25)):=(Below.refl _ _).alloc (Nat.le_refl _) _
     have hn4:=heap_alloc_new w4 (.cells #[(.slice va4 m4 vc4)] 25)
     have hz4:w4.heap.size<(w4.alloc (.cells #[(.slice va4 m4 vc4)] 25)).heap.size:=by simp
     have hs4:=Lib.hid (show Pak.Slot qtX (fun b=>b<(w4.alloc (.cells #[(.slice va4 m4 vc4)] 25)).heap.size) (w4.alloc (.cells #[(.slice va4 m4 vc4)] 25)) (.slice va4 m4 vc4) (pparse s).2.2 from hs4.keep (fun b ⟨_,hb⟩=>Nat.lt_trans hb hz4) (fun b o ⟨_,hb⟩=>hA4.cell (p:=⟨b,o,none⟩) hb))
     have c4:(w4.alloc (.cells #[(.slice va4 m4 vc4)] 25)).cell? ⟨w4.heap.size,0,none⟩=some (.slice va4 m4 vc4):=(cell_of_row _ _ _ _ _ _ hn4).trans rfl
     have C4:=Lib.hid c4
     have B4:=Lib.hid ((B3.out.trans (hb4.mono B3.out.size)).trans (hA4.mono (B3.out.trans (hb4.mono B3.out.size)).size))
     have Z4:=Lib.hid hz4
     have E4:=Lib.hid he4
     clear hq he4 hb4 hA4 hn4 hz4 c4 HP1 B3
     go_wp2_with fail
     generalize hW4:w4.alloc (.cells #[(.slice va4 m4 vc4)] 25)=W4 at*
     refine(HP2.out _ B4.out).mono ?_
     rintro e w5 hq
     obtain⟨va5,m5,vc5,er5,rfl,hs5,he5,hb5⟩:=parse_two hq
     have hA5:Below w5.heap.size w5 (w5.alloc (.cells #[(.slice va5 m5 vc5)] 25)):=(Below.refl _ _).alloc (Nat.le_refl _) _
     have hn5:=heap_alloc_new w5 (.cells #[(.slice va5 m5 vc5)] 25)
     have hz5:w5.heap.size<(w5.alloc (.cells #[(.slice va5 m5 vc5)] 25)).heap.size:=by simp
     have hs5:Pak.Slot qtX (fun b=>b<(w5.alloc (.cells #[(.slice va5 m5 vc5)] 25)).heap.size) (w5.alloc (.cells #[(.slice va5 m5 vc5)] 25)) (.slice va5 m5 vc5) (pparse s).2.2:=by rw[HEQ.out];exact hs5.keep (fun b ⟨_,hb⟩=>Nat.lt_trans hb hz5) (fun b o ⟨_,hb⟩=>hA5.cell (p:=⟨b,o,none⟩) hb)
     have c5:(w5.alloc (.cells #[(.slice va5 m5 vc5)] 25)).cell? ⟨w5.heap.size,0,none⟩=some (.slice va5 m5 vc5):=(cell_of_row _ _ _ _ _ _ hn5).trans rfl
     have hb45:Below W4.heap.size W4 (w5.alloc (.cells #[(.slice va5 m5 vc5)] 25)):=hb5.trans (hA5.mono hb5.size)
     have R:=Lib.hid (same_any (pparse s).2.2 (.slice va4 m4 vc4) (.slice va5 m5 vc5) (w5.alloc (.cells #[(.slice va5 m5 vc5)] 25)) _ _ (hs4.out.keep (S':=fun b=>b<(w5.alloc (.cells #[(.slice va5 m5 vc5)] 25)).heap.size) (fun b hb=>Nat.lt_of_lt_of_le hb hb45.size) (fun b o hb=>hb45.cell (p:=⟨b,o,none⟩) hb)) hs5 (fun _ h=>h) (fun _ h=>h))
     have P1:Hid (∀W,Below (w5.alloc (.cells #[(.slice va5 m5 vc5)] 25)).heap.size (w5.alloc (.cells #[(.slice va5 m5 vc5)] 25)) W→∀k u,([.slice va4 m4 vc4]:List Value)[k]? =some u→W.cell? ((⟨w4.heap.size,0,none⟩:Addr).add k)=some u):=fun W hW k u hu=>by
      match k,hu with
      | 0,hu=>
        obtain rfl:=Option.some.inj hu
        exact(hW.cell (p:=⟨w4.heap.size,0,none⟩) (Nat.lt_of_lt_of_le Z4.out hb45.size)).trans ((hb45.cell (p:=⟨w4.heap.size,0,none⟩) Z4.out).trans C4.out)
     have P2:Hid (∀W,Below (w5.alloc (.cells #[(.slice va5 m5 vc5)] 25)).heap.size (w5.alloc (.cells #[(.slice va5 m5 vc5)] 25)) W→∀k u,([.slice va5 m5 vc5]:List Value)[k]? =some u→W.cell? ((⟨w5.heap.size,0,none⟩:Addr).add k)=some u):=fun W hW k u hu=>by
      match k,hu with
      | 0,hu=>
        obtain rfl:=Option.some.inj hu
        exact(hW.cell (p:=⟨w5.heap.size,0,none⟩) hz5).trans c5
     have B5:=Lib.hid (B4.out.trans (hb45.mono B4.out.size))
     have hcase:=HTWO.out er4 er5 E4.out he5
     clear hq he5 hb5 hA5 hn5 hz5 c5 HP2 B4 hs4 hs5 hb45 HTWO E4 C4 Z4 HEQ hW4
     go_wp2_with fail
     generalize w5.alloc (.cells #[(.slice va5 m5 vc5)] 25)=W5 at*
     have rn:=fun d os=>R.out.reg d os
     rcases hcase with ⟨rfl,rfl⟩ | ⟨⟨t4,u4,rfl⟩,t5,u5,rfl⟩
     all_goals
      refine wp_region_quiet_below (by kernel_rfl) (by kernel_rfl) ?_
      repeat (first | (go_big_quiet_step (first | with_reducible exact rn _ _)) | (refine wpQuiet_load_c 25 _ rfl ⟨w4.heap.size,0,none⟩ rfl [(.slice va4 m4 vc4)] _ P1.out rfl Tryz.underlying25 rfl (by kernel_rfl) _ (by simp only[Act.put,List.setIfInBounds_toArray,List.set_cons_succ,List.set_cons_zero];rfl) ?_) | (refine wpQuiet_load_c 25 _ rfl ⟨w5.heap.size,0,none⟩ rfl [(.slice va5 m5 vc5)] _ P2.out rfl Tryz.underlying25 rfl (by kernel_rfl) _ (by simp only[Act.put,List.setIfInBounds_toArray,List.set_cons_succ,List.set_cons_zero];rfl) ?_))
      refine wpQuiet_nil ?_
      intro w6 hw'
      obtain⟨⟨dq,osq⟩,hw''⟩:=hw'
      have B6:Hid (Below w.heap.size w w6):=Lib.hid (by rw[hw''];exact B5.out.trans ((below_regrown _ dq osq).mono B5.out.size))
      clear hw'' rn P1 P2 R B5
      go_wp2_with fail
      go_ret
      exact⟨rfl,B6.out⟩
  ·rw[show resOf s=((resOf s).1,(resOf s).2.1,(resOf s).2.2) from rfl]at HSC
   generalize (resOf s).1=x at*
   generalize (resOf s).2.1=y at*
   generalize (resOf s).2.2=z at*
   clear hL
   have n5:=fun t u W=>Tryz.neIface t u W
   go_enter Tryz.func5,Tryz.ntmps5
   go_wp2_with fail
   refine HUP.out.mono ?_
   rintro e w1 ⟨rfl,hb1⟩
   have B1:=Lib.hid hb1
   clear hb1 HUP
   go_wp2_with fail
   refine(HSC.out _ B1.out).mono ?_
   rintro e w2 ⟨v,er,rfl,hrow,her,hb2⟩
   have B2:=Lib.hid (B1.out.trans (hb2.mono B1.out.size))
   obtain⟨t,u,rfl⟩:=errIs_form her h0
   obtain⟨a5,cap5,rfl⟩:=TRow.slice hrow
   clear hrow her hb2 HSC B1
   go_wp2_with fail
   go_ret
   exact⟨rfl,B2.out⟩
end
end Go.Proofs.YtcinokljkieijaaGreatDoor
