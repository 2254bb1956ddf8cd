/- Parts of a proof. -/
import Derived.Test.YtipahfcaplbifaaGreatDoorQ09
import Derived.Test.YtipahfcaplbifaaGreatDoorQ29
import Derived.Deep.RegionLaw
import Derived.Deep.AppendLies
import Derived.Laws.MakeOwn
import Derived.OwnWalk
set_option linter.unusedVariables false
set_option linter.unusedSimpArgs false
set_option maxHeartbeats 60000000
set_option maxRecDepth 100000
namespace Go.Proofs.YtipahfcaplbifaaGreatDoor
section
open Go.RowKit
theorem step_append_run {P:Program}{ops:Array Oper}{o:Oper}{a:Act}{w:World}{K:Act→World→Prop}{Q:Exit→Act→World→Prop}{E:Prop}
 (hg:o.guard=none) (s x:Operand) (t:TypeId) (hop:o.op=Op.call { callee:=Callee.builtin Builtin.append,args:= #[s,x],argTypes:= #[t,t] })
 (v1 v2 v':Value) (w':World) (h1:a.eval s=v1) (h2:a.eval x=v2) (hr:∀ty,(Builtin.append_ #[t,t] ty #[v1,v2]).run P w= .ok v' w') (hK:K (a.put o.dst v') w'):
 if Region.wanted o (yielded ops a.tmps)=true then Oper.wp P o a w K Q else E:=by
 have hw:Region.wanted o (yielded ops a.tmps)=true:=by simp[Region.wanted,hg]
 rw[if_pos hw]
 unfold Oper.wp
 simp[execOp,hop,resolve,invoke,builtin,h1,h2,hr,Result.andThen]
 exact hK
theorem Row.liesS {B:Nat}{l:List (Int×Int)}{v:Value}{w:World}(h:Row B l v w):∃a cap,v= .slice a l.length cap∧LiesS (fun b=>B≤b∧b<w.heap.size∧∀o,w.frozen? ⟨b,o,none⟩=false) w a l:=by
 obtain⟨a,cap,rfl,hl,_⟩:=h.lies
 refine⟨a,cap,rfl,fun i hi=> ?_⟩
 obtain⟨b,off,rfl,hb,g0,g1⟩:=hl i hi
 refine⟨b,off,rfl,⟨(World.ownsRow.lt h b rfl).1,hb,fun o=> ?_⟩,g0,g1⟩
 obtain⟨_,⟨e,_⟩ | ⟨g,cap',cur,e,_,hh,_⟩⟩:=h
 ·injection e with e;cases e
 ·injection e with e1
  injection e1 with e1
  injection e1 with e1
  subst e1
  exact frozen_of_row _ _ _ _ _ hh
theorem clone_any (a:Option Addr)(n cap:Nat)(l:List (Int×Int))(w:World)(hn:l.length=n)(hm:n≤8192)(hl:Lies w.heap.size w a l):
 Calls Tryz.prog 49 #[.slice a n cap] w (RowEnd w.heap.size l w):=by
 have he:=fun W:World=>Lib.run_eql_slice_nil (P:=Tryz.prog) W 34 92 a n cap 0 0 Tryz.underlying34
 cases a with
 | none=>
   have hn0:n=0:=by
    cases n with
    | zero=>rfl
    | succ n=>obtain⟨_,_,e,_⟩:=hl 0 (by omega);cases e
   subst hn0
   have HN:=Lib.hid hn
   clear hn hl
   go_enter Tryz.func49,Tryz.ntmps49
   go_wp2_with fail
   go_ret
   exact⟨_,rfl,by rw[List.eq_nil_of_length_eq_zero HN.out];exact World.ownsRow_nil _ _ _ _,Below.refl _ _⟩
 | some a=>
   obtain⟨i0,hi,hz0,hz1,hz2⟩:=Pak.info_parts Tryz.infoMono
   have HN:=Lib.hid hn
   have HL:=Lib.hid hl
   clear hn hl
   go_enter Tryz.func49,Tryz.ntmps49
   have hown:(w.alloc (.cells #[] 92)).ownsRow w.heap.size 92 2 (.slice (some ⟨w.heap.size,0,none⟩) 0 0) 0 []:=World.ownsRow_made w #[] 0 (Nat.le_refl _) (by decide) rfl
   have HB:=Lib.hid ((Below.refl w.heap.size w).alloc (Nat.le_refl _) (.cells #[] 92))
   go_wp2_with (at_builtin;refine wpList_append_own _ rfl _ _ 34 rfl w.heap.size 92 i0 _ 2 16 Tryz.underlying34 hi hz0 hz1 hz2 rfl (by decide) _ _ _ rfl hown a n cap (flat l) rfl ?c1 ?c2 ?c3 ?c4 ?c5 ?c6 ?_)
   case c1=>rw[flat_len,HN.out]
   case c2=>exact(HL.out.below HB.out).news
   case c3=>exact flat_cells l
   case c4=>unfold maxLen;omega
   case c5=>omega
   case c6=>simp
   intro v' w1 hown' hgrow _
   go_wp2_with fail
   go_ret
   refine⟨_,rfl, ?_,HB.out.grown hgrow (by simp) (fun k hk=>(hown.lt k hk).1)⟩
   unfold Row
   rw[HN.out]
   simpa using hown'
def GEnd (M K mp:Nat)(am:List (Int×List (Int×Int)))(r:Option Nat)(S:Nat→Prop)(w w':World):Prop:=∃S',(∀b,S' b→S b∨w.heap.size≤b)∧GTo M K mp am r S' w w'
def GatSaid (B M K mp:Nat)(n:Nat):Prop:=
 ∀(f:FT) (cs:List Value) (am:List (Int×List (Int×Int))) (r:Option Nat) (S:Nat→Prop) (w:World),FLies B w n f cs→madeF n f=true→GS M K mp am r S w→Tens mp w→am.length+siz n f≤100000→
  Calls Tryz.prog 53 #[.pointer (some ⟨M,0,none⟩),.agg cs.toArray] w fun e w'=>e= .returned (.tuple #[])∧GEnd M K mp (gatF n f am) r S w w'
theorem gat_2 (B M K mp:Nat)(hB:B≤mp)(n:Nat)(f:FT)(cs:List Value)(am:List (Int×List (Int×Int)))(r:Option Nat)(S:Nat→Prop)(w:World)(h:FLies B w (n+1) f cs)(hm:madeF (n+1) f=true)(hS:GS M K mp am r S w)(ht:Tens mp w)(hb:am.length+siz (n+1) f≤100000)(h2:f.kind=2):
 Calls Tryz.prog 53 #[.pointer (some ⟨M,0,none⟩),.agg cs.toArray] w fun e w'=>e= .returned (.tuple #[])∧GEnd M K mp (gatF (n+1) f am) r S w w':=by
 obtain⟨ta,tcap,ka,kcap,rfl,hT,_,_,_⟩:=h
 obtain⟨hsn,hk0⟩:=made_snd hm h2
 have HG:Hid (gatF (n+1) f am=addA am (f.c,f.t)):=by
  show _=_
  rw[gatTo_len,if_pos h2,hk0,gatTo_zero]
 have hlt:=hS.lt
 have hMw:=hS.size
 have hA:Below w.heap.size w (w.alloc (.cells #[.int .i64 f.kind,.int .i64 f.c,.slice ta f.t.length tcap,.slice ka f.ks.length kcap] 39)):=(Below.refl _ w).alloc (Nat.le_refl _) _
 have HB:=box_start w f.kind f.c ta ka f.t.length tcap f.ks.length kcap
 have hl3:=textL_len hsn f.t.length (Nat.le_refl _)
 rw[List.take_length]at hl3
 have ht64:=(snd_iff.1 hsn).2.1
 have HTX:=Lib.hid (text_any f.c ta f.t.length tcap f.t (w.alloc (.cells #[.int .i64 f.kind,.int .i64 f.c,.slice ta f.t.length tcap,.slice ka f.ks.length kcap] 39)) rfl ((hT.below (hA.mono (by omega))).mono (Nat.le_trans (show B≤w.heap.size by omega) hA.size)) hsn (ht.up (hA.mono (by omega)) (Nat.le_trans (show mp≤w.heap.size by omega) hA.size)))
 have HLI:=Lib.hid ((hT.below (hA.mono (by omega))).mono (Nat.le_trans (show B≤w.heap.size by omega) hA.size))
 have HS:=Lib.hid (hS.below hA)
 have HA:=Lib.hid hA
 have HLT:=Lib.hid hlt
 have HL:=Lib.hid hl3
 have HAM:=Lib.hid (show am.length≤1000000 by omega)
 have hq1:w.heap.size<(w.alloc (.cells #[.int .i64 f.kind,.int .i64 f.c,.slice ta f.t.length tcap,.slice ka f.ks.length kcap] 39)).heap.size:=by simp
 have HQ1:=Lib.hid hq1
 have HKW:=Lib.hid (show K≤w.heap.size from hlt.2.2)
 have HRW:=Lib.hid (fun q (e:r=some q)=>(hS.row q e).2.1)
 have b0:=HB.c0
 have b1:=HB.c1
 have b2:=HB.c2
 have b3:=HB.c3
 rw[h2]at*
 rw[hk0]at*
 clear h2 hk0 hsn hT hl3 hS hA HB hm ht hB hb hMw hlt hq1
 rw[HG.out]
 clear HG
 generalize hc:f.c=c at*
 generalize hft:f.t=t at*
 clear hc hft
 obtain⟨tx,htx⟩:∃tx,tx=(textL c t).toArray:=⟨_,rfl⟩
 rw[←htx]at HTX
 have HTE:=Lib.hid htx
 have HLK:Hid (∀W,GS M K mp am r S W→(Instr.lookup 108 (.map (some mp)) (.string ⟨tx⟩) false).run Tryz.prog W= .ok (.int .i64 (atN am (c,t))) W):=Lib.hid fun W hW=>by
  rw[htx]
  exact hW.pl.look HL.out
 clear htx
 generalize f.ks=fks at*
 go_enter Tryz.func53,Tryz.ntmps53
 go_wp2_with fail
 clear b3
 generalize w.alloc (.cells #[.int .i64 2,.int .i64 c,.slice ta t.length tcap,.slice ka 0 kcap] 39)=W1 at*
 go_loopw [10] (fun i wr=>i= .int .i64 0∧Hid (wr=W1)) (fun _ _=>0)
 case atStart=>exact⟨rfl,rfl⟩
 case round=>
  obtain⟨rfl,hw⟩:=hrel
  obtain rfl:=hw.out
  clear hw
  go_wp2_with fail
  refine HTX.out.mono ?_
  rintro e w2 ⟨rfl,hb2⟩
  have hS2:=HS.out.below hb2
  have c1:=(hb2.cell (p:=⟨w.heap.size,1,none⟩) HQ1.out).trans b1
  have c2:=(hb2.cell (p:=⟨w.heap.size,2,none⟩) HQ1.out).trans b2
  have m3:=hS2.c3
  have l2:=HLK.out w2 hS2
  have HS2:=Lib.hid hS2
  have HB2:=Lib.hid hb2
  have HZ2:=Lib.hid hb2.size
  have HLI2:=Lib.hid ((HLI.out.below hb2).mono hb2.size)
  clear hb2 hS2 HTX HLI b0 b1 b2
  by_cases h0:atN am (c,t)=0
  ·rw[h0]at l2
   obtain⟨v,mv,_⟩:=HS2.out.ex
   have HCL:=Lib.hid (fun W (hb:Below w2.heap.size w2 W)=>clone_any ta t.length tcap t W rfl (by omega) ((HLI2.out.below hb).mono hb.size))
   have hMw2:M<w2.heap.size:=HS2.out.size
   have HMW2:=Lib.hid hMw2
   have hqw2:w.heap.size<w2.heap.size:=Nat.lt_of_lt_of_le HQ1.out HZ2.out
   have HQW2:=Lib.hid hqw2
   have QA:Hid (∀W,Below w2.heap.size w2 W→W.cell? ⟨M,1,none⟩=some v∧W.cell? ⟨w.heap.size,1,none⟩=some (.int .i64 c)∧W.cell? ⟨w.heap.size,2,none⟩=some (.slice ta t.length tcap)):=fun W hb=>⟨(hb.cell (p:=⟨M,1,none⟩) HMW2.out).trans mv,(hb.cell (p:=⟨w.heap.size,1,none⟩) HQW2.out).trans c1,(hb.cell (p:=⟨w.heap.size,2,none⟩) HQW2.out).trans c2⟩
   have HADD:=Lib.hid (fun(w5:World) (hb:Below w2.heap.size w2 w5) (a5:Option Addr) (cap5:Nat) (hx:LiesS (fun b=>w2.heap.size≤b∧b<w5.heap.size∧∀o,w5.frozen? ⟨b,o,none⟩=false) w5 a5 t)=>(HS2.out.below hb).add (n:=t.length) (cap:=cap5) HAM.out h0 rfl HL.out hx (fun b hbb=>⟨by have:=HKW.out;have:=HZ2.out;have:=hbb.1;omega,hbb.2.1,fun e=>by have:=HRW.out b e;have:=hbb.1;omega⟩) (fun b hbb=>hbb.2.2))
   clear hMw2 hqw2
   go_wp2_with fail
   go_region_law (first
    | (refine step_append_run (by rfl) _ _ _ (by rfl) _ _ _ w6 (by rfl) (by rfl) HRUN.out ?_)
    | (go_simp
       go_at_call 49
       refine(HCL.out _ (Below.refl _ w2).drew).mono ?_
       rintro e w5 ⟨v5,rfl,hrow5,hb5⟩
       obtain⟨a5,cap5,rfl,hl5⟩:=hrow5.liesS
       have HB5:Hid (Below w2.heap.size w2 w5):=(Below.refl _ w2).drew.trans hb5
       obtain⟨v9,a6,n6,c6,w6,w8,hn6,hv9,hrun,m6,f6,m7,x7,hup,hG8⟩:=HADD.out w5 HB5.out a5 cap5 hl5
       have r0:=(QA.out _ HB5.out).1
       have r1:=(QA.out _ HB5.out).2.1
       have r2:=(QA.out _ HB5.out).2.2
       obtain rfl:v=v9:=Option.some.inj (r0.symm.trans hv9)
       have r0a:(w5.alloc (.cells #[.int .i64 c,.slice a5 t.length cap5] 36)).cell? ⟨M,1,none⟩=some v:=(QA.out _ (HB5.out.trans ((Below.refl _ w5).alloc (Nat.le_refl _) _ |>.mono HB5.out.size))).1
       have HRUN:=Lib.hid hrun
       have HG8:=Lib.hid hG8
       have HUP:=Lib.hid hup
       have HN6:=Lib.hid hn6
       clear hrow5 hl5 hb5 hrun hG8 hup hn6 hv9))
   all_goals
    have HE:Hid (GEnd M K mp (addA am (c,t)) r S w w8):=Lib.hid (by
     obtain⟨r8,g1,g2,g3⟩:=HG8.out
     refine⟨_,fun b hb=> ?_,r8,by unfold addA;rw[if_pos h0];exact g1,next_trans (.inl rfl) (Nat.le_trans HA.out.size (Nat.le_trans HZ2.out HB5.out.size)) g2,keptG_trans (.inl rfl) (.of_below HA.out) (keptG_trans (.inl rfl) (.of_below HB2.out) (keptG_trans (.inl rfl) (.of_below HB5.out) g3))⟩
     rcases hb with hb | hb
     ·exact .inl hb
     ·exact .inr (by have:=hb.1;have:=HQW2.out;omega))
    have hup:=HUP.out
    rw[←HTE.out]at hup
    clear HG8 HUP HRUN r0 r1 r2 r0a m6 f6 QA HCL HADD HLK HS2 HLI2 HB2 HB5 mv c1 c2 l2 m3
    generalize w6.setCell ⟨M,1,none⟩ (.slice a6 n6 c6)=w7 at*
    go_wp2_with fail
    go_region
    all_goals
     go_end0
     exact⟨rfl,HE.out⟩
  ·have h00:((atN am (c,t):Nat):Int) == 0↔False:=by simp[h0]
   have HE:Hid (GEnd M K mp (addA am (c,t)) r S w w2):=Lib.hid ⟨S,fun b hb=> .inl hb,r,by unfold addA;rw[if_neg h0];exact HS2.out,.inl rfl,keptG_trans (.inl rfl) (.of_below HA.out) (.of_below HB2.out)⟩
   have h01:(((atN am (c,t):Nat):Int) == 0)=false:=by simp[h0]
   clear h00 HS2 HLK HLI2
   generalize ((atN am (c,t):Nat):Int)=z at*
   go_wp2_with fail
   go_end0
   exact⟨rfl,HE.out⟩
end
end Go.Proofs.YtipahfcaplbifaaGreatDoor
