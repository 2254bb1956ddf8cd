/- Parts of a proof. -/
import Derived.Test.YtcinokljkieijaaGreatDoorW01
import Derived.Test.YtcinokljkieijaaGreatDoorW03
import Derived.Test.YtcinokljkieijaaGreatDoorW04
import Derived.Test.YtcinokljkieijaaGreatDoorW05
import Derived.Test.YtcinokljkieijaaGreatDoorW06
import Derived.Test.YtcinokljkieijaaGreatDoorW07
import Derived.Test.YtcinokljkieijaaGreatDoorW08
import Derived.Test.YtcinokljkieijaaGreatDoorW09
import Derived.Test.YtcinokljkieijaaGreatDoorW10
set_option linter.unusedVariables false
set_option linter.unusedSimpArgs false
set_option maxHeartbeats 60000000
set_option maxRecDepth 100000
namespace Go.Proofs.YtcinokljkieijaaGreatDoor
namespace Dc
open Go.RowKit
theorem PSt.grown {C:PC}{s:PS}{w w':World}{ob:Option Nat}(h:PSt C s w)(hg:w.grownBy w' ob)(hob:∀q,ob=some q→C.g<q):PSt C s w':=by
 have hgl:=h.lt
 have hn:∀q,q≤C.g→some q≠ob:=fun q hq e=>by have:=hob q e.symm;omega
 exact h.below hgl (fun j=>World.cell?_of_block (hg.block C.g hgl (hn _ (Nat.le_refl _)))) (fun j=>World.frozen?_of_block (hg.block C.g hgl (hn _ (Nat.le_refl _)))) ⟨hg.os,hg.tape,hg.output,hg.size,fun q hq=>hg.block q (by omega) (hn q (by omega))⟩
section
variable {T:Type} {sh:Pak.Sh T} {e:TypeId}
structure RP (sh:Pak.Sh T)(e:TypeId)(C:PC)(w:World)(s:PS)(xs:List T)(v:Value)(wr:World):Prop where
 ps:PSt C s wr
 gl:C.g<w.heap.size
 kept:KeptG C.g w wr
 own:Pak.Own sh e w.heap.size xs v wr
theorem RP.start {C:PC}{w:World}{s:PS}(h:PSt C s w):RP sh e C w s [] (.slice none 0 0) w:=⟨h,h.lt,KeptG.refl _ _,Pak.Own.nil _ _ _ _⟩
theorem RP.step {C:PC}{w wr w':World}{s s':PS}{xs:List T}{v:Value}(h:RP sh e C w s xs v wr)(k:KeptG C.g wr w')(hp:PSt C s' w'):RP sh e C w s' xs v w':=⟨hp,h.gl,h.kept.trans k,h.own.keptG k h.gl⟩
theorem RP.push {C:PC}{w wr W5:World}{s s':PS}{xs:List T}{x:T}{v:Value}{cs:List Value}{t:TypeId}{by':Nat}(ht:Tryz.prog.underlying t=some (.slice e))(hin:(Tryz.prog.info? e).map (fun i=>(i.zero.map fun z=>z.cells.size,i.size,i.bytes))=some (some sh.k,sh.k,by'))(hk0:0<sh.k)(hby:by'≤6000)
 (h:RP sh e C w s xs v wr) (hk:KeptG C.g wr W5) (hp:PSt C s' W5) (hx:sh.rel (InS wr.heap.size W5) W5 cs x) (hf:xs.length≤70000):
 ∃v6 w6,(∀ty,(Builtin.append_ #[t,t] ty #[v,.slice (some ⟨W5.heap.size,0,none⟩) 1 1]).run Tryz.prog (W5.alloc (.cells cs.toArray e))= .ok v6 w6)∧RP sh e C w s' (xs ++ [x]) v6 w6:=by
 have hks:=h.kept.size
 have h5:=hk.size
 have ho5:=h.own.keptG hk h.gl
 have hlt:=h.own.lt
 obtain⟨v6,w6,hr,ho,hb,hg⟩:=Pak.Own.snoc (P:=Tryz.prog) ht hin hk0 hby ho5 hf (by omega) (x:=x) (cs:=cs) (sh.keep (fun b ⟨a1,a2⟩=>⟨by omega,a2,fun e=>by have:=hlt b e;omega⟩) (fun _ _ _=>rfl) hx)
 have hB:∀q,v.ownBlock=some q→w.heap.size≤q:=fun q hq=>by
  obtain⟨css,h1,h2,h3⟩:=h.own.row
  exact(World.ownsRow.lt h2 q hq).1
 refine⟨v6,w6,hr,(hp.alloc _).grown hg (fun q hq=>by have:=hB q hq;have:=h.gl;omega),h.gl, ?_,ho⟩
 have k:=h.kept.trans hk
 exact⟨hb.os.trans k.os,hb.tape.trans k.tape,hb.output.trans k.output,by have:=hg.size;simp at this;omega,fun q h1 h2=>(hb.block q h1).trans (k.block q h1 h2)⟩
theorem RP.lit {C:PC}{w wr W5:World}{s s':PS}{x:T}{v:Value}{cs:List Value}(h:RP sh e C w s [] v wr)(hk:KeptG C.g wr W5)(hp:PSt C s' W5)(hx:sh.rel (InS wr.heap.size W5) W5 cs x):RP sh e C w s' [x] (.slice (some ⟨W5.heap.size,0,none⟩) 1 1) (W5.alloc (.cells cs.toArray e)):=by
 have hks:=h.kept.size
 have h5:=hk.size
 have hlen:=sh.len hx
 have hA:KeptG C.g W5 (W5.alloc (.cells cs.toArray e)):=KeptG.alloc _ _ _
 refine⟨hp.alloc _,h.gl,(h.kept.trans hk).trans hA,⟨⟨[cs],rfl, ?_,fun i hi hi2=> ?_⟩⟩⟩
 ·have:=World.ownsRow_lit (base:=w.heap.size) (e:=e) (size:=sh.k) W5 cs.toArray 1 (by omega) (by unfold maxLen;omega) (by simp[hlen])
  simpa using this
 ·obtain rfl:i=0:=by simp at hi;exact hi
  refine sh.keep (fun b ⟨a1,a2⟩=>⟨by omega,by simp;omega,fun e1=> ?_⟩) (fun b o ⟨a1,a2⟩=>World.cell?_alloc_lt _ _ ⟨b,o,none⟩ a2) hx
  injection e1 with e1
  have e1:W5.heap.size=b:=e1
  omega
theorem RP.fin {C:PC}{w wr:World}{s0 s:PS}{xs:List T}{v:Value}{F:PS→List T×PS}(h:RP sh e C w s xs v wr)(hF:F s0=(xs,s))(hf:xs.length≤70000):PE (Vs sh) F C s0 w (.returned v) wr:=by
 refine⟨v,rfl, ?_,by rw[hF];exact h.ps,h.kept⟩
 rw[hF]
 exact h.own.sits (by show xs.length≤_;omega)
end
theorem names_1 (C:PC)(s:PS)(w:World)(h:PSt C s w):
 Calls Tryz.prog 27 #[C.p,.int .i64 1] w (PE (Vs strSh) (dnames C.tk C.en true) C s w):=by
 have hlen:=h.len.1
 obtain⟨T,hT⟩:∃T,T=dmany C.tk (dtext C.tk C.en 1) s:=⟨_,rfl⟩
 have HF:=Lib.hid (fun(s2:PS) W (hW:PSt C s2 W)=>text_any C s2 1 W hW (by decide))
 have XL:Hid (∀s2 W e1 W1,RP strSh 9 C w s2 [] (.slice none 0 0) W→PE (Vt) (dtext C.tk C.en 1) C s2 W e1 W1→∃x,e1= .returned (.string x)∧RP strSh 9 C w (dtext C.tk C.en 1 s2).2 [(dtext C.tk C.en 1 s2).1] (.slice (some ⟨W1.heap.size,0,none⟩) 1 1) (W1.alloc (.cells #[.string x] 9))):=fun s2 W e1 W1 hr hq=>by
  obtain⟨b1,b4,b5⟩:=pe_v hq
  obtain⟨x,hx⟩:∃x,x=(dtext C.tk C.en 1 s2).1:=⟨_,rfl⟩
  have b3:strSh.rel (InS W.heap.size W1) W1 [.string x] (dtext C.tk C.en 1 s2).1:=⟨by rw[hx],dtext_size 1 hr.ps (by decide)⟩
  rw[←hx]at b1
  exact⟨x,b1,hr.lit b5 b4 b3⟩
 have XF:Hid (∀s1 s2 W e1 W1 xs v,RP strSh 9 C w s1 xs v W→s1=s2→xs.length≤70000→PE (Vt) (dtext C.tk C.en 1) C s2 W e1 W1→∃x,e1= .returned (.string x)∧∃v6 w6,(∀ty,(Builtin.append_ #[35,35] ty #[v,.slice (some ⟨W1.heap.size,0,none⟩) 1 1]).run Tryz.prog (W1.alloc (.cells #[.string x] 9))= .ok v6 w6)∧RP strSh 9 C w (dtext C.tk C.en 1 s2).2 (xs ++ [(dtext C.tk C.en 1 s2).1]) v6 w6):=fun s1 s2 W e1 W1 xs v hr e0 hl hq=>by
  subst e0
  obtain⟨b1,b4,b5⟩:=pe_v hq
  obtain⟨x,hx⟩:∃x,x=(dtext C.tk C.en 1 s1).1:=⟨_,rfl⟩
  have b3:strSh.rel (InS W.heap.size W1) W1 [.string x] (dtext C.tk C.en 1 s1).1:=⟨by rw[hx],dtext_size 1 hr.ps (by decide)⟩
  rw[←hx]at b1
  obtain⟨v6,w6,r1,r2⟩:=hr.push (t:=35) (x:=(dtext C.tk C.en 1 s1).1) Tryz.underlying35 Tryz.rowStr (by decide) (by decide) b5 b4 b3 hl
  exact⟨x,b1,v6,w6,r1,r2⟩
 have he:dnames C.tk C.en true s=dmany C.tk (dtext C.tk C.en 1) s:=if_neg (fun e=>by cases e.1)
 have HK:Hid (∀k s2 xs v wr,RP strSh 9 C w s2 xs v wr→dcom C.tk (dtext C.tk C.en 1) k xs s2=T→(k=0→False)→xs.length≤70000→¬dnx C.tk s2=(⟨#[44]⟩:ByteArray)→PE (Vs strSh) (dnames C.tk C.en true) C s w (.returned v) wr):=fun k s2 xs v wr hr hk h0 hl hc=>by
  refine hr.fin ?_ hl
  cases k with
  | zero=>exact(h0 rfl).elim
  | succ k=>
    unfold dcom at hk
    rw[if_neg hc]at hk
    rw[he,←hT,←hk]
 have HT0:Hid (dcom C.tk (dtext C.tk C.en 1) (C.tk.length+1) [(dtext C.tk C.en 1 s).1] (dtext C.tk C.en 1 s).2=T):=by rw[hT];rfl
 have HR0:=Lib.hid (RP.start (sh:=strSh) (e:=9) h)
 have HP:=Lib.hid h
 have HMD:Hid (∀(s2:PS) W,PSt C s2 W→Md C.tk s2 (dtext C.tk C.en 1 s2).2):=fun s2 W hW=>md_text (by decide) s2
 have HLEN:=Lib.hid hlen
 generalize PE (Vs strSh) (dnames C.tk C.en true) C s w=Q at*
 unfold PC.p at*
 clear h hT he
 go_enter Tryz.func27,Tryz.ntmps27
 have HR1:=HR0
 have HF1:=Lib.hid (HF.out s w HP.out)
 clear HR0
 go_wp2_with fail
 refine HF1.out.mono ?_
 rintro e w2 hq
 obtain⟨x,rfl,hR6⟩:=XL.out s w _ _ HR1.out hq
 have HR6:=Lib.hid hR6
 have M0:=Lib.hid (HMD.out s w HR1.out.ps)
 clear hq HF1 HR1 hR6 HP XL
 go_wp2_with fail
 go_loopw [5] (fun l wr=>∃(k:Nat) (s2:PS) (xs:List _),Hid (RP strSh 9 C w s2 xs l wr)∧Hid (dcom C.tk (dtext C.tk C.en 1) k xs s2=T)∧Hid (1≤k∧(s2.er=none→C.tk.length+1≤k+s2.nx)∧xs.length+k≤C.tk.length+3)) (fun _ wr=>mz C wr)
 case atStart=>exact⟨_,_,_,HR6,HT0,Lib.hid ⟨Nat.succ_le_succ (Nat.zero_le _),fun _=>Nat.le_add_right _ _,by simp only[List.length_singleton];omega⟩⟩
 case round=>
  clear HR6 HT0 M0
  obtain⟨k,s2,xs,hr,hk,hfu⟩:=hrel
  obtain⟨wo,rfl⟩:∃wo:World,wo=wr:=⟨_,rfl⟩
  have HN:=Lib.hid (next_any C s2 wo hr.out.ps)
  by_cases hc:dnx C.tk s2=(⟨#[44]⟩:ByteArray)
  ·obtain⟨h20,hnx⟩:=dnx_inv (tk:=C.tk) (s:=s2) (by rw[hc];decide)
   have HG:Hid (∀W,Below wo.heap.size wo W→(W.cell? ⟨C.g,2,none⟩=some (.int .i64 s2.nx)∧W.frozen? ⟨C.g,2,none⟩=false∧IntKind.i64.wrap ((s2.nx:Int)+1)=(s2.nx:Int)+1)∧RP strSh 9 C w (pgo s2) xs _ (W.setCell ⟨C.g,2,none⟩ (.int .i64 ((s2.nx:Int)+1)))):=fun W hb=>by
    have hW:=hr.out.ps.up hb
    exact⟨two_wrap hW h20,hr.out.step ((KeptG.of_below hb).trans KeptG.set) (hW.go h20 hnx)⟩
   have hx0:xs.length≤70000:=by have:=hfu.out.2.2;have:=HLEN.out;omega
   have HL:Hid (∀v6 w6,RP strSh 9 C w (dtext C.tk C.en 1 (pgo s2)).2 (xs ++ [(dtext C.tk C.en 1 (pgo s2)).1]) v6 w6→(∃(k:Nat) (s2:PS) (xs:List _),Hid (RP strSh 9 C w s2 xs v6 w6)∧Hid (dcom C.tk (dtext C.tk C.en 1) k xs s2=T)∧Hid (1≤k∧(s2.er=none→C.tk.length+1≤k+s2.nx)∧xs.length+k≤C.tk.length+3))∧mz C w6<mz C wo):=fun v6 w6 h6=>by
    have hm4:=HMD.out (pgo s2) _ (HG.out wo (Below.refl _ _)).2.ps
    have hnn:(dtext C.tk C.en 1 (pgo s2)).2.er=none→s2.nx+1≤(dtext C.tk C.en 1 (pgo s2)).2.nx:=fun e=>(hm4.nx e).2.1
    have hfk:=hfu.out.2.1 h20
    have hfl:=hfu.out.2.2
    obtain⟨k,rfl⟩:∃k',k=k'+1:=⟨k - 1,by omega⟩
    refine⟨⟨k,_,_,h6, ?_, ?_⟩,mz_less hr.out.ps h20 h6.ps (fun e=>by have:=hnn e;omega)⟩
    ·have:=hk.out
     unfold dcom at this
     rw[if_pos hc]at this
     exact this
    ·exact⟨by omega,fun e=>by have:=hnn e;omega,by rw[List.length_append];simp only[List.length_singleton];omega⟩
   have hx1:=eq_lit [44] hc
   generalize dnx C.tk s2=tx at*
   clear hc hr hk hfu hnx h20
   go_wp2_with fail
   refine HN.out.mono ?_
   rintro e w3 ⟨rfl,hb⟩
   obtain⟨⟨c2,f2,hw2⟩,hr3⟩:=HG.out w3 hb
   have HR3:=Lib.hid hr3
   have HF3:=Lib.hid (HF.out _ _ hr3.ps)
   clear hb HN HG hr3
   go_wp2_with fail
   refine HF3.out.mono ?_
   rintro e w4 hq
   obtain⟨x,rfl,v6,w6,hrun,hR6⟩:=XF.out _ _ _ _ _ _ _ HR3.out rfl hx0 hq
   have HL6:=Lib.hid (HL.out _ _ hR6)
   clear hq HF3 HR3 hR6 HL hx0 c2 f2
   go_wp2_with (at_builtin;refine Lib.wpList_append_run _ rfl _ _ _ _ rfl _ _ rfl rfl _ _ (hrun _) ?_)
   go_roundw
   case rel=>first | exact HL6.out.1 | ((repeat apply Exists.intro);exact⟨HL6.out.1,rfl⟩)
   case measure=>exact HL6.out.2
  ·have HE:Hid (∀W,Below wo.heap.size wo W→Q (.returned _) W):=fun W hb=>HK.out k s2 xs _ W (hr.out.step (KeptG.of_below hb) (hr.out.ps.up hb)) hk.out (fun e=>by have:=hfu.out.1;omega) (by have:=hfu.out.2.2;have:=HLEN.out;omega) hc
   have hx1:=ne_lit [44] hc
   generalize dnx C.tk s2=tx at*
   clear hc hr hk hfu
   go_wp2_with fail
   refine HN.out.mono ?_
   rintro e w3 ⟨rfl,hb⟩
   have HQ:=Lib.hid (HE.out w3 hb)
   clear hb HN HE
   go_wp2_with fail
   try go_ret
   exact HQ.out
theorem names_0 (C:PC)(s:PS)(w:World)(h:PSt C s w)(hk1:pkd C.tk s=1):
 Calls Tryz.prog 27 #[C.p,.int .i64 0] w (PE (Vs strSh) (dnames C.tk C.en false) C s w):=by
 have hlen:=h.len.1
 obtain⟨T,hT⟩:∃T,T=dmany C.tk (dtext C.tk C.en 1) s:=⟨_,rfl⟩
 have HF:=Lib.hid (fun(s2:PS) W (hW:PSt C s2 W)=>text_any C s2 1 W hW (by decide))
 have XL:Hid (∀s2 W e1 W1,RP strSh 9 C w s2 [] (.slice none 0 0) W→PE (Vt) (dtext C.tk C.en 1) C s2 W e1 W1→∃x,e1= .returned (.string x)∧RP strSh 9 C w (dtext C.tk C.en 1 s2).2 [(dtext C.tk C.en 1 s2).1] (.slice (some ⟨W1.heap.size,0,none⟩) 1 1) (W1.alloc (.cells #[.string x] 9))):=fun s2 W e1 W1 hr hq=>by
  obtain⟨b1,b4,b5⟩:=pe_v hq
  obtain⟨x,hx⟩:∃x,x=(dtext C.tk C.en 1 s2).1:=⟨_,rfl⟩
  have b3:strSh.rel (InS W.heap.size W1) W1 [.string x] (dtext C.tk C.en 1 s2).1:=⟨by rw[hx],dtext_size 1 hr.ps (by decide)⟩
  rw[←hx]at b1
  exact⟨x,b1,hr.lit b5 b4 b3⟩
 have XF:Hid (∀s1 s2 W e1 W1 xs v,RP strSh 9 C w s1 xs v W→s1=s2→xs.length≤70000→PE (Vt) (dtext C.tk C.en 1) C s2 W e1 W1→∃x,e1= .returned (.string x)∧∃v6 w6,(∀ty,(Builtin.append_ #[35,35] ty #[v,.slice (some ⟨W1.heap.size,0,none⟩) 1 1]).run Tryz.prog (W1.alloc (.cells #[.string x] 9))= .ok v6 w6)∧RP strSh 9 C w (dtext C.tk C.en 1 s2).2 (xs ++ [(dtext C.tk C.en 1 s2).1]) v6 w6):=fun s1 s2 W e1 W1 xs v hr e0 hl hq=>by
  subst e0
  obtain⟨b1,b4,b5⟩:=pe_v hq
  obtain⟨x,hx⟩:∃x,x=(dtext C.tk C.en 1 s1).1:=⟨_,rfl⟩
  have b3:strSh.rel (InS W.heap.size W1) W1 [.string x] (dtext C.tk C.en 1 s1).1:=⟨by rw[hx],dtext_size 1 hr.ps (by decide)⟩
  rw[←hx]at b1
  obtain⟨v6,w6,r1,r2⟩:=hr.push (t:=35) (x:=(dtext C.tk C.en 1 s1).1) Tryz.underlying35 Tryz.rowStr (by decide) (by decide) b5 b4 b3 hl
  exact⟨x,b1,v6,w6,r1,r2⟩
 have he:dnames C.tk C.en false s=dmany C.tk (dtext C.tk C.en 1) s:=if_neg (fun e=>e.2 hk1)
 have HN0:=Lib.hid (kind_any C s w h)
 rw[hk1]at HN0
 have HK:Hid (∀k s2 xs v wr,RP strSh 9 C w s2 xs v wr→dcom C.tk (dtext C.tk C.en 1) k xs s2=T→(k=0→False)→xs.length≤70000→¬dnx C.tk s2=(⟨#[44]⟩:ByteArray)→PE (Vs strSh) (dnames C.tk C.en false) C s w (.returned v) wr):=fun k s2 xs v wr hr hk h0 hl hc=>by
  refine hr.fin ?_ hl
  cases k with
  | zero=>exact(h0 rfl).elim
  | succ k=>
    unfold dcom at hk
    rw[if_neg hc]at hk
    rw[he,←hT,←hk]
 have HT0:Hid (dcom C.tk (dtext C.tk C.en 1) (C.tk.length+1) [(dtext C.tk C.en 1 s).1] (dtext C.tk C.en 1 s).2=T):=by rw[hT];rfl
 have HR0:=Lib.hid (RP.start (sh:=strSh) (e:=9) h)
 have HP:=Lib.hid h
 have HMD:Hid (∀(s2:PS) W,PSt C s2 W→Md C.tk s2 (dtext C.tk C.en 1 s2).2):=fun s2 W hW=>md_text (by decide) s2
 have HLEN:=Lib.hid hlen
 generalize PE (Vs strSh) (dnames C.tk C.en false) C s w=Q at*
 unfold PC.p at*
 clear h hT he hk1
 go_enter Tryz.func27,Tryz.ntmps27
 go_wp2_with fail
 refine HN0.out.mono ?_
 rintro e w1 ⟨rfl,hb⟩
 have HR1:=Lib.hid (HR0.out.step (KeptG.of_below hb) (HP.out.up hb))
 have HF1:=Lib.hid (HF.out s w1 (HP.out.up hb))
 clear hb HN0 HR0
 go_wp2_with fail
 refine HF1.out.mono ?_
 rintro e w2 hq
 obtain⟨x,rfl,hR6⟩:=XL.out s w1 _ _ HR1.out hq
 have HR6:=Lib.hid hR6
 have M0:=Lib.hid (HMD.out s w1 HR1.out.ps)
 clear hq HF1 HR1 hR6 HP XL
 go_wp2_with fail
 go_loopw [5] (fun l wr=>∃(k:Nat) (s2:PS) (xs:List _),Hid (RP strSh 9 C w s2 xs l wr)∧Hid (dcom C.tk (dtext C.tk C.en 1) k xs s2=T)∧Hid (1≤k∧(s2.er=none→C.tk.length+1≤k+s2.nx)∧xs.length+k≤C.tk.length+3)) (fun _ wr=>mz C wr)
 case atStart=>exact⟨_,_,_,HR6,HT0,Lib.hid ⟨Nat.succ_le_succ (Nat.zero_le _),fun _=>Nat.le_add_right _ _,by simp only[List.length_singleton];omega⟩⟩
 case round=>
  clear HR6 HT0 M0
  obtain⟨k,s2,xs,hr,hk,hfu⟩:=hrel
  obtain⟨wo,rfl⟩:∃wo:World,wo=wr:=⟨_,rfl⟩
  have HN:=Lib.hid (next_any C s2 wo hr.out.ps)
  by_cases hc:dnx C.tk s2=(⟨#[44]⟩:ByteArray)
  ·obtain⟨h20,hnx⟩:=dnx_inv (tk:=C.tk) (s:=s2) (by rw[hc];decide)
   have HG:Hid (∀W,Below wo.heap.size wo W→(W.cell? ⟨C.g,2,none⟩=some (.int .i64 s2.nx)∧W.frozen? ⟨C.g,2,none⟩=false∧IntKind.i64.wrap ((s2.nx:Int)+1)=(s2.nx:Int)+1)∧RP strSh 9 C w (pgo s2) xs _ (W.setCell ⟨C.g,2,none⟩ (.int .i64 ((s2.nx:Int)+1)))):=fun W hb=>by
    have hW:=hr.out.ps.up hb
    exact⟨two_wrap hW h20,hr.out.step ((KeptG.of_below hb).trans KeptG.set) (hW.go h20 hnx)⟩
   have hx0:xs.length≤70000:=by have:=hfu.out.2.2;have:=HLEN.out;omega
   have HL:Hid (∀v6 w6,RP strSh 9 C w (dtext C.tk C.en 1 (pgo s2)).2 (xs ++ [(dtext C.tk C.en 1 (pgo s2)).1]) v6 w6→(∃(k:Nat) (s2:PS) (xs:List _),Hid (RP strSh 9 C w s2 xs v6 w6)∧Hid (dcom C.tk (dtext C.tk C.en 1) k xs s2=T)∧Hid (1≤k∧(s2.er=none→C.tk.length+1≤k+s2.nx)∧xs.length+k≤C.tk.length+3))∧mz C w6<mz C wo):=fun v6 w6 h6=>by
    have hm4:=HMD.out (pgo s2) _ (HG.out wo (Below.refl _ _)).2.ps
    have hnn:(dtext C.tk C.en 1 (pgo s2)).2.er=none→s2.nx+1≤(dtext C.tk C.en 1 (pgo s2)).2.nx:=fun e=>(hm4.nx e).2.1
    have hfk:=hfu.out.2.1 h20
    have hfl:=hfu.out.2.2
    obtain⟨k,rfl⟩:∃k',k=k'+1:=⟨k - 1,by omega⟩
    refine⟨⟨k,_,_,h6, ?_, ?_⟩,mz_less hr.out.ps h20 h6.ps (fun e=>by have:=hnn e;omega)⟩
    ·have:=hk.out
     unfold dcom at this
     rw[if_pos hc]at this
     exact this
    ·exact⟨by omega,fun e=>by have:=hnn e;omega,by rw[List.length_append];simp only[List.length_singleton];omega⟩
   have hx1:=eq_lit [44] hc
   generalize dnx C.tk s2=tx at*
   clear hc hr hk hfu hnx h20
   go_wp2_with fail
   refine HN.out.mono ?_
   rintro e w3 ⟨rfl,hb⟩
   obtain⟨⟨c2,f2,hw2⟩,hr3⟩:=HG.out w3 hb
   have HR3:=Lib.hid hr3
   have HF3:=Lib.hid (HF.out _ _ hr3.ps)
   clear hb HN HG hr3
   go_wp2_with fail
   refine HF3.out.mono ?_
   rintro e w4 hq
   obtain⟨x,rfl,v6,w6,hrun,hR6⟩:=XF.out _ _ _ _ _ _ _ HR3.out rfl hx0 hq
   have HL6:=Lib.hid (HL.out _ _ hR6)
   clear hq HF3 HR3 hR6 HL hx0 c2 f2
   go_wp2_with (at_builtin;refine Lib.wpList_append_run _ rfl _ _ _ _ rfl _ _ rfl rfl _ _ (hrun _) ?_)
   go_roundw
   case rel=>first | exact HL6.out.1 | ((repeat apply Exists.intro);exact⟨HL6.out.1,rfl⟩)
   case measure=>exact HL6.out.2
  ·have HE:Hid (∀W,Below wo.heap.size wo W→Q (.returned _) W):=fun W hb=>HK.out k s2 xs _ W (hr.out.step (KeptG.of_below hb) (hr.out.ps.up hb)) hk.out (fun e=>by have:=hfu.out.1;omega) (by have:=hfu.out.2.2;have:=HLEN.out;omega) hc
   have hx1:=ne_lit [44] hc
   generalize dnx C.tk s2=tx at*
   clear hc hr hk hfu
   go_wp2_with fail
   refine HN.out.mono ?_
   rintro e w3 ⟨rfl,hb⟩
   have HQ:=Lib.hid (HE.out w3 hb)
   clear hb HN HE
   go_wp2_with fail
   try go_ret
   exact HQ.out
theorem names_n (C:PC)(s:PS)(w:World)(h:PSt C s w)(hk1:¬pkd C.tk s=1):
 Calls Tryz.prog 27 #[C.p,.int .i64 0] w (PE (Vs strSh) (dnames C.tk C.en false) C s w):=by
 have he:dnames C.tk C.en false s=([],s):=if_pos ⟨rfl,hk1⟩
 have HN0:=Lib.hid (kind_any C s w h)
 have HE:Hid (∀W,Below w.heap.size w W→PE (Vs strSh) (dnames C.tk C.en false) C s w (.returned (.slice none 0 0)) W):=fun W hb=>((RP.start (sh:=strSh) (e:=9) h).step (KeptG.of_below hb) (h.up hb)).fin he (Nat.zero_le _)
 have hb0:(pkd C.tk s != 1)=true:=by simpa using hk1
 have hb1:(pkd C.tk s == 1)=false:=by simpa using hk1
 generalize PE (Vs strSh) (dnames C.tk C.en false) C s w=Q at*
 generalize pkd C.tk s=kd at*
 unfold PC.p at*
 clear h he
 go_enter Tryz.func27,Tryz.ntmps27
 go_wp2_with fail
 refine HN0.out.mono ?_
 rintro e w1 ⟨rfl,hb⟩
 have HQ:=Lib.hid (HE.out w1 hb)
 clear hb HN0 HE
 go_wp2_with fail
 try go_ret
 exact HQ.out
theorem names0_any (C:PC)(s:PS)(w:World)(h:PSt C s w):Calls Tryz.prog 27 #[C.p,.int .i64 0] w (PE (Vs strSh) (dnames C.tk C.en false) C s w):=by
 by_cases hk1:pkd C.tk s=1
 ·exact names_0 C s w h hk1
 ·exact names_n C s w h hk1
theorem exprs_many (C:PC)(s:PS)(t:ByteArray)(w:World)(h:PSt C s w)(ht:t≠(⟨#[]⟩:ByteArray))(hn:¬dnx C.tk s=t):
 Calls Tryz.prog 182 #[C.p,.string t] w (PE (Vs exX) (dexprs C.tk (dex C.tk C.en) t) C s w):=by
 have hlen:=h.len.1
 obtain⟨T,hT⟩:∃T,T=dmany C.tk (dex C.tk C.en) s:=⟨_,rfl⟩
 have HF:=Lib.hid (fun(s2:PS) W (hW:PSt C s2 W)=>expr_any C s2 W hW)
 have XL:Hid (∀s2 W e1 W1,RP exX 57 C w s2 [] (.slice none 0 0) W→PE (Vx exX) (dex C.tk C.en) C s2 W e1 W1→∃k n nm va vm vc,e1= .returned (.agg #[.int .i64 k,.int .i64 n,.string nm,.slice va vm vc])∧RP exX 57 C w (dex C.tk C.en s2).2 [(dex C.tk C.en s2).1] (.slice (some ⟨W1.heap.size,0,none⟩) 1 1) (W1.alloc (.cells #[.int .i64 k,.int .i64 n,.string nm,.slice va vm vc] 57))):=fun s2 W e1 W1 hr hq=>by
  obtain⟨cs,b1,_,_,b3,b4,b5⟩:=pe_x hq
  obtain⟨va,vm,vc,hcs,_⟩:=ex_open b3
  rw[hcs]at b1 b3
  obtain⟨k,hk⟩:∃x,x=(dex C.tk C.en s2).1.kind:=⟨_,rfl⟩
  obtain⟨n,hn⟩:∃x,x=(dex C.tk C.en s2).1.n:=⟨_,rfl⟩
  obtain⟨nm,hnm⟩:∃x,x=(dex C.tk C.en s2).1.name:=⟨_,rfl⟩
  rw[←hk,←hn,←hnm]at b1 b3
  exact⟨k,n,nm,va,vm,vc,b1,hr.lit b5 b4 b3⟩
 have XF:Hid (∀s1 s2 W e1 W1 xs v,RP exX 57 C w s1 xs v W→s1=s2→xs.length≤70000→PE (Vx exX) (dex C.tk C.en) C s2 W e1 W1→∃k n nm va vm vc,e1= .returned (.agg #[.int .i64 k,.int .i64 n,.string nm,.slice va vm vc])∧∃v6 w6,(∀ty,(Builtin.append_ #[52,52] ty #[v,.slice (some ⟨W1.heap.size,0,none⟩) 1 1]).run Tryz.prog (W1.alloc (.cells #[.int .i64 k,.int .i64 n,.string nm,.slice va vm vc] 57))= .ok v6 w6)∧RP exX 57 C w (dex C.tk C.en s2).2 (xs ++ [(dex C.tk C.en s2).1]) v6 w6):=fun s1 s2 W e1 W1 xs v hr e0 hl hq=>by
  subst e0
  obtain⟨cs,b1,_,_,b3,b4,b5⟩:=pe_x hq
  obtain⟨va,vm,vc,hcs,_⟩:=ex_open b3
  rw[hcs]at b1 b3
  obtain⟨k,hk⟩:∃x,x=(dex C.tk C.en s1).1.kind:=⟨_,rfl⟩
  obtain⟨n,hn⟩:∃x,x=(dex C.tk C.en s1).1.n:=⟨_,rfl⟩
  obtain⟨nm,hnm⟩:∃x,x=(dex C.tk C.en s1).1.name:=⟨_,rfl⟩
  rw[←hk,←hn,←hnm]at b1 b3
  obtain⟨v6,w6,r1,r2⟩:=hr.push (t:=52) (x:=(dex C.tk C.en s1).1) Tryz.underlying52 Tryz.rowExpr (by decide) (by decide) b5 b4 b3 hl
  exact⟨k,n,nm,va,vm,vc,b1,v6,w6,r1,r2⟩
 have he:dexprs C.tk (dex C.tk C.en) t s=dmany C.tk (dex C.tk C.en) s:=if_neg hn
 have HN0:=Lib.hid (next_any C s w h)
 obtain⟨y1,y2⟩:=str_ne hn
 have HK:Hid (∀k s2 xs v wr,RP exX 57 C w s2 xs v wr→dcom C.tk (dex C.tk C.en) k xs s2=T→(k=0→False)→xs.length≤70000→¬dnx C.tk s2=(⟨#[44]⟩:ByteArray)→PE (Vs exX) (dexprs C.tk (dex C.tk C.en) t) C s w (.returned v) wr):=fun k s2 xs v wr hr hk h0 hl hc=>by
  refine hr.fin ?_ hl
  cases k with
  | zero=>exact(h0 rfl).elim
  | succ k=>
    unfold dcom at hk
    rw[if_neg hc]at hk
    rw[he,←hT,←hk]
 have HT0:Hid (dcom C.tk (dex C.tk C.en) (C.tk.length+1) [(dex C.tk C.en s).1] (dex C.tk C.en s).2=T):=by rw[hT];rfl
 have HR0:=Lib.hid (RP.start (sh:=exX) (e:=57) h)
 have HP:=Lib.hid h
 have HMD:Hid (∀(s2:PS) W,PSt C s2 W→Md C.tk s2 (dex C.tk C.en s2).2):=fun s2 W hW=>md_ex hW
 have HLEN:=Lib.hid hlen
 generalize PE (Vs exX) (dexprs C.tk (dex C.tk C.en) t) C s w=Q at*
 unfold PC.p at*
 clear h hT he ht hn
 generalize dnx C.tk s=t0 at*
 go_enter Tryz.func182,Tryz.ntmps182
 go_wp2_with fail
 refine HN0.out.mono ?_
 rintro e w1 ⟨rfl,hb⟩
 have HR1:=Lib.hid (HR0.out.step (KeptG.of_below hb) (HP.out.up hb))
 have HF1:=Lib.hid (HF.out s w1 (HP.out.up hb))
 clear hb HN0 HR0
 go_wp2_with fail
 refine HF1.out.mono ?_
 rintro e w2 hq
 obtain⟨k,n,nm,va,vm,vc,rfl,hR6⟩:=XL.out s w1 _ _ HR1.out hq
 have HR6:=Lib.hid hR6
 have M0:=Lib.hid (HMD.out s w1 HR1.out.ps)
 clear hq HF1 HR1 hR6 HP XL
 go_wp2_with fail
 go_loopw [5] (fun l wr=>∃(k:Nat) (s2:PS) (xs:List _),Hid (RP exX 57 C w s2 xs l wr)∧Hid (dcom C.tk (dex C.tk C.en) k xs s2=T)∧Hid (1≤k∧(s2.er=none→C.tk.length+1≤k+s2.nx)∧xs.length+k≤C.tk.length+3)) (fun _ wr=>mz C wr)
 case atStart=>exact⟨_,_,_,HR6,HT0,Lib.hid ⟨Nat.succ_le_succ (Nat.zero_le _),fun _=>Nat.le_add_right _ _,by simp only[List.length_singleton];omega⟩⟩
 case round=>
  clear HR6 HT0 M0
  obtain⟨k,s2,xs,hr,hk,hfu⟩:=hrel
  obtain⟨wo,rfl⟩:∃wo:World,wo=wr:=⟨_,rfl⟩
  have HN:=Lib.hid (next_any C s2 wo hr.out.ps)
  by_cases hc:dnx C.tk s2=(⟨#[44]⟩:ByteArray)
  ·obtain⟨h20,hnx⟩:=dnx_inv (tk:=C.tk) (s:=s2) (by rw[hc];decide)
   have HG:Hid (∀W,Below wo.heap.size wo W→(W.cell? ⟨C.g,2,none⟩=some (.int .i64 s2.nx)∧W.frozen? ⟨C.g,2,none⟩=false∧IntKind.i64.wrap ((s2.nx:Int)+1)=(s2.nx:Int)+1)∧RP exX 57 C w (pgo s2) xs _ (W.setCell ⟨C.g,2,none⟩ (.int .i64 ((s2.nx:Int)+1)))):=fun W hb=>by
    have hW:=hr.out.ps.up hb
    exact⟨two_wrap hW h20,hr.out.step ((KeptG.of_below hb).trans KeptG.set) (hW.go h20 hnx)⟩
   have hx0:xs.length≤70000:=by have:=hfu.out.2.2;have:=HLEN.out;omega
   have HL:Hid (∀v6 w6,RP exX 57 C w (dex C.tk C.en (pgo s2)).2 (xs ++ [(dex C.tk C.en (pgo s2)).1]) v6 w6→(∃(k:Nat) (s2:PS) (xs:List _),Hid (RP exX 57 C w s2 xs v6 w6)∧Hid (dcom C.tk (dex C.tk C.en) k xs s2=T)∧Hid (1≤k∧(s2.er=none→C.tk.length+1≤k+s2.nx)∧xs.length+k≤C.tk.length+3))∧mz C w6<mz C wo):=fun v6 w6 h6=>by
    have hm4:=HMD.out (pgo s2) _ (HG.out wo (Below.refl _ _)).2.ps
    have hnn:(dex C.tk C.en (pgo s2)).2.er=none→s2.nx+1≤(dex C.tk C.en (pgo s2)).2.nx:=fun e=>(hm4.nx e).2.1
    have hfk:=hfu.out.2.1 h20
    have hfl:=hfu.out.2.2
    obtain⟨k,rfl⟩:∃k',k=k'+1:=⟨k - 1,by omega⟩
    refine⟨⟨k,_,_,h6, ?_, ?_⟩,mz_less hr.out.ps h20 h6.ps (fun e=>by have:=hnn e;omega)⟩
    ·have:=hk.out
     unfold dcom at this
     rw[if_pos hc]at this
     exact this
    ·exact⟨by omega,fun e=>by have:=hnn e;omega,by rw[List.length_append];simp only[List.length_singleton];omega⟩
   have hx1:=eq_lit [44] hc
   generalize dnx C.tk s2=tx at*
   clear hc hr hk hfu hnx h20
   go_wp2_with fail
   refine HN.out.mono ?_
   rintro e w3 ⟨rfl,hb⟩
   obtain⟨⟨c2,f2,hw2⟩,hr3⟩:=HG.out w3 hb
   have HR3:=Lib.hid hr3
   have HF3:=Lib.hid (HF.out _ _ hr3.ps)
   clear hb HN HG hr3
   go_wp2_with fail
   refine HF3.out.mono ?_
   rintro e w4 hq
   obtain⟨k,n,nm,va,vm,vc,rfl,v6,w6,hrun,hR6⟩:=XF.out _ _ _ _ _ _ _ HR3.out rfl hx0 hq
   have HL6:=Lib.hid (HL.out _ _ hR6)
   clear hq HF3 HR3 hR6 HL hx0 c2 f2
   go_wp2_with (at_builtin;refine Lib.wpList_append_run _ rfl _ _ _ _ rfl _ _ rfl rfl _ _ (hrun _) ?_)
   go_roundw
   case rel=>first | exact HL6.out.1 | ((repeat apply Exists.intro);exact⟨HL6.out.1,rfl⟩)
   case measure=>exact HL6.out.2
  ·have HE:Hid (∀W,Below wo.heap.size wo W→Q (.returned _) W):=fun W hb=>HK.out k s2 xs _ W (hr.out.step (KeptG.of_below hb) (hr.out.ps.up hb)) hk.out (fun e=>by have:=hfu.out.1;omega) (by have:=hfu.out.2.2;have:=HLEN.out;omega) hc
   have hx1:=ne_lit [44] hc
   generalize dnx C.tk s2=tx at*
   clear hc hr hk hfu
   go_wp2_with fail
   refine HN.out.mono ?_
   rintro e w3 ⟨rfl,hb⟩
   have HQ:=Lib.hid (HE.out w3 hb)
   clear hb HN HE
   go_wp2_with fail
   try go_ret
   exact HQ.out
theorem exprs_any (C:PC)(s:PS)(t:ByteArray)(w:World)(h:PSt C s w)(ht:t≠(⟨#[]⟩:ByteArray)):
 Calls Tryz.prog 182 #[C.p,.string t] w (PE (Vs exX) (dexprs C.tk (dex C.tk C.en) t) C s w):=by
 by_cases hn:dnx C.tk s=t
 ·have he:dexprs C.tk (dex C.tk C.en) t s=([],s):=if_pos hn
  have HN0:=Lib.hid (next_any C s w h)
  rw[hn]at HN0
  have HE:Hid (∀W,Below w.heap.size w W→PE (Vs exX) (dexprs C.tk (dex C.tk C.en) t) C s w (.returned (.slice none 0 0)) W):=fun W hb=>((RP.start (sh:=exX) (e:=57) h).step (KeptG.of_below hb) (h.up hb)).fin he (Nat.zero_le _)
  obtain⟨y1,y2⟩:=str_eq t
  generalize PE (Vs exX) (dexprs C.tk (dex C.tk C.en) t) C s w=Q at*
  unfold PC.p at*
  clear h he hn
  go_enter Tryz.func182,Tryz.ntmps182
  go_wp2_with fail
  refine HN0.out.mono ?_
  rintro e w1 ⟨rfl,hb⟩
  have HQ:=Lib.hid (HE.out w1 hb)
  clear hb HN0 HE
  go_wp2_with fail
  try go_ret
  exact HQ.out
 ·exact exprs_many C s t w h ht hn
end Dc
namespace Dc
open Go.RowKit
theorem call_any (C:PC)(s:PS)(w wr:World)(M:Nat)(x:ST)(cs:List Value)(h:LP stX C w M s x cs wr):
 Calls Tryz.prog 130 #[C.p,.pointer (some ⟨M,0,none⟩)] wr fun e W'=>e= .returned (.tuple #[])∧∃cs',LP stX C w M (dcall C.tk C.en x.p s).2 (ST.mk (dcall C.tk C.en x.p s).1 x.body x.els) cs' W':=by
 obtain⟨s1,hs1⟩:∃s',s'=deat C.tk C.en (⟨#[99,97,108,108]⟩:ByteArray) s:=⟨_,rfl⟩
 have H0:=Lib.hid (fun W (hW:PSt C s W)=>eat_any C s (⟨#[99,97,108,108]⟩:ByteArray) W hW (by decide))
 have X0:Hid (∀W e1 W1,PU (deat C.tk C.en (⟨#[99,97,108,108]⟩:ByteArray)) C s W e1 W1→e1= .returned (.tuple #[])∧PSt C s1 W1∧KeptG C.g W W1):=fun W e1 W1 hu=>by rw[hs1];exact hu
 obtain⟨fq1,hfq1⟩:∃x',x'=(dtext C.tk C.en 1 s1).1:=⟨_,rfl⟩
 obtain⟨s2,hs2⟩:∃s',s'=(dtext C.tk C.en 1 s1).2:=⟨_,rfl⟩
 have H1:=Lib.hid (fun W (hW:PSt C s1 W)=>text_any C s1 1 W hW (by decide))
 have X1:Hid (∀W e1 W1,PSt C s1 W→PE Vt (dtext C.tk C.en 1) C s1 W e1 W1→e1= .returned (.string fq1)∧fq1.size≤maxLen∧PSt C s2 W1∧KeptG C.g W W1):=fun W e1 W1 hS hq=>by rw[hs2,hfq1];exact⟨(pe_v hq).1,dtext_size 1 hS (by decide),(pe_v hq).2⟩
 obtain⟨s3,hs3⟩:∃s',s'=deat C.tk C.en (⟨#[40]⟩:ByteArray) s2:=⟨_,rfl⟩
 have H2:=Lib.hid (fun W (hW:PSt C s2 W)=>eat_any C s2 (⟨#[40]⟩:ByteArray) W hW (by decide))
 have X2:Hid (∀W e1 W1,PU (deat C.tk C.en (⟨#[40]⟩:ByteArray)) C s2 W e1 W1→e1= .returned (.tuple #[])∧PSt C s3 W1∧KeptG C.g W W1):=fun W e1 W1 hu=>by rw[hs3];exact hu
 obtain⟨aq3,haq3⟩:∃x',x'=(dexprs C.tk (dex C.tk C.en) (⟨#[59]⟩:ByteArray) s3).1:=⟨_,rfl⟩
 obtain⟨s4,hs4⟩:∃s',s'=(dexprs C.tk (dex C.tk C.en) (⟨#[59]⟩:ByteArray) s3).2:=⟨_,rfl⟩
 have H3:=Lib.hid (fun W (hW:PSt C s3 W)=>exprs_any C s3 (⟨#[59]⟩:ByteArray) W hW (by decide))
 have X3:Hid (∀W e1 W1 cs,LP stX C (w) (M) s3 (ST.mk { x.p with kind:=9,callee:=fq1 } x.body x.els) cs W→PE (Vs exX) (dexprs C.tk (dex C.tk C.en) (⟨#[59]⟩:ByteArray)) C s3 W e1 W1→∃a c,e1= .returned (.slice a aq3.length c)∧(∃z,W1.cell? ⟨M,30,none⟩=some z)∧W1.frozen? ⟨M,30,none⟩=false∧LP stX C (w) (M) s4 (ST.mk { x.p with kind:=9,callee:=fq1,args:=aq3 } x.body x.els) (spl cs 30 [.slice a aq3.length c]) (W1.setCell ⟨M,30,none⟩ (.slice a aq3.length c))):=fun W e1 W1 cs hl hq=>by
  obtain⟨a,c,a1,a2,a3,a4⟩:=pe_rw hq
  rw[←hs4]at a3
  rw[←haq3]at a1 a2
  obtain⟨⟨z,_,z1⟩,z2⟩:=(hl.step a4 a3).cell (j:=30) (by show 30<35;omega)
  exact⟨a,c,a1,⟨z,z1⟩,z2,hl.setS a4 a3 a2 (by show 30<35;omega) (st_ni hl.tree) (fun S W hx hv=>st_args hv hx)⟩
 obtain⟨s5,hs5⟩:∃s',s'=deat C.tk C.en (⟨#[59]⟩:ByteArray) s4:=⟨_,rfl⟩
 have H4:=Lib.hid (fun W (hW:PSt C s4 W)=>eat_any C s4 (⟨#[59]⟩:ByteArray) W hW (by decide))
 have X4:Hid (∀W e1 W1,PU (deat C.tk C.en (⟨#[59]⟩:ByteArray)) C s4 W e1 W1→e1= .returned (.tuple #[])∧PSt C s5 W1∧KeptG C.g W W1):=fun W e1 W1 hu=>by rw[hs5];exact hu
 obtain⟨gq5,hgq5⟩:∃x',x'=(dexprs C.tk (dex C.tk C.en) (⟨#[41]⟩:ByteArray) s5).1:=⟨_,rfl⟩
 obtain⟨s6,hs6⟩:∃s',s'=(dexprs C.tk (dex C.tk C.en) (⟨#[41]⟩:ByteArray) s5).2:=⟨_,rfl⟩
 have H5:=Lib.hid (fun W (hW:PSt C s5 W)=>exprs_any C s5 (⟨#[41]⟩:ByteArray) W hW (by decide))
 have X5:Hid (∀W e1 W1 cs,LP stX C (w) (M) s5 (ST.mk { x.p with kind:=9,callee:=fq1,args:=aq3 } x.body x.els) cs W→PE (Vs exX) (dexprs C.tk (dex C.tk C.en) (⟨#[41]⟩:ByteArray)) C s5 W e1 W1→∃a c,e1= .returned (.slice a gq5.length c)∧(∃z,W1.cell? ⟨M,31,none⟩=some z)∧W1.frozen? ⟨M,31,none⟩=false∧LP stX C (w) (M) s6 (ST.mk { x.p with kind:=9,callee:=fq1,args:=aq3,ghosts:=gq5 } x.body x.els) (spl cs 31 [.slice a gq5.length c]) (W1.setCell ⟨M,31,none⟩ (.slice a gq5.length c))):=fun W e1 W1 cs hl hq=>by
  obtain⟨a,c,a1,a2,a3,a4⟩:=pe_rw hq
  rw[←hs6]at a3
  rw[←hgq5]at a1 a2
  obtain⟨⟨z,_,z1⟩,z2⟩:=(hl.step a4 a3).cell (j:=31) (by show 31<35;omega)
  exact⟨a,c,a1,⟨z,z1⟩,z2,hl.setS a4 a3 a2 (by show 31<35;omega) (st_ni hl.tree) (fun S W hx hv=>st_ghosts hv hx)⟩
 obtain⟨s7,hs7⟩:∃s',s'=deat C.tk C.en (⟨#[41]⟩:ByteArray) s6:=⟨_,rfl⟩
 have H6:=Lib.hid (fun W (hW:PSt C s6 W)=>eat_any C s6 (⟨#[41]⟩:ByteArray) W hW (by decide))
 have X6:Hid (∀W e1 W1,PU (deat C.tk C.en (⟨#[41]⟩:ByteArray)) C s6 W e1 W1→e1= .returned (.tuple #[])∧PSt C s7 W1∧KeptG C.g W W1):=fun W e1 W1 hu=>by rw[hs7];exact hu
 have ed:dcall C.tk C.en x.p s=({ x.p with kind:=9,callee:=fq1,args:=aq3,ghosts:=gq5 },s7):=by
  unfold dcall
  subst_vars
  rfl
 rw[ed]
 have HQ:Hid (∀W cs',LP stX C w M s7 (ST.mk ({ x.p with kind:=9,callee:=fq1,args:=aq3,ghosts:=gq5 }) x.body x.els) cs' W→(fun(e:Ending) (W':World)=>e= .returned (.tuple #[])∧∃cs',LP stX C w M s7 (ST.mk ({ x.p with kind:=9,callee:=fq1,args:=aq3,ghosts:=gq5 }) x.body x.els) cs' W') (.returned (.tuple #[])) W):=fun W cs' hl=>⟨rfl,cs',hl⟩
 generalize (fun(e:Ending) (W':World)=>e= .returned (.tuple #[])∧∃cs',LP stX C w M s7 (ST.mk ({ x.p with kind:=9,callee:=fq1,args:=aq3,ghosts:=gq5 }) x.body x.els) cs' W')=Q at*
 have HL0:=Lib.hid h
 clear ed h hs1 hfq1 hs2 hs3 haq3 hs4 hs5 hgq5 hs6 hs7
 unfold PC.p at*
 go_enter Tryz.func130,Tryz.ntmps130
 go_wp2_with fail
 refine(H0.out _ HL0.out.ps).mono ?_
 rintro e w1 hq
 obtain⟨rfl,hp,hk⟩:=X0.out _ _ _ hq
 have HL1:=Lib.hid (HL0.out.step hk hp)
 clear hq hp hk H0 X0
 clear HL0
 obtain⟨⟨v1_1_0k,_,y1_1_0k⟩,f1_1_0k⟩:=HL1.out.cell (j:=0) (by show 0<35;omega)
 have HK1_1_0:Hid (LP stX C (w) (M) s1 (ST.mk { x.p with kind:=9 } x.body x.els) _ (w1.setCell ⟨M,0,none⟩ (.int .i64 9))):=Lib.hid (HL1.out.set1 (o:=0) (v:= .int .i64 9) (by show 0<35;omega) (st_ni HL1.out.tree) (fun S W h=>st_kind 9 ⟨by decide,by decide⟩ h))
 clear HL1
 go_wp2_with fail
 clear y1_1_0k f1_1_0k
 refine(H1.out _ HK1_1_0.out.ps).mono ?_
 rintro e w2 hq
 obtain⟨rfl,hb,hp,hk⟩:=X1.out _ _ _ HK1_1_0.out.ps hq
 have HM2:=Lib.hid (HK1_1_0.out.step hk hp)
 obtain⟨⟨v2,_,y2c⟩,f2c⟩:=HM2.out.cell (j:=3) (by show 3<35;omega)
 have HL2:Hid (LP stX C (w) (M) s2 (ST.mk { x.p with kind:=9,callee:=fq1 } x.body x.els) _ (w2.setCell ⟨M,3,none⟩ (.string fq1))):=Lib.hid (HM2.out.set1 (o:=3) (v:= .string fq1) (by show 3<35;omega) (st_ni HM2.out.tree) (fun S W h=>(st_callee fq1 hb) h))
 clear hq hp hk hb H1 X1 HM2
 clear HK1_1_0
 go_wp2_with fail
 clear y2c f2c
 refine(H2.out _ HL2.out.ps).mono ?_
 rintro e w3 hq
 obtain⟨rfl,hp,hk⟩:=X2.out _ _ _ hq
 have HL3:=Lib.hid (HL2.out.step hk hp)
 clear hq hp hk H2 X2
 clear HL2
 go_wp2_with fail
 refine(H3.out _ HL3.out.ps).mono ?_
 rintro e w4 hq
 obtain⟨ra4,rc4,rfl,⟨rz4,y4c⟩,f4c,hfin⟩:=X3.out _ _ _ _ HL3.out hq
 have HL4:=Lib.hid hfin
 clear hq hfin H3 X3
 clear HL3
 go_wp2_with fail
 clear y4c f4c
 refine(H4.out _ HL4.out.ps).mono ?_
 rintro e w5 hq
 obtain⟨rfl,hp,hk⟩:=X4.out _ _ _ hq
 have HL5:=Lib.hid (HL4.out.step hk hp)
 clear hq hp hk H4 X4
 clear HL4
 go_wp2_with fail
 refine(H5.out _ HL5.out.ps).mono ?_
 rintro e w6 hq
 obtain⟨ra6,rc6,rfl,⟨rz6,y6c⟩,f6c,hfin⟩:=X5.out _ _ _ _ HL5.out hq
 have HL6:=Lib.hid hfin
 clear hq hfin H5 X5
 clear HL5
 go_wp2_with fail
 clear y6c f6c
 refine(H6.out _ HL6.out.ps).mono ?_
 rintro e w7 hq
 obtain⟨rfl,hp,hk⟩:=X6.out _ _ _ hq
 have HL7:=Lib.hid (HL6.out.step hk hp)
 clear hq hp hk H6 X6
 clear HL6
 go_wp2_with fail
 try go_end0
 exact HQ.out _ _ HL7.out
theorem what_get (C:PC)(s:PS)(w wr:World)(M:Nat)(x:ST)(cs:List Value)(h:LP stX C w M s x cs wr)(hm:dnx C.tk s=(⟨#[103,101,116]⟩:ByteArray)):
 Calls Tryz.prog 129 #[C.p,.pointer (some ⟨M,0,none⟩)] wr fun e W'=>e= .returned (.tuple #[])∧∃cs',LP stX C w M (dwhat C.tk C.en x.p s).2 (ST.mk (dwhat C.tk C.en x.p s).1 x.body x.els) cs' W':=by
 have hx0:=eq_lit [103,101,116] hm
 obtain⟨h0,hnx⟩:=dnx_inv (tk:=C.tk) (s:=s) (by rw[hm];decide)
 have H0:=Lib.hid (fun W (hW:PSt C s W)=>next_any C s W hW)
 obtain⟨s2,hs2⟩:∃s',s'=pgo s:=⟨_,rfl⟩
 have X1:Hid (∀W,PSt C s W→(W.cell? ⟨C.g,2,none⟩=some (.int .i64 s.nx)∧W.frozen? ⟨C.g,2,none⟩=false∧IntKind.i64.wrap ((s.nx:Int)+1)=(s.nx:Int)+1)∧PSt C s2 (W.setCell ⟨C.g,2,none⟩ (.int .i64 ((s.nx:Int)+1)))):=fun W hW=>⟨two_wrap hW h0,by rw[hs2];exact hW.go h0 hnx⟩
 obtain⟨eq2,heq2⟩:∃x',x'=(dex C.tk C.en s2).1:=⟨_,rfl⟩
 obtain⟨s3,hs3⟩:∃s',s'=(dex C.tk C.en s2).2:=⟨_,rfl⟩
 have H2:=Lib.hid (fun W (hW:PSt C s2 W)=>expr_any C s2 W hW)
 have X2:Hid (∀W e1 W1 cs,LP stX C (w) (M) s2 (ST.mk { x.p with kind:=2 } x.body x.els) cs W→PE (Vx exX) (dex C.tk C.en) C s2 W e1 W1→∃cs2:List Value,e1= .returned (.agg cs2.toArray)∧cs2.length=4∧(∀u∈cs2,u.oneCell'=true)∧W1.there (M) 4 cs2.length∧∀W9,Stored (M) 4 cs2 W1 W9→LP stX C (w) (M) s3 (ST.mk { x.p with kind:=2,e:=eq2 } x.body x.els) (spl cs 4 cs2) W9):=fun W e1 W1 cs hl hq=>by
  obtain⟨cs2,a1,a2,a3,a4,a5,a6⟩:=pe_x hq
  have a2:cs2.length=4:=a2
  rw[←hs3]at a5
  rw[←heq2]at a4
  exact⟨cs2,a1,a2,a3,by rw[a2];exact hl.part a6 a5 (by show 4+4≤35;omega),fun W9 hst=>hl.setP a6 a5 a4 (by show 4+4≤35;omega) (st_ni hl.tree) hst (fun S W hx hy=>st_e hy hx)⟩
 obtain⟨s4,hs4⟩:∃s',s'=deat C.tk C.en (⟨#[46]⟩:ByteArray) s3:=⟨_,rfl⟩
 have H3:=Lib.hid (fun W (hW:PSt C s3 W)=>eat_any C s3 (⟨#[46]⟩:ByteArray) W hW (by decide))
 have X3:Hid (∀W e1 W1,PU (deat C.tk C.en (⟨#[46]⟩:ByteArray)) C s3 W e1 W1→e1= .returned (.tuple #[])∧PSt C s4 W1∧KeptG C.g W W1):=fun W e1 W1 hu=>by rw[hs4];exact hu
 obtain⟨fq4,hfq4⟩:∃x',x'=(dtext C.tk C.en 1 s4).1:=⟨_,rfl⟩
 obtain⟨s5,hs5⟩:∃s',s'=(dtext C.tk C.en 1 s4).2:=⟨_,rfl⟩
 have H4:=Lib.hid (fun W (hW:PSt C s4 W)=>text_any C s4 1 W hW (by decide))
 have X4:Hid (∀W e1 W1,PSt C s4 W→PE Vt (dtext C.tk C.en 1) C s4 W e1 W1→e1= .returned (.string fq4)∧fq4.size≤maxLen∧PSt C s5 W1∧KeptG C.g W W1):=fun W e1 W1 hS hq=>by rw[hs5,hfq4];exact⟨(pe_v hq).1,dtext_size 1 hS (by decide),(pe_v hq).2⟩
 have ed:dwhat C.tk C.en x.p s=({ x.p with kind:=2,e:=eq2,field:=fq4 },s5):=by
  unfold dwhat
  rw[if_pos hm]
  subst_vars
  rfl
 rw[ed]
 have HQ:Hid (∀W cs',LP stX C w M s5 (ST.mk ({ x.p with kind:=2,e:=eq2,field:=fq4 }) x.body x.els) cs' W→(fun(e:Ending) (W':World)=>e= .returned (.tuple #[])∧∃cs',LP stX C w M s5 (ST.mk ({ x.p with kind:=2,e:=eq2,field:=fq4 }) x.body x.els) cs' W') (.returned (.tuple #[])) W):=fun W cs' hl=>⟨rfl,cs',hl⟩
 generalize (fun(e:Ending) (W':World)=>e= .returned (.tuple #[])∧∃cs',LP stX C w M s5 (ST.mk ({ x.p with kind:=2,e:=eq2,field:=fq4 }) x.body x.els) cs' W')=Q at*
 have HL0:=Lib.hid h
 clear ed h hm h0 hnx hs2 heq2 hs3 hs4 hfq4 hs5
 generalize dnx C.tk s=tx at*
 unfold PC.p at*
 go_enter Tryz.func129,Tryz.ntmps129
 obtain⟨⟨v0_0_0k,_,y0_0_0k⟩,f0_0_0k⟩:=HL0.out.cell (j:=0) (by show 0<35;omega)
 have HK0_0_0:Hid (LP stX C (w) (M) s (ST.mk { x.p with kind:=1 } x.body x.els) _ (wr.setCell ⟨M,0,none⟩ (.int .i64 1))):=Lib.hid (HL0.out.set1 (o:=0) (v:= .int .i64 1) (by show 0<35;omega) (st_ni HL0.out.tree) (fun S W h=>st_kind 1 ⟨by decide,by decide⟩ h))
 clear HL0
 go_wp2_with fail
 clear y0_0_0k f0_0_0k
 refine(H0.out _ HK0_0_0.out.ps).mono ?_
 rintro e w1 ⟨rfl,hb⟩
 have HL1:=Lib.hid (HK0_0_0.out.step (KeptG.of_below hb) (HK0_0_0.out.ps.up hb))
 clear hb H0
 clear HK0_0_0
 obtain⟨⟨c2_1,f2_1,hw2_1⟩,hp⟩:=X1.out _ HL1.out.ps
 have HG1:=Lib.hid (HL1.out.step (KeptG.set (g:=C.g)) hp)
 clear hp X1
 clear HL1
 obtain⟨⟨v1_2_0k,_,y1_2_0k⟩,f1_2_0k⟩:=HG1.out.cell (j:=0) (by show 0<35;omega)
 have HK1_2_0:Hid (LP stX C (w) (M) s2 (ST.mk { x.p with kind:=2 } x.body x.els) _ ((w1.setCell ⟨C.g,2,none⟩ (.int .i64 ((s.nx:Int)+1))).setCell ⟨M,0,none⟩ (.int .i64 2))):=Lib.hid (HG1.out.set1 (o:=0) (v:= .int .i64 2) (by show 0<35;omega) (st_ni HG1.out.tree) (fun S W h=>st_kind (x:=(ST.mk { x.p with kind:=1 } x.body x.els)) 2 ⟨by decide,by decide⟩ h))
 clear HG1
 go_wp2_with fail
 clear c2_1 f2_1 hw2_1 y1_2_0k f1_2_0k
 refine(H2.out _ HK1_2_0.out.ps).mono ?_
 rintro e w2 hq
 obtain⟨c2,rfl,l2,o2,t2,fin⟩:=X2.out _ _ _ _ HK1_2_0.out hq
 have HF2:=Lib.hid fin
 clear hq fin H2 X2
 clear HK1_2_0
 go_wp2_with (first | (refine gateS 57 30 rfl ?_;refine wpList_store_there rfl 57 _ _ rfl (M) 4 rfl _ rfl (by rw[l2];kernel_rfl) o2 t2 ?_;intro w29 hst;have HL2:=Lib.hid (HF2.out _ hst);clear hst HF2))
 clear l2 o2 t2
 refine(H3.out _ HL2.out.ps).mono ?_
 rintro e w3 hq
 obtain⟨rfl,hp,hk⟩:=X3.out _ _ _ hq
 have HL3:=Lib.hid (HL2.out.step hk hp)
 clear hq hp hk H3 X3
 clear HL2
 go_wp2_with fail
 refine(H4.out _ HL3.out.ps).mono ?_
 rintro e w4 hq
 obtain⟨rfl,hb,hp,hk⟩:=X4.out _ _ _ HL3.out.ps hq
 have HM4:=Lib.hid (HL3.out.step hk hp)
 obtain⟨⟨v4,_,y4c⟩,f4c⟩:=HM4.out.cell (j:=2) (by show 2<35;omega)
 have HL4:Hid (LP stX C (w) (M) s5 (ST.mk { x.p with kind:=2,e:=eq2,field:=fq4 } x.body x.els) _ (w4.setCell ⟨M,2,none⟩ (.string fq4))):=Lib.hid (HM4.out.set1 (o:=2) (v:= .string fq4) (by show 2<35;omega) (st_ni HM4.out.tree) (fun S W h=>(st_field fq4 hb) h))
 clear hq hp hk hb H4 X4 HM4
 clear HL3
 go_wp2_with fail
 try go_end0
 exact HQ.out _ _ HL4.out
theorem what_new (C:PC)(s:PS)(w wr:World)(M:Nat)(x:ST)(cs:List Value)(h:LP stX C w M s x cs wr)(hm:dnx C.tk s=(⟨#[110,101,119]⟩:ByteArray)):
 Calls Tryz.prog 129 #[C.p,.pointer (some ⟨M,0,none⟩)] wr fun e W'=>e= .returned (.tuple #[])∧∃cs',LP stX C w M (dwhat C.tk C.en x.p s).2 (ST.mk (dwhat C.tk C.en x.p s).1 x.body x.els) cs' W':=by
 have hx0:((dnx C.tk s).toList == [103,101,116])=false:=ne_lit [103,101,116] (by rw[hm];decide)
 have hx1:=eq_lit [110,101,119] hm
 obtain⟨h0,hnx⟩:=dnx_inv (tk:=C.tk) (s:=s) (by rw[hm];decide)
 have H0:=Lib.hid (fun W (hW:PSt C s W)=>next_any C s W hW)
 obtain⟨s2,hs2⟩:∃s',s'=pgo s:=⟨_,rfl⟩
 have X1:Hid (∀W,PSt C s W→(W.cell? ⟨C.g,2,none⟩=some (.int .i64 s.nx)∧W.frozen? ⟨C.g,2,none⟩=false∧IntKind.i64.wrap ((s.nx:Int)+1)=(s.nx:Int)+1)∧PSt C s2 (W.setCell ⟨C.g,2,none⟩ (.int .i64 ((s.nx:Int)+1)))):=fun W hW=>⟨two_wrap hW h0,by rw[hs2];exact hW.go h0 hnx⟩
 obtain⟨s3,hs3⟩:∃s',s'=deat C.tk C.en (⟨#[40]⟩:ByteArray) s2:=⟨_,rfl⟩
 have H2:=Lib.hid (fun W (hW:PSt C s2 W)=>eat_any C s2 (⟨#[40]⟩:ByteArray) W hW (by decide))
 have X2:Hid (∀W e1 W1,PU (deat C.tk C.en (⟨#[40]⟩:ByteArray)) C s2 W e1 W1→e1= .returned (.tuple #[])∧PSt C s3 W1∧KeptG C.g W W1):=fun W e1 W1 hu=>by rw[hs3];exact hu
 obtain⟨lq3,hlq3⟩:∃x',x'=(dnames C.tk C.en true s3).1:=⟨_,rfl⟩
 obtain⟨s4,hs4⟩:∃s',s'=(dnames C.tk C.en true s3).2:=⟨_,rfl⟩
 have H3:=Lib.hid (fun W (hW:PSt C s3 W)=>names_1 C s3 W hW)
 have X3:Hid (∀W e1 W1 cs,LP stX C (w) (M) s3 (ST.mk { x.p with kind:=4 } x.body x.els) cs W→PE (Vs strSh) (dnames C.tk C.en true) C s3 W e1 W1→∃a c,e1= .returned (.slice a lq3.length c)∧(∃z,W1.cell? ⟨M,32,none⟩=some z)∧W1.frozen? ⟨M,32,none⟩=false∧LP stX C (w) (M) s4 (ST.mk { x.p with kind:=4,fields:=lq3 } x.body x.els) (spl cs 32 [.slice a lq3.length c]) (W1.setCell ⟨M,32,none⟩ (.slice a lq3.length c))):=fun W e1 W1 cs hl hq=>by
  obtain⟨a,c,a1,a2,a3,a4⟩:=pe_rw hq
  rw[←hs4]at a3
  rw[←hlq3]at a1 a2
  obtain⟨⟨z,_,z1⟩,z2⟩:=(hl.step a4 a3).cell (j:=32) (by show 32<35;omega)
  exact⟨a,c,a1,⟨z,z1⟩,z2,hl.setS a4 a3 a2 (by show 32<35;omega) (st_ni hl.tree) (fun S W hx hv=>st_fields hv hx)⟩
 obtain⟨s5,hs5⟩:∃s',s'=deat C.tk C.en (⟨#[41]⟩:ByteArray) s4:=⟨_,rfl⟩
 have H4:=Lib.hid (fun W (hW:PSt C s4 W)=>eat_any C s4 (⟨#[41]⟩:ByteArray) W hW (by decide))
 have X4:Hid (∀W e1 W1,PU (deat C.tk C.en (⟨#[41]⟩:ByteArray)) C s4 W e1 W1→e1= .returned (.tuple #[])∧PSt C s5 W1∧KeptG C.g W W1):=fun W e1 W1 hu=>by rw[hs5];exact hu
 have ed:dwhat C.tk C.en x.p s=({ x.p with kind:=4,fields:=lq3 },s5):=by
  unfold dwhat
  rw[if_neg (by rw[hm];decide),if_pos hm]
  subst_vars
  rfl
 rw[ed]
 have HQ:Hid (∀W cs',LP stX C w M s5 (ST.mk ({ x.p with kind:=4,fields:=lq3 }) x.body x.els) cs' W→(fun(e:Ending) (W':World)=>e= .returned (.tuple #[])∧∃cs',LP stX C w M s5 (ST.mk ({ x.p with kind:=4,fields:=lq3 }) x.body x.els) cs' W') (.returned (.tuple #[])) W):=fun W cs' hl=>⟨rfl,cs',hl⟩
 generalize (fun(e:Ending) (W':World)=>e= .returned (.tuple #[])∧∃cs',LP stX C w M s5 (ST.mk ({ x.p with kind:=4,fields:=lq3 }) x.body x.els) cs' W')=Q at*
 have HL0:=Lib.hid h
 clear ed h hm h0 hnx hs2 hs3 hlq3 hs4 hs5
 generalize dnx C.tk s=tx at*
 unfold PC.p at*
 go_enter Tryz.func129,Tryz.ntmps129
 obtain⟨⟨v0_0_0k,_,y0_0_0k⟩,f0_0_0k⟩:=HL0.out.cell (j:=0) (by show 0<35;omega)
 have HK0_0_0:Hid (LP stX C (w) (M) s (ST.mk { x.p with kind:=1 } x.body x.els) _ (wr.setCell ⟨M,0,none⟩ (.int .i64 1))):=Lib.hid (HL0.out.set1 (o:=0) (v:= .int .i64 1) (by show 0<35;omega) (st_ni HL0.out.tree) (fun S W h=>st_kind 1 ⟨by decide,by decide⟩ h))
 clear HL0
 go_wp2_with fail
 clear y0_0_0k f0_0_0k
 refine(H0.out _ HK0_0_0.out.ps).mono ?_
 rintro e w1 ⟨rfl,hb⟩
 have HL1:=Lib.hid (HK0_0_0.out.step (KeptG.of_below hb) (HK0_0_0.out.ps.up hb))
 clear hb H0
 clear HK0_0_0
 obtain⟨⟨c2_1,f2_1,hw2_1⟩,hp⟩:=X1.out _ HL1.out.ps
 have HG1:=Lib.hid (HL1.out.step (KeptG.set (g:=C.g)) hp)
 clear hp X1
 clear HL1
 obtain⟨⟨v1_2_0k,_,y1_2_0k⟩,f1_2_0k⟩:=HG1.out.cell (j:=0) (by show 0<35;omega)
 have HK1_2_0:Hid (LP stX C (w) (M) s2 (ST.mk { x.p with kind:=4 } x.body x.els) _ ((w1.setCell ⟨C.g,2,none⟩ (.int .i64 ((s.nx:Int)+1))).setCell ⟨M,0,none⟩ (.int .i64 4))):=Lib.hid (HG1.out.set1 (o:=0) (v:= .int .i64 4) (by show 0<35;omega) (st_ni HG1.out.tree) (fun S W h=>st_kind (x:=(ST.mk { x.p with kind:=1 } x.body x.els)) 4 ⟨by decide,by decide⟩ h))
 clear HG1
 go_wp2_with fail
 clear c2_1 f2_1 hw2_1 y1_2_0k f1_2_0k
 refine(H2.out _ HK1_2_0.out.ps).mono ?_
 rintro e w2 hq
 obtain⟨rfl,hp,hk⟩:=X2.out _ _ _ hq
 have HL2:=Lib.hid (HK1_2_0.out.step hk hp)
 clear hq hp hk H2 X2
 clear HK1_2_0
 go_wp2_with fail
 refine(H3.out _ HL2.out.ps).mono ?_
 rintro e w3 hq
 obtain⟨ra3,rc3,rfl,⟨rz3,y3c⟩,f3c,hfin⟩:=X3.out _ _ _ _ HL2.out hq
 have HL3:=Lib.hid hfin
 clear hq hfin H3 X3
 clear HL2
 go_wp2_with fail
 clear y3c f3c
 refine(H4.out _ HL3.out.ps).mono ?_
 rintro e w4 hq
 obtain⟨rfl,hp,hk⟩:=X4.out _ _ _ hq
 have HL4:=Lib.hid (HL3.out.step hk hp)
 clear hq hp hk H4 X4
 clear HL3
 go_wp2_with fail
 try go_end0
 exact HQ.out _ _ HL4.out
theorem what_call (C:PC)(s:PS)(w wr:World)(M:Nat)(x:ST)(cs:List Value)(h:LP stX C w M s x cs wr)(hm:dnx C.tk s=(⟨#[99,97,108,108]⟩:ByteArray)):
 Calls Tryz.prog 129 #[C.p,.pointer (some ⟨M,0,none⟩)] wr fun e W'=>e= .returned (.tuple #[])∧∃cs',LP stX C w M (dwhat C.tk C.en x.p s).2 (ST.mk (dwhat C.tk C.en x.p s).1 x.body x.els) cs' W':=by
 have hx0:((dnx C.tk s).toList == [103,101,116])=false:=ne_lit [103,101,116] (by rw[hm];decide)
 have hx1:((dnx C.tk s).toList == [110,101,119])=false:=ne_lit [110,101,119] (by rw[hm];decide)
 have hx2:=eq_lit [99,97,108,108] hm
 obtain⟨h0,hnx⟩:=dnx_inv (tk:=C.tk) (s:=s) (by rw[hm];decide)
 have H0:=Lib.hid (fun W (hW:PSt C s W)=>next_any C s W hW)
 obtain⟨s2,hs2⟩:∃s',s'=(dcall C.tk C.en { x.p with kind:=1 } s).2:=⟨_,rfl⟩
 have H1:=Lib.hid (fun W cs (hl:LP stX C w M s (ST.mk { x.p with kind:=1 } x.body x.els) cs W)=>call_any C s w W M _ cs hl)
 have hs_s2:=Lib.hid hs2
 have ed:dwhat C.tk C.en x.p s=((dcall C.tk C.en { x.p with kind:=1 } s).1,s2):=by
  unfold dwhat
  rw[if_neg (by rw[hm];decide),if_neg (by rw[hm];decide),if_pos hm]
  subst_vars
  rfl
 rw[ed]
 have HQ:Hid (∀W cs',LP stX C w M s2 (ST.mk ((dcall C.tk C.en { x.p with kind:=1 } s).1) x.body x.els) cs' W→(fun(e:Ending) (W':World)=>e= .returned (.tuple #[])∧∃cs',LP stX C w M s2 (ST.mk ((dcall C.tk C.en { x.p with kind:=1 } s).1) x.body x.els) cs' W') (.returned (.tuple #[])) W):=fun W cs' hl=>⟨rfl,cs',hl⟩
 generalize (fun(e:Ending) (W':World)=>e= .returned (.tuple #[])∧∃cs',LP stX C w M s2 (ST.mk ((dcall C.tk C.en { x.p with kind:=1 } s).1) x.body x.els) cs' W')=Q at*
 have HL0:=Lib.hid h
 clear ed h hm h0 hnx hs2
 generalize dnx C.tk s=tx at*
 unfold PC.p at*
 go_enter Tryz.func129,Tryz.ntmps129
 obtain⟨⟨v0_0_0k,_,y0_0_0k⟩,f0_0_0k⟩:=HL0.out.cell (j:=0) (by show 0<35;omega)
 have HK0_0_0:Hid (LP stX C (w) (M) s (ST.mk { x.p with kind:=1 } x.body x.els) _ (wr.setCell ⟨M,0,none⟩ (.int .i64 1))):=Lib.hid (HL0.out.set1 (o:=0) (v:= .int .i64 1) (by show 0<35;omega) (st_ni HL0.out.tree) (fun S W h=>st_kind 1 ⟨by decide,by decide⟩ h))
 clear HL0
 go_wp2_with fail
 clear y0_0_0k f0_0_0k
 refine(H0.out _ HK0_0_0.out.ps).mono ?_
 rintro e w1 ⟨rfl,hb⟩
 have HL1:=Lib.hid (HK0_0_0.out.step (KeptG.of_below hb) (HK0_0_0.out.ps.up hb))
 clear hb H0
 clear HK0_0_0
 go_wp2_with fail
 refine(H1.out _ _ HL1.out).mono ?_
 rintro e w2 hq
 obtain⟨rfl,cs2,hl2⟩:=hq
 have HL2:Hid (LP stX C w M s2 (ST.mk (dcall C.tk C.en { x.p with kind:=1 } s).1 x.body x.els) cs2 w2):=Lib.hid (by rw[hs_s2.out];exact hl2)
 clear H1 hl2
 clear HL1
 go_wp2_with fail
 try go_end0
 exact HQ.out _ _ HL2.out
theorem what_ex (C:PC)(s:PS)(w wr:World)(M:Nat)(x:ST)(cs:List Value)(h:LP stX C w M s x cs wr)(n0:¬dnx C.tk s=(⟨#[103,101,116]⟩:ByteArray))(n1:¬dnx C.tk s=(⟨#[110,101,119]⟩:ByteArray))(n2:¬dnx C.tk s=(⟨#[99,97,108,108]⟩:ByteArray)):
 Calls Tryz.prog 129 #[C.p,.pointer (some ⟨M,0,none⟩)] wr fun e W'=>e= .returned (.tuple #[])∧∃cs',LP stX C w M (dwhat C.tk C.en x.p s).2 (ST.mk (dwhat C.tk C.en x.p s).1 x.body x.els) cs' W':=by
 have hx0:=ne_lit [103,101,116] n0
 have hx1:=ne_lit [110,101,119] n1
 have hx2:=ne_lit [99,97,108,108] n2
 have H0:=Lib.hid (fun W (hW:PSt C s W)=>next_any C s W hW)
 obtain⟨eq1,heq1⟩:∃x',x'=(dex C.tk C.en s).1:=⟨_,rfl⟩
 obtain⟨s2,hs2⟩:∃s',s'=(dex C.tk C.en s).2:=⟨_,rfl⟩
 have H1:=Lib.hid (fun W (hW:PSt C s W)=>expr_any C s W hW)
 have X1:Hid (∀W e1 W1 cs,LP stX C (w) (M) s (ST.mk { x.p with kind:=1 } x.body x.els) cs W→PE (Vx exX) (dex C.tk C.en) C s W e1 W1→∃cs2:List Value,e1= .returned (.agg cs2.toArray)∧cs2.length=4∧(∀u∈cs2,u.oneCell'=true)∧W1.there (M) 4 cs2.length∧∀W9,Stored (M) 4 cs2 W1 W9→LP stX C (w) (M) s2 (ST.mk { x.p with kind:=1,e:=eq1 } x.body x.els) (spl cs 4 cs2) W9):=fun W e1 W1 cs hl hq=>by
  obtain⟨cs2,a1,a2,a3,a4,a5,a6⟩:=pe_x hq
  have a2:cs2.length=4:=a2
  rw[←hs2]at a5
  rw[←heq1]at a4
  exact⟨cs2,a1,a2,a3,by rw[a2];exact hl.part a6 a5 (by show 4+4≤35;omega),fun W9 hst=>hl.setP a6 a5 a4 (by show 4+4≤35;omega) (st_ni hl.tree) hst (fun S W hx hy=>st_e hy hx)⟩
 have ed:dwhat C.tk C.en x.p s=({ x.p with kind:=1,e:=eq1 },s2):=by
  unfold dwhat
  rw[if_neg n0,if_neg n1,if_neg n2]
  subst_vars
  rfl
 rw[ed]
 have HQ:Hid (∀W cs',LP stX C w M s2 (ST.mk ({ x.p with kind:=1,e:=eq1 }) x.body x.els) cs' W→(fun(e:Ending) (W':World)=>e= .returned (.tuple #[])∧∃cs',LP stX C w M s2 (ST.mk ({ x.p with kind:=1,e:=eq1 }) x.body x.els) cs' W') (.returned (.tuple #[])) W):=fun W cs' hl=>⟨rfl,cs',hl⟩
 generalize (fun(e:Ending) (W':World)=>e= .returned (.tuple #[])∧∃cs',LP stX C w M s2 (ST.mk ({ x.p with kind:=1,e:=eq1 }) x.body x.els) cs' W')=Q at*
 have HL0:=Lib.hid h
 clear ed h n0 n1 n2 heq1 hs2
 generalize dnx C.tk s=tx at*
 unfold PC.p at*
 go_enter Tryz.func129,Tryz.ntmps129
 obtain⟨⟨v0_0_0k,_,y0_0_0k⟩,f0_0_0k⟩:=HL0.out.cell (j:=0) (by show 0<35;omega)
 have HK0_0_0:Hid (LP stX C (w) (M) s (ST.mk { x.p with kind:=1 } x.body x.els) _ (wr.setCell ⟨M,0,none⟩ (.int .i64 1))):=Lib.hid (HL0.out.set1 (o:=0) (v:= .int .i64 1) (by show 0<35;omega) (st_ni HL0.out.tree) (fun S W h=>st_kind 1 ⟨by decide,by decide⟩ h))
 clear HL0
 go_wp2_with fail
 clear y0_0_0k f0_0_0k
 refine(H0.out _ HK0_0_0.out.ps).mono ?_
 rintro e w1 ⟨rfl,hb⟩
 have HL1:=Lib.hid (HK0_0_0.out.step (KeptG.of_below hb) (HK0_0_0.out.ps.up hb))
 clear hb H0
 clear HK0_0_0
 go_wp2_with fail
 refine(H1.out _ HL1.out.ps).mono ?_
 rintro e w2 hq
 obtain⟨c2,rfl,l2,o2,t2,fin⟩:=X1.out _ _ _ _ HL1.out hq
 have HF2:=Lib.hid fin
 clear hq fin H1 X1
 clear HL1
 go_wp2_with (first | (refine gateS 57 13 rfl ?_;refine wpList_store_there rfl 57 _ _ rfl (M) 4 rfl _ rfl (by rw[l2];kernel_rfl) o2 t2 ?_;intro w29 hst;have HL2:=Lib.hid (HF2.out _ hst);clear hst HF2))
 try go_end0
 exact HQ.out _ _ HL2.out
theorem what_any (C:PC)(s:PS)(w wr:World)(M:Nat)(x:ST)(cs:List Value)(h:LP stX C w M s x cs wr):
 Calls Tryz.prog 129 #[C.p,.pointer (some ⟨M,0,none⟩)] wr fun e W'=>e= .returned (.tuple #[])∧∃cs',LP stX C w M (dwhat C.tk C.en x.p s).2 (ST.mk (dwhat C.tk C.en x.p s).1 x.body x.els) cs' W':=by
 by_cases m0:dnx C.tk s=(⟨#[103,101,116]⟩:ByteArray)
 ·exact what_get C s w wr M x cs h m0
 ·by_cases m1:dnx C.tk s=(⟨#[110,101,119]⟩:ByteArray)
  ·exact what_new C s w wr M x cs h m1
  ·by_cases m2:dnx C.tk s=(⟨#[99,97,108,108]⟩:ByteArray)
   ·exact what_call C s w wr M x cs h m2
   ·exact what_ex C s w wr M x cs h m0 m1 m2
end Dc
end Go.Proofs.YtcinokljkieijaaGreatDoor
