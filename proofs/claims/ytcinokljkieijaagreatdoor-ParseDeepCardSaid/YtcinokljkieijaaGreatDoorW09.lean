/- Parts of a proof. -/
import Derived.Test.YtcinokljkieijaaGreatDoorW01
import Derived.Test.YtcinokljkieijaaGreatDoorW03
import Derived.Test.YtcinokljkieijaaGreatDoorW04
import Derived.Test.YtcinokljkieijaaGreatDoorW05
import Derived.Test.YtcinokljkieijaaGreatDoorW06
import Derived.Test.YtcinokljkieijaaGreatDoorW07
import Derived.Test.YtcinokljkieijaaGreatDoorW08
import Derived.Test.YtcinokljkieijaaGreatDoorQ15
set_option linter.unusedVariables false
set_option linter.unusedSimpArgs false
set_option maxHeartbeats 60000000
set_option maxRecDepth 100000
namespace Go.Proofs.YtcinokljkieijaaGreatDoor
namespace Dc
open Go.RowKit
theorem one_said:∀n,CSaid 204 (fun tk en=>done tk en n) n
 | 0=>fun C s w h hf=>absurd hf.pos (by decide)
 | n+1=>fun C s w h hf=>by
   have IH:=one_said n
   by_cases m1:dnx C.tk s=(⟨#[33]⟩:ByteArray)
   ·exact one_not n IH C s w h hf m1
   ·by_cases m2:dnx C.tk s=(⟨#[91]⟩:ByteArray)
    ·exact one_br n IH C s w h hf (fun C s w h hf=>cond_loop n (fun C s w h hf=>all_loop n IH C s w h hf) C s w h hf) m2
    ·by_cases m3:dnx C.tk s=(⟨#[116,114,117,101]⟩:ByteArray)
     ·exact one_true n IH C s w h hf m3
     ·by_cases m4:dnx C.tk s=(⟨#[102,97,108,115,101]⟩:ByteArray)
      ·exact one_false n IH C s w h hf m4
      ·by_cases o1:dnx C.tk (dex C.tk C.en s).2=(⟨#[61,61]⟩:ByteArray)
       ·exact one_cmp0 n IH C s w h hf m1 m2 m3 m4 o1
       ·by_cases o2:dnx C.tk (dex C.tk C.en s).2=(⟨#[33,61]⟩:ByteArray)
        ·exact one_cmp1 n IH C s w h hf m1 m2 m3 m4 o2
        ·by_cases o3:dnx C.tk (dex C.tk C.en s).2=(⟨#[60]⟩:ByteArray)
         ·exact one_cmp2 n IH C s w h hf m1 m2 m3 m4 o3
         ·by_cases o4:dnx C.tk (dex C.tk C.en s).2=(⟨#[60,61]⟩:ByteArray)
          ·exact one_cmp3 n IH C s w h hf m1 m2 m3 m4 o4
          ·exact one_cmpN n IH C s w h hf m1 m2 m3 m4 o1 o2 o3 o4
theorem cond_any (C:PC)(s:PS)(w:World)(h:PSt C s w):Calls Tryz.prog 125 #[C.p] w (PE (Vx cnX) (dco C.tk C.en) C s w):=
 cond_loop 53 (fun C s w h hf=>all_loop 53 (one_said 53) C s w h hf) C s w h h.top
theorem md_co {C:PC}{s:PS}{w:World}(h:PSt C s w):Md C.tk s (dco C.tk C.en s).2:=md_cnd h 53
end Dc
namespace Dc
open Go.RowKit
section
variable {T:Type} {sh:Pak.Sh T}
theorem LP.upd {C:PC}{w wr W9:World}{M o:Nat}{s:PS}{x x':T}{cs new:List Value}(h:LP sh C w M s x cs wr)(hst:Stored M o new wr W9)(ho:o+new.length≤sh.k)(hni:∃v,cs[1]? =some v∧∀t u,v≠ .iface t u)
 (hr:sh.rel (InN (w.heap.size+1) M W9) W9 cs x→sh.rel (InN (w.heap.size+1) M W9) W9 (spl cs o new) x'):LP sh C w M s x' (spl cs o new) W9:=by
 have h1:=h.gl
 have h2:=h.ml
 have h3:=h.kept.size
 have hl:=h.len
 have hwM:w.heap.size≠M:=by omega
 have hfar:=hst.far
 have hx9:sh.rel (InN (w.heap.size+1) M W9) W9 cs x:=inN_far h.tree hfar
 refine⟨h.ps.far hfar (by omega) (fun t u e=> ?_) h.ps.g5,h1,⟨h2.1,by rw[hfar.size];exact h2.2⟩,h.kept.far hfar (by omega),stored_range h.box (by omega) hst, ?_, ?_,fun t u e=> ?_,hr hx9⟩
 ·obtain⟨v,hc,hv⟩:=hni
  have:=h.box 1 v hc
  rw[Nat.zero_add]at this
  rw[this]at e
  injection e with e
  exact hv _ _ e
 ·intro j hj
  rw[hst.fr]
  refine⟨?_,(h.th j hj).2⟩
  exact(stored_range h.box (by omega) hst).isSome j (by rw[spl_len (by omega)];omega)
 ·intro j hj
  rw[World.cell?_of_block (hfar.block _ hwM),World.frozen?_of_block (hfar.block _ hwM)]
  exact h.res j hj
 ·rw[World.cell?_of_block (hfar.block _ hwM)]at e
  exact h.nz _ _ e
theorem LP.fresh {C:PC}{s:PS}{w:World}{z:List Value}{t:TypeId}{x:T}(hp:PSt C s w)(hz:z.length=sh.k)(hzn:∀t u,z[1]? ≠some (.iface t u))(hx:∀S W,sh.rel S W z x):
 LP sh C w (w.heap.size+1) s x z ((w.alloc (.cells z.toArray t)).alloc (.cells z.toArray t)):=by
 have hg:=hp.lt
 have ha:(w.alloc (.cells z.toArray t)).heap.size=w.heap.size+1:=by simp
 have hb:((w.alloc (.cells z.toArray t)).alloc (.cells z.toArray t)).heap.size=w.heap.size+2:=by simp
 have k2:KeptG C.g (w.alloc (.cells z.toArray t)) ((w.alloc (.cells z.toArray t)).alloc (.cells z.toArray t)):=KeptG.alloc _ _ _
 have hr:=range_new (w.alloc (.cells z.toArray t)) z t
 have ht:=there_new (w.alloc (.cells z.toArray t)) z t
 rw[ha]at hr ht
 rw[hz]at ht
 have ht0:=k2.there (by rw[ha];omega) (by omega) (there_new w z t)
 rw[hz]at ht0
 refine⟨(hp.alloc _).alloc _,hg,⟨Nat.le_refl _,by rw[hb];omega⟩,(KeptG.alloc _ _ _).trans k2,hr,ht,ht0,fun t' u e=> ?_,hx _ _⟩
 rw[k2.cell (by rw[ha];omega) (by omega)]at e
 rw[(cell_of_row (w.alloc (.cells z.toArray t)) w.heap.size 1 _ _ _ (heap_alloc_new w (.cells z.toArray t))),List.getElem?_toArray]at e
 exact hzn _ _ e
theorem LP.cell {C:PC}{w wr:World}{M:Nat}{s:PS}{x:T}{cs:List Value}(h:LP sh C w M s x cs wr){j:Nat}(hj:j<sh.k):(∃v,cs[j]? =some v∧wr.cell? ⟨M,j,none⟩=some v)∧wr.frozen? ⟨M,j,none⟩=false:=by
 have hl:=h.len
 refine⟨⟨cs[j]'(by omega),List.getElem?_eq_getElem (by omega), ?_⟩, ?_⟩
 ·have:=h.box j _ (List.getElem?_eq_getElem (show j<cs.length by omega))
  rwa [Nat.zero_add]at this
 ·have:=(h.th j hj).2
  rwa [Nat.zero_add]at this
end
section
variable {T:Type} {sh:Pak.Sh T}
theorem LP.set1 {C:PC}{w wr:World}{M o:Nat}{s:PS}{x x':T}{cs:List Value}{v:Value}(h:LP sh C w M s x cs wr)(ho:o<sh.k)(hni:∃v,cs[1]? =some v∧∀t u,v≠ .iface t u)
 (hr:∀S W,sh.rel S W cs x→sh.rel S W (spl cs o [v]) x'):LP sh C w M s x' (spl cs o [v]) (wr.setCell ⟨M,o,none⟩ v):=by
 obtain⟨⟨v0,_,y0⟩,f0⟩:=h.cell ho
 exact h.upd (stored_sets (cs:=[v]) (fun j hj=>by
  obtain rfl:j=0:=by simp at hj;exact hj
  exact⟨by rw[Nat.add_zero,y0];rfl,f0⟩)) (by show o+1≤_;omega) hni (hr _ _)
theorem LP.setS {T2:Type}{sh2:Pak.Sh T2}{C:PC}{w wr W1:World}{M o:Nat}{s s':PS}{x x':T}{cs:List Value}{v:Value}{l:List T2}(h:LP sh C w M s x cs wr)(k:KeptG C.g wr W1)(hp:PSt C s' W1)(hv:Pak.Slot sh2 (InS wr.heap.size W1) W1 v l)(ho:o<sh.k)(hni:∃v,cs[1]? =some v∧∀t u,v≠ .iface t u)
 (hr:∀S W,sh.rel S W cs x→Pak.Slot sh2 S W v l→sh.rel S W (spl cs o [v]) x'):LP sh C w M s' x' (spl cs o [v]) (W1.setCell ⟨M,o,none⟩ v):=by
 have h1:=h.step k hp
 obtain⟨⟨v0,_,y0⟩,f0⟩:=h1.cell ho
 have hst:Stored M o [v] W1 (W1.setCell ⟨M,o,none⟩ v):=stored_sets (cs:=[v]) (fun j hj=>by
  obtain rfl:j=0:=by simp at hj;exact hj
  exact⟨by rw[Nat.add_zero,y0];rfl,f0⟩)
 have hm:=h.ml
 have hk:=h.kept.size
 have hf:=hst.far
 refine h1.upd hst (by show o+1≤_;omega) hni (fun hx=>hr _ _ hx ?_)
 exact hv.keep (fun b ⟨a1,a2⟩=>⟨by omega,by rw[hf.size];exact a2,by omega⟩) (fun b o ⟨a1,a2⟩=>World.cell?_of_block (hf.block b (by omega)))
theorem LP.setP {T2:Type}{sh2:Pak.Sh T2}{C:PC}{w wr W1 W9:World}{M o:Nat}{s s':PS}{x x':T}{cs cs2:List Value}{y:T2}(h:LP sh C w M s x cs wr)(k:KeptG C.g wr W1)(hp:PSt C s' W1)(hv:sh2.rel (InS wr.heap.size W1) W1 cs2 y)(ho:o+sh2.k≤sh.k)(hni:∃v,cs[1]? =some v∧∀t u,v≠ .iface t u)(hst:Stored M o cs2 W1 W9)
 (hr:∀S W,sh.rel S W cs x→sh2.rel S W cs2 y→sh.rel S W (spl cs o cs2) x'):LP sh C w M s' x' (spl cs o cs2) W9:=by
 have h1:=h.step k hp
 have hm:=h.ml
 have hk:=h.kept.size
 have hf:=hst.far
 refine h1.upd hst (by rw[sh2.len hv];exact ho) hni (fun hx=>hr _ _ hx ?_)
 exact sh2.keep (fun b ⟨a1,a2⟩=>⟨by omega,by rw[hf.size];exact a2,by omega⟩) (fun b o ⟨a1,a2⟩=>World.cell?_of_block (hf.block b (by omega))) hv
theorem LP.part {C:PC}{w wr W1:World}{M o k:Nat}{s s':PS}{x:T}{cs:List Value}(h:LP sh C w M s x cs wr)(kk:KeptG C.g wr W1)(hp:PSt C s' W1)(ho:o+k≤sh.k):W1.there M o k:=fun j hj=>by
 have:=(h.step kk hp).th (o+j) (by omega)
 rw[Nat.zero_add]at this
 exact this
end
theorem pe_v {f:PS→ByteArray×PS}{C:PC}{s:PS}{w w':World}{e:Ending}(h:PE Vt f C s w e w'):e= .returned (.string (f s).1)∧PSt C (f s).2 w'∧KeptG C.g w w':=by
 obtain⟨v,a1,a2,a3,a4⟩:=h
 exact⟨by rw[a1,show v= .string (f s).1 from a2],a3,a4⟩
theorem pe_i {f:PS→Int×PS}{C:PC}{s:PS}{w w':World}{e:Ending}(h:PE Vi f C s w e w'):e= .returned (.int .i64 (f s).1)∧PSt C (f s).2 w'∧KeptG C.g w w':=by
 obtain⟨v,a1,a2,a3,a4⟩:=h
 exact⟨by rw[a1,show v= .int .i64 (f s).1 from a2],a3,a4⟩
theorem pe_x {T:Type}{sh:Pak.Sh T}{f:PS→T×PS}{C:PC}{s:PS}{w w':World}{e:Ending}(h:PE (Vx sh) f C s w e w'):∃cs:List Value,e= .returned (.agg cs.toArray)∧cs.length=sh.k∧(∀u∈cs,u.oneCell'=true)∧sh.rel (InS w.heap.size w') w' cs (f s).1∧PSt C (f s).2 w'∧KeptG C.g w w':=by
 obtain⟨v,a1,⟨cs,a2,a3⟩,a4,a5⟩:=h
 exact⟨cs,by rw[a1,a2],sh.len a3,sh.one a3,a3,a4,a5⟩
theorem pe_rw {T:Type}{sh:Pak.Sh T}{f:PS→List T×PS}{C:PC}{s:PS}{w w':World}{e:Ending}(h:PE (Vs sh) f C s w e w'):∃a c,e= .returned (.slice a (f s).1.length c)∧Pak.Slot sh (InS w.heap.size w') w' (.slice a (f s).1.length c) (f s).1∧PSt C (f s).2 w'∧KeptG C.g w w':=by
 obtain⟨v,a1,h2,a4,a5⟩:=h
 obtain⟨a,c,rfl,h3⟩:=h2
 exact⟨a,c,a1,⟨a,c,rfl,h3⟩,a4,a5⟩
theorem LP.outw {T:Type}{sh:Pak.Sh T}{f:PS→T×PS}{C:PC}{w wr:World}{M:Nat}{s0 s:PS}{x:T}{cs:List Value}(h:LP sh C w M s x cs wr)(e:f s0=(x,s)):
 cs.length=sh.k∧(∀u∈cs,u.oneCell'=true)∧wr.rangeAt M 0 cs∧wr.there w.heap.size 0 cs.length∧∀w9,Stored w.heap.size 0 cs wr w9→PE (Vx sh) f C s0 w (.returned (.agg cs.toArray)) w9:=
 ⟨h.len,h.one,h.box,by rw[h.len];exact h.res,fun w9 hst=>h.fin hst e⟩
theorem as_open {S:Nat→Prop}{w:World}{cs:List Value}{x:AT}(h:asX.rel S w cs x):∃ak ac ad al ae b1 b2 b3 ea eb en c1 c2 c3 va vb vn d1 d2 d3 fl nn e1 e2 e3,cs=[.int .i64 ak,.int .i64 ac,.slice ad al ae,.slice b1 b2 b3,.int .i64 ea,.int .i64 eb,.string en,.slice c1 c2 c3,.int .i64 va,.int .i64 vb,.string vn,.slice d1 d2 d3,.string fl,.int .i64 nn,.slice e1 e2 e3]:=by
 obtain⟨n,h⟩:=h
 cases n with
 | zero=>exact h.elim
 | succ n=>
   obtain⟨cc,ce,cv,v,h1,_,h2,h3,h4,⟨e1,e3,rfl,_⟩⟩:=h
   obtain⟨ad,al,ae,b1,b2,b3,rfl,_⟩:=cn_open (x:=x.c) ⟨n,h2⟩
   obtain⟨c1,c2,c3,rfl,_⟩:=ex_open (x:=x.e) ⟨n,h3⟩
   obtain⟨d1,d2,d3,rfl,_⟩:=ex_open (x:=x.v) ⟨n,h4⟩
   exact⟨_,_,ad,al,ae,b1,b2,b3,_,_,_,c1,c2,c3,_,_,_,d1,d2,d3,_,_,e1,_,e3,h1⟩
theorem one15 {ak ac ad al ae b1 b2 b3 ea eb en c1 c2 c3 va vb vn d1 d2 d3 fl nn e1 e2 e3:_}:∀u∈([.int .i64 ak,.int .i64 ac,.slice ad al ae,.slice b1 b2 b3,.int .i64 ea,.int .i64 eb,.string en,.slice c1 c2 c3,.int .i64 va,.int .i64 vb,.string vn,.slice d1 d2 d3,.string fl,.int .i64 nn,.slice e1 e2 e3]:List Value),u.oneCell'=true:=fun u hu=>by
 simp at hu
 rcases hu with rfl | rfl | rfl | rfl | rfl | rfl | rfl | rfl | rfl | rfl | rfl | rfl | rfl | rfl | rfl<;>rfl
theorem md_item {C:PC}{s:PS}{w:World}(h:PSt C s w)(n:Nat):Md C.tk s (ditem C.tk C.en n s).2:=md_of (ag_item h.sh n (Sq.same h.ok)) (mv_item n s)
theorem md_assn {C:PC}{s:PS}{w:World}(h:PSt C s w)(n:Nat):Md C.tk s (dassn C.tk (ditem C.tk C.en n) s).2:=md_of (ag_assn h.sh (fun h'=>ag_item h.sh n h') (fun s=>mv_item n s) (Sq.same h.ok)) (mv_assn (fun s=>mv_item n s) s)
def ASaid (fn:Nat)(f:List Tok→Nat→PS→AT×PS)(n:Nat):Prop:=∀(C:PC) (s:PS) (w:World),PSt C s w→Fd n s→Calls Tryz.prog fn #[C.p] w (PE (Vx asX) (f C.tk C.en) C s w)
theorem assn_loop (n:Nat)(IH:ASaid 67 (fun tk en=>ditem tk en n) n)(C:PC)(s:PS)(w:World)(h:PSt C s w)(hf:Fd n s):
 Calls Tryz.prog 28 #[C.p] w (PE (Vx asX) (dassn C.tk (ditem C.tk C.en n)) C s w):=by
 have hg:=h.lt
 have HC0:=Lib.hid (IH C s _ (h.alloc (.cells zAs.toArray 60)) hf)
 obtain⟨T,hT⟩:∃T,T=dassn C.tk (ditem C.tk C.en n) s:=⟨_,rfl⟩
 have HS:Hid (∀W1 e1,PE (Vx asX) (ditem C.tk C.en n) C s (w.alloc (.cells zAs.toArray 60)) e1 W1→∃cs:List Value,e1= .returned (.agg cs.toArray)∧cs.length=15∧(∀u∈cs,u.oneCell'=true)∧Hid (LP asX C w W1.heap.size (ditem C.tk C.en n s).2 (ditem C.tk C.en n s).1 cs (W1.alloc (.cells cs.toArray 60)))):=fun W1 e1 ⟨v,a1,⟨cs,a2,a3⟩,a4,a5⟩=>⟨cs,by rw[a1,a2],asX.len a3,asX.one a3,LP.start hg rfl zAs_ni a4 a5 (by simpa using a3)⟩
 have hfin:∀k x s2,dbin C.tk (⟨#[38]⟩:ByteArray) (fun a b=>AT.mk 4 default default default (⟨#[]⟩:ByteArray) 0 [a,b]) (ditem C.tk C.en n) k x s2=T→(k=0→False)→¬dnx C.tk s2=(⟨#[38]⟩:ByteArray)→dassn C.tk (ditem C.tk C.en n) s=(x,s2):=fun k x s2 hk h0 hp=>by
  cases k with
  | zero=>exact(h0 rfl).elim
  | succ k=>
    unfold dbin at hk
    rw[if_neg hp]at hk
    rw[←hT,←hk]
 have HF:=Lib.hid hfin
 have hst0:dbin C.tk (⟨#[38]⟩:ByteArray) (fun a b=>AT.mk 4 default default default (⟨#[]⟩:ByteArray) 0 [a,b]) (ditem C.tk C.en n) (C.tk.length+1) (ditem C.tk C.en n s).1 (ditem C.tk C.en n s).2=T:=by rw[hT];rfl
 have HT0:=Lib.hid hst0
 have HFU:=Lib.hid (fun s2 (m:Md C.tk s s2)=>hf.mv m)
 have m0:=Lib.hid (md_item h n)
 have HEND:Hid (∀M s2 x cs wr w9 k,LP asX C w M s2 x cs wr→Stored w.heap.size 0 cs wr w9→dbin C.tk (⟨#[38]⟩:ByteArray) (fun a b=>AT.mk 4 default default default (⟨#[]⟩:ByteArray) 0 [a,b]) (ditem C.tk C.en n) k x s2=T→(k=0→False)→¬dnx C.tk s2=(⟨#[38]⟩:ByteArray)→PE (Vx asX) (dassn C.tk (ditem C.tk C.en n)) C s w (.returned (.agg cs.toArray)) w9):=fun M s2 x cs wr w9 k hl hst hk h0 hp=>hl.fin hst (HF.out k x s2 hk h0 hp)
 generalize PE (Vx asX) (dassn C.tk (ditem C.tk C.en n)) C s w=Q at*
 clear h hf hT hst0 hfin HF
 unfold zAs at*
 go_enter Tryz.func28,Tryz.ntmps28
 go_wp2_with fail
 refine HC0.out.mono ?_
 rintro e w1 hq
 obtain⟨cs0,rfl,hl0,ho0,hlp0⟩:=HS.out _ _ hq
 clear hq HC0 HS
 have hM:w1.heap.size≠C.g:=by have:=hlp0.out.ml.1;omega
 go_wp2_with (refine gateS 60 3 rfl ?_;refine wpList_store_fresh (by kernel_rfl) 60 _ _ rfl _ rfl cs0 rfl (by rw[hl0];kernel_rfl) (by rw[hl0];rfl) ho0 ?_)
 have hM1:w.heap.size+1≤w1.heap.size:=hlp0.out.ml.1
 generalize w1.heap.size=M at*
 simp only[Act.put]
 go_loopw [] (fun wr=>∃(k:Nat) (s2:PS) (x:AT) (cs:List Value),Hid (LP asX C w M s2 x cs wr)∧Hid (dbin C.tk (⟨#[38]⟩:ByteArray) (fun a b=>AT.mk 4 default default default (⟨#[]⟩:ByteArray) 0 [a,b]) (ditem C.tk C.en n) k x s2=T)∧Hid (Md C.tk s s2)∧Hid (1≤k∧(s2.er=none→C.tk.length+1≤k+s2.nx))) (fun wr=>mz C wr)
 case atStart=>exact⟨_,_,_,_,hlp0,HT0.out,m0,Lib.hid ⟨Nat.succ_le_succ (Nat.zero_le _),fun _=>Nat.le_add_right _ _⟩⟩
 case round=>
  clear hlp0 HT0 m0 hl0 ho0
  obtain⟨k,s2,x,cs,hlp,hk,hmv,hfu⟩:=hrel
  obtain⟨wo,rfl⟩:∃wo:World,wo=wr:=⟨_,rfl⟩
  have HN:=Lib.hid (next_any C s2 wo hlp.out.ps)
  by_cases hp:dnx C.tk s2=(⟨#[38]⟩:ByteArray)
  ·obtain⟨h20,hnx⟩:=dnx_inv (tk:=C.tk) (s:=s2) (by rw[hp];decide)
   have hmv3:Md C.tk s (pgo s2):=hmv.out.trans (md_go h20)
   have HG:Hid (∀W,Below wo.heap.size wo W→(W.cell? ⟨C.g,2,none⟩=some (.int .i64 s2.nx)∧W.frozen? ⟨C.g,2,none⟩=false∧IntKind.i64.wrap ((s2.nx:Int)+1)=(s2.nx:Int)+1)∧LP asX C w M (pgo s2) x cs (W.setCell ⟨C.g,2,none⟩ (.int .i64 ((s2.nx:Int)+1)))):=fun W hb=>by
    have hW:=hlp.out.ps.up hb
    exact⟨two_wrap hW h20,hlp.out.step ((KeptG.of_below hb).trans KeptG.set) (hW.go h20 hnx)⟩
   have HPS:=Lib.hid (fun W (hl:LP asX C w M (pgo s2) x cs W)=>IH C (pgo s2) W hl.ps (HFU.out _ hmv3))
   obtain⟨ak,ac,ad,al,ae,b1,b2,b3,ea,eb,en,c1,c2,c3,va,vb,vn,d1,d2,d3,fl,nn,e1,e2,e3,hcs⟩:=as_open hlp.out.tree
   have HX:Hid (∀W e4 W4,LP asX C w M (pgo s2) x cs W→PE (Vx asX) (ditem C.tk C.en n) C (pgo s2) W e4 W4→∃ak2 ac2 ad2 al2 ae2 b12 b22 b32 ea2 eb2 en2 c12 c22 c32 va2 vb2 vn2 d12 d22 d32 fl2 nn2 e12 e22 e32,e4= .returned (.agg #[.int .i64 ak2,.int .i64 ac2,.slice ad2 al2 ae2,.slice b12 b22 b32,.int .i64 ea2,.int .i64 eb2,.string en2,.slice c12 c22 c32,.int .i64 va2,.int .i64 vb2,.string vn2,.slice d12 d22 d32,.string fl2,.int .i64 nn2,.slice e12 e22 e32])∧W4.heap.size≠M∧
    (∀o,(W4.alloc o).cell? ⟨M,0,none⟩=some (.int .i64 ak)∧(W4.alloc o).cell? ⟨M,1,none⟩=some (.int .i64 ac)∧(W4.alloc o).cell? ⟨M,2,none⟩=some (.slice ad al ae)∧(W4.alloc o).cell? ⟨M,3,none⟩=some (.slice b1 b2 b3)∧(W4.alloc o).cell? ⟨M,4,none⟩=some (.int .i64 ea)∧(W4.alloc o).cell? ⟨M,5,none⟩=some (.int .i64 eb)∧(W4.alloc o).cell? ⟨M,6,none⟩=some (.string en)∧(W4.alloc o).cell? ⟨M,7,none⟩=some (.slice c1 c2 c3)∧(W4.alloc o).cell? ⟨M,8,none⟩=some (.int .i64 va)∧(W4.alloc o).cell? ⟨M,9,none⟩=some (.int .i64 vb)∧(W4.alloc o).cell? ⟨M,10,none⟩=some (.string vn)∧(W4.alloc o).cell? ⟨M,11,none⟩=some (.slice d1 d2 d3)∧(W4.alloc o).cell? ⟨M,12,none⟩=some (.string fl)∧(W4.alloc o).cell? ⟨M,13,none⟩=some (.int .i64 nn)∧(W4.alloc o).cell? ⟨M,14,none⟩=some (.slice e1 e2 e3))∧(∀o1 o2,((W4.alloc o1).alloc o2).there M 0 15)∧
    ∀W9,Stored M 0 [.int .i64 4,.int .i64 0,.slice none 0 0,.slice none 0 0,.int .i64 0,.int .i64 0,.string ⟨#[]⟩,.slice none 0 0,.int .i64 0,.int .i64 0,.string ⟨#[]⟩,.slice none 0 0,.string ⟨#[]⟩,.int .i64 0,.slice (some ⟨W4.heap.size+1,0,none⟩) 2 2] ((W4.alloc (.cells #[.int .i64 ak2,.int .i64 ac2,.slice ad2 al2 ae2,.slice b12 b22 b32,.int .i64 ea2,.int .i64 eb2,.string en2,.slice c12 c22 c32,.int .i64 va2,.int .i64 vb2,.string vn2,.slice d12 d22 d32,.string fl2,.int .i64 nn2,.slice e12 e22 e32] 60)).alloc (.cells #[.int .i64 ak,.int .i64 ac,.slice ad al ae,.slice b1 b2 b3,.int .i64 ea,.int .i64 eb,.string en,.slice c1 c2 c3,.int .i64 va,.int .i64 vb,.string vn,.slice d1 d2 d3,.string fl,.int .i64 nn,.slice e1 e2 e3,.int .i64 ak2,.int .i64 ac2,.slice ad2 al2 ae2,.slice b12 b22 b32,.int .i64 ea2,.int .i64 eb2,.string en2,.slice c12 c22 c32,.int .i64 va2,.int .i64 vb2,.string vn2,.slice d12 d22 d32,.string fl2,.int .i64 nn2,.slice e12 e22 e32] 60)) W9→LP asX C w M (ditem C.tk C.en n (pgo s2)).2 (AT.mk 4 default default default (⟨#[]⟩:ByteArray) 0 [x,(ditem C.tk C.en n (pgo s2)).1]) [.int .i64 4,.int .i64 0,.slice none 0 0,.slice none 0 0,.int .i64 0,.int .i64 0,.string ⟨#[]⟩,.slice none 0 0,.int .i64 0,.int .i64 0,.string ⟨#[]⟩,.slice none 0 0,.string ⟨#[]⟩,.int .i64 0,.slice (some ⟨W4.heap.size+1,0,none⟩) 2 2] W9):=fun W e4 W4 hl ⟨v,g1,⟨cs2,g2,g3⟩,g4,g5⟩=>by
    obtain⟨ak2,ac2,ad2,al2,ae2,b12,b22,b32,ea2,eb2,en2,c12,c22,c32,va2,vb2,vn2,d12,d22,d32,fl2,nn2,e12,e22,e32,hcs2⟩:=as_open g3
    have h1:=hl.gl
    have h2:=hl.ml
    have h3:=hl.kept.size
    have h5:=g5.size
    refine⟨ak2,ac2,ad2,al2,ae2,b12,b22,b32,ea2,eb2,en2,c12,c22,c32,va2,vb2,vn2,d12,d22,d32,fl2,nn2,e12,e22,e32,by rw[g1,g2,hcs2],by omega,fun o=> ?_,fun o1 o2=> ?_,fun W9 hst=> ?_⟩
    ·have hb2:=(g5.trans (KeptG.alloc C.g W4 o)).range h2.2 (by omega) hl.box
     rw[hcs]at hb2
     exact⟨hb2 0 _ rfl,hb2 1 _ rfl,hb2 2 _ rfl,hb2 3 _ rfl,hb2 4 _ rfl,hb2 5 _ rfl,hb2 6 _ rfl,hb2 7 _ rfl,hb2 8 _ rfl,hb2 9 _ rfl,hb2 10 _ rfl,hb2 11 _ rfl,hb2 12 _ rfl,hb2 13 _ rfl,hb2 14 _ rfl⟩
    ·exact((g5.trans (KeptG.alloc C.g W4 o1)).trans (KeptG.alloc C.g _ o2)).there h2.2 (by omega) hl.th
    ·have ka:KeptG C.g W4 (W4.alloc (.cells #[.int .i64 ak2,.int .i64 ac2,.slice ad2 al2 ae2,.slice b12 b22 b32,.int .i64 ea2,.int .i64 eb2,.string en2,.slice c12 c22 c32,.int .i64 va2,.int .i64 vb2,.string vn2,.slice d12 d22 d32,.string fl2,.int .i64 nn2,.slice e12 e22 e32] 60)):=KeptG.alloc _ _ _
     have hsz:(W4.alloc (.cells #[.int .i64 ak2,.int .i64 ac2,.slice ad2 al2 ae2,.slice b12 b22 b32,.int .i64 ea2,.int .i64 eb2,.string en2,.slice c12 c22 c32,.int .i64 va2,.int .i64 vb2,.string vn2,.slice d12 d22 d32,.string fl2,.int .i64 nn2,.slice e12 e22 e32] 60)).heap.size=W4.heap.size+1:=by simp
     rw[←hsz]
     rw[←hsz]at hst
     refine hl.next (s1:=pgo s2) (KeptG.refl _ _) (g5.trans ka) (g4.alloc _) (sh_hi g3 (ka.hi (B:=W.heap.size) (by omega)) (Nat.le_refl _)) (t:=60) (z:=AT.mk 4 default default default (⟨#[]⟩:ByteArray) 0 [x,(ditem C.tk C.en n (pgo s2)).1]) ?_ (as_ni hl.tree) rfl (fun S W h=>as_sep h)
     rw[hcs,hcs2]
     exact hst
   have HK3:Hid (∀s3 y cs3 W9,LP asX C w M s3 y cs3 W9→s3=(ditem C.tk C.en n (pgo s2)).2→y=AT.mk 4 default default default (⟨#[]⟩:ByteArray) 0 [x,(ditem C.tk C.en n (pgo s2)).1]→(∃(k:Nat) (s2:PS) (x:AT) (cs:List Value),Hid (LP asX C w M s2 x cs W9)∧Hid (dbin C.tk (⟨#[38]⟩:ByteArray) (fun a b=>AT.mk 4 default default default (⟨#[]⟩:ByteArray) 0 [a,b]) (ditem C.tk C.en n) k x s2=T)∧Hid (Md C.tk s s2)∧Hid (1≤k∧(s2.er=none→C.tk.length+1≤k+s2.nx)))∧mz C W9<mz C wo):=fun s3 y cs3 W9 hl e3 ey=>by
    have hG:=HG.out wo (Below.refl _ _)
    have hm4:Md C.tk (pgo s2) s3:=by rw[e3];exact md_item hG.2.ps n
    have hnn:s3.er=none→s2.nx+1≤s3.nx:=fun e=>(hm4.nx e).2.1
    have hfk:=hfu.out.2 h20
    have hk1:2≤k:=by omega
    obtain⟨k,rfl⟩:∃k',k=k'+1:=⟨k - 1,by omega⟩
    refine⟨⟨k,s3,y,cs3,hl, ?_, ?_, ?_⟩,mz_less hlp.out.ps h20 hl.ps (fun e=>by have:=hnn e;omega)⟩
    ·have:=hk.out
     unfold dbin at this
     rw[if_pos hp]at this
     rw[e3,ey];exact this
    ·exact hmv3.trans hm4
    ·exact⟨by omega,fun e=>by have:=hnn e;omega⟩
   have hx1:=eq_lit [38] hp
   generalize dnx C.tk s2=tx at*
   clear hlp hk hmv hfu hmv3 h20 hp hnx hcs
   go_wp2_with fail
   refine HN.out.mono ?_
   rintro e w3 ⟨rfl,hb⟩
   obtain⟨⟨g2,f2,hw2⟩,hlp3⟩:=HG.out w3 hb
   have HP3:=Lib.hid (HPS.out _ hlp3)
   have HX3:=Lib.hid (fun e4 W4=>HX.out _ e4 W4 hlp3)
   clear hb hlp3 HPS HX HN HG
   go_wp2_with fail
   refine HP3.out.mono ?_
   rintro e w4 hq
   obtain⟨ak2,ac2,ad2,al2,ae2,b12,b22,b32,ea2,eb2,en2,c12,c22,c32,va2,vb2,vn2,d12,d22,d32,fl2,nn2,e12,e22,e32,rfl,hne4,hz,hth,hfin⟩:=HX3.out _ _ hq
   have HF:=Lib.hid hfin
   have HTH:=Lib.hid hth
   have z0:=fun o=>(hz o).1
   have z1:=fun o=>(hz o).2.1
   have z2:=fun o=>(hz o).2.2.1
   have z3:=fun o=>(hz o).2.2.2.1
   have z4:=fun o=>(hz o).2.2.2.2.1
   have z5:=fun o=>(hz o).2.2.2.2.2.1
   have z6:=fun o=>(hz o).2.2.2.2.2.2.1
   have z7:=fun o=>(hz o).2.2.2.2.2.2.2.1
   have z8:=fun o=>(hz o).2.2.2.2.2.2.2.2.1
   have z9:=fun o=>(hz o).2.2.2.2.2.2.2.2.2.1
   have z10:=fun o=>(hz o).2.2.2.2.2.2.2.2.2.2.1
   have z11:=fun o=>(hz o).2.2.2.2.2.2.2.2.2.2.2.1
   have z12:=fun o=>(hz o).2.2.2.2.2.2.2.2.2.2.2.2.1
   have z13:=fun o=>(hz o).2.2.2.2.2.2.2.2.2.2.2.2.2.1
   have z14:=fun o=>(hz o).2.2.2.2.2.2.2.2.2.2.2.2.2.2
   clear hq hfin hth hz HX3 HP3 g2 f2
   go_wp2_with (first | (refine gateS 60 4 rfl ?_;refine wpList_store_fresh (by kernel_rfl) 60 _ _ rfl _ rfl [.int .i64 ak2,.int .i64 ac2,.slice ad2 al2 ae2,.slice b12 b22 b32,.int .i64 ea2,.int .i64 eb2,.string en2,.slice c12 c22 c32,.int .i64 va2,.int .i64 vb2,.string vn2,.slice d12 d22 d32,.string fl2,.int .i64 nn2,.slice e12 e22 e32] rfl (by kernel_rfl) rfl one15 ?_) | (refine gateS 60 3 rfl ?_;refine wpList_store_there rfl 60 _ _ rfl M 0 rfl [.int .i64 4,.int .i64 0,.slice none 0 0,.slice none 0 0,.int .i64 0,.int .i64 0,.string ⟨#[]⟩,.slice none 0 0,.int .i64 0,.int .i64 0,.string ⟨#[]⟩,.slice none 0 0,.string ⟨#[]⟩,.int .i64 0,.slice (some ⟨w4.heap.size+1,0,none⟩) 2 2] rfl (by kernel_rfl) one15 (HTH.out _ _) ?_;intro w9 hst))
   have HL:=Lib.hid (HK3.out _ _ _ _ (HF.out _ hst) rfl rfl)
   clear HF HTH z0 z1 z2 z3 z4 z5 z6 z7 z8 z9 z10 z11 z12 z13 z14 HK3 HEND HFU hst
   go_roundw
   case rel=>first | exact HL.out.1 | ((repeat apply Exists.intro);exact⟨HL.out.1,rfl⟩)
   case measure=>exact HL.out.2
  ·have hx1:=ne_lit [38] hp
   have HL:Hid (∀W,Below wo.heap.size wo W→LP asX C w M s2 x cs W):=fun W hb=>hlp.out.step (KeptG.of_below hb) (hlp.out.ps.up hb)
   have HE9:=Lib.hid (fun wr w9 hl hst=>HEND.out M s2 x cs wr w9 k hl hst hk.out (fun e=>by have:=hfu.out.1;omega) hp)
   clear hlp hk hmv hfu hp HEND HFU
   generalize dnx C.tk s2=tx at*
   go_wp2_with fail
   refine HN.out.mono ?_
   rintro e w3 ⟨rfl,hb⟩
   have HL3:=Lib.hid (HL.out w3 hb)
   have hl3:cs.length=15:=HL3.out.len
   have hb3:=HL3.out.box
   have h1:=HL3.out.one
   have ht3:w3.there w.heap.size 0 cs.length:=by rw[hl3];exact HL3.out.res
   clear hb HL HN
   go_wp2_with (first | (refine gateL 60 3 rfl ?_;refine wpList_load_mid rfl 60 _ rfl M 0 rfl cs _ hb3 Tryz.underlying60 rfl (by rw[hl3];kernel_rfl) ?_) | (refine gateS 60 2 rfl ?_;refine wpList_store_there rfl 60 _ _ rfl w.heap.size 0 rfl cs rfl (by rw[hl3];kernel_rfl) h1 ht3 ?_;intro w9 hst))
   exact bodyPost_ret (v:= .agg cs.toArray) (results_one rfl _ _ _ _ _ rfl (Tryz.asLoad hst.at' hl3)) rfl (HE9.out _ _ HL3.out hst)
end Dc
namespace Dc
open Go.RowKit
theorem item_emp (n:Nat)(C:PC)(s:PS)(w:World)(h:PSt C s w)(hm:dnx C.tk s=(⟨#[101,109,112]⟩:ByteArray)):
 Calls Tryz.prog 67 #[C.p] w (PE (Vx asX) (ditem C.tk C.en (n+1)) C s w):=by
 have hg:=h.lt
 have hl0:=LP.fresh (sh:=asX) (t:=60) h rfl zAs_ni zAs_rel
 have HN:=Lib.hid (next_any C s _ hl0.ps)
 have HLX:Hid (∀W,Below ((w.alloc (.cells zAs.toArray 60)).alloc (.cells zAs.toArray 60)).heap.size ((w.alloc (.cells zAs.toArray 60)).alloc (.cells zAs.toArray 60)) W→LP asX C w (w.heap.size+1) s default zAs W):=fun W hb=>hl0.step (KeptG.of_below hb) (hl0.ps.up hb)
 obtain⟨h0,hnx⟩:=dnx_inv (tk:=C.tk) (s:=s) (by rw[hm];decide)
 obtain⟨s1,hs1⟩:∃s',s'=pgo s:=⟨_,rfl⟩
 have X0:Hid (∀W,PSt C s W→(W.cell? ⟨C.g,2,none⟩=some (.int .i64 s.nx)∧W.frozen? ⟨C.g,2,none⟩=false∧IntKind.i64.wrap ((s.nx:Int)+1)=(s.nx:Int)+1)∧PSt C s1 (W.setCell ⟨C.g,2,none⟩ (.int .i64 ((s.nx:Int)+1)))):=fun W hW=>⟨two_wrap hW h0,by rw[hs1];exact hW.go h0 hnx⟩
 have ed:ditem C.tk C.en (n+1) s=(default,s1):=by
  rw[ditem,if_pos hm]
  subst_vars
  rfl
 have HO:=Lib.hid (fun W cs (hl:LP asX C w (w.heap.size+1) s1 default cs W)=>hl.outw (f:=ditem C.tk C.en (n+1)) ed)
 have hx0:=eq_lit [101,109,112] hm
 generalize dnx C.tk s=tx at*
 generalize PE (Vx asX) (ditem C.tk C.en (n+1)) C s w=Q at*
 clear hl0 h ed hm h0 hnx hs1 
 unfold PC.p at*
 go_enter Tryz.func67,Tryz.ntmps67
 go_wp2_with (refine gateS 60 3 rfl ?_;refine wpList_store_fresh (by kernel_rfl) 60 _ _ rfl _ rfl zAs rfl (by kernel_rfl) rfl zAs_one ?_)
 refine HN.out.mono ?_
 rintro e w1 ⟨rfl,hb⟩
 have HL1:=Lib.hid (HLX.out w1 hb)
 clear hb HN HLX
 obtain⟨⟨c2_0,f2_0,hw2_0⟩,hp⟩:=X0.out _ HL1.out.ps
 have HG0:=Lib.hid (HL1.out.step (KeptG.set (g:=C.g)) hp)
 clear hp X0
 clear HL1
 obtain⟨hl9,h19,hr9,ht9,hf9⟩:=HO.out _ _ HG0.out
 have HF9:=Lib.hid hf9
 clear hf9 HG0
 go_wp2_with (first | (refine gateL 60 3 rfl ?_;refine wpList_load_mid rfl 60 _ rfl (w.heap.size+1) 0 rfl _ _ hr9 Tryz.underlying60 rfl (by rw[hl9];kernel_rfl) ?_) | (refine gateS 60 2 rfl ?_;refine wpList_store_there rfl 60 _ _ rfl w.heap.size 0 rfl _ rfl (by rw[hl9];kernel_rfl) h19 ht9 ?_;intro w9 hst))
 exact bodyPost_ret (v:=_) (results_one rfl _ _ _ _ _ rfl (Tryz.asLoad hst.at' hl9)) rfl (HF9.out _ hst)
theorem item_br (n:Nat)(C:PC)(s:PS)(w:World)(h:PSt C s w)(hm:dnx C.tk s=(⟨#[91]⟩:ByteArray)):
 Calls Tryz.prog 67 #[C.p] w (PE (Vx asX) (ditem C.tk C.en (n+1)) C s w):=by
 have hg:=h.lt
 have hl0:=LP.fresh (sh:=asX) (t:=60) h rfl zAs_ni zAs_rel
 have HN:=Lib.hid (next_any C s _ hl0.ps)
 have HLX:Hid (∀W,Below ((w.alloc (.cells zAs.toArray 60)).alloc (.cells zAs.toArray 60)).heap.size ((w.alloc (.cells zAs.toArray 60)).alloc (.cells zAs.toArray 60)) W→LP asX C w (w.heap.size+1) s default zAs W):=fun W hb=>hl0.step (KeptG.of_below hb) (hl0.ps.up hb)
 obtain⟨h0,hnx⟩:=dnx_inv (tk:=C.tk) (s:=s) (by rw[hm];decide)
 obtain⟨s1,hs1⟩:∃s',s'=dbegin C.tk C.en (⟨#[91]⟩:ByteArray) s:=⟨_,rfl⟩
 have H0:=Lib.hid (fun W (hW:PSt C s W)=>begin_any C s (⟨#[91]⟩:ByteArray) W hW (by decide))
 have X0:Hid (∀W e1 W1,PU (dbegin C.tk C.en (⟨#[91]⟩:ByteArray)) C s W e1 W1→e1= .returned (.tuple #[])∧PSt C s1 W1∧KeptG C.g W W1):=fun W e1 W1 hu=>by rw[hs1];exact hu
 obtain⟨cq1,hcq1⟩:∃x',x'=(dco C.tk C.en s1).1:=⟨_,rfl⟩
 obtain⟨s2,hs2⟩:∃s',s'=(dco C.tk C.en s1).2:=⟨_,rfl⟩
 have H1:=Lib.hid (fun W (hW:PSt C s1 W)=>cond_any C s1 W hW)
 have X1:Hid (∀W e1 W1 cs,LP asX C (w) (w.heap.size+1) s1 (AT.mk 1 default default default (⟨#[]⟩:ByteArray) 0 []) cs W→PE (Vx cnX) (dco C.tk C.en) C s1 W e1 W1→∃cs2:List Value,e1= .returned (.agg cs2.toArray)∧cs2.length=3∧(∀u∈cs2,u.oneCell'=true)∧W1.there (w.heap.size+1) 1 cs2.length∧∀W9,Stored (w.heap.size+1) 1 cs2 W1 W9→LP asX C (w) (w.heap.size+1) s2 (AT.mk 1 cq1 default default (⟨#[]⟩:ByteArray) 0 []) (spl cs 1 cs2) W9):=fun W e1 W1 cs hl hq=>by
  obtain⟨cs2,a1,a2,a3,a4,a5,a6⟩:=pe_x hq
  have a2:cs2.length=3:=a2
  rw[←hs2]at a5
  rw[←hcq1]at a4
  exact⟨cs2,a1,a2,a3,by rw[a2];exact hl.part a6 a5 (by show 1+3≤15;omega),fun W9 hst=>hl.setP a6 a5 a4 (by show 1+3≤15;omega) (as_ni hl.tree) hst (fun S W hx hy=>as_c hy hx)⟩
 obtain⟨s3,hs3⟩:∃s',s'=dfin C.tk C.en (⟨#[93]⟩:ByteArray) s2:=⟨_,rfl⟩
 have H2:=Lib.hid (fun Wa Wb W (hA:PSt C s Wa) (hB:PSt C s1 Wb) (hW:PSt C s2 W)=>finish_any C s2 (⟨#[93]⟩:ByteArray) W hW (by decide) (fun e=>by
  obtain⟨e1,_⟩:=(md_eat (en:=C.en) (tk:=C.tk) (t:=(⟨#[93]⟩:ByteArray)) (by decide) s2).nx e
  have hmd:Md C.tk s1 s2:=by rw[hs2];exact md_co hB
  obtain⟨e2,_,e3⟩:=hmd.nx e1
  rw[hs1]at e2 e3
  obtain⟨e4,_,e5,_⟩:=begin_ne (by decide) e2
  have:=(hA.inv e4).1
  omega))
 have X2:Hid (∀W e1 W1,PU (dfin C.tk C.en (⟨#[93]⟩:ByteArray)) C s2 W e1 W1→e1= .returned (.tuple #[])∧PSt C s3 W1∧KeptG C.g W W1):=fun W e1 W1 hu=>by rw[hs3];exact hu
 have ed:ditem C.tk C.en (n+1) s=((AT.mk 1 cq1 default default (⟨#[]⟩:ByteArray) 0 []),s3):=by
  rw[ditem,if_neg (by rw[hm];decide),if_pos hm]
  subst_vars
  rfl
 have HO:=Lib.hid (fun W cs (hl:LP asX C w (w.heap.size+1) s3 (AT.mk 1 cq1 default default (⟨#[]⟩:ByteArray) 0 []) cs W)=>hl.outw (f:=ditem C.tk C.en (n+1)) ed)
 have hx0:((dnx C.tk s).toList == [101,109,112])=false:=ne_lit [101,109,112] (by rw[hm];decide)
 have hx1:=eq_lit [91] hm
 generalize dnx C.tk s=tx at*
 generalize PE (Vx asX) (ditem C.tk C.en (n+1)) C s w=Q at*
 clear hl0 h ed hm h0 hnx hs1 hcq1 hs2 hs3 
 unfold PC.p at*
 go_enter Tryz.func67,Tryz.ntmps67
 go_wp2_with (refine gateS 60 3 rfl ?_;refine wpList_store_fresh (by kernel_rfl) 60 _ _ rfl _ rfl zAs rfl (by kernel_rfl) rfl zAs_one ?_)
 refine HN.out.mono ?_
 rintro e w1 ⟨rfl,hb⟩
 have HL1:=Lib.hid (HLX.out w1 hb)
 clear hb HN HLX
 have HPA_s:=Lib.hid HL1.out.ps
 go_wp2_with fail
 refine(H0.out _ HL1.out.ps).mono ?_
 rintro e w2 hq
 obtain⟨rfl,hp,hk⟩:=X0.out _ _ _ hq
 have HL2:=Lib.hid (HL1.out.step hk hp)
 clear hq hp hk H0 X0
 clear HL1
 have HPB_s1:=Lib.hid HL2.out.ps
 obtain⟨⟨v2_1_0k,_,y2_1_0k⟩,f2_1_0k⟩:=HL2.out.cell (j:=0) (by show 0<15;omega)
 have HK2_1_0:Hid (LP asX C (w) (w.heap.size+1) s1 (AT.mk 1 default default default (⟨#[]⟩:ByteArray) 0 []) _ (w2.setCell ⟨w.heap.size+1,0,none⟩ (.int .i64 1))):=Lib.hid (HL2.out.set1 (o:=0) (v:= .int .i64 1) (by show 0<15;omega) (as_ni HL2.out.tree) (fun S W h=>as_kind 1 ⟨by decide,by decide⟩ h))
 clear HL2
 go_wp2_with fail
 clear y2_1_0k f2_1_0k
 refine(H1.out _ HK2_1_0.out.ps).mono ?_
 rintro e w3 hq
 obtain⟨c3,rfl,l3,o3,t3,fin⟩:=X1.out _ _ _ _ HK2_1_0.out hq
 have HF3:=Lib.hid fin
 clear hq fin H1 X1
 clear HK2_1_0
 go_wp2_with (first | (refine gateS 55 29 rfl ?_;refine wpList_store_there rfl 55 _ _ rfl (w.heap.size+1) 1 rfl _ rfl (by rw[l3];kernel_rfl) o3 t3 ?_;intro w39 hst;have HL3:=Lib.hid (HF3.out _ hst);clear hst HF3))
 clear l3 o3 t3
 refine(H2.out _ _ _ HPA_s.out HPB_s1.out HL3.out.ps).mono ?_
 rintro e w4 hq
 obtain⟨rfl,hp,hk⟩:=X2.out _ _ _ hq
 have HL4:=Lib.hid (HL3.out.step hk hp)
 clear hq hp hk H2 X2 HPA_s HPB_s1
 clear HL3
 obtain⟨hl9,h19,hr9,ht9,hf9⟩:=HO.out _ _ HL4.out
 have HF9:=Lib.hid hf9
 clear hf9 HL4
 go_wp2_with (first | (refine gateL 60 3 rfl ?_;refine wpList_load_mid rfl 60 _ rfl (w.heap.size+1) 0 rfl _ _ hr9 Tryz.underlying60 rfl (by rw[hl9];kernel_rfl) ?_) | (refine gateS 60 2 rfl ?_;refine wpList_store_there rfl 60 _ _ rfl w.heap.size 0 rfl _ rfl (by rw[hl9];kernel_rfl) h19 ht9 ?_;intro w9 hst))
 exact bodyPost_ret (v:=_) (results_one rfl _ _ _ _ _ rfl (Tryz.asLoad hst.at' hl9)) rfl (HF9.out _ hst)
theorem item_acc (n:Nat)(C:PC)(s:PS)(w:World)(h:PSt C s w)(hm:dnx C.tk s=(⟨#[97,99,99]⟩:ByteArray)):
 Calls Tryz.prog 67 #[C.p] w (PE (Vx asX) (ditem C.tk C.en (n+1)) C s w):=by
 have hg:=h.lt
 have hl0:=LP.fresh (sh:=asX) (t:=60) h rfl zAs_ni zAs_rel
 have HN:=Lib.hid (next_any C s _ hl0.ps)
 have HLX:Hid (∀W,Below ((w.alloc (.cells zAs.toArray 60)).alloc (.cells zAs.toArray 60)).heap.size ((w.alloc (.cells zAs.toArray 60)).alloc (.cells zAs.toArray 60)) W→LP asX C w (w.heap.size+1) s default zAs W):=fun W hb=>hl0.step (KeptG.of_below hb) (hl0.ps.up hb)
 obtain⟨h0,hnx⟩:=dnx_inv (tk:=C.tk) (s:=s) (by rw[hm];decide)
 obtain⟨s1,hs1⟩:∃s',s'=pgo s:=⟨_,rfl⟩
 have X0:Hid (∀W,PSt C s W→(W.cell? ⟨C.g,2,none⟩=some (.int .i64 s.nx)∧W.frozen? ⟨C.g,2,none⟩=false∧IntKind.i64.wrap ((s.nx:Int)+1)=(s.nx:Int)+1)∧PSt C s1 (W.setCell ⟨C.g,2,none⟩ (.int .i64 ((s.nx:Int)+1)))):=fun W hW=>⟨two_wrap hW h0,by rw[hs1];exact hW.go h0 hnx⟩
 obtain⟨s2,hs2⟩:∃s',s'=deat C.tk C.en (⟨#[40]⟩:ByteArray) s1:=⟨_,rfl⟩
 have H1:=Lib.hid (fun W (hW:PSt C s1 W)=>eat_any C s1 (⟨#[40]⟩:ByteArray) W hW (by decide))
 have X1:Hid (∀W e1 W1,PU (deat C.tk C.en (⟨#[40]⟩:ByteArray)) C s1 W e1 W1→e1= .returned (.tuple #[])∧PSt C s2 W1∧KeptG C.g W W1):=fun W e1 W1 hu=>by rw[hs2];exact hu
 obtain⟨eq2,heq2⟩:∃x',x'=(dex C.tk C.en s2).1:=⟨_,rfl⟩
 obtain⟨s3,hs3⟩:∃s',s'=(dex C.tk C.en s2).2:=⟨_,rfl⟩
 have H2:=Lib.hid (fun W (hW:PSt C s2 W)=>expr_any C s2 W hW)
 have X2:Hid (∀W e1 W1 cs,LP asX C (w) (w.heap.size+1) s2 (AT.mk 2 default default default (⟨#[]⟩:ByteArray) 0 []) cs W→PE (Vx exX) (dex C.tk C.en) C s2 W e1 W1→∃cs2:List Value,e1= .returned (.agg cs2.toArray)∧cs2.length=4∧(∀u∈cs2,u.oneCell'=true)∧W1.there (w.heap.size+1) 4 cs2.length∧∀W9,Stored (w.heap.size+1) 4 cs2 W1 W9→LP asX C (w) (w.heap.size+1) s3 (AT.mk 2 default eq2 default (⟨#[]⟩:ByteArray) 0 []) (spl cs 4 cs2) W9):=fun W e1 W1 cs hl hq=>by
  obtain⟨cs2,a1,a2,a3,a4,a5,a6⟩:=pe_x hq
  have a2:cs2.length=4:=a2
  rw[←hs3]at a5
  rw[←heq2]at a4
  exact⟨cs2,a1,a2,a3,by rw[a2];exact hl.part a6 a5 (by show 4+4≤15;omega),fun W9 hst=>hl.setP a6 a5 a4 (by show 4+4≤15;omega) (as_ni hl.tree) hst (fun S W hx hy=>as_e hy hx)⟩
 obtain⟨s4,hs4⟩:∃s',s'=deat C.tk C.en (⟨#[46]⟩:ByteArray) s3:=⟨_,rfl⟩
 have H3:=Lib.hid (fun W (hW:PSt C s3 W)=>eat_any C s3 (⟨#[46]⟩:ByteArray) W hW (by decide))
 have X3:Hid (∀W e1 W1,PU (deat C.tk C.en (⟨#[46]⟩:ByteArray)) C s3 W e1 W1→e1= .returned (.tuple #[])∧PSt C s4 W1∧KeptG C.g W W1):=fun W e1 W1 hu=>by rw[hs4];exact hu
 obtain⟨fq4,hfq4⟩:∃x',x'=(dtext C.tk C.en 1 s4).1:=⟨_,rfl⟩
 obtain⟨s5,hs5⟩:∃s',s'=(dtext C.tk C.en 1 s4).2:=⟨_,rfl⟩
 have H4:=Lib.hid (fun W (hW:PSt C s4 W)=>text_any C s4 1 W hW (by decide))
 have X4:Hid (∀W e1 W1,PSt C s4 W→PE Vt (dtext C.tk C.en 1) C s4 W e1 W1→e1= .returned (.string fq4)∧fq4.size≤maxLen∧PSt C s5 W1∧KeptG C.g W W1):=fun W e1 W1 hS hq=>by rw[hs5,hfq4];exact⟨(pe_v hq).1,dtext_size 1 hS (by decide),(pe_v hq).2⟩
 obtain⟨s6,hs6⟩:∃s',s'=deat C.tk C.en (⟨#[44]⟩:ByteArray) s5:=⟨_,rfl⟩
 have H5:=Lib.hid (fun W (hW:PSt C s5 W)=>eat_any C s5 (⟨#[44]⟩:ByteArray) W hW (by decide))
 have X5:Hid (∀W e1 W1,PU (deat C.tk C.en (⟨#[44]⟩:ByteArray)) C s5 W e1 W1→e1= .returned (.tuple #[])∧PSt C s6 W1∧KeptG C.g W W1):=fun W e1 W1 hu=>by rw[hs6];exact hu
 obtain⟨nq6,hnq6⟩:∃x',x'=(dnum C.tk C.en s6).1:=⟨_,rfl⟩
 obtain⟨s7,hs7⟩:∃s',s'=(dnum C.tk C.en s6).2:=⟨_,rfl⟩
 have H6:=Lib.hid (fun W (hW:PSt C s6 W)=>number_any C s6 W hW)
 have X6:Hid (∀W e1 W1,PSt C s6 W→PE Vi (dnum C.tk C.en) C s6 W e1 W1→e1= .returned (.int .i64 nq6)∧i64 nq6∧PSt C s7 W1∧KeptG C.g W W1):=fun W e1 W1 hS hq=>by rw[hs7,hnq6];exact⟨(pe_i hq).1,by have:=dnum_le hS;unfold i64;omega,(pe_i hq).2⟩
 obtain⟨s8,hs8⟩:∃s',s'=deat C.tk C.en (⟨#[41]⟩:ByteArray) s7:=⟨_,rfl⟩
 have H7:=Lib.hid (fun W (hW:PSt C s7 W)=>eat_any C s7 (⟨#[41]⟩:ByteArray) W hW (by decide))
 have X7:Hid (∀W e1 W1,PU (deat C.tk C.en (⟨#[41]⟩:ByteArray)) C s7 W e1 W1→e1= .returned (.tuple #[])∧PSt C s8 W1∧KeptG C.g W W1):=fun W e1 W1 hu=>by rw[hs8];exact hu
 have ed:ditem C.tk C.en (n+1) s=((AT.mk 2 default eq2 default fq4 nq6 []),s8):=by
  rw[ditem,if_neg (by rw[hm];decide),if_neg (by rw[hm];decide),if_pos hm]
  subst_vars
  rfl
 have HO:=Lib.hid (fun W cs (hl:LP asX C w (w.heap.size+1) s8 (AT.mk 2 default eq2 default fq4 nq6 []) cs W)=>hl.outw (f:=ditem C.tk C.en (n+1)) ed)
 have hx0:((dnx C.tk s).toList == [101,109,112])=false:=ne_lit [101,109,112] (by rw[hm];decide)
 have hx1:((dnx C.tk s).toList == [91])=false:=ne_lit [91] (by rw[hm];decide)
 have hx2:=eq_lit [97,99,99] hm
 have hx9:((dnx C.tk s).toList == [112,116,115])=false:=ne_lit [112,116,115] (by rw[hm];decide)
 generalize dnx C.tk s=tx at*
 generalize PE (Vx asX) (ditem C.tk C.en (n+1)) C s w=Q at*
 clear hl0 h ed hm h0 hnx hs1 hs2 heq2 hs3 hs4 hfq4 hs5 hs6 hnq6 hs7 hs8 
 unfold PC.p at*
 go_enter Tryz.func67,Tryz.ntmps67
 go_wp2_with (refine gateS 60 3 rfl ?_;refine wpList_store_fresh (by kernel_rfl) 60 _ _ rfl _ rfl zAs rfl (by kernel_rfl) rfl zAs_one ?_)
 refine HN.out.mono ?_
 rintro e w1 ⟨rfl,hb⟩
 have HL1:=Lib.hid (HLX.out w1 hb)
 clear hb HN HLX
 obtain⟨⟨c2_0,f2_0,hw2_0⟩,hp⟩:=X0.out _ HL1.out.ps
 have HG0:=Lib.hid (HL1.out.step (KeptG.set (g:=C.g)) hp)
 clear hp X0
 clear HL1
 obtain⟨⟨v1_1_0k,_,y1_1_0k⟩,f1_1_0k⟩:=HG0.out.cell (j:=0) (by show 0<15;omega)
 have HK1_1_0:Hid (LP asX C (w) (w.heap.size+1) s1 (AT.mk 2 default default default (⟨#[]⟩:ByteArray) 0 []) _ ((w1.setCell ⟨C.g,2,none⟩ (.int .i64 ((s.nx:Int)+1))).setCell ⟨w.heap.size+1,0,none⟩ (.int .i64 2))):=Lib.hid (HG0.out.set1 (o:=0) (v:= .int .i64 2) (by show 0<15;omega) (as_ni HG0.out.tree) (fun S W h=>as_kind 2 ⟨by decide,by decide⟩ h))
 clear HG0
 go_wp2_with fail
 clear c2_0 f2_0 hw2_0 y1_1_0k f1_1_0k
 refine(H1.out _ HK1_1_0.out.ps).mono ?_
 rintro e w2 hq
 obtain⟨rfl,hp,hk⟩:=X1.out _ _ _ hq
 have HL2:=Lib.hid (HK1_1_0.out.step hk hp)
 clear hq hp hk H1 X1
 clear HK1_1_0
 go_wp2_with fail
 refine(H2.out _ HL2.out.ps).mono ?_
 rintro e w3 hq
 obtain⟨c3,rfl,l3,o3,t3,fin⟩:=X2.out _ _ _ _ HL2.out hq
 have HF3:=Lib.hid fin
 clear hq fin H2 X2
 clear HL2
 go_wp2_with (first | (refine gateS 57 47 rfl ?_;refine wpList_store_there rfl 57 _ _ rfl (w.heap.size+1) 4 rfl _ rfl (by rw[l3];kernel_rfl) o3 t3 ?_;intro w39 hst;have HL3:=Lib.hid (HF3.out _ hst);clear hst HF3))
 clear l3 o3 t3
 refine(H3.out _ HL3.out.ps).mono ?_
 rintro e w4 hq
 obtain⟨rfl,hp,hk⟩:=X3.out _ _ _ hq
 have HL4:=Lib.hid (HL3.out.step hk hp)
 clear hq hp hk H3 X3
 clear HL3
 go_wp2_with fail
 refine(H4.out _ HL4.out.ps).mono ?_
 rintro e w5 hq
 obtain⟨rfl,hb,hp,hk⟩:=X4.out _ _ _ HL4.out.ps hq
 have HM5:=Lib.hid (HL4.out.step hk hp)
 obtain⟨⟨v5,_,y5c⟩,f5c⟩:=HM5.out.cell (j:=12) (by show 12<15;omega)
 have HL5:Hid (LP asX C (w) (w.heap.size+1) s5 (AT.mk 2 default eq2 default fq4 0 []) _ (w5.setCell ⟨w.heap.size+1,12,none⟩ (.string fq4))):=Lib.hid (HM5.out.set1 (o:=12) (v:= .string fq4) (by show 12<15;omega) (as_ni HM5.out.tree) (fun S W h=>(as_field fq4 hb) h))
 clear hq hp hk hb H4 X4 HM5
 clear HL4
 go_wp2_with fail
 clear y5c f5c
 refine(H5.out _ HL5.out.ps).mono ?_
 rintro e w6 hq
 obtain⟨rfl,hp,hk⟩:=X5.out _ _ _ hq
 have HL6:=Lib.hid (HL5.out.step hk hp)
 clear hq hp hk H5 X5
 clear HL5
 go_wp2_with fail
 refine(H6.out _ HL6.out.ps).mono ?_
 rintro e w7 hq
 obtain⟨rfl,hb,hp,hk⟩:=X6.out _ _ _ HL6.out.ps hq
 have HM7:=Lib.hid (HL6.out.step hk hp)
 obtain⟨⟨v7,_,y7c⟩,f7c⟩:=HM7.out.cell (j:=13) (by show 13<15;omega)
 have HL7:Hid (LP asX C (w) (w.heap.size+1) s7 (AT.mk 2 default eq2 default fq4 nq6 []) _ (w7.setCell ⟨w.heap.size+1,13,none⟩ (.int .i64 nq6))):=Lib.hid (HM7.out.set1 (o:=13) (v:= .int .i64 nq6) (by show 13<15;omega) (as_ni HM7.out.tree) (fun S W h=>(as_n nq6 hb) h))
 clear hq hp hk hb H6 X6 HM7
 clear HL6
 go_wp2_with fail
 clear y7c f7c
 refine(H7.out _ HL7.out.ps).mono ?_
 rintro e w8 hq
 obtain⟨rfl,hp,hk⟩:=X7.out _ _ _ hq
 have HL8:=Lib.hid (HL7.out.step hk hp)
 clear hq hp hk H7 X7
 clear HL7
 obtain⟨hl9,h19,hr9,ht9,hf9⟩:=HO.out _ _ HL8.out
 have HF9:=Lib.hid hf9
 clear hf9 HL8
 go_wp2_with (first | (refine gateL 60 3 rfl ?_;refine wpList_load_mid rfl 60 _ rfl (w.heap.size+1) 0 rfl _ _ hr9 Tryz.underlying60 rfl (by rw[hl9];kernel_rfl) ?_) | (refine gateS 60 2 rfl ?_;refine wpList_store_there rfl 60 _ _ rfl w.heap.size 0 rfl _ rfl (by rw[hl9];kernel_rfl) h19 ht9 ?_;intro w9 hst))
 exact bodyPost_ret (v:=_) (results_one rfl _ _ _ _ _ rfl (Tryz.asLoad hst.at' hl9)) rfl (HF9.out _ hst)
theorem item_pts (n:Nat)(C:PC)(s:PS)(w:World)(h:PSt C s w)(hm:dnx C.tk s=(⟨#[112,116,115]⟩:ByteArray)):
 Calls Tryz.prog 67 #[C.p] w (PE (Vx asX) (ditem C.tk C.en (n+1)) C s w):=by
 have hg:=h.lt
 have hl0:=LP.fresh (sh:=asX) (t:=60) h rfl zAs_ni zAs_rel
 have HN:=Lib.hid (next_any C s _ hl0.ps)
 have HLX:Hid (∀W,Below ((w.alloc (.cells zAs.toArray 60)).alloc (.cells zAs.toArray 60)).heap.size ((w.alloc (.cells zAs.toArray 60)).alloc (.cells zAs.toArray 60)) W→LP asX C w (w.heap.size+1) s default zAs W):=fun W hb=>hl0.step (KeptG.of_below hb) (hl0.ps.up hb)
 obtain⟨h0,hnx⟩:=dnx_inv (tk:=C.tk) (s:=s) (by rw[hm];decide)
 obtain⟨s1,hs1⟩:∃s',s'=pgo s:=⟨_,rfl⟩
 have X0:Hid (∀W,PSt C s W→(W.cell? ⟨C.g,2,none⟩=some (.int .i64 s.nx)∧W.frozen? ⟨C.g,2,none⟩=false∧IntKind.i64.wrap ((s.nx:Int)+1)=(s.nx:Int)+1)∧PSt C s1 (W.setCell ⟨C.g,2,none⟩ (.int .i64 ((s.nx:Int)+1)))):=fun W hW=>⟨two_wrap hW h0,by rw[hs1];exact hW.go h0 hnx⟩
 obtain⟨s2,hs2⟩:∃s',s'=deat C.tk C.en (⟨#[40]⟩:ByteArray) s1:=⟨_,rfl⟩
 have H1:=Lib.hid (fun W (hW:PSt C s1 W)=>eat_any C s1 (⟨#[40]⟩:ByteArray) W hW (by decide))
 have X1:Hid (∀W e1 W1,PU (deat C.tk C.en (⟨#[40]⟩:ByteArray)) C s1 W e1 W1→e1= .returned (.tuple #[])∧PSt C s2 W1∧KeptG C.g W W1):=fun W e1 W1 hu=>by rw[hs2];exact hu
 obtain⟨eq2,heq2⟩:∃x',x'=(dex C.tk C.en s2).1:=⟨_,rfl⟩
 obtain⟨s3,hs3⟩:∃s',s'=(dex C.tk C.en s2).2:=⟨_,rfl⟩
 have H2:=Lib.hid (fun W (hW:PSt C s2 W)=>expr_any C s2 W hW)
 have X2:Hid (∀W e1 W1 cs,LP asX C (w) (w.heap.size+1) s2 (AT.mk 2 default default default (⟨#[]⟩:ByteArray) 0 []) cs W→PE (Vx exX) (dex C.tk C.en) C s2 W e1 W1→∃cs2:List Value,e1= .returned (.agg cs2.toArray)∧cs2.length=4∧(∀u∈cs2,u.oneCell'=true)∧W1.there (w.heap.size+1) 4 cs2.length∧∀W9,Stored (w.heap.size+1) 4 cs2 W1 W9→LP asX C (w) (w.heap.size+1) s3 (AT.mk 2 default eq2 default (⟨#[]⟩:ByteArray) 0 []) (spl cs 4 cs2) W9):=fun W e1 W1 cs hl hq=>by
  obtain⟨cs2,a1,a2,a3,a4,a5,a6⟩:=pe_x hq
  have a2:cs2.length=4:=a2
  rw[←hs3]at a5
  rw[←heq2]at a4
  exact⟨cs2,a1,a2,a3,by rw[a2];exact hl.part a6 a5 (by show 4+4≤15;omega),fun W9 hst=>hl.setP a6 a5 a4 (by show 4+4≤15;omega) (as_ni hl.tree) hst (fun S W hx hy=>as_e hy hx)⟩
 obtain⟨s4,hs4⟩:∃s',s'=deat C.tk C.en (⟨#[46]⟩:ByteArray) s3:=⟨_,rfl⟩
 have H3:=Lib.hid (fun W (hW:PSt C s3 W)=>eat_any C s3 (⟨#[46]⟩:ByteArray) W hW (by decide))
 have X3:Hid (∀W e1 W1,PU (deat C.tk C.en (⟨#[46]⟩:ByteArray)) C s3 W e1 W1→e1= .returned (.tuple #[])∧PSt C s4 W1∧KeptG C.g W W1):=fun W e1 W1 hu=>by rw[hs4];exact hu
 obtain⟨fq4,hfq4⟩:∃x',x'=(dtext C.tk C.en 1 s4).1:=⟨_,rfl⟩
 obtain⟨s5,hs5⟩:∃s',s'=(dtext C.tk C.en 1 s4).2:=⟨_,rfl⟩
 have H4:=Lib.hid (fun W (hW:PSt C s4 W)=>text_any C s4 1 W hW (by decide))
 have X4:Hid (∀W e1 W1,PSt C s4 W→PE Vt (dtext C.tk C.en 1) C s4 W e1 W1→e1= .returned (.string fq4)∧fq4.size≤maxLen∧PSt C s5 W1∧KeptG C.g W W1):=fun W e1 W1 hS hq=>by rw[hs5,hfq4];exact⟨(pe_v hq).1,dtext_size 1 hS (by decide),(pe_v hq).2⟩
 obtain⟨s6,hs6⟩:∃s',s'=deat C.tk C.en (⟨#[44]⟩:ByteArray) s5:=⟨_,rfl⟩
 have H5:=Lib.hid (fun W (hW:PSt C s5 W)=>eat_any C s5 (⟨#[44]⟩:ByteArray) W hW (by decide))
 have X5:Hid (∀W e1 W1,PU (deat C.tk C.en (⟨#[44]⟩:ByteArray)) C s5 W e1 W1→e1= .returned (.tuple #[])∧PSt C s6 W1∧KeptG C.g W W1):=fun W e1 W1 hu=>by rw[hs6];exact hu
 obtain⟨nq6,hnq6⟩:∃x',x'=(dnum C.tk C.en s6).1:=⟨_,rfl⟩
 obtain⟨s7,hs7⟩:∃s',s'=(dnum C.tk C.en s6).2:=⟨_,rfl⟩
 have H6:=Lib.hid (fun W (hW:PSt C s6 W)=>number_any C s6 W hW)
 have X6:Hid (∀W e1 W1,PSt C s6 W→PE Vi (dnum C.tk C.en) C s6 W e1 W1→e1= .returned (.int .i64 nq6)∧i64 nq6∧PSt C s7 W1∧KeptG C.g W W1):=fun W e1 W1 hS hq=>by rw[hs7,hnq6];exact⟨(pe_i hq).1,by have:=dnum_le hS;unfold i64;omega,(pe_i hq).2⟩
 obtain⟨s8,hs8⟩:∃s',s'=deat C.tk C.en (⟨#[44]⟩:ByteArray) s7:=⟨_,rfl⟩
 have H7:=Lib.hid (fun W (hW:PSt C s7 W)=>eat_any C s7 (⟨#[44]⟩:ByteArray) W hW (by decide))
 have X7:Hid (∀W e1 W1,PU (deat C.tk C.en (⟨#[44]⟩:ByteArray)) C s7 W e1 W1→e1= .returned (.tuple #[])∧PSt C s8 W1∧KeptG C.g W W1):=fun W e1 W1 hu=>by rw[hs8];exact hu
 obtain⟨vq8,hvq8⟩:∃x',x'=(dex C.tk C.en s8).1:=⟨_,rfl⟩
 obtain⟨s9,hs9⟩:∃s',s'=(dex C.tk C.en s8).2:=⟨_,rfl⟩
 have H8:=Lib.hid (fun W (hW:PSt C s8 W)=>expr_any C s8 W hW)
 have X8:Hid (∀W e1 W1 cs,LP asX C (w) (w.heap.size+1) s8 (AT.mk 3 default eq2 default fq4 nq6 []) cs W→PE (Vx exX) (dex C.tk C.en) C s8 W e1 W1→∃cs2:List Value,e1= .returned (.agg cs2.toArray)∧cs2.length=4∧(∀u∈cs2,u.oneCell'=true)∧W1.there (w.heap.size+1) 8 cs2.length∧∀W9,Stored (w.heap.size+1) 8 cs2 W1 W9→LP asX C (w) (w.heap.size+1) s9 (AT.mk 3 default eq2 vq8 fq4 nq6 []) (spl cs 8 cs2) W9):=fun W e1 W1 cs hl hq=>by
  obtain⟨cs2,a1,a2,a3,a4,a5,a6⟩:=pe_x hq
  have a2:cs2.length=4:=a2
  rw[←hs9]at a5
  rw[←hvq8]at a4
  exact⟨cs2,a1,a2,a3,by rw[a2];exact hl.part a6 a5 (by show 8+4≤15;omega),fun W9 hst=>hl.setP a6 a5 a4 (by show 8+4≤15;omega) (as_ni hl.tree) hst (fun S W hx hy=>as_v hy hx)⟩
 obtain⟨s10,hs10⟩:∃s',s'=deat C.tk C.en (⟨#[41]⟩:ByteArray) s9:=⟨_,rfl⟩
 have H9:=Lib.hid (fun W (hW:PSt C s9 W)=>eat_any C s9 (⟨#[41]⟩:ByteArray) W hW (by decide))
 have X9:Hid (∀W e1 W1,PU (deat C.tk C.en (⟨#[41]⟩:ByteArray)) C s9 W e1 W1→e1= .returned (.tuple #[])∧PSt C s10 W1∧KeptG C.g W W1):=fun W e1 W1 hu=>by rw[hs10];exact hu
 have ed:ditem C.tk C.en (n+1) s=((AT.mk 3 default eq2 vq8 fq4 nq6 []),s10):=by
  rw[ditem,if_neg (by rw[hm];decide),if_neg (by rw[hm];decide),if_neg (by rw[hm];decide),if_pos hm]
  subst_vars
  rfl
 have HO:=Lib.hid (fun W cs (hl:LP asX C w (w.heap.size+1) s10 (AT.mk 3 default eq2 vq8 fq4 nq6 []) cs W)=>hl.outw (f:=ditem C.tk C.en (n+1)) ed)
 have hx0:((dnx C.tk s).toList == [101,109,112])=false:=ne_lit [101,109,112] (by rw[hm];decide)
 have hx1:((dnx C.tk s).toList == [91])=false:=ne_lit [91] (by rw[hm];decide)
 have hx2:((dnx C.tk s).toList == [97,99,99])=false:=ne_lit [97,99,99] (by rw[hm];decide)
 have hx3:=eq_lit [112,116,115] hm
 generalize dnx C.tk s=tx at*
 generalize PE (Vx asX) (ditem C.tk C.en (n+1)) C s w=Q at*
 clear hl0 h ed hm h0 hnx hs1 hs2 heq2 hs3 hs4 hfq4 hs5 hs6 hnq6 hs7 hs8 hvq8 hs9 hs10 
 unfold PC.p at*
 go_enter Tryz.func67,Tryz.ntmps67
 go_wp2_with (refine gateS 60 3 rfl ?_;refine wpList_store_fresh (by kernel_rfl) 60 _ _ rfl _ rfl zAs rfl (by kernel_rfl) rfl zAs_one ?_)
 refine HN.out.mono ?_
 rintro e w1 ⟨rfl,hb⟩
 have HL1:=Lib.hid (HLX.out w1 hb)
 clear hb HN HLX
 obtain⟨⟨c2_0,f2_0,hw2_0⟩,hp⟩:=X0.out _ HL1.out.ps
 have HG0:=Lib.hid (HL1.out.step (KeptG.set (g:=C.g)) hp)
 clear hp X0
 clear HL1
 obtain⟨⟨v1_1_0k,_,y1_1_0k⟩,f1_1_0k⟩:=HG0.out.cell (j:=0) (by show 0<15;omega)
 have HK1_1_0:Hid (LP asX C (w) (w.heap.size+1) s1 (AT.mk 2 default default default (⟨#[]⟩:ByteArray) 0 []) _ ((w1.setCell ⟨C.g,2,none⟩ (.int .i64 ((s.nx:Int)+1))).setCell ⟨w.heap.size+1,0,none⟩ (.int .i64 2))):=Lib.hid (HG0.out.set1 (o:=0) (v:= .int .i64 2) (by show 0<15;omega) (as_ni HG0.out.tree) (fun S W h=>as_kind 2 ⟨by decide,by decide⟩ h))
 clear HG0
 go_wp2_with fail
 clear c2_0 f2_0 hw2_0 y1_1_0k f1_1_0k
 refine(H1.out _ HK1_1_0.out.ps).mono ?_
 rintro e w2 hq
 obtain⟨rfl,hp,hk⟩:=X1.out _ _ _ hq
 have HL2:=Lib.hid (HK1_1_0.out.step hk hp)
 clear hq hp hk H1 X1
 clear HK1_1_0
 go_wp2_with fail
 refine(H2.out _ HL2.out.ps).mono ?_
 rintro e w3 hq
 obtain⟨c3,rfl,l3,o3,t3,fin⟩:=X2.out _ _ _ _ HL2.out hq
 have HF3:=Lib.hid fin
 clear hq fin H2 X2
 clear HL2
 go_wp2_with (first | (refine gateS 57 47 rfl ?_;refine wpList_store_there rfl 57 _ _ rfl (w.heap.size+1) 4 rfl _ rfl (by rw[l3];kernel_rfl) o3 t3 ?_;intro w39 hst;have HL3:=Lib.hid (HF3.out _ hst);clear hst HF3))
 clear l3 o3 t3
 refine(H3.out _ HL3.out.ps).mono ?_
 rintro e w4 hq
 obtain⟨rfl,hp,hk⟩:=X3.out _ _ _ hq
 have HL4:=Lib.hid (HL3.out.step hk hp)
 clear hq hp hk H3 X3
 clear HL3
 go_wp2_with fail
 refine(H4.out _ HL4.out.ps).mono ?_
 rintro e w5 hq
 obtain⟨rfl,hb,hp,hk⟩:=X4.out _ _ _ HL4.out.ps hq
 have HM5:=Lib.hid (HL4.out.step hk hp)
 obtain⟨⟨v5,_,y5c⟩,f5c⟩:=HM5.out.cell (j:=12) (by show 12<15;omega)
 have HL5:Hid (LP asX C (w) (w.heap.size+1) s5 (AT.mk 2 default eq2 default fq4 0 []) _ (w5.setCell ⟨w.heap.size+1,12,none⟩ (.string fq4))):=Lib.hid (HM5.out.set1 (o:=12) (v:= .string fq4) (by show 12<15;omega) (as_ni HM5.out.tree) (fun S W h=>(as_field fq4 hb) h))
 clear hq hp hk hb H4 X4 HM5
 clear HL4
 go_wp2_with fail
 clear y5c f5c
 refine(H5.out _ HL5.out.ps).mono ?_
 rintro e w6 hq
 obtain⟨rfl,hp,hk⟩:=X5.out _ _ _ hq
 have HL6:=Lib.hid (HL5.out.step hk hp)
 clear hq hp hk H5 X5
 clear HL5
 go_wp2_with fail
 refine(H6.out _ HL6.out.ps).mono ?_
 rintro e w7 hq
 obtain⟨rfl,hb,hp,hk⟩:=X6.out _ _ _ HL6.out.ps hq
 have HM7:=Lib.hid (HL6.out.step hk hp)
 obtain⟨⟨v7,_,y7c⟩,f7c⟩:=HM7.out.cell (j:=13) (by show 13<15;omega)
 have HL7:Hid (LP asX C (w) (w.heap.size+1) s7 (AT.mk 2 default eq2 default fq4 nq6 []) _ (w7.setCell ⟨w.heap.size+1,13,none⟩ (.int .i64 nq6))):=Lib.hid (HM7.out.set1 (o:=13) (v:= .int .i64 nq6) (by show 13<15;omega) (as_ni HM7.out.tree) (fun S W h=>(as_n nq6 hb) h))
 clear hq hp hk hb H6 X6 HM7
 clear HL6
 obtain⟨⟨v7_7_0k,_,y7_7_0k⟩,f7_7_0k⟩:=HL7.out.cell (j:=0) (by show 0<15;omega)
 have HK7_7_0:Hid (LP asX C (w) (w.heap.size+1) s7 (AT.mk 3 default eq2 default fq4 nq6 []) _ ((w7.setCell ⟨w.heap.size+1,13,none⟩ (.int .i64 nq6)).setCell ⟨w.heap.size+1,0,none⟩ (.int .i64 3))):=Lib.hid (HL7.out.set1 (o:=0) (v:= .int .i64 3) (by show 0<15;omega) (as_ni HL7.out.tree) (fun S W h=>as_kind 3 ⟨by decide,by decide⟩ h))
 clear HL7
 go_wp2_with fail
 clear y7c f7c y7_7_0k f7_7_0k
 refine(H7.out _ HK7_7_0.out.ps).mono ?_
 rintro e w8 hq
 obtain⟨rfl,hp,hk⟩:=X7.out _ _ _ hq
 have HL8:=Lib.hid (HK7_7_0.out.step hk hp)
 clear hq hp hk H7 X7
 clear HK7_7_0
 go_wp2_with fail
 refine(H8.out _ HL8.out.ps).mono ?_
 rintro e w9 hq
 obtain⟨c9,rfl,l9,o9,t9,fin⟩:=X8.out _ _ _ _ HL8.out hq
 have HF9:=Lib.hid fin
 clear hq fin H8 X8
 clear HL8
 go_wp2_with (first | (refine gateS 57 65 rfl ?_;refine wpList_store_there rfl 57 _ _ rfl (w.heap.size+1) 8 rfl _ rfl (by rw[l9];kernel_rfl) o9 t9 ?_;intro w99 hst;have HL9:=Lib.hid (HF9.out _ hst);clear hst HF9))
 clear l9 o9 t9
 refine(H9.out _ HL9.out.ps).mono ?_
 rintro e w10 hq
 obtain⟨rfl,hp,hk⟩:=X9.out _ _ _ hq
 have HL10:=Lib.hid (HL9.out.step hk hp)
 clear hq hp hk H9 X9
 clear HL9
 obtain⟨hl9,h19,hr9,ht9,hf9⟩:=HO.out _ _ HL10.out
 have HF9:=Lib.hid hf9
 clear hf9 HL10
 go_wp2_with (first | (refine gateL 60 3 rfl ?_;refine wpList_load_mid rfl 60 _ rfl (w.heap.size+1) 0 rfl _ _ hr9 Tryz.underlying60 rfl (by rw[hl9];kernel_rfl) ?_) | (refine gateS 60 2 rfl ?_;refine wpList_store_there rfl 60 _ _ rfl w.heap.size 0 rfl _ rfl (by rw[hl9];kernel_rfl) h19 ht9 ?_;intro w9 hst))
 exact bodyPost_ret (v:=_) (results_one rfl _ _ _ _ _ rfl (Tryz.asLoad hst.at' hl9)) rfl (HF9.out _ hst)
theorem item_no (n:Nat)(C:PC)(s:PS)(w:World)(h:PSt C s w)(n0:¬dnx C.tk s=(⟨#[101,109,112]⟩:ByteArray))(n1:¬dnx C.tk s=(⟨#[91]⟩:ByteArray))(n2:¬dnx C.tk s=(⟨#[97,99,99]⟩:ByteArray))(n3:¬dnx C.tk s=(⟨#[112,116,115]⟩:ByteArray))(n4:¬dnx C.tk s=(⟨#[105,102]⟩:ByteArray))(n5:¬dnx C.tk s=(⟨#[40]⟩:ByteArray)):
 Calls Tryz.prog 67 #[C.p] w (PE (Vx asX) (ditem C.tk C.en (n+1)) C s w):=by
 have hg:=h.lt
 have hl0:=LP.fresh (sh:=asX) (t:=60) h rfl zAs_ni zAs_rel
 have HN:=Lib.hid (next_any C s _ hl0.ps)
 have HLX:Hid (∀W,Below ((w.alloc (.cells zAs.toArray 60)).alloc (.cells zAs.toArray 60)).heap.size ((w.alloc (.cells zAs.toArray 60)).alloc (.cells zAs.toArray 60)) W→LP asX C w (w.heap.size+1) s default zAs W):=fun W hb=>hl0.step (KeptG.of_below hb) (hl0.ps.up hb)
 obtain⟨s1,hs1⟩:∃s',s'=pfail C.tk C.en 11 s:=⟨_,rfl⟩
 have H0:=Lib.hid (fun W (hW:PSt C s W)=>amiss_any C s 11 W hW (by decide))
 have X0:Hid (∀W e1 W1,PU (pfail C.tk C.en 11) C s W e1 W1→e1= .returned (.tuple #[])∧PSt C s1 W1∧KeptG C.g W W1):=fun W e1 W1 hu=>by rw[hs1];exact hu
 have ed:ditem C.tk C.en (n+1) s=(default,s1):=by
  rw[ditem,if_neg n0,if_neg n1,if_neg n2,if_neg n3,if_neg n4,if_neg n5]
  subst_vars
  rfl
 have HO:=Lib.hid (fun W cs (hl:LP asX C w (w.heap.size+1) s1 default cs W)=>hl.outw (f:=ditem C.tk C.en (n+1)) ed)
 have hx0:=ne_lit [101,109,112] n0
 have hx1:=ne_lit [91] n1
 have hx2:=ne_lit [97,99,99] n2
 have hx3:=ne_lit [112,116,115] n3
 have hx4:=ne_lit [105,102] n4
 have hx5:=ne_lit [40] n5
 generalize dnx C.tk s=tx at*
 generalize PE (Vx asX) (ditem C.tk C.en (n+1)) C s w=Q at*
 clear hl0 h ed n0 n1 n2 n3 n4 n5 hs1 
 unfold PC.p at*
 go_enter Tryz.func67,Tryz.ntmps67
 go_wp2_with (refine gateS 60 3 rfl ?_;refine wpList_store_fresh (by kernel_rfl) 60 _ _ rfl _ rfl zAs rfl (by kernel_rfl) rfl zAs_one ?_)
 refine HN.out.mono ?_
 rintro e w1 ⟨rfl,hb⟩
 have HL1:=Lib.hid (HLX.out w1 hb)
 clear hb HN HLX
 go_wp2_with fail
 refine(H0.out _ HL1.out.ps).mono ?_
 rintro e w2 hq
 obtain⟨rfl,hp,hk⟩:=X0.out _ _ _ hq
 have HL2:=Lib.hid (HL1.out.step hk hp)
 clear hq hp hk H0 X0
 clear HL1
 obtain⟨hl9,h19,hr9,ht9,hf9⟩:=HO.out _ _ HL2.out
 have HF9:=Lib.hid hf9
 clear hf9 HL2
 go_wp2_with (first | (refine gateL 60 3 rfl ?_;refine wpList_load_mid rfl 60 _ rfl (w.heap.size+1) 0 rfl _ _ hr9 Tryz.underlying60 rfl (by rw[hl9];kernel_rfl) ?_) | (refine gateS 60 2 rfl ?_;refine wpList_store_there rfl 60 _ _ rfl w.heap.size 0 rfl _ rfl (by rw[hl9];kernel_rfl) h19 ht9 ?_;intro w9 hst))
 exact bodyPost_ret (v:=_) (results_one rfl _ _ _ _ _ rfl (Tryz.asLoad hst.at' hl9)) rfl (HF9.out _ hst)
end Dc
end Go.Proofs.YtcinokljkieijaaGreatDoor
