/- Parts of a proof. -/
import Derived.Test.YtcinokljkieijaaGreatDoorQ02
import Derived.Test.YtcinokljkieijaaGreatDoorQ06
import Derived.RegionTactic
import Derived.BigRegion
import Derived.Lib.QuietBelow
import Derived.BigQuiet
set_option linter.unusedVariables false
set_option linter.unusedSimpArgs false
set_option maxHeartbeats 60000000
set_option maxRecDepth 100000
namespace Go.Proofs.YtcinokljkieijaaGreatDoor
section
open Go.RowKit
def zCn:List Value:=[.int .i64 0,.slice none 0 0,.slice none 0 0]
theorem zCn_ni:∀t u,zCn[1]? ≠some (.iface t u):=fun t u e=>by cases e
theorem cn_form {S:Nat→Prop}{w:World}{cs:List Value}{x:CT}(h:cnX.rel S w cs x):∃a c u,cs=[.int .i64 x.kind,.slice a x.es.length c,u]∧i64 x.kind∧u.oneCell'=true:=by
 obtain⟨n,h⟩:=h
 cases n with
 | zero=>exact h.elim
 | succ n=>
   obtain⟨u,v,h1,h2,⟨a,c,rfl,_⟩,h4⟩:=h
   exact⟨a,c,v,h1,h2,h4.one⟩
theorem cn_ni {S:Nat→Prop}{w:World}{cs:List Value}{x:CT}(h:cnX.rel S w cs x):∃v,cs[1]? =some v∧∀t u,v≠ .iface t u:=by
 obtain⟨a,c,u,rfl,_⟩:=cn_form h
 exact⟨_,rfl,fun t u e=>by cases e⟩
theorem one3 {k:Int}{u v:Value}(hu:u.oneCell'=true)(hv:v.oneCell'=true):∀x∈([.int .i64 k,u,v]:List Value),x.oneCell'=true:=fun x hx=>by
 simp at hx;rcases hx with rfl | rfl | rfl<;>first | rfl | exact hu | exact hv
theorem Tryz.cnLoad {w:World}{h:Nat}{cs:List Value}(hr:w.rangeAt h 0 cs)(hl:cs.length=3):(loadVar 55 ⟨h,0,none⟩).run Tryz.prog w= .ok (.agg cs.toArray) w:=
 run_loadVar_mid w h 0 _ cs _ hr Tryz.underlying55 rfl (by rw[hl];kernel_rfl)
def mz (C:PC)(w:World):Nat:=match w.cell? ⟨C.g,2,none⟩with
 | some (.int _ n)=>C.tk.length - n.toNat
 | _=>0
theorem mz_eq {C:PC}{s:PS}{w:World}(h:PSt C s w):mz C w=C.tk.length - s.nx:=by
 unfold mz;rw[h.c2];simp
theorem pmay_yes {tk:List Tok}{ws:List ByteArray}{s:PS}(h:pis tk ws s=true):pmay tk ws s=(ptx tk s 0,pgo s):=by unfold pmay;rw[if_pos h]
theorem pmay_no {tk:List Tok}{ws:List ByteArray}{s:PS}(h:pis tk ws s=false):pmay tk ws s=(⟨#[]⟩,s):=by unfold pmay;rw[h];rfl
theorem pis_ne {tk:List Tok}{ws:List ByteArray}{s:PS}(h:pis tk ws s=true):¬ptx tk s 0=⟨#[]⟩:=by
 unfold pis at h
 exact of_decide_eq_true (Bool.and_eq_true_iff.1 h).1
def CondSaid (fn:Nat)(f:List Tok→Nat→PS→CT×PS)(P:PS→Prop):Prop:=∀(C:PC) (s:PS) (w:World),PSt C s w→P s→Calls Tryz.prog fn #[C.p] w (PE (Vx cnX) (f C.tk C.en) C s w)
theorem all_loop (n:Nat)(IH:CondSaid 213 (fun tk en=>pone tk en n) (Fu n))(C:PC)(s:PS)(w:World)(h:PSt C s w)(hf:Fu n s):
 Calls Tryz.prog 197 #[C.p] w (PE (Vx cnX) (pall C.tk (pone C.tk C.en n)) C s w):=by
 have hg:=h.lt
 have HC0:=Lib.hid (IH C s _ (h.alloc (.cells zCn.toArray 55)) hf)
 obtain⟨T,hT⟩:∃T,T=pall C.tk (pone C.tk C.en n) s:=⟨_,rfl⟩
 have HS:Hid (∀W1 e1,PE (Vx cnX) (pone C.tk C.en n) C s (w.alloc (.cells zCn.toArray 55)) e1 W1→∃cs:List Value,e1= .returned (.agg cs.toArray)∧cs.length=3∧(∀u∈cs,u.oneCell'=true)∧Hid (LP cnX C w W1.heap.size (pone C.tk C.en n s).2 (pone C.tk C.en n s).1 cs (W1.alloc (.cells cs.toArray 55)))):=fun W1 e1 ⟨v,a1,⟨cs,a2,a3⟩,a4,a5⟩=>⟨cs,by rw[a1,a2],cnX.len a3,cnX.one a3,LP.start hg rfl zCn_ni a4 a5 (by simpa using a3)⟩
 have hfin:∀k x s2,pbin C.tk (⟨#[38,38]⟩:ByteArray) (fun a b=>CT.mk 7 [] [a,b]) (pone C.tk C.en n) k x s2=T→(k=0→False)→pis C.tk [(⟨#[38,38]⟩:ByteArray)] s2=false→pall C.tk (pone C.tk C.en n) s=(x,s2):=fun k x s2 hk h0 hp=>by
  cases k with
  | zero=>exact(h0 rfl).elim
  | succ k=>
    unfold pbin at hk
    rw[hp]at hk
    rw[←hT,←hk];rfl
 have HF:=Lib.hid hfin
 have HMV:=Lib.hid (mv_one (tk:=C.tk) (en:=C.en) n)
 have hst0:pbin C.tk (⟨#[38,38]⟩:ByteArray) (fun a b=>CT.mk 7 [] [a,b]) (pone C.tk C.en n) (C.tk.length+1) (pone C.tk C.en n s).1 (pone C.tk C.en n s).2=T:=by rw[hT];rfl
 have HT0:=Lib.hid hst0
 have HFU:=Lib.hid (fun s2 (hi:PIn C.tk s) (m:Mv C.tk s s2)=>hf.mv hi m)
 have HI:=Lib.hid h.inv
 have m0:=Lib.hid (mv_one (tk:=C.tk) (en:=C.en) n s)
 have HEND:Hid (∀M s2 x cs wr w9 k,LP cnX C w M s2 x cs wr→Stored w.heap.size 0 cs wr w9→pbin C.tk (⟨#[38,38]⟩:ByteArray) (fun a b=>CT.mk 7 [] [a,b]) (pone C.tk C.en n) k x s2=T→(k=0→False)→pis C.tk [(⟨#[38,38]⟩:ByteArray)] s2=false→PE (Vx cnX) (pall C.tk (pone C.tk C.en n)) C s w (.returned (.agg cs.toArray)) w9):=fun M s2 x cs wr w9 k hl hst hk h0 hp=>hl.fin hst (HF.out k x s2 hk h0 hp)
 generalize PE (Vx cnX) (pall C.tk (pone C.tk C.en n)) C s w=Q at*
 clear h hf hT hst0 hfin HF
 unfold zCn at*
 go_enter Tryz.func197,Tryz.ntmps197
 go_wp2_with fail
 refine HC0.out.mono ?_
 rintro e w1 hq
 obtain⟨cs0,rfl,hl0,ho0,hlp0⟩:=HS.out _ _ hq
 clear hq HC0 HS
 have hM:w1.heap.size≠C.g:=by have:=hlp0.out.ml.1;omega
 go_wp2_with (refine gateS 55 3 rfl ?_;refine wpList_store_fresh (by kernel_rfl) 55 _ _ rfl _ rfl cs0 rfl (by rw[hl0];kernel_rfl) (by rw[hl0];rfl) ho0 ?_)
 have hM1:w.heap.size+1≤w1.heap.size:=hlp0.out.ml.1
 generalize w1.heap.size=M at*
 simp only[Act.put]
 go_loopw [8] (fun t8 wr=>∃(k:Nat) (s2:PS) (x:CT) (cs:List Value),Hid (LP cnX C w M s2 x cs wr)∧Hid (pbin C.tk (⟨#[38,38]⟩:ByteArray) (fun a b=>CT.mk 7 [] [a,b]) (pone C.tk C.en n) k x s2=T)∧Hid (Mv C.tk s s2)∧Hid (C.tk.length+1≤k+s2.nx)) (fun _ wr=>mz C wr)
 case atStart=>exact⟨_,_,_,_,hlp0,HT0.out,m0,Lib.hid (Nat.le_add_right _ _)⟩
 case round=>
  clear hlp0 HT0 m0 hl0 ho0
  obtain⟨k,s2,x,cs,hlp,hk,hmv,hfu⟩:=hrel
  obtain⟨wo,rfl⟩:∃wo:World,wo=wr:=⟨_,rfl⟩
  have HMAY:=Lib.hid (may1_any C s2 (⟨#[38,38]⟩:ByteArray) wo hlp.out.ps (by decide))
  by_cases hp:pis C.tk [(⟨#[38,38]⟩:ByteArray)] s2=true
  ·have HY:Hid (∀e1 W1,PE Vt (pmay C.tk [(⟨#[38,38]⟩:ByteArray)]) C s2 wo e1 W1→e1= .returned (.string (ptx C.tk s2 0))∧LP cnX C w M (pgo s2) x cs W1):=fun e1 W1 ⟨v,a1,a2,a3,a4⟩=>by
    have a2:v= .string (pmay C.tk [(⟨#[38,38]⟩:ByteArray)] s2).1:=a2
    rw[pmay_yes hp]at a2 a3
    exact⟨by rw[a1,a2],hlp.out.step a4 a3⟩
   obtain⟨hx1,hx2⟩:=str_empty (pis_ne hp)
   have hnx:s2.nx<C.tk.length:=(pis_inv hp).2
   have h20:s2.er=none:=(pis_inv hp).1
   have hmv3:Mv C.tk s (pgo s2):=hmv.out.trans (mv_go ⟨h20,hnx⟩)
   have HPS:=Lib.hid (fun W (hl:LP cnX C w M (pgo s2) x cs W)=>IH C (pgo s2) W.drew (hl.ps.up ⟨rfl,rfl,rfl,Nat.le_refl _,fun _ _=>rfl⟩) (HFU.out _ HI.out hmv3))
   obtain⟨a,c,u,hcs,hki,hu⟩:=cn_form hlp.out.tree
   have HX:Hid (∀W e4 W4,LP cnX C w M (pgo s2) x cs W→PE (Vx cnX) (pone C.tk C.en n) C (pgo s2) W.drew e4 W4→∃k2 a2 n2 c2 u2,e4= .returned (.agg #[.int .i64 k2,.slice a2 n2 c2,u2])∧i64 k2∧u2.oneCell'=true∧
    W4.cell? ⟨M,0,none⟩=some (.int .i64 x.kind)∧W4.cell? ⟨M,1,none⟩=some (.slice a x.es.length c)∧W4.cell? ⟨M,2,none⟩=some u∧(∀o,(W4.alloc o).cell? ⟨M,0,none⟩=some (.int .i64 x.kind)∧(W4.alloc o).cell? ⟨M,1,none⟩=some (.slice a x.es.length c)∧(W4.alloc o).cell? ⟨M,2,none⟩=some u∧(W4.alloc o).there M 0 3)∧
    ∀W9,Stored M 0 [.int .i64 7,.slice none 0 0,.slice (some ⟨W4.heap.size,0,none⟩) 2 2] (W4.alloc (.cells #[.int .i64 x.kind,.slice a x.es.length c,u,.int .i64 k2,.slice a2 n2 c2,u2] 55)) W9→LP cnX C w M (pone C.tk C.en n (pgo s2)).2 (CT.mk 7 [] [x,(pone C.tk C.en n (pgo s2)).1]) [.int .i64 7,.slice none 0 0,.slice (some ⟨W4.heap.size,0,none⟩) 2 2] W9):=fun W e4 W4 hl ⟨v,b1,⟨cs2,b2,b3⟩,b4,b5⟩=>by
    obtain⟨a2,c2,u2,hcs2,hk2,hu2⟩:=cn_form b3
    have hd:KeptG C.g W W.drew:=KeptG.drew _ _
    have hk:=hd.trans b5
    have h1:=hl.gl
    have h2:=hl.ml
    have h3:=hl.kept.size
    have hbox:=hk.range h2.2 (by omega) hl.box
    rw[hcs]at hbox
    refine⟨_,a2,_,c2,u2,by rw[b1,b2,hcs2],hk2,hu2, ?_, ?_, ?_,fun o=> ?_,fun W9 hst=> ?_⟩
    ·exact hbox 0 _ rfl
    ·exact hbox 1 _ rfl
    ·exact hbox 2 _ rfl
    ·have hka:=hk.trans (KeptG.alloc C.g W4 o)
     have hb2:=hka.range h2.2 (by omega) hl.box
     rw[hcs]at hb2
     exact⟨hb2 0 _ rfl,hb2 1 _ rfl,hb2 2 _ rfl,hka.there h2.2 (by omega) hl.th⟩
    ·refine hl.next (s1:=pgo s2) hd b5 b4 b3 (t:=55) (z:=CT.mk 7 [] [x,(pone C.tk C.en n (pgo s2)).1]) ?_ (cn_ni hl.tree) rfl (fun S W h=>cnE ⟨by decide,by decide⟩ (slot_none _ _ _) h)
     rw[hcs,hcs2]
     exact hst
   have HK2:Hid (∀s3 y cs3 W9,LP cnX C w M s3 y cs3 W9→s3=(pone C.tk C.en n (pgo s2)).2→y=CT.mk 7 [] [x,(pone C.tk C.en n (pgo s2)).1]→(∃(k:Nat) (s2:PS) (x:CT) (cs:List Value),Hid (LP cnX C w M s2 x cs W9)∧Hid (pbin C.tk (⟨#[38,38]⟩:ByteArray) (fun a b=>CT.mk 7 [] [a,b]) (pone C.tk C.en n) k x s2=T)∧Hid (Mv C.tk s s2)∧Hid (C.tk.length+1≤k+s2.nx))∧mz C W9<mz C wo):=fun s3 y cs3 W9 hl e3 ey=>by
    have hm4:=HMV.out (pgo s2)
    have hn4:s2.nx+1≤s3.nx:=by rw[e3];exact hm4.nx
    obtain⟨k,rfl⟩:∃k',k=k'+1:=⟨k - 1,by have:=hfu.out;omega⟩
    refine⟨⟨k,s3,y,cs3,hl, ?_, ?_, ?_⟩, ?_⟩
    ·have:=hk.out
     unfold pbin at this
     rw[if_pos hp]at this
     rw[e3,ey];exact this
    ·rw[e3];exact hmv3.trans hm4
    ·have:=hfu.out;show C.tk.length+1≤_;omega
    ·rw[mz_eq hl.ps,mz_eq hlp.out.ps]
     omega
   clear hlp hk hmv hfu hp hmv3 h20
   go_wp2_with fail
   refine HMAY.out.mono ?_
   rintro e w3 hq
   obtain⟨rfl,hlp3⟩:=HY.out _ _ hq
   have HP3:=Lib.hid (HPS.out w3 hlp3)
   have HX3:=Lib.hid (fun e4 W4=>HX.out w3 e4 W4 hlp3)
   have hb3:=hlp3.box
   rw[hcs]at hb3
   have q0:w3.cell? ⟨M,0,none⟩=some (.int .i64 x.kind):=hb3 0 _ rfl
   have q1:w3.cell? ⟨M,1,none⟩=some (.slice a x.es.length c):=hb3 1 _ rfl
   have q2:w3.cell? ⟨M,2,none⟩=some u:=hb3 2 _ rfl
   clear hq hlp3 HPS HX HMAY HY hb3 hcs
   go_wp2_with fail
   go_region_with (go_at_call 213;refine HP3.out.mono ?_;rintro e w4 hq;obtain⟨k2,a2,n2,c2,u2,rfl,hk2,hu2,r0,r1,r2,hth,hfin⟩:=HX3.out _ _ hq;have HF:=Lib.hid hfin;have z0:=fun o=>(hth o).1;have z1:=fun o=>(hth o).2.1;have z2:=fun o=>(hth o).2.2.1;have g0:=fun o=>((hth o).2.2.2 0 (by decide)).2;have g1:=fun o=>((hth o).2.2.2 1 (by decide)).2;have g2:=fun o=>((hth o).2.2.2 2 (by decide)).2;have HTH:=Lib.hid hth;clear hq hfin hth)
   all_goals
    have HL:=Lib.hid (HK2.out _ _ _ _ (HF.out _ (stored_sets (HTH.out _).2.2.2)) rfl rfl)
    clear HF HTH z0 z1 z2 g0 g1 g2 r0 r1 r2 HK2 q0 q1 q2 HP3 HX3 hu2 hk2 hx1 hx2 hnx hki hu HEND HFU HI HMV
    go_roundw
    case rel=>exact⟨_,_,_,_,_,_,_,_,_,HL.out.1,rfl⟩
    case measure=>exact HL.out.2
  ·have hp:=Bool.eq_false_iff.2 hp
   have HY:Hid (∀e1 W1,PE Vt (pmay C.tk [(⟨#[38,38]⟩:ByteArray)]) C s2 wo e1 W1→e1= .returned (.string ⟨#[]⟩)∧cs.length=3∧(∀u∈cs,u.oneCell'=true)∧W1.rangeAt M 0 cs∧W1.there w.heap.size 0 cs.length∧∀w9,Stored w.heap.size 0 cs W1 w9→Q (.returned (.agg cs.toArray)) w9):=fun e1 W1 ⟨v,a1,a2,a3,a4⟩=>by
    have a2:v= .string (pmay C.tk [(⟨#[38,38]⟩:ByteArray)] s2).1:=a2
    rw[pmay_no hp]at a2 a3
    have hl:=hlp.out.step a4 a3
    have hlen:cs.length=3:=hl.len
    refine⟨by rw[a1,a2],hlen,hl.one,hl.box,by rw[hlen];exact hl.res,fun w9 hst=>HEND.out M s2 x cs W1 w9 k hl hst hk.out (fun e=> ?_) hp⟩
    have:=hfu.out
    have:=hlp.out.ps.inv.nx
    omega
   clear HEND hk hmv hfu hp HFU HI HMV hlp
   go_wp2_with fail
   refine HMAY.out.mono ?_
   rintro e w3 hq
   obtain⟨rfl,hl3,h1,hb3,ht3,hfin⟩:=HY.out _ _ hq
   have HF:=Lib.hid hfin
   clear hq HMAY HY hfin
   go_wp2_with (first | (refine gateL 55 3 rfl ?_;refine wpList_load_mid rfl 55 _ rfl M 0 rfl cs _ hb3 Tryz.underlying55 rfl (by rw[hl3];kernel_rfl) ?_) | (refine gateS 55 2 rfl ?_;refine wpList_store_there rfl 55 _ _ rfl w.heap.size 0 rfl cs rfl (by rw[hl3];kernel_rfl) h1 ht3 ?_;intro w9 hst))
   exact bodyPost_ret (v:= .agg cs.toArray) (results_one rfl _ _ _ _ _ rfl (Tryz.cnLoad hst.at' hl3)) rfl (HF.out _ hst)
end
section
open Go.RowKit
theorem ex_ni {S:Nat→Prop}{w:World}{cs:List Value}{x:ET}(h:exX.rel S w cs x):∃v,cs[1]? =some v∧∀t u,v≠ .iface t u:=by
 obtain⟨u,rfl,_⟩:=ex_form h
 exact⟨_,rfl,fun t u e=>by cases e⟩
theorem expr_loop (n:Nat)(IH:ProdSaid n)(C:PC)(s:PS)(w:World)(h:PSt C s w)(hf:Fu n s):
 Calls Tryz.prog 173 #[C.p] w (PE (Vx exX) (pexpr C.tk (pprod C.tk C.en n)) C s w):=by
 have hg:=h.lt
 have HC0:=Lib.hid (IH C s _ (h.alloc (.cells zEx.toArray 57)) hf)
 obtain⟨T,hT⟩:∃T,T=pexpr C.tk (pprod C.tk C.en n) s:=⟨_,rfl⟩
 have HS:Hid (∀W1 e1,PE (Vx exX) (pprod C.tk C.en n) C s (w.alloc (.cells zEx.toArray 57)) e1 W1→∃cs:List Value,e1= .returned (.agg cs.toArray)∧cs.length=4∧(∀u∈cs,u.oneCell'=true)∧Hid (LP exX C w W1.heap.size (pprod C.tk C.en n s).2 (pprod C.tk C.en n s).1 cs (W1.alloc (.cells cs.toArray 57)))):=fun W1 e1 ⟨v,a1,⟨cs,a2,a3⟩,a4,a5⟩=>⟨cs,by rw[a1,a2],exX.len a3,exX.one a3,LP.start hg rfl zEx_ni a4 a5 (by simpa using a3)⟩
 have hfin:∀k x s2,psum C.tk (pprod C.tk C.en n) k x s2=T→(k=0→False)→pis C.tk [(⟨#[43]⟩:ByteArray),(⟨#[45]⟩:ByteArray)] s2=false→pexpr C.tk (pprod C.tk C.en n) s=(x,s2):=fun k x s2 hk h0 hp=>by
  cases k with
  | zero=>exact(h0 rfl).elim
  | succ k=>
    unfold psum at hk
    rw[hp]at hk
    rw[←hT,←hk];rfl
 have HF:=Lib.hid hfin
 have HMV:=Lib.hid (mv_prod (tk:=C.tk) (en:=C.en) n)
 have hst0:psum C.tk (pprod C.tk C.en n) (C.tk.length+1) (pprod C.tk C.en n s).1 (pprod C.tk C.en n s).2=T:=by rw[hT];rfl
 have HT0:=Lib.hid hst0
 have HFU:=Lib.hid (fun s2 (hi:PIn C.tk s) (m:Mv C.tk s s2)=>hf.mv hi m)
 have HI:=Lib.hid h.inv
 have m0:=Lib.hid (mv_prod (tk:=C.tk) (en:=C.en) n s)
 have HEND:Hid (∀M s2 x cs wr w9 k,LP exX C w M s2 x cs wr→Stored w.heap.size 0 cs wr w9→psum C.tk (pprod C.tk C.en n) k x s2=T→(k=0→False)→pis C.tk [(⟨#[43]⟩:ByteArray),(⟨#[45]⟩:ByteArray)] s2=false→PE (Vx exX) (pexpr C.tk (pprod C.tk C.en n)) C s w (.returned (.agg cs.toArray)) w9):=fun M s2 x cs wr w9 k hl hst hk h0 hp=>hl.fin hst (HF.out k x s2 hk h0 hp)
 generalize PE (Vx exX) (pexpr C.tk (pprod C.tk C.en n)) C s w=Q at*
 clear h hf hT hst0 hfin HF
 unfold zEx at*
 go_enter Tryz.func173,Tryz.ntmps173
 go_wp2_with fail
 refine HC0.out.mono ?_
 rintro e w1 hq
 obtain⟨cs0,rfl,hl0,ho0,hlp0⟩:=HS.out _ _ hq
 clear hq HC0 HS
 have hM:w1.heap.size≠C.g:=by have:=hlp0.out.ml.1;omega
 go_wp2_with (refine gateS 57 3 rfl ?_;refine wpList_store_fresh (by kernel_rfl) 57 _ _ rfl _ rfl cs0 rfl (by rw[hl0];kernel_rfl) (by rw[hl0];rfl) ho0 ?_)
 have hM1:w.heap.size+1≤w1.heap.size:=hlp0.out.ml.1
 generalize w1.heap.size=M at*
 simp only[Act.put]
 go_loopw [8,12,13,14,15,16,17,18,19,20,21,22,23] (fun t8 t12 t13 t14 t15 t16 t17 t18 t19 t20 t21 t22 t23 wr=>∃(k:Nat) (s2:PS) (x:ET) (cs:List Value),Hid (LP exX C w M s2 x cs wr)∧Hid (psum C.tk (pprod C.tk C.en n) k x s2=T)∧Hid (Mv C.tk s s2)∧Hid (C.tk.length+1≤k+s2.nx)) (fun _ _ _ _ _ _ _ _ _ _ _ _ _ wr=>mz C wr)
 case atStart=>exact⟨_,_,_,_,hlp0,HT0.out,m0,Lib.hid (Nat.le_add_right _ _)⟩
 case round=>
  clear hlp0 HT0 m0 hl0 ho0
  obtain⟨k,s2,x,cs,hlp,hk,hmv,hfu⟩:=hrel
  obtain⟨wo,rfl⟩:∃wo:World,wo=wr:=⟨_,rfl⟩
  have HMAY:=Lib.hid (may2_any C s2 (⟨#[43]⟩:ByteArray) (⟨#[45]⟩:ByteArray) wo hlp.out.ps (by decide) (by decide))
  by_cases hp:pis C.tk [(⟨#[43]⟩:ByteArray),(⟨#[45]⟩:ByteArray)] s2=true
  ·have HY:Hid (∀e1 W1,PE Vt (pmay C.tk [(⟨#[43]⟩:ByteArray),(⟨#[45]⟩:ByteArray)]) C s2 wo e1 W1→e1= .returned (.string (ptx C.tk s2 0))∧LP exX C w M (pgo s2) x cs W1):=fun e1 W1 ⟨v,a1,a2,a3,a4⟩=>by
    have a2:v= .string (pmay C.tk [(⟨#[43]⟩:ByteArray),(⟨#[45]⟩:ByteArray)] s2).1:=a2
    rw[pmay_yes hp]at a2 a3
    exact⟨by rw[a1,a2],hlp.out.step a4 a3⟩
   by_cases hop:ptx C.tk s2 0=(⟨#[43]⟩:ByteArray)
   ·have hnx:s2.nx<C.tk.length:=(pis_inv hp).2
    have h20:s2.er=none:=(pis_inv hp).1
    have hmv3:Mv C.tk s (pgo s2):=hmv.out.trans (mv_go ⟨h20,hnx⟩)
    have HPS:=Lib.hid (fun W (hl:LP exX C w M (pgo s2) x cs W)=>IH C (pgo s2) W.drew (hl.ps.up ⟨rfl,rfl,rfl,Nat.le_refl _,fun _ _=>rfl⟩) (HFU.out _ HI.out hmv3))
    obtain⟨u,hcs,_,hu⟩:=ex_form hlp.out.tree
    have HX:Hid (∀W e4 W4,LP exX C w M (pgo s2) x cs W→PE (Vx exX) (pprod C.tk C.en n) C (pgo s2) W.drew e4 W4→∃k2 m2 nm2 u2,e4= .returned (.agg #[.int .i64 k2,.int .i64 m2,.string nm2,u2])∧u2.oneCell'=true∧
     W4.cell? ⟨M,0,none⟩=some (.int .i64 x.kind)∧W4.cell? ⟨M,1,none⟩=some (.int .i64 x.n)∧W4.cell? ⟨M,2,none⟩=some (.string x.name)∧W4.cell? ⟨M,3,none⟩=some u∧(∀o,(W4.alloc o).cell? ⟨M,0,none⟩=some (.int .i64 x.kind)∧(W4.alloc o).cell? ⟨M,1,none⟩=some (.int .i64 x.n)∧(W4.alloc o).cell? ⟨M,2,none⟩=some (.string x.name)∧(W4.alloc o).cell? ⟨M,3,none⟩=some u∧(W4.alloc o).there M 0 4)∧
     ∀W9,Stored M 0 [.int .i64 2,.int .i64 0,.string ⟨#[]⟩,.slice (some ⟨W4.heap.size,0,none⟩) 2 2] (W4.alloc (.cells #[.int .i64 x.kind,.int .i64 x.n,.string x.name,u,.int .i64 k2,.int .i64 m2,.string nm2,u2] 57)) W9→LP exX C w M (pprod C.tk C.en n (pgo s2)).2 (ET.mk 2 0 (⟨#[]⟩:ByteArray) [x,(pprod C.tk C.en n (pgo s2)).1]) [.int .i64 2,.int .i64 0,.string ⟨#[]⟩,.slice (some ⟨W4.heap.size,0,none⟩) 2 2] W9):=fun W e4 W4 hl ⟨v,b1,⟨cs2,b2,b3⟩,b4,b5⟩=>by
     obtain⟨u2,hcs2,_,hu2⟩:=ex_form b3
     have hd:KeptG C.g W W.drew:=KeptG.drew _ _
     have hk:=hd.trans b5
     have h1:=hl.gl
     have h2:=hl.ml
     have h3:=hl.kept.size
     have hbox:=hk.range h2.2 (by omega) hl.box
     rw[hcs]at hbox
     refine⟨_,_,_,u2,by rw[b1,b2,hcs2],hu2, ?_, ?_, ?_, ?_,fun o=> ?_,fun W9 hst=> ?_⟩
     ·exact hbox 0 _ rfl
     ·exact hbox 1 _ rfl
     ·exact hbox 2 _ rfl
     ·exact hbox 3 _ rfl
     ·have hka:=hk.trans (KeptG.alloc C.g W4 o)
      have hb2:=hka.range h2.2 (by omega) hl.box
      rw[hcs]at hb2
      exact⟨hb2 0 _ rfl,hb2 1 _ rfl,hb2 2 _ rfl,hb2 3 _ rfl,hka.there h2.2 (by omega) hl.th⟩
     ·refine hl.next (s1:=pgo s2) hd b5 b4 b3 (t:=57) (z:=ET.mk 2 0 (⟨#[]⟩:ByteArray) [x,(pprod C.tk C.en n (pgo s2)).1]) ?_ (ex_ni hl.tree) rfl (fun S W h=>exE (k:=2) (n:=0) (nm:=(⟨#[]⟩:ByteArray)) ⟨by decide,by decide⟩ ⟨by decide,by decide⟩ (by decide) h)
      rw[hcs,hcs2]
      exact hst
    have HK2:Hid (∀s3 y cs3 W9,LP exX C w M s3 y cs3 W9→s3=(pprod C.tk C.en n (pgo s2)).2→y=ET.mk 2 0 (⟨#[]⟩:ByteArray) [x,(pprod C.tk C.en n (pgo s2)).1]→(∃(k:Nat) (s2:PS) (x:ET) (cs:List Value),Hid (LP exX C w M s2 x cs W9)∧Hid (psum C.tk (pprod C.tk C.en n) k x s2=T)∧Hid (Mv C.tk s s2)∧Hid (C.tk.length+1≤k+s2.nx))∧mz C W9<mz C wo):=fun s3 y cs3 W9 hl e3 ey=>by
     have hm4:=HMV.out (pgo s2)
     have hn4:s2.nx+1≤s3.nx:=by rw[e3];exact hm4.nx
     obtain⟨k,rfl⟩:∃k',k=k'+1:=⟨k - 1,by have:=hfu.out;omega⟩
     refine⟨⟨k,s3,y,cs3,hl, ?_, ?_, ?_⟩, ?_⟩
     ·have:=hk.out
      unfold psum at this
      rw[if_pos hp,if_pos hop]at this
      rw[e3,ey];exact this
     ·rw[e3];exact hmv3.trans hm4
     ·have:=hfu.out;show C.tk.length+1≤_;omega
     ·rw[mz_eq hl.ps,mz_eq hlp.out.ps]
      omega
    have hx1:=eq_lit [43] hop
    generalize ptx C.tk s2 0=tx at*
    clear hlp hk hmv hfu hp hmv3 h20 hop 
    go_wp2_with fail
    refine HMAY.out.mono ?_
    rintro e w3 hq
    obtain⟨rfl,hlp3⟩:=HY.out _ _ hq
    have HP3:=Lib.hid (HPS.out w3 hlp3)
    have HX3:=Lib.hid (fun e4 W4=>HX.out w3 e4 W4 hlp3)
    have hb3:=hlp3.box
    rw[hcs]at hb3
    have q0:w3.cell? ⟨M,0,none⟩=some (.int .i64 x.kind):=hb3 0 _ rfl
    have q1:w3.cell? ⟨M,1,none⟩=some (.int .i64 x.n):=hb3 1 _ rfl
    have q2:w3.cell? ⟨M,2,none⟩=some (.string x.name):=hb3 2 _ rfl
    have q3:w3.cell? ⟨M,3,none⟩=some u:=hb3 3 _ rfl
    clear hq hlp3 HPS HX HMAY HY hb3 hcs
    go_wp2_with fail
    go_region_with (go_at_call 199;refine HP3.out.mono ?_;rintro e w4 hq;obtain⟨k2,m2,nm2,u2,rfl,hu2,r0,r1,r2,r3,hth,hfin⟩:=HX3.out _ _ hq;have HF:=Lib.hid hfin;have z0:=fun o=>(hth o).1;have z1:=fun o=>(hth o).2.1;have z2:=fun o=>(hth o).2.2.1;have z3:=fun o=>(hth o).2.2.2.1;have g0:=fun o=>((hth o).2.2.2.2 0 (by decide)).2;have g1:=fun o=>((hth o).2.2.2.2 1 (by decide)).2;have g2:=fun o=>((hth o).2.2.2.2 2 (by decide)).2;have g3:=fun o=>((hth o).2.2.2.2 3 (by decide)).2;have HTH:=Lib.hid hth;clear hq hfin hth)
    all_goals
     have HL:=Lib.hid (HK2.out _ _ _ _ (HF.out _ (stored_sets (HTH.out _).2.2.2.2)) rfl rfl)
     clear HF HTH z0 z1 z2 z3 g0 g1 g2 g3 r0 r1 r2 r3 HK2 q0 q1 q2 q3 HP3 HX3 hu2 hnx hu HEND HFU HI HMV
     go_roundw
     case rel=>exact⟨_,_,_,_,_,_,_,_,_,_,_,_,_,_,_,_,_,_,HL.out.1,rfl⟩
     case measure=>exact HL.out.2
   ·have hnp:=hop
    replace hop:ptx C.tk s2 0=(⟨#[45]⟩:ByteArray):=by
     have:=hp
     unfold pis hasW at this
     simp only[Bool.and_eq_true,List.any_cons,List.any_nil,Bool.or_false,Bool.or_eq_true,decide_eq_true_eq]at this
     rcases this.2 with h | h
     ·exact absurd h.symm hnp
     ·exact h.symm
    have hnx:s2.nx<C.tk.length:=(pis_inv hp).2
    have h20:s2.er=none:=(pis_inv hp).1
    have hmv3:Mv C.tk s (pgo s2):=hmv.out.trans (mv_go ⟨h20,hnx⟩)
    have HPS:=Lib.hid (fun W (hl:LP exX C w M (pgo s2) x cs W)=>IH C (pgo s2) W.drew (hl.ps.up ⟨rfl,rfl,rfl,Nat.le_refl _,fun _ _=>rfl⟩) (HFU.out _ HI.out hmv3))
    obtain⟨u,hcs,_,hu⟩:=ex_form hlp.out.tree
    have HX:Hid (∀W e4 W4,LP exX C w M (pgo s2) x cs W→PE (Vx exX) (pprod C.tk C.en n) C (pgo s2) W.drew e4 W4→∃k2 m2 nm2 u2,e4= .returned (.agg #[.int .i64 k2,.int .i64 m2,.string nm2,u2])∧u2.oneCell'=true∧
     W4.cell? ⟨M,0,none⟩=some (.int .i64 x.kind)∧W4.cell? ⟨M,1,none⟩=some (.int .i64 x.n)∧W4.cell? ⟨M,2,none⟩=some (.string x.name)∧W4.cell? ⟨M,3,none⟩=some u∧(∀o,(W4.alloc o).cell? ⟨M,0,none⟩=some (.int .i64 x.kind)∧(W4.alloc o).cell? ⟨M,1,none⟩=some (.int .i64 x.n)∧(W4.alloc o).cell? ⟨M,2,none⟩=some (.string x.name)∧(W4.alloc o).cell? ⟨M,3,none⟩=some u∧(W4.alloc o).there M 0 4)∧
     ∀W9,Stored M 0 [.int .i64 3,.int .i64 0,.string ⟨#[]⟩,.slice (some ⟨W4.heap.size,0,none⟩) 2 2] (W4.alloc (.cells #[.int .i64 x.kind,.int .i64 x.n,.string x.name,u,.int .i64 k2,.int .i64 m2,.string nm2,u2] 57)) W9→LP exX C w M (pprod C.tk C.en n (pgo s2)).2 (ET.mk 3 0 (⟨#[]⟩:ByteArray) [x,(pprod C.tk C.en n (pgo s2)).1]) [.int .i64 3,.int .i64 0,.string ⟨#[]⟩,.slice (some ⟨W4.heap.size,0,none⟩) 2 2] W9):=fun W e4 W4 hl ⟨v,b1,⟨cs2,b2,b3⟩,b4,b5⟩=>by
     obtain⟨u2,hcs2,_,hu2⟩:=ex_form b3
     have hd:KeptG C.g W W.drew:=KeptG.drew _ _
     have hk:=hd.trans b5
     have h1:=hl.gl
     have h2:=hl.ml
     have h3:=hl.kept.size
     have hbox:=hk.range h2.2 (by omega) hl.box
     rw[hcs]at hbox
     refine⟨_,_,_,u2,by rw[b1,b2,hcs2],hu2, ?_, ?_, ?_, ?_,fun o=> ?_,fun W9 hst=> ?_⟩
     ·exact hbox 0 _ rfl
     ·exact hbox 1 _ rfl
     ·exact hbox 2 _ rfl
     ·exact hbox 3 _ rfl
     ·have hka:=hk.trans (KeptG.alloc C.g W4 o)
      have hb2:=hka.range h2.2 (by omega) hl.box
      rw[hcs]at hb2
      exact⟨hb2 0 _ rfl,hb2 1 _ rfl,hb2 2 _ rfl,hb2 3 _ rfl,hka.there h2.2 (by omega) hl.th⟩
     ·refine hl.next (s1:=pgo s2) hd b5 b4 b3 (t:=57) (z:=ET.mk 3 0 (⟨#[]⟩:ByteArray) [x,(pprod C.tk C.en n (pgo s2)).1]) ?_ (ex_ni hl.tree) rfl (fun S W h=>exE (k:=3) (n:=0) (nm:=(⟨#[]⟩:ByteArray)) ⟨by decide,by decide⟩ ⟨by decide,by decide⟩ (by decide) h)
      rw[hcs,hcs2]
      exact hst
    have HK2:Hid (∀s3 y cs3 W9,LP exX C w M s3 y cs3 W9→s3=(pprod C.tk C.en n (pgo s2)).2→y=ET.mk 3 0 (⟨#[]⟩:ByteArray) [x,(pprod C.tk C.en n (pgo s2)).1]→(∃(k:Nat) (s2:PS) (x:ET) (cs:List Value),Hid (LP exX C w M s2 x cs W9)∧Hid (psum C.tk (pprod C.tk C.en n) k x s2=T)∧Hid (Mv C.tk s s2)∧Hid (C.tk.length+1≤k+s2.nx))∧mz C W9<mz C wo):=fun s3 y cs3 W9 hl e3 ey=>by
     have hm4:=HMV.out (pgo s2)
     have hn4:s2.nx+1≤s3.nx:=by rw[e3];exact hm4.nx
     obtain⟨k,rfl⟩:∃k',k=k'+1:=⟨k - 1,by have:=hfu.out;omega⟩
     refine⟨⟨k,s3,y,cs3,hl, ?_, ?_, ?_⟩, ?_⟩
     ·have:=hk.out
      unfold psum at this
      rw[if_pos hp,if_neg hnp]at this
      rw[e3,ey];exact this
     ·rw[e3];exact hmv3.trans hm4
     ·have:=hfu.out;show C.tk.length+1≤_;omega
     ·rw[mz_eq hl.ps,mz_eq hlp.out.ps]
      omega
    have hx1:=ne_lit [43] hnp
    have hx2:=eq_lit [45] hop
    generalize ptx C.tk s2 0=tx at*
    clear hlp hk hmv hfu hp hmv3 h20 hop hnp
    go_wp2_with fail
    refine HMAY.out.mono ?_
    rintro e w3 hq
    obtain⟨rfl,hlp3⟩:=HY.out _ _ hq
    have HP3:=Lib.hid (HPS.out w3 hlp3)
    have HX3:=Lib.hid (fun e4 W4=>HX.out w3 e4 W4 hlp3)
    have hb3:=hlp3.box
    rw[hcs]at hb3
    have q0:w3.cell? ⟨M,0,none⟩=some (.int .i64 x.kind):=hb3 0 _ rfl
    have q1:w3.cell? ⟨M,1,none⟩=some (.int .i64 x.n):=hb3 1 _ rfl
    have q2:w3.cell? ⟨M,2,none⟩=some (.string x.name):=hb3 2 _ rfl
    have q3:w3.cell? ⟨M,3,none⟩=some u:=hb3 3 _ rfl
    clear hq hlp3 HPS HX HMAY HY hb3 hcs
    go_wp2_with fail
    go_region_with (go_at_call 199;refine HP3.out.mono ?_;rintro e w4 hq;obtain⟨k2,m2,nm2,u2,rfl,hu2,r0,r1,r2,r3,hth,hfin⟩:=HX3.out _ _ hq;have HF:=Lib.hid hfin;have z0:=fun o=>(hth o).1;have z1:=fun o=>(hth o).2.1;have z2:=fun o=>(hth o).2.2.1;have z3:=fun o=>(hth o).2.2.2.1;have g0:=fun o=>((hth o).2.2.2.2 0 (by decide)).2;have g1:=fun o=>((hth o).2.2.2.2 1 (by decide)).2;have g2:=fun o=>((hth o).2.2.2.2 2 (by decide)).2;have g3:=fun o=>((hth o).2.2.2.2 3 (by decide)).2;have HTH:=Lib.hid hth;clear hq hfin hth)
    all_goals
     have HL:=Lib.hid (HK2.out _ _ _ _ (HF.out _ (stored_sets (HTH.out _).2.2.2.2)) rfl rfl)
     clear HF HTH z0 z1 z2 z3 g0 g1 g2 g3 r0 r1 r2 r3 HK2 q0 q1 q2 q3 HP3 HX3 hu2 hnx hu HEND HFU HI HMV
     go_roundw
     case rel=>exact⟨_,_,_,_,_,_,_,_,_,_,_,_,_,_,_,_,_,_,HL.out.1,rfl⟩
     case measure=>exact HL.out.2
  ·have hp:=Bool.eq_false_iff.2 hp
   have HY:Hid (∀e1 W1,PE Vt (pmay C.tk [(⟨#[43]⟩:ByteArray),(⟨#[45]⟩:ByteArray)]) C s2 wo e1 W1→e1= .returned (.string ⟨#[]⟩)∧cs.length=4∧(∀u∈cs,u.oneCell'=true)∧W1.rangeAt M 0 cs∧W1.there w.heap.size 0 cs.length∧∀w9,Stored w.heap.size 0 cs W1 w9→Q (.returned (.agg cs.toArray)) w9):=fun e1 W1 ⟨v,a1,a2,a3,a4⟩=>by
    have a2:v= .string (pmay C.tk [(⟨#[43]⟩:ByteArray),(⟨#[45]⟩:ByteArray)] s2).1:=a2
    rw[pmay_no hp]at a2 a3
    have hl:=hlp.out.step a4 a3
    have hlen:cs.length=4:=hl.len
    refine⟨by rw[a1,a2],hlen,hl.one,hl.box,by rw[hlen];exact hl.res,fun w9 hst=>HEND.out M s2 x cs W1 w9 k hl hst hk.out (fun e=> ?_) hp⟩
    have:=hfu.out
    have:=hlp.out.ps.inv.nx
    omega
   clear HEND hk hmv hfu hp HFU HI HMV hlp
   go_wp2_with fail
   refine HMAY.out.mono ?_
   rintro e w3 hq
   obtain⟨rfl,hl3,h1,hb3,ht3,hfin⟩:=HY.out _ _ hq
   have HF:=Lib.hid hfin
   clear hq HMAY HY hfin
   go_wp2_with (first | (refine gateL 57 3 rfl ?_;refine wpList_load_mid rfl 57 _ rfl M 0 rfl cs _ hb3 Tryz.underlying57 rfl (by rw[hl3];kernel_rfl) ?_) | (refine gateS 57 2 rfl ?_;refine wpList_store_there rfl 57 _ _ rfl w.heap.size 0 rfl cs rfl (by rw[hl3];kernel_rfl) h1 ht3 ?_;intro w9 hst))
   exact bodyPost_ret (v:= .agg cs.toArray) (results_one rfl _ _ _ _ _ rfl (Tryz.exLoad hst.at' hl3)) rfl (HF.out _ hst)
end
section
open Go.RowKit
theorem cond_loop (n:Nat)(IH:CondSaid 197 (fun tk en=>pall tk (pone tk en n)) (Fu n))(C:PC)(s:PS)(w:World)(h:PSt C s w)(hf:Fu n s):
 Calls Tryz.prog 171 #[C.p] w (PE (Vx cnX) (pcnd C.tk (pone C.tk C.en n)) C s w):=by
 have hg:=h.lt
 have HC0:=Lib.hid (IH C s _ (h.alloc (.cells zCn.toArray 55)) hf)
 obtain⟨T,hT⟩:∃T,T=pcnd C.tk (pone C.tk C.en n) s:=⟨_,rfl⟩
 have HS:Hid (∀W1 e1,PE (Vx cnX) (pall C.tk (pone C.tk C.en n)) C s (w.alloc (.cells zCn.toArray 55)) e1 W1→∃cs:List Value,e1= .returned (.agg cs.toArray)∧cs.length=3∧(∀u∈cs,u.oneCell'=true)∧Hid (LP cnX C w W1.heap.size (pall C.tk (pone C.tk C.en n) s).2 (pall C.tk (pone C.tk C.en n) s).1 cs (W1.alloc (.cells cs.toArray 55)))):=fun W1 e1 ⟨v,a1,⟨cs,a2,a3⟩,a4,a5⟩=>⟨cs,by rw[a1,a2],cnX.len a3,cnX.one a3,LP.start hg rfl zCn_ni a4 a5 (by simpa using a3)⟩
 have hfin:∀k x s2,pbin C.tk (⟨#[124,124]⟩:ByteArray) (fun a b=>CT.mk 8 [] [a,b]) (pall C.tk (pone C.tk C.en n)) k x s2=T→(k=0→False)→pis C.tk [(⟨#[124,124]⟩:ByteArray)] s2=false→pcnd C.tk (pone C.tk C.en n) s=(x,s2):=fun k x s2 hk h0 hp=>by
  cases k with
  | zero=>exact(h0 rfl).elim
  | succ k=>
    unfold pbin at hk
    rw[hp]at hk
    rw[←hT,←hk];rfl
 have HF:=Lib.hid hfin
 have HMV:=Lib.hid (mv_all (mv_one (tk:=C.tk) (en:=C.en) n))
 have hst0:pbin C.tk (⟨#[124,124]⟩:ByteArray) (fun a b=>CT.mk 8 [] [a,b]) (pall C.tk (pone C.tk C.en n)) (C.tk.length+1) (pall C.tk (pone C.tk C.en n) s).1 (pall C.tk (pone C.tk C.en n) s).2=T:=by rw[hT];rfl
 have HT0:=Lib.hid hst0
 have HFU:=Lib.hid (fun s2 (hi:PIn C.tk s) (m:Mv C.tk s s2)=>hf.mv hi m)
 have HI:=Lib.hid h.inv
 have m0:=Lib.hid (mv_all (mv_one (tk:=C.tk) (en:=C.en) n) s)
 have HEND:Hid (∀M s2 x cs wr w9 k,LP cnX C w M s2 x cs wr→Stored w.heap.size 0 cs wr w9→pbin C.tk (⟨#[124,124]⟩:ByteArray) (fun a b=>CT.mk 8 [] [a,b]) (pall C.tk (pone C.tk C.en n)) k x s2=T→(k=0→False)→pis C.tk [(⟨#[124,124]⟩:ByteArray)] s2=false→PE (Vx cnX) (pcnd C.tk (pone C.tk C.en n)) C s w (.returned (.agg cs.toArray)) w9):=fun M s2 x cs wr w9 k hl hst hk h0 hp=>hl.fin hst (HF.out k x s2 hk h0 hp)
 generalize PE (Vx cnX) (pcnd C.tk (pone C.tk C.en n)) C s w=Q at*
 clear h hf hT hst0 hfin HF
 unfold zCn at*
 go_enter Tryz.func171,Tryz.ntmps171
 go_wp2_with fail
 refine HC0.out.mono ?_
 rintro e w1 hq
 obtain⟨cs0,rfl,hl0,ho0,hlp0⟩:=HS.out _ _ hq
 clear hq HC0 HS
 have hM:w1.heap.size≠C.g:=by have:=hlp0.out.ml.1;omega
 go_wp2_with (refine gateS 55 3 rfl ?_;refine wpList_store_fresh (by kernel_rfl) 55 _ _ rfl _ rfl cs0 rfl (by rw[hl0];kernel_rfl) (by rw[hl0];rfl) ho0 ?_)
 have hM1:w.heap.size+1≤w1.heap.size:=hlp0.out.ml.1
 generalize w1.heap.size=M at*
 simp only[Act.put]
 go_loopw [8] (fun t8 wr=>∃(k:Nat) (s2:PS) (x:CT) (cs:List Value),Hid (LP cnX C w M s2 x cs wr)∧Hid (pbin C.tk (⟨#[124,124]⟩:ByteArray) (fun a b=>CT.mk 8 [] [a,b]) (pall C.tk (pone C.tk C.en n)) k x s2=T)∧Hid (Mv C.tk s s2)∧Hid (C.tk.length+1≤k+s2.nx)) (fun _ wr=>mz C wr)
 case atStart=>exact⟨_,_,_,_,hlp0,HT0.out,m0,Lib.hid (Nat.le_add_right _ _)⟩
 case round=>
  clear hlp0 HT0 m0 hl0 ho0
  obtain⟨k,s2,x,cs,hlp,hk,hmv,hfu⟩:=hrel
  obtain⟨wo,rfl⟩:∃wo:World,wo=wr:=⟨_,rfl⟩
  have HMAY:=Lib.hid (may1_any C s2 (⟨#[124,124]⟩:ByteArray) wo hlp.out.ps (by decide))
  by_cases hp:pis C.tk [(⟨#[124,124]⟩:ByteArray)] s2=true
  ·have HY:Hid (∀e1 W1,PE Vt (pmay C.tk [(⟨#[124,124]⟩:ByteArray)]) C s2 wo e1 W1→e1= .returned (.string (ptx C.tk s2 0))∧LP cnX C w M (pgo s2) x cs W1):=fun e1 W1 ⟨v,a1,a2,a3,a4⟩=>by
    have a2:v= .string (pmay C.tk [(⟨#[124,124]⟩:ByteArray)] s2).1:=a2
    rw[pmay_yes hp]at a2 a3
    exact⟨by rw[a1,a2],hlp.out.step a4 a3⟩
   obtain⟨hx1,hx2⟩:=str_empty (pis_ne hp)
   have hnx:s2.nx<C.tk.length:=(pis_inv hp).2
   have h20:s2.er=none:=(pis_inv hp).1
   have hmv3:Mv C.tk s (pgo s2):=hmv.out.trans (mv_go ⟨h20,hnx⟩)
   have HPS:=Lib.hid (fun W (hl:LP cnX C w M (pgo s2) x cs W)=>IH C (pgo s2) W.drew (hl.ps.up ⟨rfl,rfl,rfl,Nat.le_refl _,fun _ _=>rfl⟩) (HFU.out _ HI.out hmv3))
   obtain⟨a,c,u,hcs,hki,hu⟩:=cn_form hlp.out.tree
   have HX:Hid (∀W e4 W4,LP cnX C w M (pgo s2) x cs W→PE (Vx cnX) (pall C.tk (pone C.tk C.en n)) C (pgo s2) W.drew e4 W4→∃k2 a2 n2 c2 u2,e4= .returned (.agg #[.int .i64 k2,.slice a2 n2 c2,u2])∧i64 k2∧u2.oneCell'=true∧
    W4.cell? ⟨M,0,none⟩=some (.int .i64 x.kind)∧W4.cell? ⟨M,1,none⟩=some (.slice a x.es.length c)∧W4.cell? ⟨M,2,none⟩=some u∧(∀o,(W4.alloc o).cell? ⟨M,0,none⟩=some (.int .i64 x.kind)∧(W4.alloc o).cell? ⟨M,1,none⟩=some (.slice a x.es.length c)∧(W4.alloc o).cell? ⟨M,2,none⟩=some u∧(W4.alloc o).there M 0 3)∧
    ∀W9,Stored M 0 [.int .i64 8,.slice none 0 0,.slice (some ⟨W4.heap.size,0,none⟩) 2 2] (W4.alloc (.cells #[.int .i64 x.kind,.slice a x.es.length c,u,.int .i64 k2,.slice a2 n2 c2,u2] 55)) W9→LP cnX C w M (pall C.tk (pone C.tk C.en n) (pgo s2)).2 (CT.mk 8 [] [x,(pall C.tk (pone C.tk C.en n) (pgo s2)).1]) [.int .i64 8,.slice none 0 0,.slice (some ⟨W4.heap.size,0,none⟩) 2 2] W9):=fun W e4 W4 hl ⟨v,b1,⟨cs2,b2,b3⟩,b4,b5⟩=>by
    obtain⟨a2,c2,u2,hcs2,hk2,hu2⟩:=cn_form b3
    have hd:KeptG C.g W W.drew:=KeptG.drew _ _
    have hk:=hd.trans b5
    have h1:=hl.gl
    have h2:=hl.ml
    have h3:=hl.kept.size
    have hbox:=hk.range h2.2 (by omega) hl.box
    rw[hcs]at hbox
    refine⟨_,a2,_,c2,u2,by rw[b1,b2,hcs2],hk2,hu2, ?_, ?_, ?_,fun o=> ?_,fun W9 hst=> ?_⟩
    ·exact hbox 0 _ rfl
    ·exact hbox 1 _ rfl
    ·exact hbox 2 _ rfl
    ·have hka:=hk.trans (KeptG.alloc C.g W4 o)
     have hb2:=hka.range h2.2 (by omega) hl.box
     rw[hcs]at hb2
     exact⟨hb2 0 _ rfl,hb2 1 _ rfl,hb2 2 _ rfl,hka.there h2.2 (by omega) hl.th⟩
    ·refine hl.next (s1:=pgo s2) hd b5 b4 b3 (t:=55) (z:=CT.mk 8 [] [x,(pall C.tk (pone C.tk C.en n) (pgo s2)).1]) ?_ (cn_ni hl.tree) rfl (fun S W h=>cnE ⟨by decide,by decide⟩ (slot_none _ _ _) h)
     rw[hcs,hcs2]
     exact hst
   have HK2:Hid (∀s3 y cs3 W9,LP cnX C w M s3 y cs3 W9→s3=(pall C.tk (pone C.tk C.en n) (pgo s2)).2→y=CT.mk 8 [] [x,(pall C.tk (pone C.tk C.en n) (pgo s2)).1]→(∃(k:Nat) (s2:PS) (x:CT) (cs:List Value),Hid (LP cnX C w M s2 x cs W9)∧Hid (pbin C.tk (⟨#[124,124]⟩:ByteArray) (fun a b=>CT.mk 8 [] [a,b]) (pall C.tk (pone C.tk C.en n)) k x s2=T)∧Hid (Mv C.tk s s2)∧Hid (C.tk.length+1≤k+s2.nx))∧mz C W9<mz C wo):=fun s3 y cs3 W9 hl e3 ey=>by
    have hm4:=HMV.out (pgo s2)
    have hn4:s2.nx+1≤s3.nx:=by rw[e3];exact hm4.nx
    obtain⟨k,rfl⟩:∃k',k=k'+1:=⟨k - 1,by have:=hfu.out;omega⟩
    refine⟨⟨k,s3,y,cs3,hl, ?_, ?_, ?_⟩, ?_⟩
    ·have:=hk.out
     unfold pbin at this
     rw[if_pos hp]at this
     rw[e3,ey];exact this
    ·rw[e3];exact hmv3.trans hm4
    ·have:=hfu.out;show C.tk.length+1≤_;omega
    ·rw[mz_eq hl.ps,mz_eq hlp.out.ps]
     omega
   clear hlp hk hmv hfu hp hmv3 h20
   go_wp2_with fail
   refine HMAY.out.mono ?_
   rintro e w3 hq
   obtain⟨rfl,hlp3⟩:=HY.out _ _ hq
   have HP3:=Lib.hid (HPS.out w3 hlp3)
   have HX3:=Lib.hid (fun e4 W4=>HX.out w3 e4 W4 hlp3)
   have hb3:=hlp3.box
   rw[hcs]at hb3
   have q0:w3.cell? ⟨M,0,none⟩=some (.int .i64 x.kind):=hb3 0 _ rfl
   have q1:w3.cell? ⟨M,1,none⟩=some (.slice a x.es.length c):=hb3 1 _ rfl
   have q2:w3.cell? ⟨M,2,none⟩=some u:=hb3 2 _ rfl
   clear hq hlp3 HPS HX HMAY HY hb3 hcs
   go_wp2_with fail
   go_region_with (go_at_call 197;refine HP3.out.mono ?_;rintro e w4 hq;obtain⟨k2,a2,n2,c2,u2,rfl,hk2,hu2,r0,r1,r2,hth,hfin⟩:=HX3.out _ _ hq;have HF:=Lib.hid hfin;have z0:=fun o=>(hth o).1;have z1:=fun o=>(hth o).2.1;have z2:=fun o=>(hth o).2.2.1;have g0:=fun o=>((hth o).2.2.2 0 (by decide)).2;have g1:=fun o=>((hth o).2.2.2 1 (by decide)).2;have g2:=fun o=>((hth o).2.2.2 2 (by decide)).2;have HTH:=Lib.hid hth;clear hq hfin hth)
   all_goals
    have HL:=Lib.hid (HK2.out _ _ _ _ (HF.out _ (stored_sets (HTH.out _).2.2.2)) rfl rfl)
    clear HF HTH z0 z1 z2 g0 g1 g2 r0 r1 r2 HK2 q0 q1 q2 HP3 HX3 hu2 hk2 hx1 hx2 hnx hki hu HEND HFU HI HMV
    go_roundw
    case rel=>exact⟨_,_,_,_,_,_,_,_,_,HL.out.1,rfl⟩
    case measure=>exact HL.out.2
  ·have hp:=Bool.eq_false_iff.2 hp
   have HY:Hid (∀e1 W1,PE Vt (pmay C.tk [(⟨#[124,124]⟩:ByteArray)]) C s2 wo e1 W1→e1= .returned (.string ⟨#[]⟩)∧cs.length=3∧(∀u∈cs,u.oneCell'=true)∧W1.rangeAt M 0 cs∧W1.there w.heap.size 0 cs.length∧∀w9,Stored w.heap.size 0 cs W1 w9→Q (.returned (.agg cs.toArray)) w9):=fun e1 W1 ⟨v,a1,a2,a3,a4⟩=>by
    have a2:v= .string (pmay C.tk [(⟨#[124,124]⟩:ByteArray)] s2).1:=a2
    rw[pmay_no hp]at a2 a3
    have hl:=hlp.out.step a4 a3
    have hlen:cs.length=3:=hl.len
    refine⟨by rw[a1,a2],hlen,hl.one,hl.box,by rw[hlen];exact hl.res,fun w9 hst=>HEND.out M s2 x cs W1 w9 k hl hst hk.out (fun e=> ?_) hp⟩
    have:=hfu.out
    have:=hlp.out.ps.inv.nx
    omega
   clear HEND hk hmv hfu hp HFU HI HMV hlp
   go_wp2_with fail
   refine HMAY.out.mono ?_
   rintro e w3 hq
   obtain⟨rfl,hl3,h1,hb3,ht3,hfin⟩:=HY.out _ _ hq
   have HF:=Lib.hid hfin
   clear hq HMAY HY hfin
   go_wp2_with (first | (refine gateL 55 3 rfl ?_;refine wpList_load_mid rfl 55 _ rfl M 0 rfl cs _ hb3 Tryz.underlying55 rfl (by rw[hl3];kernel_rfl) ?_) | (refine gateS 55 2 rfl ?_;refine wpList_store_there rfl 55 _ _ rfl w.heap.size 0 rfl cs rfl (by rw[hl3];kernel_rfl) h1 ht3 ?_;intro w9 hst))
   exact bodyPost_ret (v:= .agg cs.toArray) (results_one rfl _ _ _ _ _ rfl (Tryz.cnLoad hst.at' hl3)) rfl (HF.out _ hst)
end
section
open Go.RowKit
def BX {T:Type}(sh:Pak.Sh T)(B he:Nat)(W:World)(x:T):Prop:=∃cs,W.rangeAt he 0 cs∧W.there he 0 sh.k∧he<W.heap.size∧sh.rel (InN B he W) W cs x
theorem BX.kept {T:Type}{sh:Pak.Sh T}{B he g:Nat}{W W':World}{x:T}(h:BX sh B he W x)(k:KeptG g W W')(hg:g<B)(hn:he≠g):BX sh B he W' x:=by
 obtain⟨cs,h1,h2,h3,h4⟩:=h
 exact⟨cs,k.range h3 hn h1,k.there h3 hn h2,Nat.lt_of_lt_of_le h3 k.size,inN_kept h4 k hg⟩
theorem BX.new {T:Type}{sh:Pak.Sh T}{B:Nat}{w:World}{cs:List Value}{t:TypeId}{x:T}(hx:∀S W,sh.rel S W cs x)(hl:cs.length=sh.k):BX sh B w.heap.size (w.alloc (.cells cs.toArray t)) x:=
 ⟨cs,range_new _ _ _,by have:=there_new w cs t;rwa [hl]at this,by simp,hx _ _⟩
theorem bx_end {T:Type}{sh:Pak.Sh T}{f:PS→T×PS}{C:PC}{s:PS}{B he:Nat}{W W1 W9:World}{x0:T}{cs:List Value}(h0:BX sh B he W x0)(hni:∀ {S:Nat→Prop} {w:World} {cs:List Value} {x:T},sh.rel S w cs x→∃v,cs[1]? =some v∧∀t u,v≠ .iface t u)(hg:C.g<B)(hge:C.g<he)(hBW:B≤W.heap.size)
 (hx:sh.rel (InS W.heap.size W1) W1 cs (f s).1) (hp:PSt C (f s).2 W1) (hk:KeptG C.g W W1) (hst:Stored he 0 cs W1 W9):PW (BX sh B he) f C he s W (.returned (.tuple #[])) W9:=by
 obtain⟨cs0,h1,h2,h3,h4⟩:=h0
 obtain⟨v,hv,hvn⟩:=hni h4
 have hn:he≠C.g:=by omega
 have hlt:he<W1.heap.size:=Nat.lt_of_lt_of_le h3 hk.size
 refine⟨rfl,hp.far hst.far hge (fun t u e=> ?_) hp.g5,(hk.kh he).trans hst.far.kh,cs,hst.at',fun j hj=> ?_,by rw[hst.far.size];exact hlt,inN_far (inN_of (M:=he) hx hBW (.inl h3)) hst.far⟩
 ·have:=hk.range h3 hn h1 1 v hv
  rw[Nat.zero_add]at this
  rw[this]at e
  injection e with e
  exact hvn _ _ e
 ·rw[hst.fr]
  exact⟨hst.at'.isSome j (by rw[sh.len hx];exact hj),(hk.there h3 hn h2 j hj).2⟩
section
variable {F:PS→ET×PS}
theorem prodc_any (C:PC)(s:PS)(W:World)(hp he B:Nat)(x0:ET)(h:PSt C s W)(hC:∀W,PSt C s W→Calls Tryz.prog 173 #[C.p] W (PE (Vx exX) F C s W))(hcp:W.cell? ⟨hp,0,none⟩=some C.p)(h0:BX exX B he W x0)(hg:C.g<B)(hge:C.g<he)(hBW:B≤W.heap.size):
 Calls Tryz.prog 215 #[.pointer (some ⟨hp,0,none⟩),.pointer (some ⟨he,0,none⟩)] W (PW (BX exX B he) F C he s W):=by
 have HC:=Lib.hid (hC W h)
 have HE:Hid (∀e1 W1,PE (Vx exX) F C s W e1 W1→∃cs:List Value,e1= .returned (.agg cs.toArray)∧cs.length=4∧(∀u∈cs,u.oneCell'=true)∧W1.there he 0 cs.length∧∀W9,Stored he 0 cs W1 W9→PW (BX exX B he) F C he s W (.returned (.tuple #[])) W9):=fun e1 W1 ⟨v,a1,⟨cs,a2,a3⟩,a4,a5⟩=>by
  have h0':=h0
  obtain⟨_,_,b2,b3,_⟩:=h0'
  have hlen:cs.length=4:=(exX).len a3
  exact⟨cs,by rw[a1,a2],hlen,(exX).one a3,by rw[hlen];exact a5.there b3 (by omega) b2,fun W9 hst=>bx_end h0 ex_ni hg hge hBW a3 a4 a5 hst⟩
 generalize PW (BX exX B he) F C he s W=Q at*
 unfold PC.p at*
 clear h hC h0
 go_enter Tryz.func215,Tryz.ntmps215
 go_wp2_with fail
 refine HC.out.mono ?_
 rintro e w1 hq
 obtain⟨cs,rfl,hl,h1,ht,hfin⟩:=HE.out _ _ hq
 have HF:=Lib.hid hfin
 clear hq HC HE hfin
 go_wp2_with (refine gateS 57 1 rfl ?_;refine wpList_store_there rfl 57 _ _ rfl he 0 rfl cs rfl (by rw[hl];kernel_rfl) h1 ht ?_;intro w9 hst)
 have HG:=HF.out _ hst
 try go_end0
 exact HG
end
section
variable {F:PS→CT×PS}
theorem onec_any (C:PC)(s:PS)(W:World)(hp he B:Nat)(x0:CT)(h:PSt C s W)(hC:∀W,PSt C s W→Calls Tryz.prog 171 #[C.p] W (PE (Vx cnX) F C s W))(hcp:W.cell? ⟨hp,0,none⟩=some C.p)(h0:BX cnX B he W x0)(hg:C.g<B)(hge:C.g<he)(hBW:B≤W.heap.size):
 Calls Tryz.prog 221 #[.pointer (some ⟨hp,0,none⟩),.pointer (some ⟨he,0,none⟩)] W (PW (BX cnX B he) F C he s W):=by
 have HC:=Lib.hid (hC W h)
 have HE:Hid (∀e1 W1,PE (Vx cnX) F C s W e1 W1→∃cs:List Value,e1= .returned (.agg cs.toArray)∧cs.length=3∧(∀u∈cs,u.oneCell'=true)∧W1.there he 0 cs.length∧∀W9,Stored he 0 cs W1 W9→PW (BX cnX B he) F C he s W (.returned (.tuple #[])) W9):=fun e1 W1 ⟨v,a1,⟨cs,a2,a3⟩,a4,a5⟩=>by
  have h0':=h0
  obtain⟨_,_,b2,b3,_⟩:=h0'
  have hlen:cs.length=3:=(cnX).len a3
  exact⟨cs,by rw[a1,a2],hlen,(cnX).one a3,by rw[hlen];exact a5.there b3 (by omega) b2,fun W9 hst=>bx_end h0 cn_ni hg hge hBW a3 a4 a5 hst⟩
 generalize PW (BX cnX B he) F C he s W=Q at*
 unfold PC.p at*
 clear h hC h0
 go_enter Tryz.func221,Tryz.ntmps221
 go_wp2_with fail
 refine HC.out.mono ?_
 rintro e w1 hq
 obtain⟨cs,rfl,hl,h1,ht,hfin⟩:=HE.out _ _ hq
 have HF:=Lib.hid hfin
 clear hq HC HE hfin
 go_wp2_with (refine gateS 55 1 rfl ?_;refine wpList_store_there rfl 55 _ _ rfl he 0 rfl cs rfl (by rw[hl];kernel_rfl) h1 ht ?_;intro w9 hst)
 have HG:=HF.out _ hst
 try go_end0
 exact HG
end
end
section
open Go.RowKit
theorem may1_at (C:PC)(s:PS)(x:ByteArray)(w:World)(G:Nat)(hG:w.heap.size=G)(h:PSt C s w)(hx:x.size≤100):
 Calls Tryz.prog 120 #[C.p,.slice (some ⟨G,0,none⟩) 1 1] (w.alloc (.cells #[.string x] 9)) (PE Vt (pmay C.tk [x]) C s w):=by
 subst hG;exact may1_any C s x w h hx
theorem must1_at (C:PC)(s:PS)(x:ByteArray)(w:World)(G:Nat)(hG:w.heap.size=G)(h:PSt C s w)(hx:x.size≤100):
 Calls Tryz.prog 54 #[C.p,.slice (some ⟨G,0,none⟩) 1 1] (w.alloc (.cells #[.string x] 9)) (PE Vt (pmust C.tk C.en [x]) C s w):=by
 subst hG;exact must1_any C s x w h hx
theorem sh_lo {T:Type}{sh:Pak.Sh T}{B B':Nat}{w:World}{cs:List Value}{x:T}(h:sh.rel (InS B w) w cs x)(hB:B'≤B):sh.rel (InS B' w) w cs x:=
 sh.keep (fun b ⟨a1,a2⟩=>⟨Nat.le_trans hB a1,a2⟩) (fun _ _ _=>rfl) h
theorem PE.lowx {T:Type}{sh:Pak.Sh T}{f:PS→T×PS}{C:PC}{s:PS}{w w1 w':World}{e:Ending}(h:PE (Vx sh) f C s w1 e w')(hb:Below w.heap.size w w1):PE (Vx sh) f C s w e w':=
 h.low hb fun v x ⟨cs,a,b⟩=>⟨cs,a,sh_lo b hb.size⟩
theorem res_fin {T:Type}{sh:Pak.Sh T}{f F2:PS→T×PS}{C:PC}{s s2:PS}{w W1 W2:World}{z:List Value}{t:TypeId}{e2:Ending}(hp0:C.g<w.heap.size)(hzl:z.length=sh.k)(hz:∀t u,z[1]? ≠some (.iface t u))(hk:KeptG C.g (w.alloc (.cells z.toArray t)) W1)(h:PE (Vx sh) F2 C s2 W1 e2 W2)(e:f s=F2 s2):
 ∃cs:List Value,e2= .returned (.agg cs.toArray)∧cs.length=sh.k∧(∀u∈cs,u.oneCell'=true)∧W2.there w.heap.size 0 cs.length∧∀w9,Stored w.heap.size 0 cs W2 w9→PE (Vx sh) f C s w (.returned (.agg cs.toArray)) w9:=by
 obtain⟨v,a1,⟨cs,a2,a3⟩,a4,a5⟩:=h
 have hlen:=sh.len a3
 have hs:w.heap.size+1≤W1.heap.size:=by have:=hk.size;simp at this;omega
 refine⟨cs,by rw[a1,a2],hlen,sh.one a3, ?_,fun w9 hst=> ?_⟩
 ·rw[hlen,←hzl]
  exact(hk.trans a5).there (by simp) (by omega) (there_new w z t)
 ·exact box_fin hp0 (hk.trans a5) (by rw[e];exact a4) (by rw[e];exact sh_lo a3 hs) hst hz
theorem times_any (n:Nat)(IH:ProdSaid n)(C:PC)(s:PS)(sg:Int)(w:World)(h:PSt C s w)(hsg:sg=1∨sg= -1)(hf:Fu (n+1) s):
 Calls Tryz.prog 214 #[C.p,.int .i64 sg] w (PE (Vx exX) (ptimes C.tk C.en (pprod C.tk C.en n) sg) C s w):=by
 by_cases hno:pkd C.tk s=3∧ptx C.tk s 1=(⟨#[42]⟩:ByteArray)
 ·exact times_1 n IH C s sg w h hsg hf hno.1 hno.2
 ·exact times_0 C s sg _ w h hsg hno
theorem p_box {C:PC}{w W:World}{t t2:TypeId}{z:List Value}(hk:KeptG C.g ((w.alloc (.cells #[C.p] t)).alloc (.cells z.toArray t2)) W)(hg:C.g<w.heap.size):W.cell? ⟨w.heap.size,0,none⟩=some C.p:=by
 rw[hk.cell (by simp;omega) (by omega)]
 rw[World.cell?_alloc_lt _ _ _ (by simp)]
 exact(cell_of_row _ _ _ _ _ _ (heap_alloc_new w _)).trans rfl
theorem prod_a (n:Nat)(IH:ProdSaid n)(C:PC)(s:PS)(w:World)(h:PSt C s w)(hf:Fu (n+1) s)(hp:pis C.tk [(⟨#[45]⟩:ByteArray)] s=true):
 Calls Tryz.prog 199 #[C.p] w (PE (Vx exX) (pprod C.tk C.en (n+1)) C s w):=by
 have hg:=h.lt
 have hst1:=(h.alloc (.cells #[C.p] 67)).alloc (.cells zEx.toArray 57)
 have e:pprod C.tk C.en (n+1) s=ptimes C.tk C.en (pprod C.tk C.en n) (-1) (pgo s):=by
  rw[pprod];rw[if_pos hp]
 have HM:=Lib.hid (may1_at C s (⟨#[45]⟩:ByteArray) _ (w.heap.size+1+1) (by simp) hst1 (by decide))
 have mvg:Mv C.tk s (pgo s):=mv_go (pis_inv hp)
 have hfu:=hf.mv h.inv mvg
 have HY:Hid (∀e1 W1,PE Vt (pmay C.tk [(⟨#[45]⟩:ByteArray)]) C s ((w.alloc (.cells #[C.p] 67)).alloc (.cells zEx.toArray 57)) e1 W1→e1= .returned (.string (ptx C.tk s 0))∧W1.cell? ⟨w.heap.size,0,none⟩=some C.p∧KeptG C.g ((w.alloc (.cells #[C.p] 67)).alloc (.cells zEx.toArray 57)) W1∧Calls Tryz.prog 214 #[C.p,.int .i64 (-1)] W1 (PE (Vx exX) (ptimes C.tk C.en (pprod C.tk C.en n) (-1)) C (pgo s) W1)):=fun e1 W1 ⟨v,a1,a2,a3,a4⟩=>by
  have a2:v= .string (pmay C.tk [(⟨#[45]⟩:ByteArray)] s).1:=a2
  rw[pmay_yes hp]at a2 a3
  exact⟨by rw[a1,a2],p_box a4 hg,a4,times_any n IH C (pgo s) (-1) W1 a3 (.inr rfl) hfu⟩
 have HE:Hid (∀W1 e2 W2,KeptG C.g ((w.alloc (.cells #[C.p] 67)).alloc (.cells zEx.toArray 57)) W1→PE (Vx exX) (ptimes C.tk C.en (pprod C.tk C.en n) (-1)) C (pgo s) W1 e2 W2→∃cs:List Value,e2= .returned (.agg cs.toArray)∧cs.length=4∧(∀u∈cs,u.oneCell'=true)∧W2.there (w.heap.size+1) 0 cs.length∧∀w9,Stored (w.heap.size+1) 0 cs W2 w9→PE (Vx exX) (pprod C.tk C.en (n+1)) C s w (.returned (.agg cs.toArray)) w9):=fun W1 e2 W2 hk hq=>by
  obtain⟨cs,b1,b2,b3,b4,b5⟩:=res_fin (w:=w.alloc (.cells #[C.p] 67)) (z:=zEx) (f:=pprod C.tk C.en (n+1)) (s:=s) (by simp;omega) rfl zEx_ni hk hq e
  rw[show(w.alloc (.cells #[C.p] 67)).heap.size=w.heap.size+1 by simp]at b4 b5
  exact⟨cs,b1,b2,b3,b4,fun w9 hst=>(b5 w9 hst).lowx (alloc_low _ _)⟩
 obtain⟨hx1,hx2⟩:=str_empty (pis_ne hp)
 generalize PE (Vx exX) (pprod C.tk C.en (n+1)) C s w=Q at*
 generalize ptx C.tk s 0=tx at*
 clear h hf hst1 e mvg hfu hp
 unfold PC.p at*
 unfold zEx at*
 go_enter Tryz.func199,Tryz.ntmps199
 go_wp2_with fail
 refine HM.out.mono ?_
 rintro e w1 hq
 obtain⟨rfl,k0,hk,hc⟩:=HY.out _ _ hq
 have HK:=Lib.hid hk
 have HC:=Lib.hid hc
 clear hq HM HY hk hc
 go_wp2_with fail
 refine HC.out.mono ?_
 rintro e w2 hq
 obtain⟨cs,rfl,hl,h1,ht,hfin⟩:=HE.out _ _ _ HK.out hq
 have HF:=Lib.hid hfin
 clear hq HC HE HK hfin k0
 go_wp2_with (refine gateS 57 2 rfl ?_;refine wpList_store_there rfl 57 _ _ rfl (w.heap.size+1) 0 rfl cs rfl (by rw[hl];kernel_rfl) h1 ht ?_;intro w9 hst)
 exact bodyPost_ret (v:= .agg cs.toArray) (results_one rfl _ _ _ _ _ rfl (Tryz.exLoad hst.at' hl)) rfl (HF.out _ hst)
end
section
open Go.RowKit
section
variable {P:Program}
theorem wpQuiet_load_b {W0:World}{ops:Array Oper}{rest:List Oper}{o:Oper}{a:Act}{Q:Act→Prop}(ty:TypeId)(x:Operand)(ho:o.op= .load ty x)
 (g:Addr) (hx:a.eval x= .pointer (some g)) (cs:List Value) (d:TypeDesc) (hc:∀W,Below W0.heap.size W0 W→∀j v,cs[j]? =some v→W.cell? (g.add j)=some v) (hw:Region.wanted o (yielded ops a.tmps)=true)
 (hu:P.underlying ty=some d) (hd:(match d with | .struct _ | .array _ _=>true | _=>false)=true) (hi:(P.info? ty).map (·.size)=some cs.length)
 (h:wpQuiet P ops (fun w'=>∃p:Regrown,w'=Go.Sort.grow (redrawn W0 p.d) p.os) Q rest (a.put o.dst (.agg cs.toArray))):wpQuiet P ops (fun w'=>∃p:Regrown,w'=Go.Sort.grow (redrawn W0 p.d) p.os) Q (o :: rest) a:=
 BigFrame.wpQuiet_want hw fun K hK=>⟨.agg cs.toArray,fun w hC=>by
  obtain⟨p,rfl⟩:=hC
  have e:(execOp a.eval o).run P (Go.Sort.grow (redrawn W0 p.d) p.os)= .ok (.value (.agg cs.toArray)) (Go.Sort.grow (redrawn W0 p.d) p.os):=by
   unfold execOp
   simp only[ho,hx,Instr.loadAt,Instr.sureAddr,Sem.run_bind,Sem.run_pure,Result.andThen_ok,run_loadVar_list _ g ty cs d (hc _ (below_regrown W0 p.d p.os)) hu hd hi]
  unfold Oper.quietAt
  rw[e]
  exact⟨rfl,rfl⟩,hK _ h⟩
theorem wpQuiet_load_c {W0:World}{ops:Array Oper}{rest:List Oper}{o:Oper}{a:Act}{Q:Act→Prop}(ty:TypeId)(x:Operand)(ho:o.op= .load ty x)
 (g:Addr) (hx:a.eval x= .pointer (some g)) (cs:List Value) (d:TypeDesc) (hc:∀W,Below W0.heap.size W0 W→∀j v,cs[j]? =some v→W.cell? (g.add j)=some v) (hw:Region.wanted o (yielded ops a.tmps)=true)
 (hu:P.underlying ty=some d) (hd:(match d with | .struct _ | .array _ _=>true | _=>false)=true) (hi:(P.info? ty).map (·.size)=some cs.length) (a':Act) (ha:a.put o.dst (.agg cs.toArray)=a')
 (h:wpQuiet P ops (fun w'=>∃p:Regrown,w'=Go.Sort.grow (redrawn W0 p.d) p.os) Q rest a'):wpQuiet P ops (fun w'=>∃p:Regrown,w'=Go.Sort.grow (redrawn W0 p.d) p.os) Q (o :: rest) a:=
 wpQuiet_load_b ty x ho g hx cs d hc hw hu hd hi (ha ▸ h)
end
def ValAll (g:Nat)(args:Array Value)(v:Value)(w:World):Prop:=∀W,Below w.heap.size w W→Calls Tryz.prog g args W fun r w'=>r= .returned v∧Below W.heap.size W w'
theorem ValAll.at {g:Nat}{args:Array Value}{z:Value}{w W:World}(h:ValAll g args z w)(hb:Below w.heap.size w W):Calls Tryz.prog g args W fun r w'=>r= .returned z∧Below W.heap.size W w':=h W hb
theorem ValAll.reg {g:Nat}{args:Array Value}{z:Value}{w:World}(h:ValAll g args z w)(d:Nat)(os:Array Obj):Calls Tryz.prog g args (Go.Sort.grow (redrawn w d) os) fun e w''=>e= .returned z∧∃p:Regrown,w''=Go.Sort.grow (redrawn w p.d) p.os:=
 Calls.regrown_of (h _ (below_regrown w d os))
def SameT {T:Type}(fn:Nat)(sh:Pak.Sh T):Prop:=∀(x:T) (w:World) (cs ds:List Value),sh.rel (Pak.Lo w.heap.size) w cs x→sh.rel (Pak.Lo w.heap.size) w ds x→ValAll fn #[.agg cs.toArray,.agg ds.toArray] (.bool true) w
def SameL {T:Type}(fn:Nat)(sh:Pak.Sh T):Prop:=∀(xs:List T) (a b:Option Addr) (c1 c2:Nat) (w:World),Pak.Sits sh (Pak.Lo w.heap.size) w a xs→Pak.Sits sh (Pak.Lo w.heap.size) w b xs→ValAll fn #[.slice a xs.length c1,.slice b xs.length c2] (.bool true) w
theorem lo_up {T:Type}{sh:Pak.Sh T}{w W:World}{cs:List Value}{x:T}(h:sh.rel (Pak.Lo w.heap.size) w cs x)(hb:Below w.heap.size w W):sh.rel (Pak.Lo W.heap.size) W cs x:=
 sh.keep (fun b (h:b<w.heap.size)=>Nat.lt_of_lt_of_le h hb.size) (fun b o (h:b<w.heap.size)=>hb.cell (p:=⟨b,o,none⟩) h) h
theorem lo_cells {w:World}{b off k:Nat}{cs:List Value}(hb:b<w.heap.size)(hc:∀j u,cs[j]? =some u→w.cell? ⟨b,off+k+j,none⟩=some u):∀W,Below w.heap.size w W→∀j v,cs[j]? =some v→W.cell? ((⟨b,off+k,none⟩:Addr).add j)=some v:=fun W h j v hv=>by
 rw[show(⟨b,off+k,none⟩:Addr).add j=⟨b,off+k+j,none⟩ by unfold Addr.add;split<;>simp_all]
 exact(h.cell (p:=⟨b,off+k+j,none⟩) hb).trans (hc j v hv)
theorem sameWords_all:SameL 30 strSh:=fun xs a b c1 c2 w h1 h2 W hW=>by
 have H1:=Lib.hid (h1.below hW hW.size)
 have H2:=Lib.hid (h2.below hW hW.size)
 have hm:=h1.1
 clear h1 h2 hW
 obtain⟨m,hmx⟩:∃m,m=xs.length:=⟨_,rfl⟩
 have HM:=Lib.hid hmx
 rw[←hmx]at hm⊢
 clear hmx
 go_enter Tryz.func30,Tryz.ntmps30
 go_wp2_with fail
 go_loopw [5] (fun i wr=>∃j:Nat,j≤m∧i= .int .i64 j∧Hid (Below W.heap.size W wr)) (fun i _=>m - (intOf i).toNat)
 case atStart=>exact⟨0,Nat.zero_le _,rfl,Below.refl _ _⟩
 case round=>
  obtain⟨j,hj,rfl,hb⟩:=hrel
  obtain⟨wo,rfl⟩:∃wo:World,wo=wr:=⟨_,rfl⟩
  by_cases hlt:j<m
  ·have hlx:j<xs.length:=by rw[←HM.out];exact hlt
   obtain⟨b1,o1,cs,rfl,hb1,hc1,rfl,hs1⟩:=(H1.out.below hb.out hb.out.size).2 j hlx
   obtain⟨b2,o2,ds,rfl,hb2,hc2,rfl,hs2⟩:=(H2.out.below hb.out hb.out.size).2 j hlx
   have g1:=hc1 0 _ rfl
   have g2:=hc2 0 _ rfl
   rw[show strSh.k=1 from rfl,Nat.mul_one,Nat.add_zero]at g1 g2
   have hji:(0:Int)≤(j:Int)∧(j:Int)<(m:Int):=by omega
   have HB:=Lib.hid hb.out
   have HB2:Hid (∀n,Below W.heap.size W (wo.drewN n)):=fun n=>hb.out.trans ⟨rfl,rfl,rfl,Nat.le_refl _,fun _ _=>rfl⟩
   generalize xs[j]=z at g1 g2
   clear hc1 hc2 hs1 hs2 hb
   go_wp2_with fail
   go_quiet (fail)
   go_wp2_with fail
   go_roundw
   case rel=>exact⟨j+1,by omega,by go_num,HB2.out _⟩
   case measure=>simp[intOf];omega
  ·obtain rfl:j=m:=by omega
   go_wp2_with fail
   go_ret
   exact⟨rfl,hb.out⟩
end
end Go.Proofs.YtcinokljkieijaaGreatDoor
