/- Parts of a proof. -/
import Derived.Test.YtcinokljkieijaaGreatDoorW01
import Derived.Test.YtcinokljkieijaaGreatDoorW03
import Derived.Test.YtcinokljkieijaaGreatDoorW04
import Derived.Test.YtcinokljkieijaaGreatDoorQ08
import Derived.BigQuiet
set_option linter.unusedVariables false
set_option linter.unusedSimpArgs false
set_option maxHeartbeats 60000000
set_option maxRecDepth 100000
namespace Go.Proofs.YtcinokljkieijaaGreatDoor
namespace Dc
open Go.RowKit
theorem ex_open {S:Nat→Prop}{w:World}{cs:List Value}{x:ET}(h:exX.rel S w cs x):∃a m c,cs=[.int .i64 x.kind,.int .i64 x.n,.string x.name,.slice a m c]∧(i64 x.kind∧i64 x.n∧x.name.size≤maxLen):=by
 obtain⟨n,h⟩:=h
 cases n with
 | zero=>exact h.elim
 | succ n=>
   obtain⟨v,h1,h2,⟨a,c,rfl,_⟩⟩:=h
   exact⟨a,_,c,h1,h2⟩
def ProdSaid (n:Nat):Prop:=∀(C:PC) (s:PS) (w:World),PSt C s w→Fd n s→Calls Tryz.prog 181 #[C.p] w (PE (Vx exX) (dprod C.tk C.en n) C s w)
theorem md_prod {C:PC}{s:PS}{w:World}(h:PSt C s w)(n:Nat):Md C.tk s (dprod C.tk C.en n s).2:=md_of (ag_prod h.sh n (Sq.same h.ok)) (mv_prod n s)
theorem md_go {C:PC}{s:PS}(h:s.er=none):Md C.tk s (pgo s):=⟨fun e=>absurd h e,fun _=>⟨h,Nat.le_succ _,rfl⟩⟩
theorem PSt.go {C:PC}{s:PS}{W:World}(h:PSt C s W)(h0:s.er=none)(hn:s.nx<C.tk.length):PSt C (pgo s) (W.setCell ⟨C.g,2,none⟩ (.int .i64 ((s.nx:Int)+1))):=h.set2 (pgo s) ⟨rfl,rfl⟩ _ (fun _=>⟨rfl,hn⟩)
theorem two_wrap {C:PC}{s:PS}{W:World}(h:PSt C s W)(h0:s.er=none):W.cell? ⟨C.g,2,none⟩=some (.int .i64 s.nx)∧W.frozen? ⟨C.g,2,none⟩=false∧IntKind.i64.wrap ((s.nx:Int)+1)=(s.nx:Int)+1:=by
 have:=h.len.1
 have:=(h.inv h0).2.2
 exact⟨h.two h0,h.fr 2,IntWalk.i64_in _ (by omega)⟩
theorem expr_loop (n:Nat)(IH:ProdSaid n)(C:PC)(s:PS)(w:World)(h:PSt C s w)(hf:Fd n s):
 Calls Tryz.prog 126 #[C.p] w (PE (Vx exX) (dexpr C.tk (dprod C.tk C.en n)) C s w):=by
 have hg:=h.lt
 have HC0:=Lib.hid (IH C s _ (h.alloc (.cells zEx.toArray 57)) hf)
 obtain⟨T,hT⟩:∃T,T=dexpr C.tk (dprod C.tk C.en n) s:=⟨_,rfl⟩
 have HS:Hid (∀W1 e1,PE (Vx exX) (dprod C.tk C.en n) C s (w.alloc (.cells zEx.toArray 57)) e1 W1→∃cs:List Value,e1= .returned (.agg cs.toArray)∧cs.length=4∧(∀u∈cs,u.oneCell'=true)∧Hid (LP exX C w W1.heap.size (dprod C.tk C.en n s).2 (dprod C.tk C.en n s).1 cs (W1.alloc (.cells cs.toArray 57)))):=fun W1 e1 ⟨v,a1,⟨cs,a2,a3⟩,a4,a5⟩=>⟨cs,by rw[a1,a2],exX.len a3,exX.one a3,LP.start hg rfl zEx_ni a4 a5 (by simpa using a3)⟩
 have hfin:∀k x s2,dsum C.tk (dprod C.tk C.en n) k x s2=T→(k=0→False)→¬(dnx C.tk s2=(⟨#[43]⟩:ByteArray)∨dnx C.tk s2=(⟨#[45]⟩:ByteArray))→dexpr C.tk (dprod C.tk C.en n) s=(x,s2):=fun k x s2 hk h0 hp=>by
  cases k with
  | zero=>exact(h0 rfl).elim
  | succ k=>
    unfold dsum at hk
    rw[if_neg hp]at hk
    rw[←hT,←hk]
 have HF:=Lib.hid hfin
 have hst0:dsum C.tk (dprod C.tk C.en n) (C.tk.length+1) (dprod C.tk C.en n s).1 (dprod C.tk C.en n s).2=T:=by rw[hT];rfl
 have HT0:=Lib.hid hst0
 have HFU:=Lib.hid (fun s2 (m:Md C.tk s s2)=>hf.mv m)
 have m0:=Lib.hid (md_prod h n)
 have HEND:Hid (∀M s2 x cs wr w9 k,LP exX C w M s2 x cs wr→Stored w.heap.size 0 cs wr w9→dsum C.tk (dprod C.tk C.en n) k x s2=T→(k=0→False)→¬(dnx C.tk s2=(⟨#[43]⟩:ByteArray)∨dnx C.tk s2=(⟨#[45]⟩:ByteArray))→PE (Vx exX) (dexpr C.tk (dprod C.tk C.en n)) C s w (.returned (.agg cs.toArray)) w9):=fun M s2 x cs wr w9 k hl hst hk h0 hp=>hl.fin hst (HF.out k x s2 hk h0 hp)
 generalize PE (Vx exX) (dexpr C.tk (dprod C.tk C.en n)) C s w=Q at*
 clear h hf hT hst0 hfin HF
 unfold zEx at*
 go_enter Tryz.func126,Tryz.ntmps126
 go_wp2_with fail
 refine HC0.out.mono ?_
 rintro e w1 hq
 obtain⟨cs0,rfl,hl0,ho0,hlp0⟩:=HS.out _ _ hq
 clear hq HC0 HS
 have hM:w1.heap.size≠C.g:=by have:=hlp0.out.ml.1;omega
 go_wp2_with (refine gateS 57 3 rfl ?_;refine wpList_store_fresh (by kernel_rfl) 57 _ _ rfl _ rfl cs0 rfl (by rw[hl0];kernel_rfl) (by rw[hl0];rfl) ho0 ?_)
 have hM1:w.heap.size+1≤w1.heap.size:=hlp0.out.ml.1
 generalize w1.heap.size=M at*
 simp only[Act.put]
 go_loopw [] (fun wr=>∃(k:Nat) (s2:PS) (x:ET) (cs:List Value),Hid (LP exX C w M s2 x cs wr)∧Hid (dsum C.tk (dprod C.tk C.en n) k x s2=T)∧Hid (Md C.tk s s2)∧Hid (1≤k∧(s2.er=none→C.tk.length+1≤k+s2.nx))) (fun wr=>mz C wr)
 case atStart=>exact⟨_,_,_,_,hlp0,HT0.out,m0,Lib.hid ⟨Nat.succ_le_succ (Nat.zero_le _),fun _=>Nat.le_add_right _ _⟩⟩
 case round=>
  clear hlp0 HT0 m0 hl0 ho0
  obtain⟨k,s2,x,cs,hlp,hk,hmv,hfu⟩:=hrel
  obtain⟨wo,rfl⟩:∃wo:World,wo=wr:=⟨_,rfl⟩
  have HN:=Lib.hid (next_any C s2 wo hlp.out.ps)
  by_cases hp:dnx C.tk s2=(⟨#[43]⟩:ByteArray)∨dnx C.tk s2=(⟨#[45]⟩:ByteArray)
  ·obtain⟨h20,hnx⟩:=dnx_inv (tk:=C.tk) (s:=s2) (by rcases hp with e | e<;>rw[e]<;>decide)
   have hmv3:Md C.tk s (pgo s2):=hmv.out.trans (md_go h20)
   have HG:Hid (∀W,Below wo.heap.size wo W→(W.cell? ⟨C.g,2,none⟩=some (.int .i64 s2.nx)∧W.frozen? ⟨C.g,2,none⟩=false∧IntKind.i64.wrap ((s2.nx:Int)+1)=(s2.nx:Int)+1)∧LP exX C w M (pgo s2) x cs (W.setCell ⟨C.g,2,none⟩ (.int .i64 ((s2.nx:Int)+1)))):=fun W hb=>by
    have hW:=hlp.out.ps.up hb
    exact⟨two_wrap hW h20,hlp.out.step ((KeptG.of_below hb).trans KeptG.set) (hW.go h20 hnx)⟩
   have HPS:=Lib.hid (fun W (hl:LP exX C w M (pgo s2) x cs W)=>IH C (pgo s2) W hl.ps (HFU.out _ hmv3))
   obtain⟨ua,um,uc,hcs,_⟩:=ex_open hlp.out.tree
   have HX:Hid (∀(kd:Int),i64 kd→∀W e4 W4,LP exX C w M (pgo s2) x cs W→PE (Vx exX) (dprod C.tk C.en n) C (pgo s2) W e4 W4→∃k2 m2 nm2 va vm vc,e4= .returned (.agg #[.int .i64 k2,.int .i64 m2,.string nm2,.slice va vm vc])∧W4.heap.size≠M∧
    (∀o,(W4.alloc o).cell? ⟨M,0,none⟩=some (.int .i64 x.kind)∧(W4.alloc o).cell? ⟨M,1,none⟩=some (.int .i64 x.n)∧(W4.alloc o).cell? ⟨M,2,none⟩=some (.string x.name)∧(W4.alloc o).cell? ⟨M,3,none⟩=some (.slice ua um uc))∧(∀o1 o2,((W4.alloc o1).alloc o2).there M 0 4)∧
    ∀W9,Stored M 0 [.int .i64 kd,.int .i64 0,.string ⟨#[]⟩,.slice (some ⟨W4.heap.size+1,0,none⟩) 2 2] ((W4.alloc (.cells #[.int .i64 k2,.int .i64 m2,.string nm2,.slice va vm vc] 57)).alloc (.cells #[.int .i64 x.kind,.int .i64 x.n,.string x.name,.slice ua um uc,.int .i64 k2,.int .i64 m2,.string nm2,.slice va vm vc] 57)) W9→LP exX C w M (dprod C.tk C.en n (pgo s2)).2 (ET.mk kd 0 (⟨#[]⟩:ByteArray) [x,(dprod C.tk C.en n (pgo s2)).1]) [.int .i64 kd,.int .i64 0,.string ⟨#[]⟩,.slice (some ⟨W4.heap.size+1,0,none⟩) 2 2] W9):=fun kd hkd W e4 W4 hl ⟨v,b1,⟨cs2,b2,b3⟩,b4,b5⟩=>by
    obtain⟨va,vm,vc,hcs2,_⟩:=ex_open b3
    have h1:=hl.gl
    have h2:=hl.ml
    have h3:=hl.kept.size
    have h5:=b5.size
    refine⟨_,_,_,va,vm,vc,by rw[b1,b2,hcs2],by omega,fun o=> ?_,fun o1 o2=> ?_,fun W9 hst=> ?_⟩
    ·have hb2:=(b5.trans (KeptG.alloc C.g W4 o)).range h2.2 (by omega) hl.box
     rw[hcs]at hb2
     exact⟨hb2 0 _ rfl,hb2 1 _ rfl,hb2 2 _ rfl,hb2 3 _ rfl⟩
    ·exact((b5.trans (KeptG.alloc C.g W4 o1)).trans (KeptG.alloc C.g _ o2)).there h2.2 (by omega) hl.th
    ·have ka:KeptG C.g W4 (W4.alloc (.cells #[.int .i64 (dprod C.tk C.en n (pgo s2)).1.kind,.int .i64 (dprod C.tk C.en n (pgo s2)).1.n,.string (dprod C.tk C.en n (pgo s2)).1.name,.slice va vm vc] 57)):=KeptG.alloc _ _ _
     have hsz:(W4.alloc (.cells #[.int .i64 (dprod C.tk C.en n (pgo s2)).1.kind,.int .i64 (dprod C.tk C.en n (pgo s2)).1.n,.string (dprod C.tk C.en n (pgo s2)).1.name,.slice va vm vc] 57)).heap.size=W4.heap.size+1:=by simp
     rw[←hsz]
     rw[←hsz]at hst
     refine hl.next (s1:=pgo s2) (KeptG.refl _ _) (b5.trans ka) (b4.alloc _) (sh_hi b3 (ka.hi (B:=W.heap.size) (by omega)) (Nat.le_refl _)) (t:=57) (z:=ET.mk kd 0 (⟨#[]⟩:ByteArray) [x,(dprod C.tk C.en n (pgo s2)).1]) ?_ (ex_ni hl.tree) rfl (fun S W h=>exE (k:=kd) (n:=0) (nm:=(⟨#[]⟩:ByteArray)) hkd ⟨by decide,by decide⟩ (by decide) h)
     rw[hcs,hcs2]
     exact hst
   have HK2:Hid (∀s3 y cs3 W9,LP exX C w M s3 y cs3 W9→s3=(dprod C.tk C.en n (pgo s2)).2→y=ET.mk (if dnx C.tk s2=(⟨#[45]⟩:ByteArray) then 3 else 2) 0 (⟨#[]⟩:ByteArray) [x,(dprod C.tk C.en n (pgo s2)).1]→(∃(k:Nat) (s2:PS) (x:ET) (cs:List Value),Hid (LP exX C w M s2 x cs W9)∧Hid (dsum C.tk (dprod C.tk C.en n) k x s2=T)∧Hid (Md C.tk s s2)∧Hid (1≤k∧(s2.er=none→C.tk.length+1≤k+s2.nx)))∧mz C W9<mz C wo):=fun s3 y cs3 W9 hl e3 ey=>by
    have hG:=HG.out wo (Below.refl _ _)
    have hm4:Md C.tk (pgo s2) s3:=by rw[e3];exact md_prod hG.2.ps n
    have hnn:s3.er=none→s2.nx+1≤s3.nx:=fun e=>(hm4.nx e).2.1
    have hfk:=hfu.out.2 h20
    have hk1:2≤k:=by omega
    obtain⟨k,rfl⟩:∃k',k=k'+1:=⟨k - 1,by omega⟩
    refine⟨⟨k,s3,y,cs3,hl, ?_, ?_, ?_⟩,mz_less hlp.out.ps h20 hl.ps (fun e=>by have:=hnn e;omega)⟩
    ·have:=hk.out
     unfold dsum at this
     rw[if_pos hp]at this
     rw[e3,ey];exact this
    ·exact hmv3.trans hm4
    ·exact⟨by omega,fun e=>by have:=hnn e;omega⟩
   rcases hp with hop | hop
   ·have hx1:=eq_lit [43] hop
    have hx2:((dnx C.tk s2).toList == [45])=false:=ne_lit [45] (by rw[hop];decide)
    have HK3:Hid (∀s3 y cs3 W9,LP exX C w M s3 y cs3 W9→s3=(dprod C.tk C.en n (pgo s2)).2→y=ET.mk 2 0 (⟨#[]⟩:ByteArray) [x,(dprod C.tk C.en n (pgo s2)).1]→(∃(k:Nat) (s2:PS) (x:ET) (cs:List Value),Hid (LP exX C w M s2 x cs W9)∧Hid (dsum C.tk (dprod C.tk C.en n) k x s2=T)∧Hid (Md C.tk s s2)∧Hid (1≤k∧(s2.er=none→C.tk.length+1≤k+s2.nx)))∧mz C W9<mz C wo):=fun s3 y cs3 W9 hl e3 ey=>HK2.out s3 y cs3 W9 hl e3 (by rw[ey,hop];rfl)
    have HX9:=Lib.hid (HX.out 2 ⟨by decide,by decide⟩)
    generalize dnx C.tk s2=tx at*
    clear hlp hk hmv hfu hmv3 h20 hop HK2 HX hnx
    go_wp2_with fail
    refine HN.out.mono ?_
    rintro e w3 ⟨rfl,hb⟩
    obtain⟨⟨c2,f2,hw2⟩,hlp3⟩:=HG.out w3 hb
    have HP3:=Lib.hid (HPS.out _ hlp3)
    have HX3:=Lib.hid (fun e4 W4=>HX9.out _ e4 W4 hlp3)
    clear hb hlp3 HPS HX9 HN HG
    go_wp2_with fail
    refine HP3.out.mono ?_
    rintro e w4 hq
    obtain⟨k2,m2,nm2,va,vm,vc,rfl,hne4,hz,hth,hfin⟩:=HX3.out _ _ hq
    have HF:=Lib.hid hfin
    have z0:=fun o=>(hz o).1
    have z1:=fun o=>(hz o).2.1
    have z2:=fun o=>(hz o).2.2.1
    have z3:=fun o=>(hz o).2.2.2
    have HTH:=Lib.hid hth
    clear hq hfin hth hz HX3 HP3 c2 f2
    go_wp2_with (refine gateS 57 3 rfl ?_;refine wpList_store_there rfl 57 _ _ rfl M 0 rfl [.int .i64 2,.int .i64 0,.string ⟨#[]⟩,.slice (some ⟨w4.heap.size+1,0,none⟩) 2 2] rfl (by kernel_rfl) (one4 rfl) (HTH.out _ _) ?_;intro w9 hst)
    have HL:=Lib.hid (HK3.out _ _ _ _ (HF.out _ hst) rfl rfl)
    clear HF HTH z0 z1 z2 z3 HK3 HEND HFU hst
    go_roundw
    case rel=>first | exact HL.out.1 | ((repeat apply Exists.intro);exact⟨HL.out.1,rfl⟩)
    case measure=>exact HL.out.2
   ·have hx1:=eq_lit [45] hop
    have hx2:((dnx C.tk s2).toList == [43])=false:=ne_lit [43] (by rw[hop];decide)
    have HK3:Hid (∀s3 y cs3 W9,LP exX C w M s3 y cs3 W9→s3=(dprod C.tk C.en n (pgo s2)).2→y=ET.mk 3 0 (⟨#[]⟩:ByteArray) [x,(dprod C.tk C.en n (pgo s2)).1]→(∃(k:Nat) (s2:PS) (x:ET) (cs:List Value),Hid (LP exX C w M s2 x cs W9)∧Hid (dsum C.tk (dprod C.tk C.en n) k x s2=T)∧Hid (Md C.tk s s2)∧Hid (1≤k∧(s2.er=none→C.tk.length+1≤k+s2.nx)))∧mz C W9<mz C wo):=fun s3 y cs3 W9 hl e3 ey=>HK2.out s3 y cs3 W9 hl e3 (by rw[ey,hop];rfl)
    have HX9:=Lib.hid (HX.out 3 ⟨by decide,by decide⟩)
    generalize dnx C.tk s2=tx at*
    clear hlp hk hmv hfu hmv3 h20 hop HK2 HX hnx
    go_wp2_with fail
    refine HN.out.mono ?_
    rintro e w3 ⟨rfl,hb⟩
    obtain⟨⟨c2,f2,hw2⟩,hlp3⟩:=HG.out w3 hb
    have HP3:=Lib.hid (HPS.out _ hlp3)
    have HX3:=Lib.hid (fun e4 W4=>HX9.out _ e4 W4 hlp3)
    clear hb hlp3 HPS HX9 HN HG
    go_wp2_with fail
    refine HP3.out.mono ?_
    rintro e w4 hq
    obtain⟨k2,m2,nm2,va,vm,vc,rfl,hne4,hz,hth,hfin⟩:=HX3.out _ _ hq
    have HF:=Lib.hid hfin
    have z0:=fun o=>(hz o).1
    have z1:=fun o=>(hz o).2.1
    have z2:=fun o=>(hz o).2.2.1
    have z3:=fun o=>(hz o).2.2.2
    have HTH:=Lib.hid hth
    clear hq hfin hth hz HX3 HP3 c2 f2
    go_wp2_with (refine gateS 57 3 rfl ?_;refine wpList_store_there rfl 57 _ _ rfl M 0 rfl [.int .i64 3,.int .i64 0,.string ⟨#[]⟩,.slice (some ⟨w4.heap.size+1,0,none⟩) 2 2] rfl (by kernel_rfl) (one4 rfl) (HTH.out _ _) ?_;intro w9 hst)
    have HL:=Lib.hid (HK3.out _ _ _ _ (HF.out _ hst) rfl rfl)
    clear HF HTH z0 z1 z2 z3 HK3 HEND HFU hst
    go_roundw
    case rel=>first | exact HL.out.1 | ((repeat apply Exists.intro);exact⟨HL.out.1,rfl⟩)
    case measure=>exact HL.out.2
  ·have hx1:=ne_lit [43] (fun e=>hp (.inl e))
   have hx2:=ne_lit [45] (fun e=>hp (.inr e))
   have HL:Hid (∀W,Below wo.heap.size wo W→LP exX C w M s2 x cs W):=fun W hb=>hlp.out.step (KeptG.of_below hb) (hlp.out.ps.up hb)
   obtain⟨ua,um,uc,hcs,_⟩:=ex_open hlp.out.tree
   have HE9:=Lib.hid (fun wr w9 hl hst=>HEND.out M s2 x cs wr w9 k hl hst hk.out (fun e=>by have:=hfu.out.1;omega) hp)
   rw[hcs]at HE9 HL
   clear hlp hk hmv hfu hp HEND HFU hcs
   generalize dnx C.tk s2=tx at*
   go_wp2_with fail
   refine HN.out.mono ?_
   rintro e w3 ⟨rfl,hb⟩
   have hl3:=HL.out w3 hb
   have q0:w3.cell? ⟨M,0,none⟩=some (.int .i64 x.kind):=hl3.box 0 _ rfl
   have q1:w3.cell? ⟨M,1,none⟩=some (.int .i64 x.n):=hl3.box 1 _ rfl
   have q2:w3.cell? ⟨M,2,none⟩=some (.string x.name):=hl3.box 2 _ rfl
   have q3:w3.cell? ⟨M,3,none⟩=some (.slice ua um uc):=hl3.box 3 _ rfl
   have HL3:=Lib.hid hl3
   clear hb hl3 HL HN
   go_wp2_with (refine gateS 57 2 rfl ?_;refine wpList_store_there rfl 57 _ _ rfl w.heap.size 0 rfl [.int .i64 x.kind,.int .i64 x.n,.string x.name,.slice ua um uc] rfl (by kernel_rfl) (one4 rfl) HL3.out.res ?_;intro w9 hst)
   exact bodyPost_ret (v:= .agg #[.int .i64 x.kind,.int .i64 x.n,.string x.name,.slice ua um uc]) (results_one rfl _ _ _ _ _ rfl (Tryz.exLoad hst.at' rfl)) rfl (HE9.out _ _ HL3.out hst)
end Dc
namespace Dc
open Go.RowKit
theorem PSt.drewN {C:PC}{s:PS}{W:World}(h:PSt C s W)(n:Nat):PSt C s (W.drewN n):=h.up ⟨rfl,rfl,rfl,Nat.le_refl _,fun _ _=>rfl⟩
theorem kept_drewN (g:Nat)(W:World)(n:Nat):KeptG g W (W.drewN n):=KeptG.of_below ⟨rfl,rfl,rfl,Nat.le_refl _,fun _ _=>rfl⟩
theorem pe_s {f:PS→ByteArray×PS}{C:PC}{s:PS}{w w':World}{e:Ending}(h:PE Vt f C s w e w'):e= .returned (.string (f s).1)∧PSt C (f s).2 w'∧KeptG C.g w w':=by
 obtain⟨v,a1,a2,a3,a4⟩:=h
 exact⟨by rw[a1,show v= .string _ from a2],a3,a4⟩
theorem pe_n {f:PS→Int×PS}{C:PC}{s:PS}{w w':World}{e:Ending}(h:PE Vi f C s w e w'):e= .returned (.int .i64 (f s).1)∧PSt C (f s).2 w'∧KeptG C.g w w':=by
 obtain⟨v,a1,a2,a3,a4⟩:=h
 exact⟨by rw[a1,show v= .int .i64 _ from a2],a3,a4⟩
theorem dtext_size {C:PC}{s:PS}{w:World}(k:Int)(h:PSt C s w)(hk:k≠0):(dtext C.tk C.en k s).1.size≤maxLen:=by
 by_cases hp:pkd C.tk s=k
 ·obtain⟨h0,hn⟩:=pkd_inv (tk:=C.tk) (s:=s) (by rw[hp];exact hk)
  have e1:(dtext C.tk C.en k s).1=(C.tk.getD s.nx tok0).text:=by unfold dtext;rw[if_pos hp]
  have hmem:C.tk.getD s.nx tok0∈C.tk:=by rw[List.getD_eq_getElem?_getD,List.getElem?_eq_getElem hn];exact List.getElem_mem hn
  have:=(h.small _ hmem).1
  rw[e1]
  unfold maxLen
  omega
 ·have e1:(dtext C.tk C.en k s).1=⟨#[]⟩:=by unfold dtext;rw[if_neg hp]
  rw[e1]
  decide
theorem md_go' {tk:List Tok}{s:PS}(h:s.er=none):Md tk s (pgo s):=⟨fun e=>absurd h e,fun _=>⟨h,Nat.le_succ _,rfl⟩⟩
theorem md_eat {tk:List Tok}{en:Nat}{t:ByteArray}(ht:t≠(⟨#[]⟩:ByteArray))(s:PS):Md tk s (deat tk en t s):=by
 unfold deat
 by_cases hp:dnx tk s=t
 ·rw[if_pos hp]
  exact md_go' (dnx_inv (tk:=tk) (s:=s) (by rw[hp];exact ht)).1
 ·rw[if_neg hp]
  exact⟨fun e=>by rw[fail_bad e],fun e=>absurd e (fail_er 11 s)⟩
theorem md_text {tk:List Tok}{en:Nat}{k:Int}(hk:k≠0)(s:PS):Md tk s (dtext tk en k s).2:=by
 unfold dtext
 by_cases hp:pkd tk s=k
 ·rw[if_pos hp]
  exact md_go' (pkd_inv (tk:=tk) (s:=s) (by rw[hp];exact hk)).1
 ·rw[if_neg hp]
  exact⟨fun e=>by rw[fail_bad e],fun e=>absurd e (fail_er 11 s)⟩
theorem md_num {tk:List Tok}{en:Nat}(s:PS):Md tk s (dnum tk en s).2:=md_text (by decide) s
theorem begin_ne {tk:List Tok}{en:Nat}{t:ByteArray}{s:PS}(ht:t≠(⟨#[]⟩:ByteArray))(h:(dbegin tk en t s).er=none):s.er=none∧dnx tk s=t∧(dbegin tk en t s).ne=s.ne+1∧s.nx<(dbegin tk en t s).nx:=by
 unfold dbegin at h⊢
 by_cases hp:dnx tk s=t
 ·rw[if_pos hp]at h⊢
  obtain⟨e1,e2,e3⟩:=(md_eat (en:=en) ht _).nx h
  unfold ddeeper at e1 e2 e3 h⊢
  by_cases h5:s.ne=50
  ·rw[if_pos h5]at e1
   exact absurd e1 (fail_er 4 s)
  ·rw[if_neg h5]at e1 e2 e3 h⊢
   refine⟨e1,hp,by rw[e3];rfl, ?_⟩
   unfold deat at h⊢
   split
   ·exact Nat.lt_succ_self _
   ·next hq=>rw[if_neg hq]at h;exact absurd h (fail_er 11 _)
 ·rw[if_neg hp]at h
  unfold deat at h
  rw[if_neg hp]at h
  exact absurd h (fail_er 11 s)
theorem prod_A3 (n:Nat)(IH:ProdSaid n)(C:PC)(s:PS)(w:World)(h:PSt C s w)(hf:Fd (n+1) s)(hm:dnx C.tk s=(⟨#[45]⟩:ByteArray))(s1:PS)(hs1:s1=pgo s)(h3:pkd C.tk s1≠3):
 Calls Tryz.prog 181 #[C.p] w (PE (Vx exX) (dprod C.tk C.en (n+1)) C s w):=by
 have hg:=h.lt
 have hgne:w.heap.size≠C.g:=by omega
 have HTH:Hid (∀W,KeptG C.g (w.alloc (.cells zEx.toArray 57)) W→W.there w.heap.size 0 4):=fun W hk=>hk.there (by simp) hgne (there_new w zEx 57)
 have HN:=Lib.hid (next_any C s _ (h.alloc (.cells zEx.toArray 57)))
 obtain⟨h0,hnx⟩:=dnx_inv (tk:=C.tk) (s:=s) (by rw[hm];decide)
 have hx0:=eq_lit [45] hm
 have F2:Hid (∀W,Below (w.alloc (.cells zEx.toArray 57)).heap.size (w.alloc (.cells zEx.toArray 57)) W→(W.cell? ⟨C.g,2,none⟩=some (.int .i64 s.nx)∧W.frozen? ⟨C.g,2,none⟩=false∧IntKind.i64.wrap ((s.nx:Int)+1)=(s.nx:Int)+1)∧PSt C s1 (W.setCell ⟨C.g,2,none⟩ (.int .i64 ((s.nx:Int)+1)))∧KeptG C.g (w.alloc (.cells zEx.toArray 57)) (W.setCell ⟨C.g,2,none⟩ (.int .i64 ((s.nx:Int)+1)))):=fun W hb=>by
  have hW:=(h.alloc (.cells zEx.toArray 57)).up hb
  exact⟨two_wrap hW h0,by rw[hs1];exact hW.go h0 hnx,(KeptG.of_below hb).trans KeptG.set⟩
 have HKD:=Lib.hid (fun W (hW:PSt C s1 W)=>kind_any C s1 W hW)
 obtain⟨s2,hs2⟩:∃s2,s2=(pfail C.tk C.en 11 s1):=⟨_,rfl⟩
 have ed:dprod C.tk C.en (n+1) s=(.mk 1 0 (dtext C.tk C.en 1 s2).1 [],(dtext C.tk C.en 1 s2).2):=by
  subst hs2
  subst hs1
  rw[dprod]
  simp only[if_pos hm,decide_eq_true hm,if_neg h3,Bool.true_eq_false,false_and,if_false,if_true]
 have HE:Hid (∀W e1 W1,KeptG C.g (w.alloc (.cells zEx.toArray 57)) W→PSt C s2 W→PE Vt (dtext C.tk C.en 1) C s2 W e1 W1→∃x,e1= .returned (.string x)∧W1.there w.heap.size 0 4∧Hid (∀w9,Stored w.heap.size 0 [.int .i64 1,.int .i64 0,.string x,.slice none 0 0] W1 w9→PE (Vx exX) (dprod C.tk C.en (n+1)) C s w (.returned (.agg #[.int .i64 1,.int .i64 0,.string x,.slice none 0 0])) w9)):=fun W e1 W1 hk hp hq=>by
  obtain⟨a1,a2,a3⟩:=pe_s hq
  refine⟨_,a1,HTH.out _ (hk.trans a3),fun w9 hst=>box_fin (z:=zEx) hg (hk.trans a3) (by rw[ed];exact a2) ?_ hst zEx_ni⟩
  rw[ed]
  exact exE (k:=1) (n:=0) (nm:=(dtext C.tk C.en 1 s2).1) ⟨by decide,by decide⟩ ⟨by decide,by decide⟩ (dtext_size 1 hp (by decide)) (slot_none _ _ _)
 have HT:=Lib.hid (fun W (hW:PSt C s2 W)=>text_any C s2 1 W hW (by decide))
 have HF:=Lib.hid (fun W (hW:PSt C s1 W)=>amiss_any C s1 11 W hW (by decide))
 have X1:Hid (∀W e1 W1,PU (pfail C.tk C.en 11) C s1 W e1 W1→e1= .returned (.tuple #[])∧PSt C s2 W1∧KeptG C.g W W1):=fun W e1 W1 hu=>by rw[hs2];exact hu
 have h3b:(pkd C.tk s1 == 3)=false:=by simpa using h3
 generalize PE (Vx exX) (dprod C.tk C.en (n+1)) C s w=Q at*
 unfold PC.p at*
 unfold zEx at*
 clear h hf HTH ed hs2 hs1 hm h3 h0 hnx
 generalize pkd C.tk s1=kd at*
 generalize dnx C.tk s=tx at*
 go_enter Tryz.func181,Tryz.ntmps181
 go_wp2_with fail
 refine HN.out.mono ?_
 rintro e w1 ⟨rfl,hb⟩
 obtain⟨⟨c2,f2,hw2⟩,hp1,hk1⟩:=F2.out w1 hb
 have HK1:=Lib.hid (HKD.out _ hp1)
 have HP1:=Lib.hid hp1
 have HKK:=Lib.hid hk1
 clear hb hp1 hk1 HN F2 HKD
 go_wp2_with fail
 refine HK1.out.mono ?_
 rintro e w2 ⟨rfl,hb⟩
 have HP2:=Lib.hid (HP1.out.up hb)
 have HK2:=Lib.hid (HKK.out.trans (KeptG.of_below hb))
 clear hb HK1 HP1 HKK c2 f2 hw2
 have HF2:=Lib.hid (HF.out w2 HP2.out)
 clear HF HP2
 go_wp2_with fail
 refine HF2.out.mono ?_
 rintro e w3 hu
 obtain⟨rfl,hp3,hk3⟩:=X1.out _ _ _ hu
 have HP3:=Lib.hid hp3
 have HK3:=Lib.hid (HK2.out.trans hk3)
 clear hu hp3 hk3 HF2 X1 HK2
 have HT3:=Lib.hid (HT.out w3 HP3.out)
 clear HT
 go_wp2_with fail
 refine HT3.out.mono ?_
 rintro e w4 hq
 obtain⟨x,rfl,hth,HQ⟩:=HE.out _ _ _ HK3.out HP3.out hq
 clear hq HT3 HE HK3 HP3
 go_wp2_with (refine gateS 57 2 rfl ?_;refine wpList_store_there rfl 57 _ _ rfl w.heap.size 0 rfl [.int .i64 1,.int .i64 0,.string x,.slice none 0 0] rfl (by kernel_rfl) (one4 rfl) hth ?_;intro w9 hst)
 exact bodyPost_ret (v:= .agg #[.int .i64 1,.int .i64 0,.string x,.slice none 0 0]) (results_one rfl _ _ _ _ _ rfl (Tryz.exLoad hst.at' rfl)) rfl (HQ.out _ hst)
theorem prod_D (n:Nat)(IH:ProdSaid n)(C:PC)(s:PS)(w:World)(h:PSt C s w)(hf:Fd (n+1) s)(hm:¬dnx C.tk s=(⟨#[45]⟩:ByteArray))(s1:PS)(hs1:s1=s)(h3:pkd C.tk s1≠3)(hb:¬dnx C.tk s1=(⟨#[40]⟩:ByteArray)):
 Calls Tryz.prog 181 #[C.p] w (PE (Vx exX) (dprod C.tk C.en (n+1)) C s w):=by
 have hg:=h.lt
 have hgne:w.heap.size≠C.g:=by omega
 have HTH:Hid (∀W,KeptG C.g (w.alloc (.cells zEx.toArray 57)) W→W.there w.heap.size 0 4):=fun W hk=>hk.there (by simp) hgne (there_new w zEx 57)
 have HN:=Lib.hid (next_any C s _ (h.alloc (.cells zEx.toArray 57)))
 have hx0:=ne_lit [45] hm
 have F2:Hid (∀W,Below (w.alloc (.cells zEx.toArray 57)).heap.size (w.alloc (.cells zEx.toArray 57)) W→PSt C s1 W):=fun W hb=>by rw[hs1];exact(h.alloc (.cells zEx.toArray 57)).up hb
 have HKD:=Lib.hid (fun W (hW:PSt C s1 W)=>kind_any C s1 W hW)
 obtain⟨s2,hs2⟩:∃s2,s2=s1:=⟨_,rfl⟩
 have ed:dprod C.tk C.en (n+1) s=(.mk 1 0 (dtext C.tk C.en 1 s2).1 [],(dtext C.tk C.en 1 s2).2):=by
  subst hs2
  subst hs1
  rw[dprod]
  simp only[if_neg hm,decide_eq_false hm,if_neg h3,true_and,if_neg hb,Bool.false_eq_true,if_false]
 have HE:Hid (∀W e1 W1,KeptG C.g (w.alloc (.cells zEx.toArray 57)) W→PSt C s2 W→PE Vt (dtext C.tk C.en 1) C s2 W e1 W1→∃x,e1= .returned (.string x)∧W1.there w.heap.size 0 4∧Hid (∀w9,Stored w.heap.size 0 [.int .i64 1,.int .i64 0,.string x,.slice none 0 0] W1 w9→PE (Vx exX) (dprod C.tk C.en (n+1)) C s w (.returned (.agg #[.int .i64 1,.int .i64 0,.string x,.slice none 0 0])) w9)):=fun W e1 W1 hk hp hq=>by
  obtain⟨a1,a2,a3⟩:=pe_s hq
  refine⟨_,a1,HTH.out _ (hk.trans a3),fun w9 hst=>box_fin (z:=zEx) hg (hk.trans a3) (by rw[ed];exact a2) ?_ hst zEx_ni⟩
  rw[ed]
  exact exE (k:=1) (n:=0) (nm:=(dtext C.tk C.en 1 s2).1) ⟨by decide,by decide⟩ ⟨by decide,by decide⟩ (dtext_size 1 hp (by decide)) (slot_none _ _ _)
 have HT:=Lib.hid (fun W (hW:PSt C s2 W)=>text_any C s2 1 W hW (by decide))
 have HN2:=Lib.hid (fun W (hW:PSt C s1 W)=>next_any C s1 W hW)
 have hx3:=ne_lit [40] hb
 have hss:s2=s1:=hs2
 have h3b:(pkd C.tk s1 == 3)=false:=by simpa using h3
 generalize PE (Vx exX) (dprod C.tk C.en (n+1)) C s w=Q at*
 unfold PC.p at*
 unfold zEx at*
 clear h hf HTH ed hs2 hs1 hm h3 hb
 generalize pkd C.tk s1=kd at*
 generalize dnx C.tk s=tx at*
 go_enter Tryz.func181,Tryz.ntmps181
 go_wp2_with fail
 refine HN.out.mono ?_
 rintro e w1 ⟨rfl,hb⟩
 have HK1:=Lib.hid (HKD.out _ (F2.out w1 hb))
 have HP1:=Lib.hid (F2.out w1 hb)
 have HKK:=Lib.hid (KeptG.of_below (g:=C.g) hb)
 clear hb HN F2 HKD
 go_wp2_with fail
 refine HK1.out.mono ?_
 rintro e w2 ⟨rfl,hb⟩
 have HP2:=Lib.hid (HP1.out.up hb)
 have HK2:=Lib.hid (HKK.out.trans (KeptG.of_below hb))
 clear hb HK1 HP1 HKK
 have HN3:=Lib.hid (HN2.out w2 HP2.out)
 clear HN2
 go_wp2_with fail
 refine HN3.out.mono ?_
 rintro e w3 ⟨rfl,hb⟩
 have HP3:Hid (PSt C s2 w3):=Lib.hid (by rw[hss];exact HP2.out.up hb)
 have HK3:=Lib.hid (HK2.out.trans (KeptG.of_below hb))
 clear hb HN3 HP2 HK2 hss
 have HT3:=Lib.hid (HT.out w3 HP3.out)
 clear HT
 go_wp2_with fail
 refine HT3.out.mono ?_
 rintro e w4 hq
 obtain⟨x,rfl,hth,HQ⟩:=HE.out _ _ _ HK3.out HP3.out hq
 clear hq HT3 HE HK3 HP3
 go_wp2_with (refine gateS 57 2 rfl ?_;refine wpList_store_there rfl 57 _ _ rfl w.heap.size 0 rfl [.int .i64 1,.int .i64 0,.string x,.slice none 0 0] rfl (by kernel_rfl) (one4 rfl) hth ?_;intro w9 hst)
 exact bodyPost_ret (v:= .agg #[.int .i64 1,.int .i64 0,.string x,.slice none 0 0]) (results_one rfl _ _ _ _ _ rfl (Tryz.exLoad hst.at' rfl)) rfl (HQ.out _ hst)
theorem prod_C (n:Nat)(IH:ProdSaid n)(C:PC)(s:PS)(w:World)(h:PSt C s w)(hf:Fd (n+1) s)(IE:∀(C:PC) (s:PS) (w:World),PSt C s w→Fd n s→Calls Tryz.prog 126 #[C.p] w (PE (Vx exX) (dexpr C.tk (dprod C.tk C.en n)) C s w))(hm:¬dnx C.tk s=(⟨#[45]⟩:ByteArray))(s1:PS)(hs1:s1=s)(h3:pkd C.tk s1≠3)(hb:dnx C.tk s1=(⟨#[40]⟩:ByteArray)):
 Calls Tryz.prog 181 #[C.p] w (PE (Vx exX) (dprod C.tk C.en (n+1)) C s w):=by
 have hg:=h.lt
 have hgne:w.heap.size≠C.g:=by omega
 have HTH:Hid (∀W,KeptG C.g (w.alloc (.cells zEx.toArray 57)) W→W.there w.heap.size 0 4):=fun W hk=>hk.there (by simp) hgne (there_new w zEx 57)
 have HN:=Lib.hid (next_any C s _ (h.alloc (.cells zEx.toArray 57)))
 have hx0:=ne_lit [45] hm
 have F2:Hid (∀W,Below (w.alloc (.cells zEx.toArray 57)).heap.size (w.alloc (.cells zEx.toArray 57)) W→PSt C s1 W):=fun W hb=>by rw[hs1];exact(h.alloc (.cells zEx.toArray 57)).up hb
 have HKD:=Lib.hid (fun W (hW:PSt C s1 W)=>kind_any C s1 W hW)
 obtain⟨s2,hs2⟩:∃s2,s2=dbegin C.tk C.en (⟨#[40]⟩:ByteArray) s1:=⟨_,rfl⟩
 obtain⟨p,hp⟩:∃p,p=dexpr C.tk (dprod C.tk C.en n) s2:=⟨_,rfl⟩
 have ed:dprod C.tk C.en (n+1) s=(p.1,dfin C.tk C.en (⟨#[41]⟩:ByteArray) p.2):=by
  subst hp
  subst hs2
  subst hs1
  rw[dprod]
  simp only[if_neg hm,decide_eq_false hm,if_neg h3,true_and,if_pos hb,if_true]
 have HBG:=Lib.hid (fun W (hW:PSt C s1 W)=>begin_any C s1 (⟨#[40]⟩:ByteArray) W hW (by decide))
 have X1:Hid (∀W e1 W1,PU (dbegin C.tk C.en (⟨#[40]⟩:ByteArray)) C s1 W e1 W1→e1= .returned (.tuple #[])∧PSt C s2 W1∧KeptG C.g W W1):=fun W e1 W1 hu=>by rw[hs2];exact hu
 have hfd:∀W,PSt C s1 W→Fd n s2:=fun W hW=>by
  obtain⟨h0,_⟩:=dnx_inv (tk:=C.tk) (s:=s1) (by rw[hb];decide)
  have:s2=deat C.tk C.en (⟨#[40]⟩:ByteArray) (ddeeper C.tk C.en s1):=by rw[hs2];unfold dbegin;rw[if_pos hb]
  rw[this]
  exact(Fd.deeper (by rw[hs1];exact hf) hW h0).mv (md_eat (by decide) _)
 have HFD:=Lib.hid hfd
 have HEX:=Lib.hid (fun W W2 (hW:PSt C s1 W) (hW2:PSt C s2 W2)=>IE C s2 W2 hW2 (HFD.out W hW))
 have HX:Hid (∀W e1 W1,KeptG C.g (w.alloc (.cells zEx.toArray 57)) W→PSt C s2 W→PE (Vx exX) (dexpr C.tk (dprod C.tk C.en n)) C s2 W e1 W1→∃k m nm va vm vc,e1= .returned (.agg #[.int .i64 k,.int .i64 m,.string nm,.slice va vm vc])∧(∀o,PSt C p.2 (W1.alloc o))∧(∀W9,KeptG C.g (W1.alloc (.cells #[.int .i64 k,.int .i64 m,.string nm,.slice va vm vc] 57)) W9→W9.cell? ⟨W1.heap.size,0,none⟩=some (.int .i64 k)∧W9.cell? ⟨W1.heap.size,1,none⟩=some (.int .i64 m)∧W9.cell? ⟨W1.heap.size,2,none⟩=some (.string nm)∧W9.cell? ⟨W1.heap.size,3,none⟩=some (.slice va vm vc)∧W9.there w.heap.size 0 4∧
  (PSt C (dfin C.tk C.en (⟨#[41]⟩:ByteArray) p.2) W9→∀w9,Stored w.heap.size 0 [.int .i64 k,.int .i64 m,.string nm,.slice va vm vc] W9 w9→PE (Vx exX) (dprod C.tk C.en (n+1)) C s w (.returned (.agg #[.int .i64 k,.int .i64 m,.string nm,.slice va vm vc])) w9))):=fun W e1 W1 hk hW ⟨v,a1,⟨cs,a2,a3⟩,a4,a5⟩=>by
  rw[←hp]at a3 a4
  obtain⟨va,vm,vc,hcs,_⟩:=ex_open a3
  have hk1:=hk.trans a5
  have hz1:=hk.size
  have hz2:=a5.size
  have hz3:(w.alloc (.cells zEx.toArray 57)).heap.size=w.heap.size+1:=by simp
  have hgl:=a4.lt
  refine⟨p.1.kind,p.1.n,p.1.name,va,vm,vc,by rw[a1,a2,hcs],fun o=>a4.alloc o,fun W9 hk9=> ?_⟩
  have hr:=hk9.range (h:=W1.heap.size) (by simp) (by omega) (range_new W1 [.int .i64 p.1.kind,.int .i64 p.1.n,.string p.1.name,.slice va vm vc] 57)
  have hka:KeptG C.g W1 W9:=(KeptG.alloc _ _ _).trans hk9
  refine⟨hr 0 _ rfl,hr 1 _ rfl,hr 2 _ rfl,hr 3 _ rfl,HTH.out _ (hk1.trans hka),fun hpf w9 hst=> ?_⟩
  refine box_fin (z:=zEx) hg (hk1.trans hka) (by rw[ed];exact hpf) ?_ hst zEx_ni
  rw[ed,←hcs]
  exact sh_hi a3 (hka.hi (B:=W.heap.size) (by omega)) (by omega)
 have hne:∀W,PSt C s1 W→PSt C s2 W→(deat C.tk C.en (⟨#[41]⟩:ByteArray) p.2).er=none→1≤p.2.ne:=fun W hW hW2 e=>by
  obtain⟨e1,_⟩:=(md_eat (en:=C.en) (tk:=C.tk) (t:=(⟨#[41]⟩:ByteArray)) (by decide) p.2).nx e
  have hmd:Md C.tk s2 p.2:=by rw[hp];exact md_of (ag_expr hW.sh (fun h=>ag_prod hW.sh n h) (fun s=>mv_prod n s) (Sq.same hW2.ok)) (mv_expr (fun s=>mv_prod n s) s2)
  obtain⟨e2,_,e3⟩:=hmd.nx e1
  rw[hs2]at e2 e3
  obtain⟨e4,_,e5,_⟩:=begin_ne (by decide) e2
  have:=(hW.inv e4).1
  omega
 have HNE:=Lib.hid hne
 have HFI:=Lib.hid (fun W W2 W3 (hW:PSt C s1 W) (hW2:PSt C s2 W2) (h1:PSt C s2 W) (hW3:PSt C p.2 W3)=>finish_any C p.2 (⟨#[41]⟩:ByteArray) W3 hW3 (by decide) (HNE.out W hW h1))
 have HFJ:=Lib.hid (fun W1 W2 W3 (h1:PSt C s1 W1) (h2:PSt C s2 W2) (hW3:PSt C p.2 W3)=>finish_any C p.2 (⟨#[41]⟩:ByteArray) W3 hW3 (by decide) (fun e=>by
  obtain⟨e1,_⟩:=(md_eat (en:=C.en) (tk:=C.tk) (t:=(⟨#[41]⟩:ByteArray)) (by decide) p.2).nx e
  have hmd:Md C.tk s2 p.2:=by rw[hp];exact md_of (ag_expr h1.sh (fun h=>ag_prod h1.sh n h) (fun s=>mv_prod n s) (Sq.same h2.ok)) (mv_expr (fun s=>mv_prod n s) s2)
  obtain⟨e2,_,e3⟩:=hmd.nx e1
  rw[hs2]at e2 e3
  obtain⟨e4,_,e5,_⟩:=begin_ne (by decide) e2
  have:=(h1.inv e4).1
  omega))
 clear hne HNE HFI
 have X3:Hid (∀W e1 W1,PU (dfin C.tk C.en (⟨#[41]⟩:ByteArray)) C p.2 W e1 W1→e1= .returned (.tuple #[])∧PSt C (dfin C.tk C.en (⟨#[41]⟩:ByteArray) p.2) W1∧KeptG C.g W W1):=fun W e1 W1 hu=>hu
 have HN2:=Lib.hid (fun W (hW:PSt C s1 W)=>next_any C s1 W hW)
 have hx3:=eq_lit [40] hb
 have h3b:(pkd C.tk s1 == 3)=false:=by simpa using h3
 have h3c:¬pkd C.tk s1=3:=h3
 generalize PE (Vx exX) (dprod C.tk C.en (n+1)) C s w=Q at*
 unfold PC.p at*
 unfold zEx at*
 clear h hf HTH ed hs2 hs1 hm h3 hb hp HFD hfd IE
 generalize pkd C.tk s1=kd at*
 generalize dnx C.tk s=tx at*
 go_enter Tryz.func181,Tryz.ntmps181
 go_wp2_with fail
 refine HN.out.mono ?_
 rintro e w1 ⟨rfl,hb⟩
 have HK1:=Lib.hid (HKD.out _ (F2.out w1 hb))
 have HP1:=Lib.hid (F2.out w1 hb)
 have HKK:=Lib.hid (KeptG.of_below (g:=C.g) hb)
 clear hb HN F2 HKD
 go_wp2_with fail
 refine HK1.out.mono ?_
 rintro e w2 ⟨rfl,hb⟩
 have HP2:=Lib.hid (HP1.out.up hb)
 have HK2:=Lib.hid (HKK.out.trans (KeptG.of_below hb))
 clear hb HK1 HP1 HKK
 have HN3:=Lib.hid (HN2.out w2 HP2.out)
 clear HN2
 go_wp2_with fail
 refine HN3.out.mono ?_
 rintro e w3 ⟨rfl,hb⟩
 have HP3:=Lib.hid (HP2.out.up hb)
 have HK3:=Lib.hid (HK2.out.trans (KeptG.of_below hb))
 have HB3:=Lib.hid (HBG.out w3 HP3.out)
 clear hb HN3 HP2 HK2 HBG
 go_wp2_with fail
 refine HB3.out.mono ?_
 rintro e w4 hu
 obtain⟨rfl,hp4,hk4⟩:=X1.out _ _ _ hu
 have HP4:=Lib.hid hp4
 have HK4:=Lib.hid (HK3.out.trans hk4)
 have HE4:=Lib.hid (HEX.out w3 w4 HP3.out hp4)
 clear hu hp4 hk4 HB3 X1 HK3 HEX
 go_wp2_with fail
 refine HE4.out.mono ?_
 rintro e w5 hq
 obtain⟨k,m,nm,va,vm,vc,rfl,hps,hall⟩:=HX.out _ _ _ HK4.out HP4.out hq
 have HPS:=Lib.hid hps
 have HAL:=Lib.hid hall
 clear hq HE4 HX hps hall HK4
 go_wp2_with fail
 refine(HFJ.out w3 w4 _ HP3.out HP4.out (HPS.out _)).mono ?_
 rintro e w6 hu
 obtain⟨rfl,hp6,hk6⟩:=X3.out _ _ _ hu
 obtain⟨z0,z1,z2,z3,hth,hfin⟩:=HAL.out w6 hk6
 have HQ:=Lib.hid (hfin hp6)
 clear hu hp6 hk6 HFJ X3 HPS HAL HP3 HP4 hfin
 go_wp2_with (refine gateS 57 2 rfl ?_;refine wpList_store_there rfl 57 _ _ rfl w.heap.size 0 rfl [.int .i64 k,.int .i64 m,.string nm,.slice va vm vc] rfl (by kernel_rfl) (one4 rfl) hth ?_;intro w9 hst)
 exact bodyPost_ret (v:= .agg #[.int .i64 k,.int .i64 m,.string nm,.slice va vm vc]) (results_one rfl _ _ _ _ _ rfl (Tryz.exLoad hst.at' rfl)) rfl (HQ.out _ hst)
end Dc
namespace Dc
open Go.RowKit
theorem prod_A2e (n:Nat)(IH:ProdSaid n)(C:PC)(s:PS)(w:World)(h:PSt C s w)(hf:Fd (n+1) s)(hm:dnx C.tk s=(⟨#[45]⟩:ByteArray))(s1:PS)(hs1:s1=pgo s)(h3:pkd C.tk s1=3)(hno:¬s1.nx+1<C.tk.length):
 Calls Tryz.prog 181 #[C.p] w (PE (Vx exX) (dprod C.tk C.en (n+1)) C s w):=by
 have hg:=h.lt
 have hgne:w.heap.size≠C.g:=by omega
 have HTH:Hid (∀W,KeptG C.g (w.alloc (.cells zEx.toArray 57)) W→W.there w.heap.size 0 4):=fun W hk=>hk.there (by simp) hgne (there_new w zEx 57)
 have HN:=Lib.hid (next_any C s _ (h.alloc (.cells zEx.toArray 57)))
 obtain⟨h0,hnx⟩:=dnx_inv (tk:=C.tk) (s:=s) (by rw[hm];decide)
 have hx0:=eq_lit [45] hm
 have F2:Hid (∀W,Below (w.alloc (.cells zEx.toArray 57)).heap.size (w.alloc (.cells zEx.toArray 57)) W→(W.cell? ⟨C.g,2,none⟩=some (.int .i64 s.nx)∧W.frozen? ⟨C.g,2,none⟩=false∧IntKind.i64.wrap ((s.nx:Int)+1)=(s.nx:Int)+1)∧PSt C s1 (W.setCell ⟨C.g,2,none⟩ (.int .i64 ((s.nx:Int)+1)))∧KeptG C.g (w.alloc (.cells zEx.toArray 57)) (W.setCell ⟨C.g,2,none⟩ (.int .i64 ((s.nx:Int)+1)))):=fun W hb=>by
  have hW:=(h.alloc (.cells zEx.toArray 57)).up hb
  exact⟨two_wrap hW h0,by rw[hs1];exact hW.go h0 hnx,(KeptG.of_below hb).trans KeptG.set⟩
 have HKD:=Lib.hid (fun W (hW:PSt C s1 W)=>kind_any C s1 W hW)
 obtain⟨h10,h1n⟩:=pkd_inv (tk:=C.tk) (s:=s1) (by rw[h3];decide)
 have hlen:=h.len.1
 have hw5:IntKind.i64.wrap ((s1.nx:Int)+1)=(s1.nx:Int)+1:=IntWalk.i64_in _ (by omega)
 have F5:Hid (∀W,PSt C s1 W→W.cell? ⟨C.g,2,none⟩=some (.int .i64 s1.nx)∧W.cell? ⟨C.g,0,none⟩=some (.slice C.a C.tk.length C.cap)):=fun W hW=>⟨hW.two h10,hW.c0⟩
 have hb5:¬(s1.nx:Int)+1<(C.tk.length:Int):=by omega
 have hb6:C.tk.length≤s1.nx+1:=by omega
 have hb8:decide ((s1.nx:Int)+1<(C.tk.length:Int))=false:=decide_eq_false (by omega)
 have ed:dprod C.tk C.en (n+1) s=(.mk 0 (-(dnum C.tk C.en s1).1) (⟨#[]⟩:ByteArray) [],(dnum C.tk C.en s1).2):=by
  subst hs1
  rw[dprod]
  simp only[if_pos hm,decide_eq_true hm,if_pos h3]
  unfold dnumE
  rw[if_neg (fun e=>hno e.1)]
  rfl
 have HE:Hid (∀W e1 W1,KeptG C.g (w.alloc (.cells zEx.toArray 57)) W→PSt C s1 W→PE Vi (dnum C.tk C.en) C s1 W e1 W1→e1= .returned (.int .i64 (dnum C.tk C.en s1).1)∧W1.there w.heap.size 0 4∧Hid (∀w9,Stored w.heap.size 0 [.int .i64 0,.int .i64 (-(dnum C.tk C.en s1).1),.string ⟨#[]⟩,.slice none 0 0] W1 w9→PE (Vx exX) (dprod C.tk C.en (n+1)) C s w (.returned (.agg #[.int .i64 0,.int .i64 (-(dnum C.tk C.en s1).1),.string ⟨#[]⟩,.slice none 0 0])) w9)):=fun W e1 W1 hk hp hq=>by
  obtain⟨a1,a2,a3⟩:=pe_n hq
  refine⟨a1,HTH.out _ (hk.trans a3),fun w9 hst=>box_fin (z:=zEx) hg (hk.trans a3) (by rw[ed];exact a2) ?_ hst zEx_ni⟩
  have hle:=dnum_le hp
  rw[ed]
  exact exE (k:=0) (n:=(-(dnum C.tk C.en s1).1)) (nm:=(⟨#[]⟩:ByteArray)) ⟨by decide,by decide⟩ ⟨by omega,by omega⟩ (by decide) (slot_none _ _ _)
 have HNU:=Lib.hid (fun W (hW:PSt C s1 W)=>number_any C s1 W hW)
 have HZW:Hid (∀W,PSt C s1 W→IntKind.i64.wrap (-(dnum C.tk C.en s1).1)= -(dnum C.tk C.en s1).1):=fun W hW=>by
  have hle:=dnum_le hW
  exact IntWalk.i64_in _ (by omega)
 have h3b:(pkd C.tk s1 == 3)=true:=by rw[h3];rfl
 generalize PE (Vx exX) (dprod C.tk C.en (n+1)) C s w=Q at*
 unfold PC.p at*
 unfold zEx at*
 clear h hf HTH ed hm hno h0 hnx
 have HS1:=Lib.hid hs1
 clear hs1
 generalize (dnum C.tk C.en s1).1=z at*
 generalize pkd C.tk s1=kd at*
 generalize dnx C.tk s=tx at*
 generalize C.tk.length=L at*
 go_enter Tryz.func181,Tryz.ntmps181
 go_wp2_with fail
 refine HN.out.mono ?_
 rintro e w1 ⟨rfl,hb⟩
 obtain⟨⟨c2,f2,hw2⟩,hp1,hk1⟩:=F2.out w1 hb
 have HK1:=Lib.hid (HKD.out _ hp1)
 have HP1:=Lib.hid hp1
 have HKK:=Lib.hid hk1
 clear hb hp1 hk1 HN F2 HKD
 go_wp2_with fail
 refine HK1.out.mono ?_
 rintro e w2 ⟨rfl,hb⟩
 have HP2:=Lib.hid (HP1.out.up hb)
 have HK2:=Lib.hid (HKK.out.trans (KeptG.of_below hb))
 clear hb HK1 HP1 HKK c2 f2 hw2
 obtain⟨c2,c0⟩:=F5.out w2 HP2.out
 have hzw:=HZW.out w2 HP2.out
 have HPd:=Lib.hid (fun k=>HP2.out.drewN k)
 have HKd:=Lib.hid (fun k=>HK2.out.trans (kept_drewN C.g w2 k))
 clear HP2 HK2 F5 HZW h3
 go_wp2_with fail
 go_quiet (fail)
 go_wp2_with fail
 refine(HNU.out _ (HPd.out _)).mono ?_
 rintro e w3 hq
 obtain⟨rfl,hth,HQ⟩:=HE.out _ _ _ (HKd.out _) (HPd.out _) hq
 clear hq HNU HE HPd HKd c0 c2
 go_wp2_with (refine gateS 57 2 rfl ?_;refine wpList_store_there rfl 57 _ _ rfl w.heap.size 0 rfl [.int .i64 0,.int .i64 (-z),.string ⟨#[]⟩,.slice none 0 0] rfl (by kernel_rfl) (one4 rfl) hth ?_;intro w9 hst)
 exact bodyPost_ret (v:= .agg #[.int .i64 0,.int .i64 (-z),.string ⟨#[]⟩,.slice none 0 0]) (results_one rfl _ _ _ _ _ rfl (Tryz.exLoad hst.at' rfl)) rfl (HQ.out _ hst)
theorem prod_A2n (n:Nat)(IH:ProdSaid n)(C:PC)(s:PS)(w:World)(h:PSt C s w)(hf:Fd (n+1) s)(hm:dnx C.tk s=(⟨#[45]⟩:ByteArray))(s1:PS)(hs1:s1=pgo s)(h3:pkd C.tk s1=3)(hin:s1.nx+1<C.tk.length)(hno:¬(C.tk.getD (s1.nx+1) tok0).text=(⟨#[42]⟩:ByteArray)):
 Calls Tryz.prog 181 #[C.p] w (PE (Vx exX) (dprod C.tk C.en (n+1)) C s w):=by
 have hg:=h.lt
 have hgne:w.heap.size≠C.g:=by omega
 have HTH:Hid (∀W,KeptG C.g (w.alloc (.cells zEx.toArray 57)) W→W.there w.heap.size 0 4):=fun W hk=>hk.there (by simp) hgne (there_new w zEx 57)
 have HN:=Lib.hid (next_any C s _ (h.alloc (.cells zEx.toArray 57)))
 obtain⟨h0,hnx⟩:=dnx_inv (tk:=C.tk) (s:=s) (by rw[hm];decide)
 have hx0:=eq_lit [45] hm
 have F2:Hid (∀W,Below (w.alloc (.cells zEx.toArray 57)).heap.size (w.alloc (.cells zEx.toArray 57)) W→(W.cell? ⟨C.g,2,none⟩=some (.int .i64 s.nx)∧W.frozen? ⟨C.g,2,none⟩=false∧IntKind.i64.wrap ((s.nx:Int)+1)=(s.nx:Int)+1)∧PSt C s1 (W.setCell ⟨C.g,2,none⟩ (.int .i64 ((s.nx:Int)+1)))∧KeptG C.g (w.alloc (.cells zEx.toArray 57)) (W.setCell ⟨C.g,2,none⟩ (.int .i64 ((s.nx:Int)+1)))):=fun W hb=>by
  have hW:=(h.alloc (.cells zEx.toArray 57)).up hb
  exact⟨two_wrap hW h0,by rw[hs1];exact hW.go h0 hnx,(KeptG.of_below hb).trans KeptG.set⟩
 have HKD:=Lib.hid (fun W (hW:PSt C s1 W)=>kind_any C s1 W hW)
 obtain⟨h10,h1n⟩:=pkd_inv (tk:=C.tk) (s:=s1) (by rw[h3];decide)
 have hlen:=h.len.1
 have hw5:IntKind.i64.wrap ((s1.nx:Int)+1)=(s1.nx:Int)+1:=IntWalk.i64_in _ (by omega)
 have F5:Hid (∀W,PSt C s1 W→W.cell? ⟨C.g,2,none⟩=some (.int .i64 s1.nx)∧W.cell? ⟨C.g,0,none⟩=some (.slice C.a C.tk.length C.cap)):=fun W hW=>⟨hW.two h10,hW.c0⟩
 have hb5:(s1.nx:Int)+1<(C.tk.length:Int):=by omega
 have hb8:decide ((s1.nx:Int)+1<(C.tk.length:Int))=true:=decide_eq_true (by omega)
 have hb7:(0:Int)≤(s1.nx:Int)+1∧(s1.nx:Int)+1<(C.tk.length:Int):=by omega
 have F6:Hid (∀W,PSt C s1 W→∃b off,C.a=some ⟨b,off,none⟩∧W.cell? ⟨b,off+(s1.nx+1)*3+2,none⟩=some (.string (C.tk.getD (s1.nx+1) tok0).text)):=fun W hW=>by
  obtain⟨b,off,ha,_,_,t2,_⟩:=tok_at hW hin
  exact⟨b,off,ha,t2⟩
 have hx5:=ne_lit [42] hno
 have ed:dprod C.tk C.en (n+1) s=(.mk 0 (-(dnum C.tk C.en s1).1) (⟨#[]⟩:ByteArray) [],(dnum C.tk C.en s1).2):=by
  subst hs1
  rw[dprod]
  simp only[if_pos hm,decide_eq_true hm,if_pos h3]
  unfold dnumE
  rw[if_neg (fun e=>hno e.2)]
  rfl
 have HE:Hid (∀W e1 W1,KeptG C.g (w.alloc (.cells zEx.toArray 57)) W→PSt C s1 W→PE Vi (dnum C.tk C.en) C s1 W e1 W1→e1= .returned (.int .i64 (dnum C.tk C.en s1).1)∧W1.there w.heap.size 0 4∧Hid (∀w9,Stored w.heap.size 0 [.int .i64 0,.int .i64 (-(dnum C.tk C.en s1).1),.string ⟨#[]⟩,.slice none 0 0] W1 w9→PE (Vx exX) (dprod C.tk C.en (n+1)) C s w (.returned (.agg #[.int .i64 0,.int .i64 (-(dnum C.tk C.en s1).1),.string ⟨#[]⟩,.slice none 0 0])) w9)):=fun W e1 W1 hk hp hq=>by
  obtain⟨a1,a2,a3⟩:=pe_n hq
  refine⟨a1,HTH.out _ (hk.trans a3),fun w9 hst=>box_fin (z:=zEx) hg (hk.trans a3) (by rw[ed];exact a2) ?_ hst zEx_ni⟩
  have hle:=dnum_le hp
  rw[ed]
  exact exE (k:=0) (n:=(-(dnum C.tk C.en s1).1)) (nm:=(⟨#[]⟩:ByteArray)) ⟨by decide,by decide⟩ ⟨by omega,by omega⟩ (by decide) (slot_none _ _ _)
 have HNU:=Lib.hid (fun W (hW:PSt C s1 W)=>number_any C s1 W hW)
 have HZW:Hid (∀W,PSt C s1 W→IntKind.i64.wrap (-(dnum C.tk C.en s1).1)= -(dnum C.tk C.en s1).1):=fun W hW=>by
  have hle:=dnum_le hW
  exact IntWalk.i64_in _ (by omega)
 have h3b:(pkd C.tk s1 == 3)=true:=by rw[h3];rfl
 generalize PE (Vx exX) (dprod C.tk C.en (n+1)) C s w=Q at*
 unfold PC.p at*
 unfold zEx at*
 clear h hf HTH ed hm hno h0 hnx
 have HS1:=Lib.hid hs1
 clear hs1
 generalize (dnum C.tk C.en s1).1=z at*
 generalize pkd C.tk s1=kd at*
 generalize dnx C.tk s=tx at*
 generalize (C.tk.getD (s1.nx+1) tok0).text=ty at*
 generalize C.tk.length=L at*
 go_enter Tryz.func181,Tryz.ntmps181
 go_wp2_with fail
 refine HN.out.mono ?_
 rintro e w1 ⟨rfl,hb⟩
 obtain⟨⟨c2,f2,hw2⟩,hp1,hk1⟩:=F2.out w1 hb
 have HK1:=Lib.hid (HKD.out _ hp1)
 have HP1:=Lib.hid hp1
 have HKK:=Lib.hid hk1
 clear hb hp1 hk1 HN F2 HKD
 go_wp2_with fail
 refine HK1.out.mono ?_
 rintro e w2 ⟨rfl,hb⟩
 have HP2:=Lib.hid (HP1.out.up hb)
 have HK2:=Lib.hid (HKK.out.trans (KeptG.of_below hb))
 clear hb HK1 HP1 HKK c2 f2 hw2
 obtain⟨c2,c0⟩:=F5.out w2 HP2.out
 have hzw:=HZW.out w2 HP2.out
 obtain⟨b,off,ha,t2⟩:=F6.out w2 HP2.out
 rw[ha]at c0
 have HPd:=Lib.hid (fun k=>HP2.out.drewN k)
 have HKd:=Lib.hid (fun k=>HK2.out.trans (kept_drewN C.g w2 k))
 clear HP2 HK2 F5 HZW h3
 go_wp2_with fail
 go_quiet (fail)
 go_wp2_with fail
 refine(HNU.out _ (HPd.out _)).mono ?_
 rintro e w3 hq
 obtain⟨rfl,hth,HQ⟩:=HE.out _ _ _ (HKd.out _) (HPd.out _) hq
 clear hq HNU HE HPd HKd c0 c2
 go_wp2_with (refine gateS 57 2 rfl ?_;refine wpList_store_there rfl 57 _ _ rfl w.heap.size 0 rfl [.int .i64 0,.int .i64 (-z),.string ⟨#[]⟩,.slice none 0 0] rfl (by kernel_rfl) (one4 rfl) hth ?_;intro w9 hst)
 exact bodyPost_ret (v:= .agg #[.int .i64 0,.int .i64 (-z),.string ⟨#[]⟩,.slice none 0 0]) (results_one rfl _ _ _ _ _ rfl (Tryz.exLoad hst.at' rfl)) rfl (HQ.out _ hst)
theorem prod_B2e (n:Nat)(IH:ProdSaid n)(C:PC)(s:PS)(w:World)(h:PSt C s w)(hf:Fd (n+1) s)(hm:¬dnx C.tk s=(⟨#[45]⟩:ByteArray))(s1:PS)(hs1:s1=s)(h3:pkd C.tk s1=3)(hno:¬s1.nx+1<C.tk.length):
 Calls Tryz.prog 181 #[C.p] w (PE (Vx exX) (dprod C.tk C.en (n+1)) C s w):=by
 have hg:=h.lt
 have hgne:w.heap.size≠C.g:=by omega
 have HTH:Hid (∀W,KeptG C.g (w.alloc (.cells zEx.toArray 57)) W→W.there w.heap.size 0 4):=fun W hk=>hk.there (by simp) hgne (there_new w zEx 57)
 have HN:=Lib.hid (next_any C s _ (h.alloc (.cells zEx.toArray 57)))
 have hx0:=ne_lit [45] hm
 have F2:Hid (∀W,Below (w.alloc (.cells zEx.toArray 57)).heap.size (w.alloc (.cells zEx.toArray 57)) W→PSt C s1 W):=fun W hb=>by rw[hs1];exact(h.alloc (.cells zEx.toArray 57)).up hb
 have HKD:=Lib.hid (fun W (hW:PSt C s1 W)=>kind_any C s1 W hW)
 obtain⟨h10,h1n⟩:=pkd_inv (tk:=C.tk) (s:=s1) (by rw[h3];decide)
 have hlen:=h.len.1
 have hw5:IntKind.i64.wrap ((s1.nx:Int)+1)=(s1.nx:Int)+1:=IntWalk.i64_in _ (by omega)
 have F5:Hid (∀W,PSt C s1 W→W.cell? ⟨C.g,2,none⟩=some (.int .i64 s1.nx)∧W.cell? ⟨C.g,0,none⟩=some (.slice C.a C.tk.length C.cap)):=fun W hW=>⟨hW.two h10,hW.c0⟩
 have hb5:¬(s1.nx:Int)+1<(C.tk.length:Int):=by omega
 have hb6:C.tk.length≤s1.nx+1:=by omega
 have hb8:decide ((s1.nx:Int)+1<(C.tk.length:Int))=false:=decide_eq_false (by omega)
 have ed:dprod C.tk C.en (n+1) s=(.mk 0 (dnum C.tk C.en s1).1 (⟨#[]⟩:ByteArray) [],(dnum C.tk C.en s1).2):=by
  subst hs1
  rw[dprod]
  simp only[if_neg hm,decide_eq_false hm,if_pos h3]
  unfold dnumE
  rw[if_neg (fun e=>hno e.1)]
  rfl
 have HE:Hid (∀W e1 W1,KeptG C.g (w.alloc (.cells zEx.toArray 57)) W→PSt C s1 W→PE Vi (dnum C.tk C.en) C s1 W e1 W1→e1= .returned (.int .i64 (dnum C.tk C.en s1).1)∧W1.there w.heap.size 0 4∧Hid (∀w9,Stored w.heap.size 0 [.int .i64 0,.int .i64 (dnum C.tk C.en s1).1,.string ⟨#[]⟩,.slice none 0 0] W1 w9→PE (Vx exX) (dprod C.tk C.en (n+1)) C s w (.returned (.agg #[.int .i64 0,.int .i64 (dnum C.tk C.en s1).1,.string ⟨#[]⟩,.slice none 0 0])) w9)):=fun W e1 W1 hk hp hq=>by
  obtain⟨a1,a2,a3⟩:=pe_n hq
  refine⟨a1,HTH.out _ (hk.trans a3),fun w9 hst=>box_fin (z:=zEx) hg (hk.trans a3) (by rw[ed];exact a2) ?_ hst zEx_ni⟩
  have hle:=dnum_le hp
  rw[ed]
  exact exE (k:=0) (n:=(dnum C.tk C.en s1).1) (nm:=(⟨#[]⟩:ByteArray)) ⟨by decide,by decide⟩ ⟨by omega,by omega⟩ (by decide) (slot_none _ _ _)
 have HNU:=Lib.hid (fun W (hW:PSt C s1 W)=>number_any C s1 W hW)
 have HZW:Hid (∀W,PSt C s1 W→IntKind.i64.wrap (-(dnum C.tk C.en s1).1)= -(dnum C.tk C.en s1).1):=fun W hW=>by
  have hle:=dnum_le hW
  exact IntWalk.i64_in _ (by omega)
 have h3b:(pkd C.tk s1 == 3)=true:=by rw[h3];rfl
 generalize PE (Vx exX) (dprod C.tk C.en (n+1)) C s w=Q at*
 unfold PC.p at*
 unfold zEx at*
 clear h hf HTH ed hm hno
 have HS1:=Lib.hid hs1
 clear hs1
 generalize (dnum C.tk C.en s1).1=z at*
 generalize pkd C.tk s1=kd at*
 generalize dnx C.tk s=tx at*
 generalize C.tk.length=L at*
 go_enter Tryz.func181,Tryz.ntmps181
 go_wp2_with fail
 refine HN.out.mono ?_
 rintro e w1 ⟨rfl,hb⟩
 have HK1:=Lib.hid (HKD.out _ (F2.out w1 hb))
 have HP1:=Lib.hid (F2.out w1 hb)
 have HKK:=Lib.hid (KeptG.of_below (g:=C.g) hb)
 clear hb HN F2 HKD
 go_wp2_with fail
 refine HK1.out.mono ?_
 rintro e w2 ⟨rfl,hb⟩
 have HP2:=Lib.hid (HP1.out.up hb)
 have HK2:=Lib.hid (HKK.out.trans (KeptG.of_below hb))
 clear hb HK1 HP1 HKK
 obtain⟨c2,c0⟩:=F5.out w2 HP2.out
 have hzw:=HZW.out w2 HP2.out
 have HPd:=Lib.hid (fun k=>HP2.out.drewN k)
 have HKd:=Lib.hid (fun k=>HK2.out.trans (kept_drewN C.g w2 k))
 clear HP2 HK2 F5 HZW h3
 go_wp2_with fail
 go_quiet (fail)
 go_wp2_with fail
 refine(HNU.out _ (HPd.out _)).mono ?_
 rintro e w3 hq
 obtain⟨rfl,hth,HQ⟩:=HE.out _ _ _ (HKd.out _) (HPd.out _) hq
 clear hq HNU HE HPd HKd c0 c2
 go_wp2_with (refine gateS 57 2 rfl ?_;refine wpList_store_there rfl 57 _ _ rfl w.heap.size 0 rfl [.int .i64 0,.int .i64 z,.string ⟨#[]⟩,.slice none 0 0] rfl (by kernel_rfl) (one4 rfl) hth ?_;intro w9 hst)
 exact bodyPost_ret (v:= .agg #[.int .i64 0,.int .i64 z,.string ⟨#[]⟩,.slice none 0 0]) (results_one rfl _ _ _ _ _ rfl (Tryz.exLoad hst.at' rfl)) rfl (HQ.out _ hst)
theorem prod_B2n (n:Nat)(IH:ProdSaid n)(C:PC)(s:PS)(w:World)(h:PSt C s w)(hf:Fd (n+1) s)(hm:¬dnx C.tk s=(⟨#[45]⟩:ByteArray))(s1:PS)(hs1:s1=s)(h3:pkd C.tk s1=3)(hin:s1.nx+1<C.tk.length)(hno:¬(C.tk.getD (s1.nx+1) tok0).text=(⟨#[42]⟩:ByteArray)):
 Calls Tryz.prog 181 #[C.p] w (PE (Vx exX) (dprod C.tk C.en (n+1)) C s w):=by
 have hg:=h.lt
 have hgne:w.heap.size≠C.g:=by omega
 have HTH:Hid (∀W,KeptG C.g (w.alloc (.cells zEx.toArray 57)) W→W.there w.heap.size 0 4):=fun W hk=>hk.there (by simp) hgne (there_new w zEx 57)
 have HN:=Lib.hid (next_any C s _ (h.alloc (.cells zEx.toArray 57)))
 have hx0:=ne_lit [45] hm
 have F2:Hid (∀W,Below (w.alloc (.cells zEx.toArray 57)).heap.size (w.alloc (.cells zEx.toArray 57)) W→PSt C s1 W):=fun W hb=>by rw[hs1];exact(h.alloc (.cells zEx.toArray 57)).up hb
 have HKD:=Lib.hid (fun W (hW:PSt C s1 W)=>kind_any C s1 W hW)
 obtain⟨h10,h1n⟩:=pkd_inv (tk:=C.tk) (s:=s1) (by rw[h3];decide)
 have hlen:=h.len.1
 have hw5:IntKind.i64.wrap ((s1.nx:Int)+1)=(s1.nx:Int)+1:=IntWalk.i64_in _ (by omega)
 have F5:Hid (∀W,PSt C s1 W→W.cell? ⟨C.g,2,none⟩=some (.int .i64 s1.nx)∧W.cell? ⟨C.g,0,none⟩=some (.slice C.a C.tk.length C.cap)):=fun W hW=>⟨hW.two h10,hW.c0⟩
 have hb5:(s1.nx:Int)+1<(C.tk.length:Int):=by omega
 have hb8:decide ((s1.nx:Int)+1<(C.tk.length:Int))=true:=decide_eq_true (by omega)
 have hb7:(0:Int)≤(s1.nx:Int)+1∧(s1.nx:Int)+1<(C.tk.length:Int):=by omega
 have F6:Hid (∀W,PSt C s1 W→∃b off,C.a=some ⟨b,off,none⟩∧W.cell? ⟨b,off+(s1.nx+1)*3+2,none⟩=some (.string (C.tk.getD (s1.nx+1) tok0).text)):=fun W hW=>by
  obtain⟨b,off,ha,_,_,t2,_⟩:=tok_at hW hin
  exact⟨b,off,ha,t2⟩
 have hx5:=ne_lit [42] hno
 have ed:dprod C.tk C.en (n+1) s=(.mk 0 (dnum C.tk C.en s1).1 (⟨#[]⟩:ByteArray) [],(dnum C.tk C.en s1).2):=by
  subst hs1
  rw[dprod]
  simp only[if_neg hm,decide_eq_false hm,if_pos h3]
  unfold dnumE
  rw[if_neg (fun e=>hno e.2)]
  rfl
 have HE:Hid (∀W e1 W1,KeptG C.g (w.alloc (.cells zEx.toArray 57)) W→PSt C s1 W→PE Vi (dnum C.tk C.en) C s1 W e1 W1→e1= .returned (.int .i64 (dnum C.tk C.en s1).1)∧W1.there w.heap.size 0 4∧Hid (∀w9,Stored w.heap.size 0 [.int .i64 0,.int .i64 (dnum C.tk C.en s1).1,.string ⟨#[]⟩,.slice none 0 0] W1 w9→PE (Vx exX) (dprod C.tk C.en (n+1)) C s w (.returned (.agg #[.int .i64 0,.int .i64 (dnum C.tk C.en s1).1,.string ⟨#[]⟩,.slice none 0 0])) w9)):=fun W e1 W1 hk hp hq=>by
  obtain⟨a1,a2,a3⟩:=pe_n hq
  refine⟨a1,HTH.out _ (hk.trans a3),fun w9 hst=>box_fin (z:=zEx) hg (hk.trans a3) (by rw[ed];exact a2) ?_ hst zEx_ni⟩
  have hle:=dnum_le hp
  rw[ed]
  exact exE (k:=0) (n:=(dnum C.tk C.en s1).1) (nm:=(⟨#[]⟩:ByteArray)) ⟨by decide,by decide⟩ ⟨by omega,by omega⟩ (by decide) (slot_none _ _ _)
 have HNU:=Lib.hid (fun W (hW:PSt C s1 W)=>number_any C s1 W hW)
 have HZW:Hid (∀W,PSt C s1 W→IntKind.i64.wrap (-(dnum C.tk C.en s1).1)= -(dnum C.tk C.en s1).1):=fun W hW=>by
  have hle:=dnum_le hW
  exact IntWalk.i64_in _ (by omega)
 have h3b:(pkd C.tk s1 == 3)=true:=by rw[h3];rfl
 generalize PE (Vx exX) (dprod C.tk C.en (n+1)) C s w=Q at*
 unfold PC.p at*
 unfold zEx at*
 clear h hf HTH ed hm hno
 have HS1:=Lib.hid hs1
 clear hs1
 generalize (dnum C.tk C.en s1).1=z at*
 generalize pkd C.tk s1=kd at*
 generalize dnx C.tk s=tx at*
 generalize (C.tk.getD (s1.nx+1) tok0).text=ty at*
 generalize C.tk.length=L at*
 go_enter Tryz.func181,Tryz.ntmps181
 go_wp2_with fail
 refine HN.out.mono ?_
 rintro e w1 ⟨rfl,hb⟩
 have HK1:=Lib.hid (HKD.out _ (F2.out w1 hb))
 have HP1:=Lib.hid (F2.out w1 hb)
 have HKK:=Lib.hid (KeptG.of_below (g:=C.g) hb)
 clear hb HN F2 HKD
 go_wp2_with fail
 refine HK1.out.mono ?_
 rintro e w2 ⟨rfl,hb⟩
 have HP2:=Lib.hid (HP1.out.up hb)
 have HK2:=Lib.hid (HKK.out.trans (KeptG.of_below hb))
 clear hb HK1 HP1 HKK
 obtain⟨c2,c0⟩:=F5.out w2 HP2.out
 have hzw:=HZW.out w2 HP2.out
 obtain⟨b,off,ha,t2⟩:=F6.out w2 HP2.out
 rw[ha]at c0
 have HPd:=Lib.hid (fun k=>HP2.out.drewN k)
 have HKd:=Lib.hid (fun k=>HK2.out.trans (kept_drewN C.g w2 k))
 clear HP2 HK2 F5 HZW h3
 go_wp2_with fail
 go_quiet (fail)
 go_wp2_with fail
 refine(HNU.out _ (HPd.out _)).mono ?_
 rintro e w3 hq
 obtain⟨rfl,hth,HQ⟩:=HE.out _ _ _ (HKd.out _) (HPd.out _) hq
 clear hq HNU HE HPd HKd c0 c2
 go_wp2_with (refine gateS 57 2 rfl ?_;refine wpList_store_there rfl 57 _ _ rfl w.heap.size 0 rfl [.int .i64 0,.int .i64 z,.string ⟨#[]⟩,.slice none 0 0] rfl (by kernel_rfl) (one4 rfl) hth ?_;intro w9 hst)
 exact bodyPost_ret (v:= .agg #[.int .i64 0,.int .i64 z,.string ⟨#[]⟩,.slice none 0 0]) (results_one rfl _ _ _ _ _ rfl (Tryz.exLoad hst.at' rfl)) rfl (HQ.out _ hst)
end Dc
end Go.Proofs.YtcinokljkieijaaGreatDoor
