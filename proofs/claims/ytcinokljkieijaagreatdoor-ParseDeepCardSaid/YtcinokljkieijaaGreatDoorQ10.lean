/- Parts of a proof. -/
import Derived.Test.YtcinokljkieijaaGreatDoorQ09
set_option linter.unusedVariables false
set_option linter.unusedSimpArgs false
set_option linter.unusedSectionVars false
set_option maxHeartbeats 60000000
set_option maxRecDepth 100000
namespace Go.Proofs.YtcinokljkieijaaGreatDoor
section
open Go.RowKit
theorem must4_at (C:PC)(s:PS)(x1 x2 x3 x4:ByteArray)(w:World)(G:Nat)(hG:w.heap.size=G)(h:PSt C s w)(h1:x1.size≤100)(h2:x2.size≤100)(h3:x3.size≤100)(h4:x4.size≤100):
 Calls Tryz.prog 54 #[C.p,.slice (some ⟨G,0,none⟩) 4 4] (w.alloc (.cells #[.string x1,.string x2,.string x3,.string x4] 9)) (PE Vt (pmust C.tk C.en [x1,x2,x3,x4]) C s w):=by
 subst hG
 refine(must_any C s [x1,x2,x3,x4] _ 4 4 _ (h.alloc _) (ws_list [x1,x2,x3,x4] w (fun z hz=> ?_) (by simp))).mono fun e w' h=>h.low (alloc_low _ _) (fun _ _ h=>h)
 simp only[List.mem_cons,List.not_mem_nil,or_false]at hz
 unfold maxLen
 rcases hz with rfl | rfl | rfl | rfl<;>omega
abbrev wCmp:List ByteArray:=[(⟨#[61,61]⟩:ByteArray),(⟨#[33,61]⟩:ByteArray),(⟨#[60]⟩:ByteArray),(⟨#[60,61]⟩:ByteArray)]
theorem bx_cells {B he:Nat}{W:World}{x:ET}(h:BX exX B he W x):∃u,u.oneCell'=true∧W.rangeAt he 0 [.int .i64 x.kind,.int .i64 x.n,.string x.name,u]∧exX.rel (InN B he W) W [.int .i64 x.kind,.int .i64 x.n,.string x.name,u] x∧he<W.heap.size:=by
 obtain⟨cs,h1,h2,h3,h4⟩:=h
 obtain⟨u,rfl,_,hu⟩:=ex_form h4
 exact⟨u,hu,h1,h4,h3⟩
theorem cmp_fin {C:PC}{w W4 W5 W9:World}{s s3 s5:PS}{k:Int}{a y:ET}{M2:Nat}{cs cs2 ca:List Value}{c0:CT}(hl:LP cnX C w (w.heap.size+1) s3 c0 cs W4)(hk:c0.kind=k∧c0.ks=[])(ha:exX.rel (InN (w.heap.size+2) M2 W4) W4 ca a)(hca:ca.length=4)(hM2:w.heap.size+2≤M2∧M2<W4.heap.size)
 (hd:KeptG C.g W4 W5) (hp:PSt C s5 W5) (hy:exX.rel (InS W4.heap.size W5) W5 cs2 y) (hst:Stored (w.heap.size+1) 1 [.slice (some ⟨W5.heap.size,0,none⟩) 2 2] (W5.alloc (.cells (ca ++ cs2).toArray 57)) W9):
 LP cnX C w (w.heap.size+1) s5 (.mk k [a,y] []) (spl cs 1 [.slice (some ⟨W5.heap.size,0,none⟩) 2 2]) W9:=by
 have h1:=hl.gl
 have h3:=hl.kept.size
 have h5:=hd.size
 have ka:KeptG C.g W5 (W5.alloc (.cells (ca ++ cs2).toArray 57)):=KeptG.alloc _ _ _
 have hl5:=hl.step (hd.trans ka) (hp.alloc _)
 refine hl5.upd hst (by show 1+1≤3;omega) (cn_ni hl.tree) (fun hx=> ?_)
 have hfar:=hst.far
 have hsz:(W5.alloc (.cells (ca ++ cs2).toArray 57)).heap.size=W5.heap.size+1:=by simp
 have:=cn_es (v:= .slice (some ⟨W5.heap.size,0,none⟩) 2 2) [a,y] (slot_two (cs:=ca) (ds:=cs2) (h:=W5.heap.size) ?_ ?_ ?_ ⟨by omega,by rw[hfar.size];omega,by omega⟩) hx
 ·rw[hk.1,hk.2]at this
  exact this
 ·intro j v hv
  rw[World.cell?_of_block (hfar.block _ (by show W5.heap.size≠w.heap.size+1;omega))]
  exact range_new W5 _ _ j v hv
 ·refine exX.keep (fun b ⟨a1,a2,a3⟩=>⟨by omega,by rw[hfar.size];have:=hd.size;omega,by omega⟩) (fun b o ⟨a1,a2,a3⟩=> ?_) ha
  rw[World.cell?_of_block (hfar.block _ (by show b≠w.heap.size+1;omega)),(hd.trans ka).cell a2 (by omega)]
 ·refine exX.keep (fun b ⟨a1,a2⟩=>⟨by omega,by rw[hfar.size];omega,by omega⟩) (fun b o ⟨a1,a2⟩=> ?_) hy
  rw[World.cell?_of_block (hfar.block _ (by show b≠w.heap.size+1;omega)),ka.cell a2 (by omega)]
theorem cmp_1 (C:PC)(s:PS)(w:World)(h:PSt C s w)(hT:(pmust C.tk C.en wCmp (pex C.tk C.en s).2).1=(⟨#[61,61]⟩:ByteArray)):
 Calls Tryz.prog 222 #[C.p] w (PE (Vx cnX) (pcmp C.tk C.en) C s w):=by
 have hg:=h.lt
 have hl0:=LP.fresh (sh:=cnX) (t:=55) h rfl zCn_ni zCn_rel
 obtain⟨a,ha⟩:∃a,a=pex C.tk C.en s:=⟨_,rfl⟩
 rw[←ha]at hT
 obtain⟨t,ht⟩:∃t,t=pmust C.tk C.en wCmp a.2:=⟨_,rfl⟩
 rw[←ht]at hT
 obtain⟨b,hb⟩:∃b,b=pex C.tk C.en t.2:=⟨_,rfl⟩
 have e:pcmp C.tk C.en s=(.mk 2 [a.1,b.1] [],b.2):=by
  have hk:pcmpK t.1=2:=by unfold pcmpK;simp[hT]
  rw[←hk,hb,ht,ha];rfl
 have HC1:=Lib.hid (ex_any C s _ hl0.ps)
 have hw2:((w.alloc (.cells zCn.toArray 55)).alloc (.cells zCn.toArray 55)).heap.size=w.heap.size+2:=by simp
 have HY1:Hid (∀e1 W1,PE (Vx exX) (pex C.tk C.en) C s ((w.alloc (.cells zCn.toArray 55)).alloc (.cells zCn.toArray 55)) e1 W1→∃k1 n1 nm1 u1,e1= .returned (.agg #[.int .i64 k1,.int .i64 n1,.string nm1,u1])∧u1.oneCell'=true∧w.heap.size+2≤W1.heap.size∧Hid (LP cnX C w (w.heap.size+1) a.2 default zCn (W1.alloc (.cells #[.int .i64 k1,.int .i64 n1,.string nm1,u1] 57)))∧Hid (BX exX (w.heap.size+2) W1.heap.size (W1.alloc (.cells #[.int .i64 k1,.int .i64 n1,.string nm1,u1] 57)) a.1)):=fun e1 W1 ⟨v,a1,⟨cs,a2,a3⟩,a4,a5⟩=>by
  rw[←ha]at a3 a4
  obtain⟨u1,rfl,_,hu⟩:=ex_form a3
  have hs:=a5.size
  rw[hw2]at hs
  refine⟨_,_,_,u1,by rw[a1,a2],hu,hs,(hl0.step a5 a4).step (KeptG.alloc _ _ _) (a4.alloc _), ?_⟩
  refine⟨[.int .i64 a.1.kind,.int .i64 a.1.n,.string a.1.name,u1], ?_, ?_,by simp, ?_⟩
  ·exact range_new W1 [.int .i64 a.1.kind,.int .i64 a.1.n,.string a.1.name,u1] _
  ·exact there_new W1 [.int .i64 a.1.kind,.int .i64 a.1.n,.string a.1.name,u1] _
  ·rw[hw2]at a3
   exact inN_kept (inN_of (M:=W1.heap.size) a3 (Nat.le_refl _) (.inr (Nat.le_refl _))) (KeptG.alloc C.g W1 (.cells #[.int .i64 a.1.kind,.int .i64 a.1.n,.string a.1.name,u1] 57)) (by omega)
 have HM:=Lib.hid (fun W (hW:PSt C a.2 W) G (hG:W.heap.size=G)=>must4_at C a.2 (⟨#[61,61]⟩:ByteArray) (⟨#[33,61]⟩:ByteArray) (⟨#[60]⟩:ByteArray) (⟨#[60,61]⟩:ByteArray) W G hG hW (by decide) (by decide) (by decide) (by decide))
 have HYM:Hid (∀W e1 W1 M2,LP cnX C w (w.heap.size+1) a.2 default zCn W→BX exX (w.heap.size+2) M2 W a.1→w.heap.size+2≤M2→PE Vt (pmust C.tk C.en [(⟨#[61,61]⟩:ByteArray),(⟨#[33,61]⟩:ByteArray),(⟨#[60]⟩:ByteArray),(⟨#[60,61]⟩:ByteArray)]) C a.2 W e1 W1→e1= .returned (.string t.1)∧Hid (LP cnX C w (w.heap.size+1) t.2 default zCn W1)∧Hid (BX exX (w.heap.size+2) M2 W1 a.1)):=fun W e1 W1 M2 hl hbx hM2 ⟨v,a1,a2,a3,a4⟩=>by
  rw[ht]
  exact⟨by rw[a1,show v= .string _ from a2],hl.step a4 a3,hbx.kept a4 (by omega) (by omega)⟩
 have HC2:=Lib.hid (fun W (hW:PSt C t.2 W)=>ex_any C t.2 W hW)
 have HX:Hid (∀W M2 cs c0,LP cnX C w (w.heap.size+1) t.2 c0 cs W→cs[1]? =some (.slice none 0 0)→c0.kind=2∧c0.ks=[]→BX exX (w.heap.size+2) M2 W a.1→w.heap.size+2≤M2→∃k1 n1 nm1 u1,u1.oneCell'=true∧
  (W.cell? ⟨M2,0,none⟩=some (.int .i64 k1)∧W.cell? ⟨M2,1,none⟩=some (.int .i64 n1)∧W.cell? ⟨M2,2,none⟩=some (.string nm1)∧W.cell? ⟨M2,3,none⟩=some u1)∧
  ∀e4 W4,PE (Vx exX) (pex C.tk C.en) C t.2 W.drew e4 W4→∃k2 n2 nm2 u2,e4= .returned (.agg #[.int .i64 k2,.int .i64 n2,.string nm2,u2])∧u2.oneCell'=true∧(W4.cell? ⟨M2,0,none⟩=some (.int .i64 k1)∧W4.cell? ⟨M2,1,none⟩=some (.int .i64 n1)∧W4.cell? ⟨M2,2,none⟩=some (.string nm1)∧W4.cell? ⟨M2,3,none⟩=some u1)∧
   (∀o,(W4.alloc o).cell? ⟨w.heap.size+1,1,none⟩=some (.slice none 0 0)∧(W4.alloc o).frozen? ⟨w.heap.size+1,1,none⟩=false)∧
   ∀W9,Stored (w.heap.size+1) 1 [.slice (some ⟨W4.heap.size,0,none⟩) 2 2] (W4.alloc (.cells #[.int .i64 k1,.int .i64 n1,.string nm1,u1,.int .i64 k2,.int .i64 n2,.string nm2,u2] 57)) W9→
    (∃cs9:List Value,cs9.length=3∧(∀u∈cs9,u.oneCell'=true)∧W9.rangeAt (w.heap.size+1) 0 cs9∧W9.there w.heap.size 0 cs9.length∧∀w9,Stored w.heap.size 0 cs9 W9 w9→PE (Vx cnX) (pcmp C.tk C.en) C s w (.returned (.agg cs9.toArray)) w9)):=fun W M2 cs c0 hl hcl hk hbx hM2=>by
  obtain⟨u1,hu1,hr,ha1,hlt⟩:=bx_cells hbx
  refine⟨_,_,_,u1,hu1,⟨hr 0 _ rfl,hr 1 _ rfl,hr 2 _ rfl,hr 3 _ rfl⟩,fun e4 W4 ⟨v,b1,⟨cs2,b2,b3⟩,b4,b5⟩=> ?_⟩
  obtain⟨u2,rfl,_,hu2⟩:=ex_form b3
  have hd:KeptG C.g W W4:=(KeptG.drew C.g W).trans b5
  have hr4:=hd.range hlt (by omega) hr
  refine⟨_,_,_,u2,by rw[b1,b2],hu2,⟨hr4 0 _ rfl,hr4 1 _ rfl,hr4 2 _ rfl,hr4 3 _ rfl⟩,fun o=> ?_,fun W9 hst=> ?_⟩
  ·have hlo:=hl.step (hd.trans (KeptG.alloc C.g W4 o)) (b4.alloc o)
   obtain⟨_,h2⟩:=hlo.cell (j:=1) (by show 1<3;omega)
   exact⟨hlo.box 1 _ hcl,h2⟩
  ·have hf:=cmp_fin (s:=s) hl hk ha1 rfl ⟨hM2,hlt⟩ hd b4 b3 hst
   rw[←hb]at hf
   refine⟨_,hf.len,hf.one,hf.box,by rw[hf.len];exact hf.res,fun w9 hst9=>hf.fin hst9 e⟩
 have hx0:=eq_lit (x:=t.1) [61,61] hT
 generalize PE (Vx cnX) (pcmp C.tk C.en) C s w=Q at*
 generalize t.1=tx at*
 clear hl0 h e ha ht hb hT
 have HG:=Lib.hid hg
 clear hg
 unfold zCn at*
 go_enter Tryz.func222,Tryz.ntmps222
 go_wp2_with fail
 refine HC1.out.mono ?_
 rintro e w1 hq
 obtain⟨k1,n1,nm1,u1,rfl,hu1,hsz,HL1,HB1⟩:=HY1.out _ _ hq
 have HM1:=Lib.hid (HM.out _ HL1.out.ps (w1.heap.size+1) (by simp))
 clear hq HC1 HY1 HM
 go_wp2_with (refine gateS 57 4 rfl ?_;refine wpList_store_fresh (by kernel_rfl) 57 _ _ rfl _ rfl [.int .i64 k1,.int .i64 n1,.string nm1,u1] rfl (by kernel_rfl) rfl (one4 hu1) ?_)
 refine HM1.out.mono ?_
 rintro e w3 hq
 obtain⟨rfl,HL3,HB3⟩:=HYM.out _ _ _ _ HL1.out HB1.out hsz hq
 generalize w1.heap.size=M2 at*
 clear hq HM1 HYM HL1 HB1
 obtain⟨⟨v0,_,y0⟩,f0⟩:=HL3.out.cell (j:=0) (by show 0<3;omega)
 have hst0:Stored (w.heap.size+1) 0 [.int .i64 2] w3 (w3.setCell ⟨w.heap.size+1,0,none⟩ (.int .i64 2)):=stored_sets (cs:=[.int .i64 2]) (fun j hj=>by
  obtain rfl:j=0:=by simp at hj;exact hj
  exact⟨by rw[y0];rfl,f0⟩)
 have hl4:=HL3.out.upd hst0 (by show 0+1≤3;omega) (cn_ni HL3.out.tree) (fun hx=>cn_kind 2 ⟨by decide,by decide⟩ hx)
 have hb4:=HB3.out.far hst0.far (by omega) (by omega)
 obtain⟨k1',n1',nm1',u1',hu1',⟨q0,q1,q2,q3⟩,hx⟩:=HX.out _ M2 _ _ hl4 rfl ⟨rfl,rfl⟩ hb4 hsz
 have HP4:=Lib.hid (HC2.out _ (hl4.ps.up (w':=(w3.setCell ⟨w.heap.size+1,0,none⟩ (.int .i64 2)).drew) ⟨rfl,rfl,rfl,Nat.le_refl _,fun _ _=>rfl⟩))
 have HX4:=Lib.hid hx
 clear hx hl4 hb4 HX HC2 hst0
 have hne2:M2≠w.heap.size+1:=by omega
 clear HL3 HB3 hu1
 go_wp2_with fail
 go_region_with (go_at_call 173;refine HP4.out.mono ?_;rintro e w4 hq;obtain⟨k2,n2,nm2,u2,rfl,hu2,⟨r0,r1,r2,r3⟩,hz,hfin⟩:=HX4.out _ _ hq;have z1:=fun o=>(hz o).1;have g1:=fun o=>(hz o).2;have HF:=Lib.hid hfin;clear hq hfin)
 all_goals
  obtain⟨cs9,hl9,h19,hr9,ht9,hf9⟩:=HF.out _ (stored_sets (cs:=[.slice (some ⟨w4.heap.size,0,none⟩) 2 2]) (fun j hj=>by
   obtain rfl:j=0:=by simp at hj;exact hj
   exact⟨by rw[z1];rfl,g1 _⟩))
  have HF9:=Lib.hid hf9
  have hr9:World.rangeAt (World.setCell _ ⟨w.heap.size+1,1,none⟩ (.slice (some ⟨w4.heap.size,0,none⟩) 2 2)) (w.heap.size+1) 0 cs9:=hr9
  have ht9:World.there (World.setCell _ ⟨w.heap.size+1,1,none⟩ (.slice (some ⟨w4.heap.size,0,none⟩) 2 2)) w.heap.size 0 cs9.length:=ht9
  clear HF hf9 hz
  go_wp2_with (first | (refine gateL 55 3 rfl ?_;refine wpList_load_mid rfl 55 _ rfl (w.heap.size+1) 0 rfl cs9 _ hr9 Tryz.underlying55 rfl (by rw[hl9];kernel_rfl) ?_) | (refine gateS 55 2 rfl ?_;refine wpList_store_there rfl 55 _ _ rfl w.heap.size 0 rfl cs9 rfl (by rw[hl9];kernel_rfl) h19 ht9 ?_;intro w9 hst))
  exact bodyPost_ret (v:= .agg cs9.toArray) (results_one rfl _ _ _ _ _ rfl (Tryz.cnLoad hst.at' hl9)) rfl (HF9.out _ hst)
theorem cmp_2 (C:PC)(s:PS)(w:World)(h:PSt C s w)(hT:(pmust C.tk C.en wCmp (pex C.tk C.en s).2).1=(⟨#[33,61]⟩:ByteArray)):
 Calls Tryz.prog 222 #[C.p] w (PE (Vx cnX) (pcmp C.tk C.en) C s w):=by
 have hg:=h.lt
 have hl0:=LP.fresh (sh:=cnX) (t:=55) h rfl zCn_ni zCn_rel
 obtain⟨a,ha⟩:∃a,a=pex C.tk C.en s:=⟨_,rfl⟩
 rw[←ha]at hT
 obtain⟨t,ht⟩:∃t,t=pmust C.tk C.en wCmp a.2:=⟨_,rfl⟩
 rw[←ht]at hT
 obtain⟨b,hb⟩:∃b,b=pex C.tk C.en t.2:=⟨_,rfl⟩
 have e:pcmp C.tk C.en s=(.mk 3 [a.1,b.1] [],b.2):=by
  have hk:pcmpK t.1=3:=by unfold pcmpK;simp[hT]
  rw[←hk,hb,ht,ha];rfl
 have HC1:=Lib.hid (ex_any C s _ hl0.ps)
 have hw2:((w.alloc (.cells zCn.toArray 55)).alloc (.cells zCn.toArray 55)).heap.size=w.heap.size+2:=by simp
 have HY1:Hid (∀e1 W1,PE (Vx exX) (pex C.tk C.en) C s ((w.alloc (.cells zCn.toArray 55)).alloc (.cells zCn.toArray 55)) e1 W1→∃k1 n1 nm1 u1,e1= .returned (.agg #[.int .i64 k1,.int .i64 n1,.string nm1,u1])∧u1.oneCell'=true∧w.heap.size+2≤W1.heap.size∧Hid (LP cnX C w (w.heap.size+1) a.2 default zCn (W1.alloc (.cells #[.int .i64 k1,.int .i64 n1,.string nm1,u1] 57)))∧Hid (BX exX (w.heap.size+2) W1.heap.size (W1.alloc (.cells #[.int .i64 k1,.int .i64 n1,.string nm1,u1] 57)) a.1)):=fun e1 W1 ⟨v,a1,⟨cs,a2,a3⟩,a4,a5⟩=>by
  rw[←ha]at a3 a4
  obtain⟨u1,rfl,_,hu⟩:=ex_form a3
  have hs:=a5.size
  rw[hw2]at hs
  refine⟨_,_,_,u1,by rw[a1,a2],hu,hs,(hl0.step a5 a4).step (KeptG.alloc _ _ _) (a4.alloc _), ?_⟩
  refine⟨[.int .i64 a.1.kind,.int .i64 a.1.n,.string a.1.name,u1], ?_, ?_,by simp, ?_⟩
  ·exact range_new W1 [.int .i64 a.1.kind,.int .i64 a.1.n,.string a.1.name,u1] _
  ·exact there_new W1 [.int .i64 a.1.kind,.int .i64 a.1.n,.string a.1.name,u1] _
  ·rw[hw2]at a3
   exact inN_kept (inN_of (M:=W1.heap.size) a3 (Nat.le_refl _) (.inr (Nat.le_refl _))) (KeptG.alloc C.g W1 (.cells #[.int .i64 a.1.kind,.int .i64 a.1.n,.string a.1.name,u1] 57)) (by omega)
 have HM:=Lib.hid (fun W (hW:PSt C a.2 W) G (hG:W.heap.size=G)=>must4_at C a.2 (⟨#[61,61]⟩:ByteArray) (⟨#[33,61]⟩:ByteArray) (⟨#[60]⟩:ByteArray) (⟨#[60,61]⟩:ByteArray) W G hG hW (by decide) (by decide) (by decide) (by decide))
 have HYM:Hid (∀W e1 W1 M2,LP cnX C w (w.heap.size+1) a.2 default zCn W→BX exX (w.heap.size+2) M2 W a.1→w.heap.size+2≤M2→PE Vt (pmust C.tk C.en [(⟨#[61,61]⟩:ByteArray),(⟨#[33,61]⟩:ByteArray),(⟨#[60]⟩:ByteArray),(⟨#[60,61]⟩:ByteArray)]) C a.2 W e1 W1→e1= .returned (.string t.1)∧Hid (LP cnX C w (w.heap.size+1) t.2 default zCn W1)∧Hid (BX exX (w.heap.size+2) M2 W1 a.1)):=fun W e1 W1 M2 hl hbx hM2 ⟨v,a1,a2,a3,a4⟩=>by
  rw[ht]
  exact⟨by rw[a1,show v= .string _ from a2],hl.step a4 a3,hbx.kept a4 (by omega) (by omega)⟩
 have HC2:=Lib.hid (fun W (hW:PSt C t.2 W)=>ex_any C t.2 W hW)
 have HX:Hid (∀W M2 cs c0,LP cnX C w (w.heap.size+1) t.2 c0 cs W→cs[1]? =some (.slice none 0 0)→c0.kind=3∧c0.ks=[]→BX exX (w.heap.size+2) M2 W a.1→w.heap.size+2≤M2→∃k1 n1 nm1 u1,u1.oneCell'=true∧
  (W.cell? ⟨M2,0,none⟩=some (.int .i64 k1)∧W.cell? ⟨M2,1,none⟩=some (.int .i64 n1)∧W.cell? ⟨M2,2,none⟩=some (.string nm1)∧W.cell? ⟨M2,3,none⟩=some u1)∧
  ∀e4 W4,PE (Vx exX) (pex C.tk C.en) C t.2 W.drew e4 W4→∃k2 n2 nm2 u2,e4= .returned (.agg #[.int .i64 k2,.int .i64 n2,.string nm2,u2])∧u2.oneCell'=true∧(W4.cell? ⟨M2,0,none⟩=some (.int .i64 k1)∧W4.cell? ⟨M2,1,none⟩=some (.int .i64 n1)∧W4.cell? ⟨M2,2,none⟩=some (.string nm1)∧W4.cell? ⟨M2,3,none⟩=some u1)∧
   (∀o,(W4.alloc o).cell? ⟨w.heap.size+1,1,none⟩=some (.slice none 0 0)∧(W4.alloc o).frozen? ⟨w.heap.size+1,1,none⟩=false)∧
   ∀W9,Stored (w.heap.size+1) 1 [.slice (some ⟨W4.heap.size,0,none⟩) 2 2] (W4.alloc (.cells #[.int .i64 k1,.int .i64 n1,.string nm1,u1,.int .i64 k2,.int .i64 n2,.string nm2,u2] 57)) W9→
    (∃cs9:List Value,cs9.length=3∧(∀u∈cs9,u.oneCell'=true)∧W9.rangeAt (w.heap.size+1) 0 cs9∧W9.there w.heap.size 0 cs9.length∧∀w9,Stored w.heap.size 0 cs9 W9 w9→PE (Vx cnX) (pcmp C.tk C.en) C s w (.returned (.agg cs9.toArray)) w9)):=fun W M2 cs c0 hl hcl hk hbx hM2=>by
  obtain⟨u1,hu1,hr,ha1,hlt⟩:=bx_cells hbx
  refine⟨_,_,_,u1,hu1,⟨hr 0 _ rfl,hr 1 _ rfl,hr 2 _ rfl,hr 3 _ rfl⟩,fun e4 W4 ⟨v,b1,⟨cs2,b2,b3⟩,b4,b5⟩=> ?_⟩
  obtain⟨u2,rfl,_,hu2⟩:=ex_form b3
  have hd:KeptG C.g W W4:=(KeptG.drew C.g W).trans b5
  have hr4:=hd.range hlt (by omega) hr
  refine⟨_,_,_,u2,by rw[b1,b2],hu2,⟨hr4 0 _ rfl,hr4 1 _ rfl,hr4 2 _ rfl,hr4 3 _ rfl⟩,fun o=> ?_,fun W9 hst=> ?_⟩
  ·have hlo:=hl.step (hd.trans (KeptG.alloc C.g W4 o)) (b4.alloc o)
   obtain⟨_,h2⟩:=hlo.cell (j:=1) (by show 1<3;omega)
   exact⟨hlo.box 1 _ hcl,h2⟩
  ·have hf:=cmp_fin (s:=s) hl hk ha1 rfl ⟨hM2,hlt⟩ hd b4 b3 hst
   rw[←hb]at hf
   refine⟨_,hf.len,hf.one,hf.box,by rw[hf.len];exact hf.res,fun w9 hst9=>hf.fin hst9 e⟩
 have hx0:=ne_lit (x:=t.1) [61,61] (by rw[hT];decide)
 have hx1:=eq_lit (x:=t.1) [33,61] hT
 generalize PE (Vx cnX) (pcmp C.tk C.en) C s w=Q at*
 generalize t.1=tx at*
 clear hl0 h e ha ht hb hT
 have HG:=Lib.hid hg
 clear hg
 unfold zCn at*
 go_enter Tryz.func222,Tryz.ntmps222
 go_wp2_with fail
 refine HC1.out.mono ?_
 rintro e w1 hq
 obtain⟨k1,n1,nm1,u1,rfl,hu1,hsz,HL1,HB1⟩:=HY1.out _ _ hq
 have HM1:=Lib.hid (HM.out _ HL1.out.ps (w1.heap.size+1) (by simp))
 clear hq HC1 HY1 HM
 go_wp2_with (refine gateS 57 4 rfl ?_;refine wpList_store_fresh (by kernel_rfl) 57 _ _ rfl _ rfl [.int .i64 k1,.int .i64 n1,.string nm1,u1] rfl (by kernel_rfl) rfl (one4 hu1) ?_)
 refine HM1.out.mono ?_
 rintro e w3 hq
 obtain⟨rfl,HL3,HB3⟩:=HYM.out _ _ _ _ HL1.out HB1.out hsz hq
 generalize w1.heap.size=M2 at*
 clear hq HM1 HYM HL1 HB1
 obtain⟨⟨v0,_,y0⟩,f0⟩:=HL3.out.cell (j:=0) (by show 0<3;omega)
 have hst0:Stored (w.heap.size+1) 0 [.int .i64 3] w3 (w3.setCell ⟨w.heap.size+1,0,none⟩ (.int .i64 3)):=stored_sets (cs:=[.int .i64 3]) (fun j hj=>by
  obtain rfl:j=0:=by simp at hj;exact hj
  exact⟨by rw[y0];rfl,f0⟩)
 have hl4:=HL3.out.upd hst0 (by show 0+1≤3;omega) (cn_ni HL3.out.tree) (fun hx=>cn_kind 3 ⟨by decide,by decide⟩ hx)
 have hb4:=HB3.out.far hst0.far (by omega) (by omega)
 obtain⟨k1',n1',nm1',u1',hu1',⟨q0,q1,q2,q3⟩,hx⟩:=HX.out _ M2 _ _ hl4 rfl ⟨rfl,rfl⟩ hb4 hsz
 have HP4:=Lib.hid (HC2.out _ (hl4.ps.up (w':=(w3.setCell ⟨w.heap.size+1,0,none⟩ (.int .i64 3)).drew) ⟨rfl,rfl,rfl,Nat.le_refl _,fun _ _=>rfl⟩))
 have HX4:=Lib.hid hx
 clear hx hl4 hb4 HX HC2 hst0
 have hne2:M2≠w.heap.size+1:=by omega
 clear HL3 HB3 hu1
 go_wp2_with fail
 go_region_with (go_at_call 173;refine HP4.out.mono ?_;rintro e w4 hq;obtain⟨k2,n2,nm2,u2,rfl,hu2,⟨r0,r1,r2,r3⟩,hz,hfin⟩:=HX4.out _ _ hq;have z1:=fun o=>(hz o).1;have g1:=fun o=>(hz o).2;have HF:=Lib.hid hfin;clear hq hfin)
 all_goals
  obtain⟨cs9,hl9,h19,hr9,ht9,hf9⟩:=HF.out _ (stored_sets (cs:=[.slice (some ⟨w4.heap.size,0,none⟩) 2 2]) (fun j hj=>by
   obtain rfl:j=0:=by simp at hj;exact hj
   exact⟨by rw[z1];rfl,g1 _⟩))
  have HF9:=Lib.hid hf9
  have hr9:World.rangeAt (World.setCell _ ⟨w.heap.size+1,1,none⟩ (.slice (some ⟨w4.heap.size,0,none⟩) 2 2)) (w.heap.size+1) 0 cs9:=hr9
  have ht9:World.there (World.setCell _ ⟨w.heap.size+1,1,none⟩ (.slice (some ⟨w4.heap.size,0,none⟩) 2 2)) w.heap.size 0 cs9.length:=ht9
  clear HF hf9 hz
  go_wp2_with (first | (refine gateL 55 3 rfl ?_;refine wpList_load_mid rfl 55 _ rfl (w.heap.size+1) 0 rfl cs9 _ hr9 Tryz.underlying55 rfl (by rw[hl9];kernel_rfl) ?_) | (refine gateS 55 2 rfl ?_;refine wpList_store_there rfl 55 _ _ rfl w.heap.size 0 rfl cs9 rfl (by rw[hl9];kernel_rfl) h19 ht9 ?_;intro w9 hst))
  exact bodyPost_ret (v:= .agg cs9.toArray) (results_one rfl _ _ _ _ _ rfl (Tryz.cnLoad hst.at' hl9)) rfl (HF9.out _ hst)
theorem cmp_3 (C:PC)(s:PS)(w:World)(h:PSt C s w)(hT:(pmust C.tk C.en wCmp (pex C.tk C.en s).2).1=(⟨#[60]⟩:ByteArray)):
 Calls Tryz.prog 222 #[C.p] w (PE (Vx cnX) (pcmp C.tk C.en) C s w):=by
 have hg:=h.lt
 have hl0:=LP.fresh (sh:=cnX) (t:=55) h rfl zCn_ni zCn_rel
 obtain⟨a,ha⟩:∃a,a=pex C.tk C.en s:=⟨_,rfl⟩
 rw[←ha]at hT
 obtain⟨t,ht⟩:∃t,t=pmust C.tk C.en wCmp a.2:=⟨_,rfl⟩
 rw[←ht]at hT
 obtain⟨b,hb⟩:∃b,b=pex C.tk C.en t.2:=⟨_,rfl⟩
 have e:pcmp C.tk C.en s=(.mk 4 [a.1,b.1] [],b.2):=by
  have hk:pcmpK t.1=4:=by unfold pcmpK;simp[hT]
  rw[←hk,hb,ht,ha];rfl
 have HC1:=Lib.hid (ex_any C s _ hl0.ps)
 have hw2:((w.alloc (.cells zCn.toArray 55)).alloc (.cells zCn.toArray 55)).heap.size=w.heap.size+2:=by simp
 have HY1:Hid (∀e1 W1,PE (Vx exX) (pex C.tk C.en) C s ((w.alloc (.cells zCn.toArray 55)).alloc (.cells zCn.toArray 55)) e1 W1→∃k1 n1 nm1 u1,e1= .returned (.agg #[.int .i64 k1,.int .i64 n1,.string nm1,u1])∧u1.oneCell'=true∧w.heap.size+2≤W1.heap.size∧Hid (LP cnX C w (w.heap.size+1) a.2 default zCn (W1.alloc (.cells #[.int .i64 k1,.int .i64 n1,.string nm1,u1] 57)))∧Hid (BX exX (w.heap.size+2) W1.heap.size (W1.alloc (.cells #[.int .i64 k1,.int .i64 n1,.string nm1,u1] 57)) a.1)):=fun e1 W1 ⟨v,a1,⟨cs,a2,a3⟩,a4,a5⟩=>by
  rw[←ha]at a3 a4
  obtain⟨u1,rfl,_,hu⟩:=ex_form a3
  have hs:=a5.size
  rw[hw2]at hs
  refine⟨_,_,_,u1,by rw[a1,a2],hu,hs,(hl0.step a5 a4).step (KeptG.alloc _ _ _) (a4.alloc _), ?_⟩
  refine⟨[.int .i64 a.1.kind,.int .i64 a.1.n,.string a.1.name,u1], ?_, ?_,by simp, ?_⟩
  ·exact range_new W1 [.int .i64 a.1.kind,.int .i64 a.1.n,.string a.1.name,u1] _
  ·exact there_new W1 [.int .i64 a.1.kind,.int .i64 a.1.n,.string a.1.name,u1] _
  ·rw[hw2]at a3
   exact inN_kept (inN_of (M:=W1.heap.size) a3 (Nat.le_refl _) (.inr (Nat.le_refl _))) (KeptG.alloc C.g W1 (.cells #[.int .i64 a.1.kind,.int .i64 a.1.n,.string a.1.name,u1] 57)) (by omega)
 have HM:=Lib.hid (fun W (hW:PSt C a.2 W) G (hG:W.heap.size=G)=>must4_at C a.2 (⟨#[61,61]⟩:ByteArray) (⟨#[33,61]⟩:ByteArray) (⟨#[60]⟩:ByteArray) (⟨#[60,61]⟩:ByteArray) W G hG hW (by decide) (by decide) (by decide) (by decide))
 have HYM:Hid (∀W e1 W1 M2,LP cnX C w (w.heap.size+1) a.2 default zCn W→BX exX (w.heap.size+2) M2 W a.1→w.heap.size+2≤M2→PE Vt (pmust C.tk C.en [(⟨#[61,61]⟩:ByteArray),(⟨#[33,61]⟩:ByteArray),(⟨#[60]⟩:ByteArray),(⟨#[60,61]⟩:ByteArray)]) C a.2 W e1 W1→e1= .returned (.string t.1)∧Hid (LP cnX C w (w.heap.size+1) t.2 default zCn W1)∧Hid (BX exX (w.heap.size+2) M2 W1 a.1)):=fun W e1 W1 M2 hl hbx hM2 ⟨v,a1,a2,a3,a4⟩=>by
  rw[ht]
  exact⟨by rw[a1,show v= .string _ from a2],hl.step a4 a3,hbx.kept a4 (by omega) (by omega)⟩
 have HC2:=Lib.hid (fun W (hW:PSt C t.2 W)=>ex_any C t.2 W hW)
 have HX:Hid (∀W M2 cs c0,LP cnX C w (w.heap.size+1) t.2 c0 cs W→cs[1]? =some (.slice none 0 0)→c0.kind=4∧c0.ks=[]→BX exX (w.heap.size+2) M2 W a.1→w.heap.size+2≤M2→∃k1 n1 nm1 u1,u1.oneCell'=true∧
  (W.cell? ⟨M2,0,none⟩=some (.int .i64 k1)∧W.cell? ⟨M2,1,none⟩=some (.int .i64 n1)∧W.cell? ⟨M2,2,none⟩=some (.string nm1)∧W.cell? ⟨M2,3,none⟩=some u1)∧
  ∀e4 W4,PE (Vx exX) (pex C.tk C.en) C t.2 W.drew e4 W4→∃k2 n2 nm2 u2,e4= .returned (.agg #[.int .i64 k2,.int .i64 n2,.string nm2,u2])∧u2.oneCell'=true∧(W4.cell? ⟨M2,0,none⟩=some (.int .i64 k1)∧W4.cell? ⟨M2,1,none⟩=some (.int .i64 n1)∧W4.cell? ⟨M2,2,none⟩=some (.string nm1)∧W4.cell? ⟨M2,3,none⟩=some u1)∧
   (∀o,(W4.alloc o).cell? ⟨w.heap.size+1,1,none⟩=some (.slice none 0 0)∧(W4.alloc o).frozen? ⟨w.heap.size+1,1,none⟩=false)∧
   ∀W9,Stored (w.heap.size+1) 1 [.slice (some ⟨W4.heap.size,0,none⟩) 2 2] (W4.alloc (.cells #[.int .i64 k1,.int .i64 n1,.string nm1,u1,.int .i64 k2,.int .i64 n2,.string nm2,u2] 57)) W9→
    (∃cs9:List Value,cs9.length=3∧(∀u∈cs9,u.oneCell'=true)∧W9.rangeAt (w.heap.size+1) 0 cs9∧W9.there w.heap.size 0 cs9.length∧∀w9,Stored w.heap.size 0 cs9 W9 w9→PE (Vx cnX) (pcmp C.tk C.en) C s w (.returned (.agg cs9.toArray)) w9)):=fun W M2 cs c0 hl hcl hk hbx hM2=>by
  obtain⟨u1,hu1,hr,ha1,hlt⟩:=bx_cells hbx
  refine⟨_,_,_,u1,hu1,⟨hr 0 _ rfl,hr 1 _ rfl,hr 2 _ rfl,hr 3 _ rfl⟩,fun e4 W4 ⟨v,b1,⟨cs2,b2,b3⟩,b4,b5⟩=> ?_⟩
  obtain⟨u2,rfl,_,hu2⟩:=ex_form b3
  have hd:KeptG C.g W W4:=(KeptG.drew C.g W).trans b5
  have hr4:=hd.range hlt (by omega) hr
  refine⟨_,_,_,u2,by rw[b1,b2],hu2,⟨hr4 0 _ rfl,hr4 1 _ rfl,hr4 2 _ rfl,hr4 3 _ rfl⟩,fun o=> ?_,fun W9 hst=> ?_⟩
  ·have hlo:=hl.step (hd.trans (KeptG.alloc C.g W4 o)) (b4.alloc o)
   obtain⟨_,h2⟩:=hlo.cell (j:=1) (by show 1<3;omega)
   exact⟨hlo.box 1 _ hcl,h2⟩
  ·have hf:=cmp_fin (s:=s) hl hk ha1 rfl ⟨hM2,hlt⟩ hd b4 b3 hst
   rw[←hb]at hf
   refine⟨_,hf.len,hf.one,hf.box,by rw[hf.len];exact hf.res,fun w9 hst9=>hf.fin hst9 e⟩
 have hx0:=ne_lit (x:=t.1) [61,61] (by rw[hT];decide)
 have hx1:=ne_lit (x:=t.1) [33,61] (by rw[hT];decide)
 have hx2:=eq_lit (x:=t.1) [60] hT
 generalize PE (Vx cnX) (pcmp C.tk C.en) C s w=Q at*
 generalize t.1=tx at*
 clear hl0 h e ha ht hb hT
 have HG:=Lib.hid hg
 clear hg
 unfold zCn at*
 go_enter Tryz.func222,Tryz.ntmps222
 go_wp2_with fail
 refine HC1.out.mono ?_
 rintro e w1 hq
 obtain⟨k1,n1,nm1,u1,rfl,hu1,hsz,HL1,HB1⟩:=HY1.out _ _ hq
 have HM1:=Lib.hid (HM.out _ HL1.out.ps (w1.heap.size+1) (by simp))
 clear hq HC1 HY1 HM
 go_wp2_with (refine gateS 57 4 rfl ?_;refine wpList_store_fresh (by kernel_rfl) 57 _ _ rfl _ rfl [.int .i64 k1,.int .i64 n1,.string nm1,u1] rfl (by kernel_rfl) rfl (one4 hu1) ?_)
 refine HM1.out.mono ?_
 rintro e w3 hq
 obtain⟨rfl,HL3,HB3⟩:=HYM.out _ _ _ _ HL1.out HB1.out hsz hq
 generalize w1.heap.size=M2 at*
 clear hq HM1 HYM HL1 HB1
 obtain⟨⟨v0,_,y0⟩,f0⟩:=HL3.out.cell (j:=0) (by show 0<3;omega)
 have hst0:Stored (w.heap.size+1) 0 [.int .i64 4] w3 (w3.setCell ⟨w.heap.size+1,0,none⟩ (.int .i64 4)):=stored_sets (cs:=[.int .i64 4]) (fun j hj=>by
  obtain rfl:j=0:=by simp at hj;exact hj
  exact⟨by rw[y0];rfl,f0⟩)
 have hl4:=HL3.out.upd hst0 (by show 0+1≤3;omega) (cn_ni HL3.out.tree) (fun hx=>cn_kind 4 ⟨by decide,by decide⟩ hx)
 have hb4:=HB3.out.far hst0.far (by omega) (by omega)
 obtain⟨k1',n1',nm1',u1',hu1',⟨q0,q1,q2,q3⟩,hx⟩:=HX.out _ M2 _ _ hl4 rfl ⟨rfl,rfl⟩ hb4 hsz
 have HP4:=Lib.hid (HC2.out _ (hl4.ps.up (w':=(w3.setCell ⟨w.heap.size+1,0,none⟩ (.int .i64 4)).drew) ⟨rfl,rfl,rfl,Nat.le_refl _,fun _ _=>rfl⟩))
 have HX4:=Lib.hid hx
 clear hx hl4 hb4 HX HC2 hst0
 have hne2:M2≠w.heap.size+1:=by omega
 clear HL3 HB3 hu1
 go_wp2_with fail
 go_region_with (go_at_call 173;refine HP4.out.mono ?_;rintro e w4 hq;obtain⟨k2,n2,nm2,u2,rfl,hu2,⟨r0,r1,r2,r3⟩,hz,hfin⟩:=HX4.out _ _ hq;have z1:=fun o=>(hz o).1;have g1:=fun o=>(hz o).2;have HF:=Lib.hid hfin;clear hq hfin)
 all_goals
  obtain⟨cs9,hl9,h19,hr9,ht9,hf9⟩:=HF.out _ (stored_sets (cs:=[.slice (some ⟨w4.heap.size,0,none⟩) 2 2]) (fun j hj=>by
   obtain rfl:j=0:=by simp at hj;exact hj
   exact⟨by rw[z1];rfl,g1 _⟩))
  have HF9:=Lib.hid hf9
  have hr9:World.rangeAt (World.setCell _ ⟨w.heap.size+1,1,none⟩ (.slice (some ⟨w4.heap.size,0,none⟩) 2 2)) (w.heap.size+1) 0 cs9:=hr9
  have ht9:World.there (World.setCell _ ⟨w.heap.size+1,1,none⟩ (.slice (some ⟨w4.heap.size,0,none⟩) 2 2)) w.heap.size 0 cs9.length:=ht9
  clear HF hf9 hz
  go_wp2_with (first | (refine gateL 55 3 rfl ?_;refine wpList_load_mid rfl 55 _ rfl (w.heap.size+1) 0 rfl cs9 _ hr9 Tryz.underlying55 rfl (by rw[hl9];kernel_rfl) ?_) | (refine gateS 55 2 rfl ?_;refine wpList_store_there rfl 55 _ _ rfl w.heap.size 0 rfl cs9 rfl (by rw[hl9];kernel_rfl) h19 ht9 ?_;intro w9 hst))
  exact bodyPost_ret (v:= .agg cs9.toArray) (results_one rfl _ _ _ _ _ rfl (Tryz.cnLoad hst.at' hl9)) rfl (HF9.out _ hst)
theorem cmp_4 (C:PC)(s:PS)(w:World)(h:PSt C s w)(hT:(pmust C.tk C.en wCmp (pex C.tk C.en s).2).1=(⟨#[60,61]⟩:ByteArray)):
 Calls Tryz.prog 222 #[C.p] w (PE (Vx cnX) (pcmp C.tk C.en) C s w):=by
 have hg:=h.lt
 have hl0:=LP.fresh (sh:=cnX) (t:=55) h rfl zCn_ni zCn_rel
 obtain⟨a,ha⟩:∃a,a=pex C.tk C.en s:=⟨_,rfl⟩
 rw[←ha]at hT
 obtain⟨t,ht⟩:∃t,t=pmust C.tk C.en wCmp a.2:=⟨_,rfl⟩
 rw[←ht]at hT
 obtain⟨b,hb⟩:∃b,b=pex C.tk C.en t.2:=⟨_,rfl⟩
 have e:pcmp C.tk C.en s=(.mk 5 [a.1,b.1] [],b.2):=by
  have hk:pcmpK t.1=5:=by unfold pcmpK;simp[hT]
  rw[←hk,hb,ht,ha];rfl
 have HC1:=Lib.hid (ex_any C s _ hl0.ps)
 have hw2:((w.alloc (.cells zCn.toArray 55)).alloc (.cells zCn.toArray 55)).heap.size=w.heap.size+2:=by simp
 have HY1:Hid (∀e1 W1,PE (Vx exX) (pex C.tk C.en) C s ((w.alloc (.cells zCn.toArray 55)).alloc (.cells zCn.toArray 55)) e1 W1→∃k1 n1 nm1 u1,e1= .returned (.agg #[.int .i64 k1,.int .i64 n1,.string nm1,u1])∧u1.oneCell'=true∧w.heap.size+2≤W1.heap.size∧Hid (LP cnX C w (w.heap.size+1) a.2 default zCn (W1.alloc (.cells #[.int .i64 k1,.int .i64 n1,.string nm1,u1] 57)))∧Hid (BX exX (w.heap.size+2) W1.heap.size (W1.alloc (.cells #[.int .i64 k1,.int .i64 n1,.string nm1,u1] 57)) a.1)):=fun e1 W1 ⟨v,a1,⟨cs,a2,a3⟩,a4,a5⟩=>by
  rw[←ha]at a3 a4
  obtain⟨u1,rfl,_,hu⟩:=ex_form a3
  have hs:=a5.size
  rw[hw2]at hs
  refine⟨_,_,_,u1,by rw[a1,a2],hu,hs,(hl0.step a5 a4).step (KeptG.alloc _ _ _) (a4.alloc _), ?_⟩
  refine⟨[.int .i64 a.1.kind,.int .i64 a.1.n,.string a.1.name,u1], ?_, ?_,by simp, ?_⟩
  ·exact range_new W1 [.int .i64 a.1.kind,.int .i64 a.1.n,.string a.1.name,u1] _
  ·exact there_new W1 [.int .i64 a.1.kind,.int .i64 a.1.n,.string a.1.name,u1] _
  ·rw[hw2]at a3
   exact inN_kept (inN_of (M:=W1.heap.size) a3 (Nat.le_refl _) (.inr (Nat.le_refl _))) (KeptG.alloc C.g W1 (.cells #[.int .i64 a.1.kind,.int .i64 a.1.n,.string a.1.name,u1] 57)) (by omega)
 have HM:=Lib.hid (fun W (hW:PSt C a.2 W) G (hG:W.heap.size=G)=>must4_at C a.2 (⟨#[61,61]⟩:ByteArray) (⟨#[33,61]⟩:ByteArray) (⟨#[60]⟩:ByteArray) (⟨#[60,61]⟩:ByteArray) W G hG hW (by decide) (by decide) (by decide) (by decide))
 have HYM:Hid (∀W e1 W1 M2,LP cnX C w (w.heap.size+1) a.2 default zCn W→BX exX (w.heap.size+2) M2 W a.1→w.heap.size+2≤M2→PE Vt (pmust C.tk C.en [(⟨#[61,61]⟩:ByteArray),(⟨#[33,61]⟩:ByteArray),(⟨#[60]⟩:ByteArray),(⟨#[60,61]⟩:ByteArray)]) C a.2 W e1 W1→e1= .returned (.string t.1)∧Hid (LP cnX C w (w.heap.size+1) t.2 default zCn W1)∧Hid (BX exX (w.heap.size+2) M2 W1 a.1)):=fun W e1 W1 M2 hl hbx hM2 ⟨v,a1,a2,a3,a4⟩=>by
  rw[ht]
  exact⟨by rw[a1,show v= .string _ from a2],hl.step a4 a3,hbx.kept a4 (by omega) (by omega)⟩
 have HC2:=Lib.hid (fun W (hW:PSt C t.2 W)=>ex_any C t.2 W hW)
 have HX:Hid (∀W M2 cs c0,LP cnX C w (w.heap.size+1) t.2 c0 cs W→cs[1]? =some (.slice none 0 0)→c0.kind=5∧c0.ks=[]→BX exX (w.heap.size+2) M2 W a.1→w.heap.size+2≤M2→∃k1 n1 nm1 u1,u1.oneCell'=true∧
  (W.cell? ⟨M2,0,none⟩=some (.int .i64 k1)∧W.cell? ⟨M2,1,none⟩=some (.int .i64 n1)∧W.cell? ⟨M2,2,none⟩=some (.string nm1)∧W.cell? ⟨M2,3,none⟩=some u1)∧
  ∀e4 W4,PE (Vx exX) (pex C.tk C.en) C t.2 W.drew e4 W4→∃k2 n2 nm2 u2,e4= .returned (.agg #[.int .i64 k2,.int .i64 n2,.string nm2,u2])∧u2.oneCell'=true∧(W4.cell? ⟨M2,0,none⟩=some (.int .i64 k1)∧W4.cell? ⟨M2,1,none⟩=some (.int .i64 n1)∧W4.cell? ⟨M2,2,none⟩=some (.string nm1)∧W4.cell? ⟨M2,3,none⟩=some u1)∧
   (∀o,(W4.alloc o).cell? ⟨w.heap.size+1,1,none⟩=some (.slice none 0 0)∧(W4.alloc o).frozen? ⟨w.heap.size+1,1,none⟩=false)∧
   ∀W9,Stored (w.heap.size+1) 1 [.slice (some ⟨W4.heap.size,0,none⟩) 2 2] (W4.alloc (.cells #[.int .i64 k1,.int .i64 n1,.string nm1,u1,.int .i64 k2,.int .i64 n2,.string nm2,u2] 57)) W9→
    (∃cs9:List Value,cs9.length=3∧(∀u∈cs9,u.oneCell'=true)∧W9.rangeAt (w.heap.size+1) 0 cs9∧W9.there w.heap.size 0 cs9.length∧∀w9,Stored w.heap.size 0 cs9 W9 w9→PE (Vx cnX) (pcmp C.tk C.en) C s w (.returned (.agg cs9.toArray)) w9)):=fun W M2 cs c0 hl hcl hk hbx hM2=>by
  obtain⟨u1,hu1,hr,ha1,hlt⟩:=bx_cells hbx
  refine⟨_,_,_,u1,hu1,⟨hr 0 _ rfl,hr 1 _ rfl,hr 2 _ rfl,hr 3 _ rfl⟩,fun e4 W4 ⟨v,b1,⟨cs2,b2,b3⟩,b4,b5⟩=> ?_⟩
  obtain⟨u2,rfl,_,hu2⟩:=ex_form b3
  have hd:KeptG C.g W W4:=(KeptG.drew C.g W).trans b5
  have hr4:=hd.range hlt (by omega) hr
  refine⟨_,_,_,u2,by rw[b1,b2],hu2,⟨hr4 0 _ rfl,hr4 1 _ rfl,hr4 2 _ rfl,hr4 3 _ rfl⟩,fun o=> ?_,fun W9 hst=> ?_⟩
  ·have hlo:=hl.step (hd.trans (KeptG.alloc C.g W4 o)) (b4.alloc o)
   obtain⟨_,h2⟩:=hlo.cell (j:=1) (by show 1<3;omega)
   exact⟨hlo.box 1 _ hcl,h2⟩
  ·have hf:=cmp_fin (s:=s) hl hk ha1 rfl ⟨hM2,hlt⟩ hd b4 b3 hst
   rw[←hb]at hf
   refine⟨_,hf.len,hf.one,hf.box,by rw[hf.len];exact hf.res,fun w9 hst9=>hf.fin hst9 e⟩
 have hx0:=ne_lit (x:=t.1) [61,61] (by rw[hT];decide)
 have hx1:=ne_lit (x:=t.1) [33,61] (by rw[hT];decide)
 have hx2:=ne_lit (x:=t.1) [60] (by rw[hT];decide)
 have hx3:=eq_lit (x:=t.1) [60,61] hT
 generalize PE (Vx cnX) (pcmp C.tk C.en) C s w=Q at*
 generalize t.1=tx at*
 clear hl0 h e ha ht hb hT
 have HG:=Lib.hid hg
 clear hg
 unfold zCn at*
 go_enter Tryz.func222,Tryz.ntmps222
 go_wp2_with fail
 refine HC1.out.mono ?_
 rintro e w1 hq
 obtain⟨k1,n1,nm1,u1,rfl,hu1,hsz,HL1,HB1⟩:=HY1.out _ _ hq
 have HM1:=Lib.hid (HM.out _ HL1.out.ps (w1.heap.size+1) (by simp))
 clear hq HC1 HY1 HM
 go_wp2_with (refine gateS 57 4 rfl ?_;refine wpList_store_fresh (by kernel_rfl) 57 _ _ rfl _ rfl [.int .i64 k1,.int .i64 n1,.string nm1,u1] rfl (by kernel_rfl) rfl (one4 hu1) ?_)
 refine HM1.out.mono ?_
 rintro e w3 hq
 obtain⟨rfl,HL3,HB3⟩:=HYM.out _ _ _ _ HL1.out HB1.out hsz hq
 generalize w1.heap.size=M2 at*
 clear hq HM1 HYM HL1 HB1
 obtain⟨⟨v0,_,y0⟩,f0⟩:=HL3.out.cell (j:=0) (by show 0<3;omega)
 have hst0:Stored (w.heap.size+1) 0 [.int .i64 5] w3 (w3.setCell ⟨w.heap.size+1,0,none⟩ (.int .i64 5)):=stored_sets (cs:=[.int .i64 5]) (fun j hj=>by
  obtain rfl:j=0:=by simp at hj;exact hj
  exact⟨by rw[y0];rfl,f0⟩)
 have hl4:=HL3.out.upd hst0 (by show 0+1≤3;omega) (cn_ni HL3.out.tree) (fun hx=>cn_kind 5 ⟨by decide,by decide⟩ hx)
 have hb4:=HB3.out.far hst0.far (by omega) (by omega)
 obtain⟨k1',n1',nm1',u1',hu1',⟨q0,q1,q2,q3⟩,hx⟩:=HX.out _ M2 _ _ hl4 rfl ⟨rfl,rfl⟩ hb4 hsz
 have HP4:=Lib.hid (HC2.out _ (hl4.ps.up (w':=(w3.setCell ⟨w.heap.size+1,0,none⟩ (.int .i64 5)).drew) ⟨rfl,rfl,rfl,Nat.le_refl _,fun _ _=>rfl⟩))
 have HX4:=Lib.hid hx
 clear hx hl4 hb4 HX HC2 hst0
 have hne2:M2≠w.heap.size+1:=by omega
 clear HL3 HB3 hu1
 go_wp2_with fail
 go_region_with (go_at_call 173;refine HP4.out.mono ?_;rintro e w4 hq;obtain⟨k2,n2,nm2,u2,rfl,hu2,⟨r0,r1,r2,r3⟩,hz,hfin⟩:=HX4.out _ _ hq;have z1:=fun o=>(hz o).1;have g1:=fun o=>(hz o).2;have HF:=Lib.hid hfin;clear hq hfin)
 all_goals
  obtain⟨cs9,hl9,h19,hr9,ht9,hf9⟩:=HF.out _ (stored_sets (cs:=[.slice (some ⟨w4.heap.size,0,none⟩) 2 2]) (fun j hj=>by
   obtain rfl:j=0:=by simp at hj;exact hj
   exact⟨by rw[z1];rfl,g1 _⟩))
  have HF9:=Lib.hid hf9
  have hr9:World.rangeAt (World.setCell _ ⟨w.heap.size+1,1,none⟩ (.slice (some ⟨w4.heap.size,0,none⟩) 2 2)) (w.heap.size+1) 0 cs9:=hr9
  have ht9:World.there (World.setCell _ ⟨w.heap.size+1,1,none⟩ (.slice (some ⟨w4.heap.size,0,none⟩) 2 2)) w.heap.size 0 cs9.length:=ht9
  clear HF hf9 hz
  go_wp2_with (first | (refine gateL 55 3 rfl ?_;refine wpList_load_mid rfl 55 _ rfl (w.heap.size+1) 0 rfl cs9 _ hr9 Tryz.underlying55 rfl (by rw[hl9];kernel_rfl) ?_) | (refine gateS 55 2 rfl ?_;refine wpList_store_there rfl 55 _ _ rfl w.heap.size 0 rfl cs9 rfl (by rw[hl9];kernel_rfl) h19 ht9 ?_;intro w9 hst))
  exact bodyPost_ret (v:= .agg cs9.toArray) (results_one rfl _ _ _ _ _ rfl (Tryz.cnLoad hst.at' hl9)) rfl (HF9.out _ hst)
theorem cmp_5 (C:PC)(s:PS)(w:World)(h:PSt C s w)(hT:¬(pmust C.tk C.en wCmp (pex C.tk C.en s).2).1=(⟨#[61,61]⟩:ByteArray)∧¬(pmust C.tk C.en wCmp (pex C.tk C.en s).2).1=(⟨#[33,61]⟩:ByteArray)∧¬(pmust C.tk C.en wCmp (pex C.tk C.en s).2).1=(⟨#[60]⟩:ByteArray)∧¬(pmust C.tk C.en wCmp (pex C.tk C.en s).2).1=(⟨#[60,61]⟩:ByteArray)):
 Calls Tryz.prog 222 #[C.p] w (PE (Vx cnX) (pcmp C.tk C.en) C s w):=by
 have hg:=h.lt
 have hl0:=LP.fresh (sh:=cnX) (t:=55) h rfl zCn_ni zCn_rel
 obtain⟨a,ha⟩:∃a,a=pex C.tk C.en s:=⟨_,rfl⟩
 rw[←ha]at hT
 obtain⟨t,ht⟩:∃t,t=pmust C.tk C.en wCmp a.2:=⟨_,rfl⟩
 rw[←ht]at hT
 obtain⟨b,hb⟩:∃b,b=pex C.tk C.en t.2:=⟨_,rfl⟩
 have e:pcmp C.tk C.en s=(.mk 0 [a.1,b.1] [],b.2):=by
  have hk:pcmpK t.1=0:=by unfold pcmpK;simp[hT]
  rw[←hk,hb,ht,ha];rfl
 have HC1:=Lib.hid (ex_any C s _ hl0.ps)
 have hw2:((w.alloc (.cells zCn.toArray 55)).alloc (.cells zCn.toArray 55)).heap.size=w.heap.size+2:=by simp
 have HY1:Hid (∀e1 W1,PE (Vx exX) (pex C.tk C.en) C s ((w.alloc (.cells zCn.toArray 55)).alloc (.cells zCn.toArray 55)) e1 W1→∃k1 n1 nm1 u1,e1= .returned (.agg #[.int .i64 k1,.int .i64 n1,.string nm1,u1])∧u1.oneCell'=true∧w.heap.size+2≤W1.heap.size∧Hid (LP cnX C w (w.heap.size+1) a.2 default zCn (W1.alloc (.cells #[.int .i64 k1,.int .i64 n1,.string nm1,u1] 57)))∧Hid (BX exX (w.heap.size+2) W1.heap.size (W1.alloc (.cells #[.int .i64 k1,.int .i64 n1,.string nm1,u1] 57)) a.1)):=fun e1 W1 ⟨v,a1,⟨cs,a2,a3⟩,a4,a5⟩=>by
  rw[←ha]at a3 a4
  obtain⟨u1,rfl,_,hu⟩:=ex_form a3
  have hs:=a5.size
  rw[hw2]at hs
  refine⟨_,_,_,u1,by rw[a1,a2],hu,hs,(hl0.step a5 a4).step (KeptG.alloc _ _ _) (a4.alloc _), ?_⟩
  refine⟨[.int .i64 a.1.kind,.int .i64 a.1.n,.string a.1.name,u1], ?_, ?_,by simp, ?_⟩
  ·exact range_new W1 [.int .i64 a.1.kind,.int .i64 a.1.n,.string a.1.name,u1] _
  ·exact there_new W1 [.int .i64 a.1.kind,.int .i64 a.1.n,.string a.1.name,u1] _
  ·rw[hw2]at a3
   exact inN_kept (inN_of (M:=W1.heap.size) a3 (Nat.le_refl _) (.inr (Nat.le_refl _))) (KeptG.alloc C.g W1 (.cells #[.int .i64 a.1.kind,.int .i64 a.1.n,.string a.1.name,u1] 57)) (by omega)
 have HM:=Lib.hid (fun W (hW:PSt C a.2 W) G (hG:W.heap.size=G)=>must4_at C a.2 (⟨#[61,61]⟩:ByteArray) (⟨#[33,61]⟩:ByteArray) (⟨#[60]⟩:ByteArray) (⟨#[60,61]⟩:ByteArray) W G hG hW (by decide) (by decide) (by decide) (by decide))
 have HYM:Hid (∀W e1 W1 M2,LP cnX C w (w.heap.size+1) a.2 default zCn W→BX exX (w.heap.size+2) M2 W a.1→w.heap.size+2≤M2→PE Vt (pmust C.tk C.en [(⟨#[61,61]⟩:ByteArray),(⟨#[33,61]⟩:ByteArray),(⟨#[60]⟩:ByteArray),(⟨#[60,61]⟩:ByteArray)]) C a.2 W e1 W1→e1= .returned (.string t.1)∧Hid (LP cnX C w (w.heap.size+1) t.2 default zCn W1)∧Hid (BX exX (w.heap.size+2) M2 W1 a.1)):=fun W e1 W1 M2 hl hbx hM2 ⟨v,a1,a2,a3,a4⟩=>by
  rw[ht]
  exact⟨by rw[a1,show v= .string _ from a2],hl.step a4 a3,hbx.kept a4 (by omega) (by omega)⟩
 have HC2:=Lib.hid (fun W (hW:PSt C t.2 W)=>ex_any C t.2 W hW)
 have HX:Hid (∀W M2 cs c0,LP cnX C w (w.heap.size+1) t.2 c0 cs W→cs[1]? =some (.slice none 0 0)→c0.kind=0∧c0.ks=[]→BX exX (w.heap.size+2) M2 W a.1→w.heap.size+2≤M2→∃k1 n1 nm1 u1,u1.oneCell'=true∧
  (W.cell? ⟨M2,0,none⟩=some (.int .i64 k1)∧W.cell? ⟨M2,1,none⟩=some (.int .i64 n1)∧W.cell? ⟨M2,2,none⟩=some (.string nm1)∧W.cell? ⟨M2,3,none⟩=some u1)∧
  ∀e4 W4,PE (Vx exX) (pex C.tk C.en) C t.2 W.drew e4 W4→∃k2 n2 nm2 u2,e4= .returned (.agg #[.int .i64 k2,.int .i64 n2,.string nm2,u2])∧u2.oneCell'=true∧(W4.cell? ⟨M2,0,none⟩=some (.int .i64 k1)∧W4.cell? ⟨M2,1,none⟩=some (.int .i64 n1)∧W4.cell? ⟨M2,2,none⟩=some (.string nm1)∧W4.cell? ⟨M2,3,none⟩=some u1)∧
   (∀o,(W4.alloc o).cell? ⟨w.heap.size+1,1,none⟩=some (.slice none 0 0)∧(W4.alloc o).frozen? ⟨w.heap.size+1,1,none⟩=false)∧
   ∀W9,Stored (w.heap.size+1) 1 [.slice (some ⟨W4.heap.size,0,none⟩) 2 2] (W4.alloc (.cells #[.int .i64 k1,.int .i64 n1,.string nm1,u1,.int .i64 k2,.int .i64 n2,.string nm2,u2] 57)) W9→
    (∃cs9:List Value,cs9.length=3∧(∀u∈cs9,u.oneCell'=true)∧W9.rangeAt (w.heap.size+1) 0 cs9∧W9.there w.heap.size 0 cs9.length∧∀w9,Stored w.heap.size 0 cs9 W9 w9→PE (Vx cnX) (pcmp C.tk C.en) C s w (.returned (.agg cs9.toArray)) w9)):=fun W M2 cs c0 hl hcl hk hbx hM2=>by
  obtain⟨u1,hu1,hr,ha1,hlt⟩:=bx_cells hbx
  refine⟨_,_,_,u1,hu1,⟨hr 0 _ rfl,hr 1 _ rfl,hr 2 _ rfl,hr 3 _ rfl⟩,fun e4 W4 ⟨v,b1,⟨cs2,b2,b3⟩,b4,b5⟩=> ?_⟩
  obtain⟨u2,rfl,_,hu2⟩:=ex_form b3
  have hd:KeptG C.g W W4:=(KeptG.drew C.g W).trans b5
  have hr4:=hd.range hlt (by omega) hr
  refine⟨_,_,_,u2,by rw[b1,b2],hu2,⟨hr4 0 _ rfl,hr4 1 _ rfl,hr4 2 _ rfl,hr4 3 _ rfl⟩,fun o=> ?_,fun W9 hst=> ?_⟩
  ·have hlo:=hl.step (hd.trans (KeptG.alloc C.g W4 o)) (b4.alloc o)
   obtain⟨_,h2⟩:=hlo.cell (j:=1) (by show 1<3;omega)
   exact⟨hlo.box 1 _ hcl,h2⟩
  ·have hf:=cmp_fin (s:=s) hl hk ha1 rfl ⟨hM2,hlt⟩ hd b4 b3 hst
   rw[←hb]at hf
   refine⟨_,hf.len,hf.one,hf.box,by rw[hf.len];exact hf.res,fun w9 hst9=>hf.fin hst9 e⟩
 have hx0:=ne_lit (x:=t.1) [61,61] hT.1
 have hx1:=ne_lit (x:=t.1) [33,61] hT.2.1
 have hx2:=ne_lit (x:=t.1) [60] hT.2.2.1
 have hx3:=ne_lit (x:=t.1) [60,61] hT.2.2.2
 generalize PE (Vx cnX) (pcmp C.tk C.en) C s w=Q at*
 generalize t.1=tx at*
 clear hl0 h e ha ht hb hT
 have HG:=Lib.hid hg
 clear hg
 unfold zCn at*
 go_enter Tryz.func222,Tryz.ntmps222
 go_wp2_with fail
 refine HC1.out.mono ?_
 rintro e w1 hq
 obtain⟨k1,n1,nm1,u1,rfl,hu1,hsz,HL1,HB1⟩:=HY1.out _ _ hq
 have HM1:=Lib.hid (HM.out _ HL1.out.ps (w1.heap.size+1) (by simp))
 clear hq HC1 HY1 HM
 go_wp2_with (refine gateS 57 4 rfl ?_;refine wpList_store_fresh (by kernel_rfl) 57 _ _ rfl _ rfl [.int .i64 k1,.int .i64 n1,.string nm1,u1] rfl (by kernel_rfl) rfl (one4 hu1) ?_)
 refine HM1.out.mono ?_
 rintro e w3 hq
 obtain⟨rfl,HL3,HB3⟩:=HYM.out _ _ _ _ HL1.out HB1.out hsz hq
 generalize w1.heap.size=M2 at*
 clear hq HM1 HYM HL1 HB1
 obtain⟨k1',n1',nm1',u1',hu1',⟨q0,q1,q2,q3⟩,hx⟩:=HX.out _ M2 _ _ HL3.out rfl ⟨rfl,rfl⟩ HB3.out hsz
 have HP4:=Lib.hid (HC2.out _ (HL3.out.ps.up (w':=w3.drew) ⟨rfl,rfl,rfl,Nat.le_refl _,fun _ _=>rfl⟩))
 have HX4:=Lib.hid hx
 clear hx HX HC2
 have hne2:M2≠w.heap.size+1:=by omega
 clear HL3 HB3 hu1
 go_wp2_with fail
 go_region_with (go_at_call 173;refine HP4.out.mono ?_;rintro e w4 hq;obtain⟨k2,n2,nm2,u2,rfl,hu2,⟨r0,r1,r2,r3⟩,hz,hfin⟩:=HX4.out _ _ hq;have z1:=fun o=>(hz o).1;have g1:=fun o=>(hz o).2;have HF:=Lib.hid hfin;clear hq hfin)
 all_goals
  obtain⟨cs9,hl9,h19,hr9,ht9,hf9⟩:=HF.out _ (stored_sets (cs:=[.slice (some ⟨w4.heap.size,0,none⟩) 2 2]) (fun j hj=>by
   obtain rfl:j=0:=by simp at hj;exact hj
   exact⟨by rw[z1];rfl,g1 _⟩))
  have HF9:=Lib.hid hf9
  have hr9:World.rangeAt (World.setCell _ ⟨w.heap.size+1,1,none⟩ (.slice (some ⟨w4.heap.size,0,none⟩) 2 2)) (w.heap.size+1) 0 cs9:=hr9
  have ht9:World.there (World.setCell _ ⟨w.heap.size+1,1,none⟩ (.slice (some ⟨w4.heap.size,0,none⟩) 2 2)) w.heap.size 0 cs9.length:=ht9
  clear HF hf9 hz
  go_wp2_with (first | (refine gateL 55 3 rfl ?_;refine wpList_load_mid rfl 55 _ rfl (w.heap.size+1) 0 rfl cs9 _ hr9 Tryz.underlying55 rfl (by rw[hl9];kernel_rfl) ?_) | (refine gateS 55 2 rfl ?_;refine wpList_store_there rfl 55 _ _ rfl w.heap.size 0 rfl cs9 rfl (by rw[hl9];kernel_rfl) h19 ht9 ?_;intro w9 hst))
  exact bodyPost_ret (v:= .agg cs9.toArray) (results_one rfl _ _ _ _ _ rfl (Tryz.cnLoad hst.at' hl9)) rfl (HF9.out _ hst)
theorem cmp_any (C:PC)(s:PS)(w:World)(h:PSt C s w):Calls Tryz.prog 222 #[C.p] w (PE (Vx cnX) (pcmp C.tk C.en) C s w):=by
 by_cases h1:(pmust C.tk C.en wCmp (pex C.tk C.en s).2).1=(⟨#[61,61]⟩:ByteArray)
 ·exact cmp_1 C s w h h1
 by_cases h2:(pmust C.tk C.en wCmp (pex C.tk C.en s).2).1=(⟨#[33,61]⟩:ByteArray)
 ·exact cmp_2 C s w h h2
 by_cases h3:(pmust C.tk C.en wCmp (pex C.tk C.en s).2).1=(⟨#[60]⟩:ByteArray)
 ·exact cmp_3 C s w h h3
 by_cases h4:(pmust C.tk C.en wCmp (pex C.tk C.en s).2).1=(⟨#[60,61]⟩:ByteArray)
 ·exact cmp_4 C s w h h4
 exact cmp_5 C s w h ⟨h1,h2,h3,h4⟩
end
section
open Go.RowKit
section
variable {k0 v1 v2 v3:Value} {ca cb:List Value} (la:ca.length=15) (lb:cb.length=15)
include la lb
theorem qt_at3 {i:Nat}{v:Value}(h:ca[i]? =some v):([k0,v1,v2] ++ (ca ++ (cb ++ [v3])))[3+i]? =some v:=by
 have hi:=(List.getElem?_eq_some_iff.1 h).1
 rw[app_at (by rfl),List.getElem?_append_left hi]
 exact h
theorem qt_at18 {i:Nat}{v:Value}(h:cb[i]? =some v):([k0,v1,v2] ++ (ca ++ (cb ++ [v3])))[18+i]? =some v:=by
 have hi:=(List.getElem?_eq_some_iff.1 h).1
 rw[show 18+i=3+(15+i) by omega,app_at (by rfl),app_at la,List.getElem?_append_left hi]
 exact h
theorem qt_at33:([k0,v1,v2] ++ (ca ++ (cb ++ [v3])))[33]? =some v3:=by
 rw[show 33=3+(15+(15+0)) by omega,app_at (by rfl),app_at la,app_at lb]
 rfl
end
theorem same_all (n:Nat)(xs:List QT)(a b:Option Addr)(c1 c2:Nat)(w:World)(h1:Pak.Sits (procSh n) (Pak.Lo w.heap.size) w a xs)(h2:Pak.Sits (procSh n) (Pak.Lo w.heap.size) w b xs):ValAll 13 #[.agg #[.slice a xs.length c1],.agg #[.slice b xs.length c2]] (.bool true) w:=fun W hW=>by
 have H1:=Lib.hid (h1.below hW hW.size)
 have H2:=Lib.hid (h2.below hW hW.size)
 have hm:=h1.1
 clear h1 h2 hW
 obtain⟨m,hmx⟩:∃m,m=xs.length:=⟨_,rfl⟩
 have HM:=Lib.hid hmx
 rw[←hmx]at hm⊢
 clear hmx
 have HBX:=Lib.hid (fun V=>boxes_at (w:=W) (W:=V) (cs:=[.slice a m c1]) (ds:=[.slice b m c2]) (t:=25))
 go_enter Tryz.func13,Tryz.ntmps13
 go_wp2_with fail
 obtain⟨W2,hW2⟩:∃V,V=((W.alloc (.cells #[.slice a m c1] 25)).alloc (.cells #[.slice b m c2] 25)):=⟨_,rfl⟩
 have HBY:Hid (∀V,Below W2.heap.size W2 V→V.cell? ⟨W.heap.size,0,none⟩=some (.slice a m c1)∧V.cell? ⟨W.heap.size+1,0,none⟩=some (.slice b m c2)∧Below W.heap.size W V∧W.heap.size+1<V.heap.size):=fun V hV=>by
  have hz:=hV.size
  rw[hW2]at hV
  obtain⟨q1,q2,q3⟩:=HBX.out V hV
  exact⟨q1 0 _ rfl,q2 0 _ rfl,q3,by rw[hW2]at hz;simp at hz;omega⟩
 rw[←hW2]
 clear hW2 HBX
 go_loopw [5] (fun i wr=>∃j:Nat,j≤m∧i= .int .i64 j∧Hid (Below W2.heap.size W2 wr)) (fun i _=>m - (intOf i).toNat)
 case atStart=>exact⟨0,Nat.zero_le _,rfl,Below.refl _ _⟩
 case round=>
  obtain⟨j,hj,rfl,hb⟩:=hrel
  obtain⟨wo,rfl⟩:∃wo:World,wo=wr:=⟨_,rfl⟩
  obtain⟨y1,y2,hbW,hlt9⟩:=HBY.out wo hb.out
  by_cases hlt:j<m
  ·have hlx:j<xs.length:=by rw[←HM.out];exact hlt
   obtain⟨b1,o1,cs,rfl,hb1,hc1,hr1⟩:=(H1.out.below hbW hbW.size).2 j hlx
   obtain⟨b2,o2,ds,rfl,hb2,hc2,hr2⟩:=(H2.out.below hbW hbW.size).2 j hlx
   rw[procSh_k n]at hc1 hc2
   have l1:=(procSh n).len hr1
   have l2:=(procSh n).len hr2
   rw[procSh_k n]at l1 l2
   have u1:=(procSh n).one hr1
   have u2:=(procSh n).one hr2
   have hji:(0:Int)≤(j:Int)∧(j:Int)<(m:Int):=by omega
   have HB:=Lib.hid hb.out
   have g1:wo.rangeAt b1 (o1+j*34) cs:=hc1
   have g2:(wo.alloc (.cells cs.toArray 63)).rangeAt b2 (o2+j*34) ds:=fun i v h=>(World.cell?_alloc_lt _ _ _ hb2).trans (hc2 i v h)
   have y3:(wo.alloc (.cells cs.toArray 63)).cell? ⟨W.heap.size+1,0,none⟩=some (.slice (some ⟨b2,o2,none⟩) m c2):=(World.cell?_alloc_lt _ _ _ (by show W.heap.size+1<_;exact hlt9)).trans y2
   clear hc1 hc2
   generalize hx0:xs[j]=s at hr1 hr2
   obtain⟨w11,w21,ca1,cb1,w31,hcs1,hk1,⟨aa1,ka1,rfl,hsa1⟩,⟨ag1,kg1,rfl,hsg1⟩,hpa1,hpb1,⟨ab1,kb1,rfl,hsb1⟩⟩:=hr1
   have HCS1:=Lib.hid hcs1
   clear hcs1
   have la1:ca1.length=15:=((assnSh n).len hpa1).trans (assnSh_k n)
   have lb1:cb1.length=15:=((assnSh n).len hpb1).trans (assnSh_k n)
   obtain⟨w12,w22,ca2,cb2,w32,hcs2,hk2,⟨aa2,ka2,rfl,hsa2⟩,⟨ag2,kg2,rfl,hsg2⟩,hpa2,hpb2,⟨ab2,kb2,rfl,hsb2⟩⟩:=hr2
   have HCS2:=Lib.hid hcs2
   clear hcs2
   have la2:ca2.length=15:=((assnSh n).len hpa2).trans (assnSh_k n)
   have lb2:cb2.length=15:=((assnSh n).len hpb2).trans (assnSh_k n)
   have HW:=Lib.hid (sameWords_all s.params aa1 aa2 ka1 ka2 wo hsa1 hsa2)
   have HG:=Lib.hid (sameWords_all s.ghosts ag1 ag2 kg1 kg2 wo hsg1 hsg2)
   have HA:=Lib.hid (sameA_all n s.pre wo ca1 ca2 hpa1 hpa2)
   have HB2:=Lib.hid (sameA_all n s.post wo cb1 cb2 hpb1 hpb2)
   have HBd:=Lib.hid (sameS_all n s.body ab1 ab2 kb1 kb2 wo hsb1 hsb2)
   have HX7:Hid (∀w7,w7=((wo.alloc (.cells cs.toArray 63)).alloc (.cells ds.toArray 63))→∀V,Below w7.heap.size w7 V→(∀j v,cs[j]? =some v→V.cell? ⟨wo.heap.size,j,none⟩=some v)∧(∀j v,ds[j]? =some v→V.cell? ⟨wo.heap.size+1,j,none⟩=some v)∧Below wo.heap.size wo V):=fun w7 e V hV=>by
    subst e
    exact boxes_at hV
   have HSZ:Hid (W2.heap.size≤wo.heap.size):=HB.out.size
   clear hb hb1 hb2 hx0 hlx hbW hlt9 hk1 hk2 hsa1 hsg1 hsb1 hsa2 hsg2 hsb2 hpa1 hpb1 hpa2 hpb2
   go_wp2_with (first | (refine gateL 63 25 rfl ?_;refine wpList_load_mid rfl 63 _ rfl b1 (o1+j*34) rfl cs _ g1 Tryz.underlying63 rfl (by rw[l1];kernel_rfl) ?_) | (refine gateL 63 30 rfl ?_;refine wpList_load_mid rfl 63 _ rfl b2 (o2+j*34) rfl ds _ g2 Tryz.underlying63 rfl (by rw[l2];kernel_rfl) ?_) | (refine gateS 63 6 rfl ?_;refine wpList_store_fresh (by kernel_rfl) 63 _ _ rfl _ rfl cs rfl (by rw[l1];kernel_rfl) (by rw[l1];rfl) u1 ?_) | (refine gateS 63 7 rfl ?_;generalize hW1:wo.alloc (.cells cs.toArray 63)=W1;have hs1':wo.heap.size+1=W1.heap.size:=(by rw[←hW1];simp);apply wpList_store_fresh (ty:=63) (cs:=ds);(case hw=>kernel_rfl);(case ho=>exact rfl);(case hx=>exact congrArg (fun n=>Value.pointer (some ⟨n,0,none⟩)) hs1');(case hy=>exact rfl);(case hi=>rw[l2];kernel_rfl);(case hc=>rw[l2];rfl);(case h1=>exact u2);clear hs1';subst hW1;obtain⟨w7,hw7⟩:∃x,x=((wo.alloc (.cells cs.toArray 63)).alloc (.cells ds.toArray 63)):=⟨_,rfl⟩;rw[←hw7];have HX:=Lib.hid (HX7.out w7 hw7);clear hw7 HX7;obtain⟨z1,z2,z3⟩:=HX.out w7 (Below.refl _ _);have a0:=z1 0 _ (by rw[HCS1.out];rfl);have b0:=z2 0 _ (by rw[HCS2.out];rfl);have a1:=z1 1 _ (by rw[HCS1.out];rfl);have b1:=z2 1 _ (by rw[HCS2.out];rfl);clear z1 z2 z3))
   refine(HW.out _ (HX.out w7 (Below.refl _ _)).2.2).mono ?_
   rintro e v0 ⟨rfl,hq⟩
   have HB90:Hid (Below w7.heap.size w7 v0):=hq
   clear hq HW a0 b0 a1 b1
   obtain⟨z1,z2,z3⟩:=HX.out v0 HB90.out
   have a2:=z1 2 _ (by rw[HCS1.out];rfl)
   have b2:=z2 2 _ (by rw[HCS2.out];rfl)
   clear z1 z2 z3
   go_wp2_with fail
   refine(HG.out _ (HX.out v0 HB90.out).2.2).mono ?_
   rintro e v1 ⟨rfl,hq⟩
   have HB91:Hid (Below w7.heap.size w7 v1):=HB90.out.trans (hq.mono HB90.out.size)
   clear hq HG a2 b2
   obtain⟨z1,z2,z3⟩:=HX.out v1 HB91.out
   have a3:v1.rangeAt wo.heap.size 3 ca1:=fun i v h=>z1 _ v (by rw[HCS1.out];exact qt_at3 la1 lb1 h)
   have b3:v1.rangeAt (wo.heap.size+1) 3 ca2:=fun i v h=>z2 _ v (by rw[HCS2.out];exact qt_at3 la2 lb2 h)
   clear z1 z2 z3
   go_wp2_with (first | (refine wpList_load_want (by kernel_rfl) 60 _ rfl wo.heap.size 3 rfl ca1 _ a3 Tryz.underlying60 rfl (by rw[la1];kernel_rfl) ?_) | (refine wpList_load_want (by kernel_rfl) 60 _ rfl (wo.heap.size+1) 3 rfl ca2 _ b3 Tryz.underlying60 rfl (by rw[la2];kernel_rfl) ?_))
   refine(HA.out _ (HX.out v1 HB91.out).2.2).mono ?_
   rintro e v2 ⟨rfl,hq⟩
   have HB92:Hid (Below w7.heap.size w7 v2):=HB91.out.trans (hq.mono HB91.out.size)
   clear hq HA a3 b3
   obtain⟨z1,z2,z3⟩:=HX.out v2 HB92.out
   have a18:v2.rangeAt wo.heap.size 18 cb1:=fun i v h=>z1 _ v (by rw[HCS1.out];exact qt_at18 la1 lb1 h)
   have b18:v2.rangeAt (wo.heap.size+1) 18 cb2:=fun i v h=>z2 _ v (by rw[HCS2.out];exact qt_at18 la2 lb2 h)
   clear z1 z2 z3
   go_wp2_with (first | (refine wpList_load_want (by kernel_rfl) 60 _ rfl wo.heap.size 18 rfl cb1 _ a18 Tryz.underlying60 rfl (by rw[lb1];kernel_rfl) ?_) | (refine wpList_load_want (by kernel_rfl) 60 _ rfl (wo.heap.size+1) 18 rfl cb2 _ b18 Tryz.underlying60 rfl (by rw[lb2];kernel_rfl) ?_))
   refine(HB2.out _ (HX.out v2 HB92.out).2.2).mono ?_
   rintro e v3 ⟨rfl,hq⟩
   have HB93:Hid (Below w7.heap.size w7 v3):=HB92.out.trans (hq.mono HB92.out.size)
   clear hq HB2 a18 b18
   obtain⟨z1,z2,z3⟩:=HX.out v3 HB93.out
   have a33:=z1 33 _ (by rw[HCS1.out];exact qt_at33 la1 lb1)
   have b33:=z2 33 _ (by rw[HCS2.out];exact qt_at33 la2 lb2)
   clear z1 z2 z3
   go_wp2_with fail
   refine(HBd.out _ (HX.out v3 HB93.out).2.2).mono ?_
   rintro e v4 ⟨rfl,hq⟩
   have HB94:Hid (Below w7.heap.size w7 v4):=HB93.out.trans (hq.mono HB93.out.size)
   clear hq HBd a33 b33
   have BW:Hid (Below W2.heap.size W2 v4):=HB.out.trans ((HX.out v4 HB94.out).2.2.mono HB.out.size)
   clear HX HB94 g1 g2 HB y1 y2 y3
   go_wp2_with fail
   go_roundw
   case rel=>first | exact⟨j+1,by omega,by go_num,BW⟩ | ((repeat apply Exists.intro);exact⟨⟨j+1,by omega,by go_num,BW⟩,rfl⟩)
   case measure=>simp[intOf];omega
  ·obtain rfl:j=m:=by omega
   go_wp2_with fail
   go_ret
   exact⟨rfl,hbW⟩
end
end Go.Proofs.YtcinokljkieijaaGreatDoor
