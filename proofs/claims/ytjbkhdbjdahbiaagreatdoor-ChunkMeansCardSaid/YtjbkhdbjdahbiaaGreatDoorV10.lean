/- Parts of a proof. -/
import Derived.Test.YtjbkhdbjdahbiaaGreatDoorV01
import Derived.Test.YtjbkhdbjdahbiaaGreatDoorV02
import Derived.Test.YtjbkhdbjdahbiaaGreatDoorV03
import Derived.Test.YtjbkhdbjdahbiaaGreatDoorV04
import Derived.Test.YtjbkhdbjdahbiaaGreatDoorV05
import Derived.Test.YtjbkhdbjdahbiaaGreatDoorV06
import Derived.Test.YtjbkhdbjdahbiaaGreatDoorV07
import Derived.Test.YtjbkhdbjdahbiaaGreatDoorV08
import Derived.Test.YtjbkhdbjdahbiaaGreatDoorV09
import Derived.Test.YtjbkhdbjdahbiaaGreatDoorQ19
import Derived.Test.YtjbkhdbjdahbiaaGreatDoorQ18
import Derived.Test.YtjbkhdbjdahbiaaGreatDoorQ20
import Derived.Test.YtjbkhdbjdahbiaaGreatDoorQ07
import Derived.Test.YtjbkhdbjdahbiaaGreatDoorRows
import Derived.BigQuiet
set_option linter.unusedVariables false
set_option linter.unusedSimpArgs false
set_option maxHeartbeats 60000000
set_option maxRecDepth 100000
namespace Go.Proofs.YtjbkhdbjdahbiaaGreatDoor
section
open Go.RowKit
theorem mbx_at {w W:World}{k0 m0:Int}{s0:ByteArray}{a0:Option Addr}{l0 c0:Nat}{k1:Int}{a1:Option Addr}{l1 c1:Nat}{a2:Option Addr}{l2 c2:Nat}(hb:Below ((w.alloc (.cells #[.int .i64 k0,.int .i64 m0,.string s0,.slice a0 l0 c0] 49)).alloc (.cells #[.int .i64 k1,.slice a1 l1 c1,.slice a2 l2 c2] 52)).heap.size ((w.alloc (.cells #[.int .i64 k0,.int .i64 m0,.string s0,.slice a0 l0 c0] 49)).alloc (.cells #[.int .i64 k1,.slice a1 l1 c1,.slice a2 l2 c2] 52)) W):(W.cell? ⟨w.heap.size,0,none⟩=some (.int .i64 k0)∧W.cell? ⟨w.heap.size,1,none⟩=some (.int .i64 m0)∧W.cell? ⟨w.heap.size,2,none⟩=some (.string s0)∧W.cell? ⟨w.heap.size,3,none⟩=some (.slice a0 l0 c0))∧W.cell? ⟨w.heap.size+1,0,none⟩=some (.int .i64 k1)∧W.cell? ⟨w.heap.size+1,1,none⟩=some (.slice a1 l1 c1)∧W.cell? ⟨w.heap.size+1,2,none⟩=some (.slice a2 l2 c2):=by
 have s1:(w.alloc (.cells #[.int .i64 k0,.int .i64 m0,.string s0,.slice a0 l0 c0] 49)).heap.size=w.heap.size+1:=by simp
 have g0:=box_at (cs:=[.int .i64 k1,.slice a1 l1 c1,.slice a2 l2 c2]) (o:=0) rfl hb
 have g1:=box_at (cs:=[.int .i64 k1,.slice a1 l1 c1,.slice a2 l2 c2]) (o:=1) rfl hb
 have g2:=box_at (cs:=[.int .i64 k1,.slice a1 l1 c1,.slice a2 l2 c2]) (o:=2) rfl hb
 rw[s1]at g0 g1 g2
 exact⟨all4_at hb,g0,g1,g2⟩
theorem cxR_len {n:Nat}{e:ET}{xs:List (ByteArray×LT)}:(cxR (ekE n e) (sdB xs) (linE (fun s=>symOf s xs) (n+2) e)).1.2.length≤9223372036854775807:=by
 unfold cxR
 split
 ·rename_i h
  split
  ·rename_i y hy
   have h1:=(linE_sd (fun s a h2=>symOf_sd (fun x hx=>by have:=List.all_eq_true.1 h.2 x hx;exact this) h2) (chk_set h.1) hy).len
   exact Nat.le_trans h1 (by decide)
  ·exact Nat.zero_le _
 ·exact Nat.zero_le _
theorem mean_expr {n:Nat}{e:ET}{xs:List (ByteArray×LT)}{zs:List Int}(h1:(cxR (ekE n e) (sdB xs) (linE (fun s=>symOf s xs) (n+2) e)).2=0)(h2:(exR (ekE n e) (valE (fun s=>varOf s (varsX zs xs)) (n+2) e)).2=0)(h3:(valL zs (cxR (ekE n e) (sdB xs) (linE (fun s=>symOf s xs) (n+2) e)).1).2=0):(exR (ekE n e) (valE (fun s=>varOf s (varsX zs xs)) (n+2) e)).1=(valL zs (cxR (ekE n e) (sdB xs) (linE (fun s=>symOf s xs) (n+2) e)).1).1:=by
 rw[valL_ok h3]
 clear h3
 unfold cxR at h1⊢
 split at h1
 ·rename_i h
  rw[if_pos h]
  cases hl:linE (fun s=>symOf s xs) (n+2) e with
  | none=>rw[hl]at h1;cases h1
  | some y=>
    unfold exR at h2⊢
    rw[if_pos h.1]at h2⊢
    by_cases hn:(valE (fun s=>varOf s (varsX zs xs)) (n+2) e).2=true
    ·rw[if_pos hn]
     exact linE_val (fun s=>vars_val zs s xs) (chk_set h.1) hl hn
    ·rw[if_neg hn]at h2;cases h2
 ·cases h1
theorem mean_cond {n:Nat}{c:CT}{xs:List (ByteArray×LT)}{zs:List Int}(h1:(cfR (ckC n c) (sdB xs) (condF (fun s=>symOf s xs) (n+2) c)).2=0)(h2:(coR (ckC n c) (truC (fun s=>varOf s (varsX zs xs)) (n+2) c)).2=0)(h3:(Lf.fvN zs (n+3) (cfR (ckC n c) (sdB xs) (condF (fun s=>symOf s xs) (n+2) c)).1).2=0):(Lf.fvN zs (n+3) (cfR (ckC n c) (sdB xs) (condF (fun s=>symOf s xs) (n+2) c)).1).1=(coR (ckC n c) (truC (fun s=>varOf s (varsX zs xs)) (n+2) c)).1:=by
 unfold cfR at h1 h3⊢
 split at h1
 ·rename_i h
  rw[if_pos h]at h3⊢
  cases hl:condF (fun s=>symOf s xs) (n+2) c with
  | none=>rw[hl]at h1;cases h1
  | some y=>
    rw[hl]at h3
    simp only at h3⊢
    unfold coR at h2⊢
    rw[if_pos h.1]at h2⊢
    by_cases hn:(truC (fun s=>varOf s (varsX zs xs)) (n+2) c).2=true
    ·rw[if_pos hn]
     unfold Lf.fvN at h3⊢
     by_cases hc:Lf.cc (n+3) y=0
     ·rw[if_pos hc]at h3⊢
      by_cases hv:(Lf.vOf zs (n+3) y).2=true
      ·rw[if_pos hv]
       exact cond_true (fun s=>vars_val zs s xs) (chk_ast h.1) hl hv hn
      ·rw[if_neg hv]at h3;cases h3
     ·rw[if_neg hc]at h3
      exact absurd h3 hc
    ·rw[if_neg hn]at h2;cases h2
 ·cases h1
theorem chunkMeans_any (hup:UpSaid20)(n:Nat)(e:ET)(c:CT)(ce cc:List Value)(la:Option Addr)(lcap:Nat)(xs:List (ByteArray×LT))(ua:Option Addr)(un ucap:Nat)(zs:List Int)(w:World)(he:(exprSh (n+2)).rel (Pak.Lo w.heap.size) w ce e)(hc:(condSh (n+2)).rel (Pak.Lo w.heap.size) w cc c)(hs:Pak.Sits symSh (Pak.Lo w.heap.size) w la xs)(hun:zs.length=un)(hum:un≤9223372036854775807)(hz:Lf.Nums w.heap.size w ua zs)(hL:Laid w):
 Calls Tryz.prog 4 #[.agg ce.toArray,.agg cc.toArray,.slice la xs.length lcap,.slice ua un ucap] w fun e w'=>e= .returned (.bool true)∧Below w.heap.size w w':=by
 have n1:=fun W=>Tryz.neNil W
 have n2:=fun t v W=>Tryz.neIface t v W
 have n3:=fun W=>Tryz.eqNil W
 have n4:=fun t v W=>Tryz.eqIface t v W
 have HSM:=Lib.hid (fun W (hW:Below w.heap.size w W)=>small_any n e c ce cc la xs.length lcap W (rel_low he hW) (rel_low hc hW))
 have HVS:=Lib.hid (fun W (hW:Below w.heap.size w W) (h:xs.length<50)=>values_any la xs.length lcap xs ua un ucap zs W rfl h (hs.below hW hW.size) hun hum ((hz.below hW).mono hW.size))
 have HVL:=Lib.hid (fun(x:LT) (a:Option Addr) (k:Nat) W (hW:Below w.heap.size w W) (hlen:x.2.length≤9223372036854775807) (hl:Lf.Lies W.heap.size W a x.2)=>rval_fn zs x a k ua un ucap W hlen hun hum hl ((hz.below hW).mono hW.size))
 have HFV:=Lib.hid (fun(f:Lf.FT) (cs:List Value) W (hW:Below w.heap.size w W) (hl:Lf.FLies W.heap.size W (n+3) f cs)=>Lf.fvalue_any (n+3) f cs ua un ucap zs W hl hun ((hz.below hW).mono hW.size))
 have HEX:=fun W (hW:Below w.heap.size w W)=>cExpr_any n e ce xs la lcap W (rel_low he hW) (hs.below hW hW.size) (hL.up hW)
 have HHE:=fun W (hW:Below w.heap.size w W) (va:Option Addr) (cv:Nat) (hx:Pak.Sits varSh (Pak.Lo W.heap.size) W va (varsX zs xs))=>hExpr_any n e ce (varsX zs xs) va cv W (rel_low he hW) hx (hL.up hW)
 have HCO:=fun W (hW:Below w.heap.size w W)=>cCond_any n c cc xs la lcap W (rel_low hc hW) (hs.below hW hW.size) (hL.up hW)
 have HHC:=fun W (hW:Below w.heap.size w W) (va:Option Addr) (cv:Nat) (hx:Pak.Sits varSh (Pak.Lo W.heap.size) W va (varsX zs xs))=>hCond_any n c cc (varsX zs xs) va cv W (rel_low hc hW) hx (hL.up hW)
 have M1:=fun h1 h2 h3=>mean_expr (n:=n) (e:=e) (xs:=xs) (zs:=zs) h1 h2 h3
 have M2:=fun h1 h2 h3=>mean_cond (n:=n) (c:=c) (xs:=xs) (zs:=zs) h1 h2 h3
 have LEN:=cxR_len (n:=n) (e:=e) (xs:=xs)
 generalize cxR (ekE n e) (sdB xs) (linE (fun s=>symOf s xs) (n+2) e)=rx at HEX M1 LEN
 generalize exR (ekE n e) (valE (fun s=>varOf s (varsX zs xs)) (n+2) e)=rg at HHE M1
 generalize cfR (ckC n c) (sdB xs) (condF (fun s=>symOf s xs) (n+2) c)=rf at HCO M2
 generalize coR (ckC n c) (truC (fun s=>varOf s (varsX zs xs)) (n+2) c)=rt at HHC M2
 replace HEX:=Lib.hid HEX
 replace HHE:=Lib.hid HHE
 replace HCO:=Lib.hid HCO
 replace HHC:=Lib.hid HHC
 replace M1:=Lib.hid M1
 replace M2:=Lib.hid M2
 replace LEN:=Lib.hid LEN
 obtain⟨a0,c0,rfl⟩:=expr_form2 he
 obtain⟨a1,c1,a2,c2,rfl⟩:=cond_form2 hc
 have HW:Hid (Below w.heap.size w ((w.alloc (.cells #[.int .i64 e.kind,.int .i64 e.n,.string e.name,.slice a0 e.ks.length c0] 49)).alloc (.cells #[.int .i64 c.kind,.slice a1 c.es.length c1,.slice a2 c.ks.length c2] 52))):=below_two
 have HUP:=Lib.hid (hup _ (hL.up HW.out))
 have HQ:=Lib.hid (fun W (hb:Below ((w.alloc (.cells #[.int .i64 e.kind,.int .i64 e.n,.string e.name,.slice a0 e.ks.length c0] 49)).alloc (.cells #[.int .i64 c.kind,.slice a1 c.es.length c1,.slice a2 c.ks.length c2] 52)).heap.size ((w.alloc (.cells #[.int .i64 e.kind,.int .i64 e.n,.string e.name,.slice a0 e.ks.length c0] 49)).alloc (.cells #[.int .i64 c.kind,.slice a1 c.es.length c1,.slice a2 c.ks.length c2] 52)) W)=>mbx_at hb)
 have HB:Hid (∀W,Below ((w.alloc (.cells #[.int .i64 e.kind,.int .i64 e.n,.string e.name,.slice a0 e.ks.length c0] 49)).alloc (.cells #[.int .i64 c.kind,.slice a1 c.es.length c1,.slice a2 c.ks.length c2] 52)).heap.size ((w.alloc (.cells #[.int .i64 e.kind,.int .i64 e.n,.string e.name,.slice a0 e.ks.length c0] 49)).alloc (.cells #[.int .i64 c.kind,.slice a1 c.es.length c1,.slice a2 c.ks.length c2] 52)) W→Below w.heap.size w W):=Lib.hid (fun W hb=>HW.out.trans (hb.mono HW.out.size))
 clear hup hs hL hz hun he hc
 go_enter Tryz.func4,Tryz.ntmps4
 go_wp2_with fail
 refine HUP.out.mono ?_
 rintro r w1 ⟨rfl,hb1⟩
 have B1:=Lib.hid hb1
 clear hb1 HUP
 obtain⟨⟨p0,p1,p2,p3⟩,q0,q1,q2⟩:=HQ.out _ B1.out
 have F:=Lib.hid (HSM.out w1 (HB.out _ B1.out))
 clear HSM
 go_wp2_with fail
 refine F.out.mono ?_
 rintro r w2 ⟨b,rfl,h50,hb⟩
 have B2:=Lib.hid (B1.out.trans (hb.mono B1.out.size))
 have H50:=Lib.hid h50
 clear hb F B1 p0 p1 p2 p3 q0 q1 q2 h50
 cases b with
 | false=>
   go_wp2_with fail
   go_ret
   exact⟨rfl,HB.out _ B2.out⟩
 | true=>
   have F:=Lib.hid (HVS.out w2 (HB.out _ B2.out) (H50.out rfl))
   clear HVS H50
   go_wp2_with fail
   refine F.out.mono ?_
   rintro r w3 ⟨v,b,rfl,hv,hb⟩
   have B3:=Lib.hid (B2.out.trans (hb.mono B2.out.size))
   have HV:=Lib.hid hv
   clear hb F B2 hv
   cases b with
   | false=>
     go_wp2_with fail
     go_ret
     exact⟨rfl,HB.out _ B3.out⟩
   | true=>
     obtain⟨va,vcap,rfl,hvs⟩:=HV.out rfl
     have HVV:=Lib.hid hvs
     have F:=Lib.hid (HEX.out w3 (HB.out _ B3.out))
     clear hvs HV HEX
     obtain⟨⟨p0,p1,p2,p3⟩,q0,q1,q2⟩:=HQ.out _ B3.out
     go_wp2_with fail
     refine F.out.mono ?_
     rintro r w4 ⟨v4,rfl,hrow,hb⟩
     obtain⟨a5,k5,rfl,hl5,_⟩:=hrow.lies
     have hA:Below w4.heap.size w4 (w4.alloc (.cells #[.int .i64 rx.1.1,.slice a5 rx.1.2.length k5] 25)):=box_low
     have hb4:=hb.trans (hA.mono hb.size)
     have B4:Hid (Below _ _ (w4.alloc (.cells #[.int .i64 rx.1.1,.slice a5 rx.1.2.length k5] 25))):=Lib.hid (B3.out.trans (hb4.mono B3.out.size))
     have V4:=Lib.hid (HVV.out.below hb4 hb4.size)
     have L4:=Lib.hid ((hl5.below hA).mono hA.size)
     have XB:=Lib.hid (fun W (h:Below (w4.alloc (.cells #[.int .i64 rx.1.1,.slice a5 rx.1.2.length k5] 25)).heap.size (w4.alloc (.cells #[.int .i64 rx.1.1,.slice a5 rx.1.2.length k5] 25)) W)=>box2_at h)
     clear hrow hb hA hb4 hl5 HVV B3 F p0 p1 p2 p3 q0 q1 q2
     have F:=Lib.hid (HHE.out _ (HB.out _ B4.out) va vcap V4.out)
     clear HHE
     obtain⟨⟨p0,p1,p2,p3⟩,q0,q1,q2⟩:=HQ.out _ B4.out
     go_wp2_with fail
     refine F.out.mono ?_
     rintro r w5 ⟨rfl,hb⟩
     have B5:=Lib.hid (B4.out.trans (hb.mono B4.out.size))
     have V5:=Lib.hid (V4.out.below hb hb.size)
     have L5:=Lib.hid ((L4.out.below hb).mono hb.size)
     obtain⟨x0,x1,_⟩:=XB.out _ hb
     have F:=Lib.hid (HVL.out rx.1 a5 k5 w5 (HB.out _ B5.out) LEN.out L5.out)
     clear hb L4 V4 B4 XB HVL p0 p1 p2 p3 q0 q1 q2
     go_wp2_with fail
     refine F.out.mono ?_
     rintro r w6 ⟨rfl,hb⟩
     have B6:=Lib.hid (B5.out.trans (hb.mono B5.out.size))
     have V6:=Lib.hid (V5.out.below hb hb.size)
     clear hb L5 V5 B5 F x0 x1
     have FC:=Lib.hid (HCO.out w6 (HB.out _ B6.out))
     clear HCO
     obtain⟨⟨p0,p1,p2,p3⟩,q0,q1,q2⟩:=HQ.out _ B6.out
     have key:(∃t v,erV rx.2= .iface t v)∨(erV rx.2= .nilIface∧∃t v,erV rg.2= .iface t v)∨(erV rx.2= .nilIface∧erV rg.2= .nilIface∧((valL zs rx.1).2 == 0)=false)∨(erV rx.2= .nilIface∧erV rg.2= .nilIface∧((valL zs rx.1).2 == 0)=true∧(rg.1 != (valL zs rx.1).1)=false):=by
      by_cases h1:rx.2=0
      ·by_cases h2:rg.2=0
       ·by_cases h3:(valL zs rx.1).2=0
        ·exact .inr (.inr (.inr ⟨if_pos h1,if_pos h2,by simp[h3],by rw[M1.out h1 h2 h3];simp⟩))
        ·exact .inr (.inr (.inl ⟨if_pos h1,if_pos h2,by simpa using h3⟩))
       ·exact .inr (.inl ⟨if_pos h1,_,_,if_neg h2⟩)
      ·exact .inl ⟨_,_,if_neg h1⟩
     clear M1 LEN
     rcases key with ⟨ft,fv,hf⟩ | ⟨hf,gt,gv,hg⟩ | ⟨hf,hg,e1⟩ | ⟨hf,hg,e1,e2⟩
     all_goals (
      rw[hf]
      try rw[hg]
      go_wp2_with fail
      refine FC.out.mono ?_
      rintro r w7 ⟨cs,rfl,hfl,hb⟩
      obtain⟨y0,y1,y2,y3,rfl⟩:=hfl.four
      have hfl2:=hfl.lies (B:=w7.heap.size) (fun b hb=>hb.2)
      obtain⟨sk,sc,sta,stn,stc,ska,skn,skc,rfl,rfl,rfl,rfl⟩:=hfl2.form
      have hA:Below w7.heap.size w7 (w7.alloc (.cells #[.int .i64 sk,.int .i64 sc,.slice sta stn stc,.slice ska skn skc] 38)):=box_low
      have hb7:=hb.trans (hA.mono hb.size)
      have B7:Hid (Below _ _ (w7.alloc (.cells #[.int .i64 sk,.int .i64 sc,.slice sta stn stc,.slice ska skn skc] 38))):=Lib.hid (B6.out.trans (hb7.mono B6.out.size))
      have V7:=Lib.hid (V6.out.below hb7 hb7.size)
      have L7:=Lib.hid ((hfl2.below hA).mono hA.size)
      have XB:=Lib.hid (fun W (h:Below (w7.alloc (.cells #[.int .i64 sk,.int .i64 sc,.slice sta stn stc,.slice ska skn skc] 38)).heap.size (w7.alloc (.cells #[.int .i64 sk,.int .i64 sc,.slice sta stn stc,.slice ska skn skc] 38)) W)=>And.intro (box_at (cs:=[.int .i64 sk,.int .i64 sc,.slice sta stn stc,.slice ska skn skc]) (o:=0) rfl h) (And.intro (box_at (cs:=[.int .i64 sk,.int .i64 sc,.slice sta stn stc,.slice ska skn skc]) (o:=1) rfl h) (And.intro (box_at (cs:=[.int .i64 sk,.int .i64 sc,.slice sta stn stc,.slice ska skn skc]) (o:=2) rfl h) (box_at (cs:=[.int .i64 sk,.int .i64 sc,.slice sta stn stc,.slice ska skn skc]) (o:=3) rfl h))))
      clear hfl hfl2 hb hA hb7 B6 V6 FC p0 p1 p2 p3 q0 q1 q2
      have F:=Lib.hid (HHC.out _ (HB.out _ B7.out) va vcap V7.out)
      clear HHC V7
      obtain⟨⟨p0,p1,p2,p3⟩,q0,q1,q2⟩:=HQ.out _ B7.out
      go_wp2_with fail
      refine F.out.mono ?_
      rintro r w8 ⟨rfl,hb⟩
      have B8:=Lib.hid (B7.out.trans (hb.mono B7.out.size))
      have L8:=Lib.hid ((L7.out.below hb).mono hb.size)
      obtain⟨x0,x1,x2,x3⟩:=XB.out _ hb
      have F:=Lib.hid (HFV.out rf.1 _ w8 (HB.out _ B8.out) L8.out)
      clear hb L7 B7 XB HFV p0 p1 p2 p3 q0 q1 q2
      go_wp2_with fail
      refine F.out.mono ?_
      rintro r w9 ⟨rfl,hb⟩
      have B9:=Lib.hid (HB.out _ (B8.out.trans (hb.mono B8.out.size)))
      clear hb L8 B8 F x0 x1 x2 x3
      by_cases h1:rf.2=0
      ·have v1:erV rf.2= .nilIface:=if_pos h1
       rw[v1]
       by_cases h2:rt.2=0
       ·have v2:erV rt.2= .nilIface:=if_pos h2
        rw[v2]
        by_cases h3:(Lf.fvN zs (n+3) rf.1).2=0
        ·have v3:Lf.codeV (Lf.fvN zs (n+3) rf.1).2= .nilIface:=if_pos h3
         rw[v3,M2.out h1 h2 h3]
         clear v1 v2 v3 h1 h2 h3 M2
         go_wp2_with fail
         go_ret
         exact⟨by simp,B9.out⟩
        ·have v3:Lf.codeV (Lf.fvN zs (n+3) rf.1).2= .iface 89 (.int .i64 (Lf.fvN zs (n+3) rf.1).2):=if_neg h3
         rw[v3]
         clear v1 v2 v3 h1 h2 h3 M2
         go_wp2_with fail
         go_ret
         exact⟨rfl,B9.out⟩
       ·have v2:erV rt.2= .iface 89 (.int .i64 rt.2):=if_neg h2
        rw[v2]
        clear v1 v2 h1 h2 M2
        go_wp2_with fail
        go_ret
        exact⟨rfl,B9.out⟩
      ·have v1:erV rf.2= .iface 89 (.int .i64 rf.2):=if_neg h1
       rw[v1]
       clear v1 h1 M2
       go_wp2_with fail
       go_ret
       exact⟨rfl,B9.out⟩)
end
section
open Go.ChangeShapes Go.WideShapes Go.RowKit Go.Deep
section
variable {H:Type} {enc:TypeId×Value→H} {w:World} {base:Nat} {spare:Nat→Bool} {held:Bool}
theorem opnE:∀f,OpnAt enc w base spare held f (exprSh f) 49:=fun f=>by
 induction f using Nat.strongRecOn with
 | ind f IH=>
   intro cs x h
   obtain⟨ys,n,rfl,_,hl,hyl,hf⟩:=DataW.trod_struct Tryz.underlying49 h
   have hk:Tryz.prog.cellsOf 49=4:=by kernel_rfl
   rw[hk]at hl
   match cs,hl with
   | [c0,c1,c2,c3],_=>
     have hy:ys.length=4:=hyl
     have a0:DataW.trod enc Tryz.prog w base spare held n 3 [c0]=ys[0]? :=hf 0 _ rfl
     have a1:DataW.trod enc Tryz.prog w base spare held n 3 [c1]=ys[1]? :=hf 1 _ rfl
     have a2:DataW.trod enc Tryz.prog w base spare held n 9 [c2]=ys[2]? :=hf 2 _ rfl
     have a3:DataW.trod enc Tryz.prog w base spare held n 47 [c3]=ys[3]? :=hf 3 _ rfl
     rw[List.getElem?_eq_getElem (by omega)]at a0 a1 a2 a3
     obtain⟨z0,e0,_,w0⟩:=DataW.trod_int Tryz.underlying3 a0
     obtain⟨z1,e1,_,w1⟩:=DataW.trod_int Tryz.underlying3 a1
     obtain⟨s2,e2,_,w2⟩:=DataW.trod_string Tryz.underlying9 a2
     injection e0 with e0
     injection e1 with e1
     injection e2 with e2
     subst e0 e1 e2
     obtain⟨ks,hks⟩:=open_row_at (sh:=exprSh n) Tryz.underlying47 (by rw[exprSh_k];kernel_rfl) (by rw[exprSh_k];decide) (fun m hm=>by
      intro cs' x' h'
      obtain⟨y,hy'⟩:=IH m (by omega) h'
      rw[←hm]
      exact⟨y,exprSh_up m hy'⟩) a3
     exact⟨.mk z0 z1 s2 ks,_,rfl,⟨i64_wf' w0,i64_wf' w1,w2⟩,hks⟩
theorem slotE {n:Nat}{c:Value}{x:DataW H×List MemPlace}(h:DataW.trod enc Tryz.prog w base spare held n 47 [c]=some x):∃ks,Pak.Slot (exprSh n) (Pak.Lo w.heap.size) w c ks:=
 open_row_at (sh:=exprSh n) Tryz.underlying47 (by rw[exprSh_k];kernel_rfl) (by rw[exprSh_k];decide) (fun m hm=>by
  intro cs' x' h'
  obtain⟨y,hy'⟩:=opnE m h'
  rw[←hm]
  exact⟨y,exprSh_up m hy'⟩) h
theorem opnC:∀f,OpnAt enc w base spare held f (condSh f) 52:=fun f=>by
 induction f using Nat.strongRecOn with
 | ind f IH=>
   intro cs x h
   obtain⟨ys,n,rfl,_,hl,hyl,hf⟩:=DataW.trod_struct Tryz.underlying52 h
   have hk:Tryz.prog.cellsOf 52=3:=by kernel_rfl
   rw[hk]at hl
   match cs,hl with
   | [c0,c1,c2],_=>
     have hy:ys.length=3:=hyl
     have a0:DataW.trod enc Tryz.prog w base spare held n 3 [c0]=ys[0]? :=hf 0 _ rfl
     have a1:DataW.trod enc Tryz.prog w base spare held n 47 [c1]=ys[1]? :=hf 1 _ rfl
     have a2:DataW.trod enc Tryz.prog w base spare held n 50 [c2]=ys[2]? :=hf 2 _ rfl
     rw[List.getElem?_eq_getElem (by omega)]at a0 a1 a2
     obtain⟨z0,e0,_,w0⟩:=DataW.trod_int Tryz.underlying3 a0
     injection e0 with e0
     subst e0
     obtain⟨es,hes⟩:=slotE a1
     obtain⟨ks,hks⟩:=open_row_at (sh:=condSh n) Tryz.underlying50 (by rw[condSh_k];kernel_rfl) (by rw[condSh_k];decide) (fun m hm=>by
      intro cs' x' h'
      obtain⟨y,hy'⟩:=IH m (by omega) h'
      rw[←hm]
      exact⟨y,condSh_up m hy'⟩) a2
     exact⟨.mk z0 es ks,_,_,rfl,i64_wf' w0,hes,hks⟩
theorem open_expr {r:Reach}{b0:Nat}{v:Value}{d:DataW H}{p:List MemPlace}(hv:Value.okWide Tryz.prog w r b0 49 v)(h:DataW.Trod enc Tryz.prog w base spare held 49 v d p):
 ∃n ca y,v= .agg ca.toArray∧(exprSh (n+2)).rel (Pak.Lo w.heap.size) w ca y:=by
 obtain⟨cs,rfl,hsz⟩:=okWide_struct Tryz.underlying49 hv
 obtain⟨fuel,hf⟩:=h
 obtain⟨y,hy⟩:=opnE fuel hf
 exact⟨fuel,cs.toList,y,by simp,exprSh_up _ (exprSh_up _ hy)⟩
theorem open_cond {r:Reach}{b0:Nat}{v:Value}{d:DataW H}{p:List MemPlace}(hv:Value.okWide Tryz.prog w r b0 52 v)(h:DataW.Trod enc Tryz.prog w base spare held 52 v d p):
 ∃n ca y,v= .agg ca.toArray∧(condSh (n+2)).rel (Pak.Lo w.heap.size) w ca y:=by
 obtain⟨cs,rfl,hsz⟩:=okWide_struct Tryz.underlying52 hv
 obtain⟨fuel,hf⟩:=h
 obtain⟨y,hy⟩:=opnC fuel hf
 exact⟨fuel,cs.toList,y,by simp,condSh_up _ (condSh_up _ hy)⟩
theorem opnLin0 {n:Nat}{c0 c1:Value}{x:DataW H×List MemPlace}(h:DataW.trod enc Tryz.prog w base spare held n 25 [c0,c1]=some x):∃y:LT,LinRel (Pak.Lo w.heap.size) w c0 c1 y:=by
 obtain⟨ys,n,rfl,_,hl,hyl,hf⟩:=DataW.trod_struct Tryz.underlying25 h
 have hy:ys.length=2:=hyl
 have a0:DataW.trod enc Tryz.prog w base spare held n 3 [c0]=ys[0]? :=hf 0 _ rfl
 have a1:DataW.trod enc Tryz.prog w base spare held n 23 [c1]=ys[1]? :=hf 1 _ rfl
 rw[List.getElem?_eq_getElem (by omega)]at a0 a1
 obtain⟨z0,e0,_,w0⟩:=DataW.trod_int Tryz.underlying3 a0
 injection e0 with e0
 subst e0
 obtain⟨l,a,cap,e,hs⟩:=open_row_at (sh:=monoSh) Tryz.underlying23 (by kernel_rfl) (by decide) (fun m _=>opnMono m) a1
 subst e
 rcases DataW.trod_slice Tryz.underlying23 a1 with ⟨h0,_⟩ | ⟨b,len,cap',elems,rest,m,_,hcs,hx,_,_,_,hel,_⟩
 ·injection h0 with h0
  injection h0 with q1 q2 q3
  exact⟨(z0,l),rfl,a,cap,rfl,fun _=>q3,hs⟩
 ·injection hcs with hcs
  injection hcs with q1 q2 q3
  exact⟨(z0,l),rfl,a,cap,rfl,fun h=>(by rw[h]at q1;cases q1),hs⟩
theorem opnSym (f:Nat):OpnAt enc w base spare held f symSh 86:=by
 intro cs x h
 obtain⟨ys,n,rfl,_,hl,hyl,hf⟩:=DataW.trod_struct Tryz.underlying86 h
 have hk:Tryz.prog.cellsOf 86=3:=by kernel_rfl
 rw[hk]at hl
 match cs,hl with
 | [c0,c1,c2],_=>
   have hy:ys.length=2:=hyl
   have a0:DataW.trod enc Tryz.prog w base spare held n 9 [c0]=ys[0]? :=hf 0 _ rfl
   have a1:DataW.trod enc Tryz.prog w base spare held n 25 [c1,c2]=ys[1]? :=hf 1 _ rfl
   rw[List.getElem?_eq_getElem (by omega)]at a0 a1
   obtain⟨s0,e0,_,w0⟩:=DataW.trod_string Tryz.underlying9 a0
   injection e0 with e0
   subst e0
   obtain⟨y,r⟩:=opnLin0 a1
   exact⟨(s0,y),_,_,rfl,w0,r⟩
theorem open_syms {r:Reach}{b0:Nat}{v:Value}{d:DataW H}{p:List MemPlace}(hv:Value.okWide Tryz.prog w r b0 53 v)(h:DataW.Trod enc Tryz.prog w base spare held 53 v d p):
 ∃a cap xs,v= .slice a (List.length xs) cap∧Pak.Sits symSh (Pak.Lo w.heap.size) w a xs:=by
 obtain⟨a,len,cap,rfl⟩:=okWide_slice Tryz.underlying53 hv
 obtain⟨fuel,hf⟩:=h
 obtain⟨xs,a2,cap2,e,hs⟩:=open_row_at (sh:=symSh) (c:= .slice a len cap) Tryz.underlying53 (by kernel_rfl) (by decide) (fun m _=>opnSym m) hf
 injection e with e1 e2 e3
 subst e1 e2 e3
 exact⟨a,cap,xs,rfl,hs⟩
end
theorem exprSh_add (n:Nat){S:Nat→Prop}{w:World}{cs:List Value}{e:ET}(h:(exprSh n).rel S w cs e):∀k,(exprSh (n+k)).rel S w cs e
 | 0=>h
 | k+1=>exprSh_up _ (exprSh_add n h k)
theorem condSh_add (n:Nat){S:Nat→Prop}{w:World}{cs:List Value}{e:CT}(h:(condSh n).rel S w cs e):∀k,(condSh (n+k)).rel S w cs e
 | 0=>h
 | k+1=>condSh_up _ (condSh_add n h k)
theorem chunkMeans_two (hup:UpSaid20)(n k:Nat)(e:ET)(ce:List Value)(c:CT)(cc:List Value)(la:Option Addr)(lcap:Nat)(xs:List (ByteArray×LT))(ua:Option Addr)(un ucap:Nat)(zs:List Int)(w:World)(he:(exprSh (n+2)).rel (Pak.Lo w.heap.size) w ce e)(hc:(condSh (k+2)).rel (Pak.Lo w.heap.size) w cc c)(hs:Pak.Sits symSh (Pak.Lo w.heap.size) w la xs)(hun:zs.length=un)(hum:un≤9223372036854775807)(hz:Lf.Nums w.heap.size w ua zs)(hL:Laid w):
 Calls Tryz.prog 4 #[.agg ce.toArray,.agg cc.toArray,.slice la xs.length lcap,.slice ua un ucap] w fun e w'=>e= .returned (.bool true)∧Below w.heap.size w w':=
 chunkMeans_any hup (n+k) e c ce cc la lcap xs ua un ucap zs w (by have:=exprSh_add _ he k;rwa [show n+2+k=n+k+2 by omega]at this) (by have:=condSh_add _ hc n;rwa [show k+2+n=n+k+2 by omega]at this) hs hun hum hz hL
end
section
open Go.ChangeShapes Go.WideShapes Go.ChangeAt Go.RowKit
theorem chunkMeans_lifted (hup:UpSaid20)(os:Os)(started:os.Started)(H:Type)(enc:TypeId×Value→H):
 ReturnsInHanded {} Tryz.checked os 4 .any (fun w args=>(Rows.chunkMeansSpec.pre enc Tryz.prog Tryz.f4 [] false w args∧laidMetH Tryz.prog laidL w)∧sizedMet enc Tryz.prog Tryz.f4 (OpenSpec.ofChange Rows.chunkMeansSpec) false w args)
  (Rows.chunkMeansSpec.post enc Tryz.prog Tryz.f4 false true false false):=by
 refine returnsInHanded_of_change_and (C:=Tryz.checked) (X:=fun w _=>laidMetH Tryz.prog laidL w) (fun _ _ _ hh h=>h.of_heap hh) Tryz.own started (by kernel_rfl) Tryz.func4
  (ChangeSpec.witness_at (enc:=enc) (C:=Tryz.checked) (os:=os) (X:=fun w _=>laidMetH Tryz.prog laidL w) false (laidWorld os) #[.agg #[.int .i64 0,.int .i64 0,.string ⟨#[]⟩,.slice none 0 0],.agg #[.int .i64 0,.slice none 0 0,.slice none 0 0],.slice none 0 0,.slice none 0 0] 8 rfl (by kernel_rfl) (by kernel_rfl) (by kernel_rfl) (by kernel_rfl) (by kernel_rfl) (laidWorld_met os _)) ?_
 intro W base args ds gs before hval0 hW _ hsz0 hL _
 have hval:∀(j:Nat) t v,Tryz.f4.params[j]? =some t→args[j]? =some v→Value.okWide Tryz.prog W .any base t v:=hval0
 have hW':=hW
 obtain⟨p,q,hA0,hV,rfl,hfz,hnd⟩:=hW
 have hA:DataW.TrodAll enc Tryz.prog W 0 (fun _=>true) true Tryz.f4.params.toList args.toList ds p:=hA0
 rw[Tryz.params4]at hA hval
 obtain⟨v0,vs0,d0,ds0,p0,q0,hargs,rfl,rfl,h0,r0⟩:=trodAll_cons hA
 obtain⟨v1,vs1,d1,ds1,p1,q1,rfl,rfl,rfl,h1,r1⟩:=trodAll_cons r0
 obtain⟨v2,vs2,d2,ds2,p2,q2,rfl,rfl,rfl,h2,r2⟩:=trodAll_cons r1
 obtain⟨v3,vs3,d3,ds3,p3,q3,rfl,rfl,rfl,h3,r3⟩:=trodAll_cons r2
 obtain⟨rfl,rfl,rfl⟩:=trodAll_nil r3
 obtain rfl:args= #[v0,v1,v2,v3]:=by cases args;simp_all
 obtain⟨rfl,rfl⟩:=trodVars_none hV
 have k0:=h0
 have lt0:∀x∈p0,x.block<W.heap.size:=by obtain⟨m,hm⟩:=k0;exact DataW.trod_lt m _ _ _ hm
 have k1:=h1
 have lt1:∀x∈p1,x.block<W.heap.size:=by obtain⟨m,hm⟩:=k1;exact DataW.trod_lt m _ _ _ hm
 have k2:=h2
 have lt2:∀x∈p2,x.block<W.heap.size:=by obtain⟨m,hm⟩:=k2;exact DataW.trod_lt m _ _ _ hm
 have k3:=h3
 have lt3:∀x∈p3,x.block<W.heap.size:=by obtain⟨m,hm⟩:=k3;exact DataW.trod_lt m _ _ _ hm
 obtain⟨n0,ce,ye,rfl,re⟩:=open_expr (hval 0 49 v0 rfl rfl) h0
 obtain⟨n1,cc,yc,rfl,rc⟩:=open_cond (hval 1 52 v1 rfl rfl) h1
 obtain⟨la,lc,xs,rfl,ls⟩:=open_syms (hval 2 53 v2 rfl rfl) h2
 obtain⟨ua,un,uc,zs,rfl,hl3,hn3,hc3,hnums3,hwf3⟩:=Lf.open_nums (hval 3 54 v3 rfl rfl) h3
 have hm3:un≤9223372036854775807:=by unfold maxLen at hc3;omega
 have hg:=handle_of_laid hL
 clear hA0 hval0
 refine(chunkMeans_two hup n0 n1 ye ce yc cc la lc xs ua un uc zs W re rc ls hl3 hm3 hnums3 hg).mono fun e W' ⟨he,bel⟩=> ?_
 subst he
 exact⟨_,rfl,_,_,_,[],_,[],hW',trodAll_mk1 (shut_bool Tryz.underlying4 _),(trodAll_cons_mk (Below.trod Tryz.laidOut (by kernel_rfl) (of_decide_eq_true (by kernel_rfl)) k0 bel lt0) (trodAll_cons_mk (Below.trod Tryz.laidOut (by kernel_rfl) (of_decide_eq_true (by kernel_rfl)) k1 bel lt1) (trodAll_cons_mk (Below.trod Tryz.laidOut (by kernel_rfl) (of_decide_eq_true (by kernel_rfl)) k2 bel lt2) (trodAll_cons_mk (Below.trod Tryz.laidOut (by kernel_rfl) (of_decide_eq_true (by kernel_rfl)) k3 bel lt3) trodAll_mk0)))),rfl,bel.frame _,fun h=>by cases h⟩
theorem chunkMeans_over (hup:UpSaid20):Rows.ChunkMeansSaid:=
 OpenClaim.holds_of_wide 4 Tryz.f4 rfl rfl rfl rfl rfl rfl rfl ⟨rfl,rfl,rfl,rfl,rfl⟩ rfl rfl rfl rfl rfl (by kernel_rfl) Tryz.func4 (by kernel_rfl)
  (of_decide_eq_true (by kernel_rfl)) (by unfold Func.isWrapper;first | (rw[if_pos (by decide+kernel)];kernel_rfl) | (rw[if_neg (by decide+kernel)];exact⟨rfl,rfl⟩))
  (fun os started H enc _=>chunkMeans_lifted hup os started H enc)
end
end Go.Proofs.YtjbkhdbjdahbiaaGreatDoor
