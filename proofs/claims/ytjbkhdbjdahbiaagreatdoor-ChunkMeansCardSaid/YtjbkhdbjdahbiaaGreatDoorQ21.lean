/- Parts of a proof. -/
import Derived.Test.YtjbkhdbjdahbiaaGreatDoorQ20
import Derived.BigQuiet
set_option linter.unusedVariables false
set_option linter.unusedSimpArgs false
set_option maxHeartbeats 60000000
set_option maxRecDepth 100000
namespace Go.Proofs.YtjbkhdbjdahbiaaGreatDoor
section
open Go.RowKit
theorem own_ck1 {w:World}{B:Nat}{c:CK}{b1 b2:Option Addr}{m1 m2:Nat}(hB:B≤w.heap.size)(h:CkIn w c b1 m1 b2 m2):OwnL ckSh 27 B [c] (.slice (some ⟨w.heap.size,0,none⟩) 1 1) (w.alloc (.cells #[.int .i64 c.a.1,.slice b1 c.a.2.length m1,.string c.f,.int .i64 c.n,.int .i64 c.v.1,.slice b2 c.v.2.length m2] 27)):=by
 refine⟨⟨[[.int .i64 c.a.1,.slice b1 c.a.2.length m1,.string c.f,.int .i64 c.n,.int .i64 c.v.1,.slice b2 c.v.2.length m2]],rfl,⟨rfl,.inr ⟨w.heap.size,1,_,rfl,hB,heap_alloc_new _ _,Nat.le_refl _,by decide,rfl,rfl⟩⟩,fun i hi hi2=> ?_⟩⟩
 obtain rfl:i=0:=by simp at hi;omega
 have hS:∀b,b<w.heap.size→b<(w.alloc (.cells #[.int .i64 c.a.1,.slice b1 c.a.2.length m1,.string c.f,.int .i64 c.n,.int .i64 c.v.1,.slice b2 c.v.2.length m2] 27)).heap.size∧(Value.slice (some ⟨w.heap.size,0,none⟩) 1 1).ownBlock≠some b:=fun b hb=>⟨Nat.lt_of_lt_of_le hb box_low.size,fun e=>by
  have e2:w.heap.size=b:=by simpa [Value.ownBlock]using e
  omega⟩
 exact⟨_,_,_,_,rfl,h.hf,by have:=h.hn;unfold Lt40 at this;unfold i64;show _≤c.n∧c.n≤_;omega,(linRel_of (l:=c.a.2) h.la (by have:=h.sa;omega) h.na).keep hS (fun b o hb=>box_low.cell (p:=⟨b,o,none⟩) hb),(linRel_of (l:=c.v.2) h.lv (by have:=h.sv;omega) h.nv).keep hS (fun b o hb=>box_low.cell (p:=⟨b,o,none⟩) hb)⟩
structure FBox (n:Nat)(wo wx:World)(fb:Nat)(f:Lf.FT)(c0 c1 c2 c3:Value):Prop where
 q0:wx.cell? ⟨fb,0,none⟩=some c0
 q1:wx.cell? ⟨fb,1,none⟩=some c1
 q2:wx.cell? ⟨fb,2,none⟩=some c2
 q3:wx.cell? ⟨fb,3,none⟩=some c3
 fl:Lf.FLiesS (InS wo.heap.size wx) wx n f [c0,c1,c2,c3]
 bel:Below wo.heap.size wo wx
 lt:fb<wx.heap.size
 ge:wo.heap.size≤fb
theorem FBox.below {n:Nat}{wo wx wy:World}{fb:Nat}{f:Lf.FT}{c0 c1 c2 c3:Value}(h:FBox n wo wx fb f c0 c1 c2 c3)(hb:Below wx.heap.size wx wy):FBox n wo wy fb f c0 c1 c2 c3:=
 ⟨(hb.cell (p:=⟨fb,_,none⟩) h.lt).trans h.q0,(hb.cell (p:=⟨fb,_,none⟩) h.lt).trans h.q1,(hb.cell (p:=⟨fb,_,none⟩) h.lt).trans h.q2,(hb.cell (p:=⟨fb,_,none⟩) h.lt).trans h.q3,fl_up h.fl hb,h.bel.trans (hb.mono h.bel.size),Nat.lt_of_lt_of_le h.lt hb.size,h.ge⟩
theorem fbox_new {n:Nat}{wo w4:World}{f:Lf.FT}{c0 c1 c2 c3:Value}{t:TypeId}(hb:Below wo.heap.size wo w4)(hfl:Lf.FLiesS (InS wo.heap.size w4) w4 n f [c0,c1,c2,c3]):FBox n wo (w4.alloc (.cells #[c0,c1,c2,c3] t)) w4.heap.size f c0 c1 c2 c3:=by
 have h:=four_new (Below.refl _ (w4.alloc (.cells #[c0,c1,c2,c3] t)))
 exact⟨h.1,h.2.1,h.2.2.1,h.2.2.2.1,fl_up hfl box_low,hb.alloc hb.size _,h.2.2.2.2,hb.size⟩
theorem fbox_old {n:Nat}{wo w4:World}{f:Lf.FT}{c0 c1 c2 c3 x0 x1 x2 x3:Value}(hb:Below wo.heap.size wo w4)(hfl:Lf.FLiesS (InS (wo.heap.size+1) w4) w4 n f [c0,c1,c2,c3])(h0:w4.cell? ⟨wo.heap.size,0,none⟩=some x0)(h1:w4.cell? ⟨wo.heap.size,1,none⟩=some x1)(h2:w4.cell? ⟨wo.heap.size,2,none⟩=some x2)(h3:w4.cell? ⟨wo.heap.size,3,none⟩=some x3)(lt:wo.heap.size<w4.heap.size):
 FBox n wo ((((w4.setCell ⟨wo.heap.size,0,none⟩ c0).setCell ⟨wo.heap.size,1,none⟩ c1).setCell ⟨wo.heap.size,2,none⟩ c2).setCell ⟨wo.heap.size,3,none⟩ c3) wo.heap.size f c0 c1 c2 c3:=by
 obtain⟨e0,e1,e2,e3,hb2⟩:=store4 (v0:=c0) (v1:=c1) (v2:=c2) (v3:=c3) hb (Nat.le_refl _) h0 h1 h2 h3
 exact⟨e0,e1,e2,e3,fl_store4 hfl (Nat.lt_succ_self _) (Nat.le_succ _),hb2,by simpa using lt,Nat.le_refl _⟩
structure RLp (w V:World)(c o:CK)(b1 b2:Option Addr)(m1 m2:Nat)(a1 a2:Option Addr)(k1 k2:Nat)(gl ol:Nat)(fs:List Lf.FT)(u:Value):Prop where
 c6:C6 V w.heap.size c b1 m1 b2 m2
 ca:CkAt w.heap.size V gl ol o a1 k1 a2 k2
 bel:Below w.heap.size w V
 row:OwnL (frmSh 3) 38 (w.heap.size+1) fs u V
 gw:gl<w.heap.size
theorem RLp.below {w V V':World}{c o:CK}{b1 b2:Option Addr}{m1 m2:Nat}{a1 a2:Option Addr}{k1 k2:Nat}{gl ol:Nat}{fs:List Lf.FT}{u:Value}(h:RLp w V c o b1 b2 m1 m2 a1 a2 k1 k2 gl ol fs u)(hb:Below V.heap.size V V'):RLp w V' c o b1 b2 m1 m2 a1 a2 k1 k2 gl ol fs u:=
 ⟨h.c6.below hb h.c6.lt,h.ca.below (hb.mono h.bel.size) h.gw (Nat.le_refl _),h.bel.trans (hb.mono h.bel.size),h.row.below hb,h.gw⟩
theorem RLp.own {w V:World}{c o:CK}{b1 b2:Option Addr}{m1 m2:Nat}{a1 a2:Option Addr}{k1 k2:Nat}{gl ol:Nat}{fs:List Lf.FT}{u:Value}(h:RLp w V c o b1 b2 m1 m2 a1 a2 k1 k2 gl ol fs u):∀b,u.ownBlock=some b→b<V.heap.size:=fun b e=>by
 obtain⟨css,_,h2,_⟩:=h.row.row
 exact(World.ownsRow.lt h2 b e).2
def RFactsEnd (r:List Lf.FT×Int)(w:World)(e:Ending)(w':World):Prop:=∃v,e= .returned (.tuple #[v,.int .i64 r.2])∧OwnL (frmSh 3) 38 w.heap.size r.1 v w'∧Below w.heap.size w w'
theorem rfacts_any (la:Option Addr)(ln lcap:Nat)(xs:List CK)(c:CK)(b1 b2:Option Addr)(m1 m2:Nat)(w:World)(hs:Pak.Sits ckSh (Pak.Lo w.heap.size) w la xs)(hm:xs.length=ln)(hl:ln≤60)(hnil:la=none→lcap=0)(hN:∀x∈xs,NB x)(hb:∀x∈xs,x.a.2.length*16≤140737488355328∧x.v.2.length*16≤140737488355328)(hc:CkIn w c b1 m1 b2 m2):
 Calls Tryz.prog 10 #[.slice la ln lcap,.agg #[.int .i64 c.a.1,.slice b1 c.a.2.length m1,.string c.f,.int .i64 c.n,.int .i64 c.v.1,.slice b2 c.v.2.length m2]] w (RFactsEnd (factsK xs c) w):=by
 obtain⟨L,hL⟩:∃L,L=ln+1:=⟨_,rfl⟩
 have HLL:=Lib.hid hL
 have HCI:=Lib.hid hc
 have HM:=Lib.hid hm
 have HLN:=Lib.hid hl
 have HS:=Lib.hid hs
 have HNB:=Lib.hid hN
 have HBD:=Lib.hid hb
 have HBW:Hid (Below w.heap.size w (w.alloc (.cells #[.int .i64 c.a.1,.slice b1 c.a.2.length m1,.string c.f,.int .i64 c.n,.int .i64 c.v.1,.slice b2 c.v.2.length m2] 27))):=Lib.hid box_low
 have HC0:Hid (C6 (w.alloc (.cells #[.int .i64 c.a.1,.slice b1 c.a.2.length m1,.string c.f,.int .i64 c.n,.int .i64 c.v.1,.slice b2 c.v.2.length m2] 27)) w.heap.size c b1 m1 b2 m2):=Lib.hid c6_new
 have hsz:(w.alloc (.cells #[.int .i64 c.a.1,.slice b1 c.a.2.length m1,.string c.f,.int .i64 c.n,.int .i64 c.v.1,.slice b2 c.v.2.length m2] 27)).heap.size=w.heap.size+1:=by simp
 have hown:OwnL ckSh 27 (w.heap.size+1) [c] (.slice (some ⟨(w.alloc (.cells #[.int .i64 c.a.1,.slice b1 c.a.2.length m1,.string c.f,.int .i64 c.n,.int .i64 c.v.1,.slice b2 c.v.2.length m2] 27)).heap.size,0,none⟩) 1 1) ((w.alloc (.cells #[.int .i64 c.a.1,.slice b1 c.a.2.length m1,.string c.f,.int .i64 c.n,.int .i64 c.v.1,.slice b2 c.v.2.length m2] 27)).alloc (.cells #[.int .i64 c.a.1,.slice b1 c.a.2.length m1,.string c.f,.int .i64 c.n,.int .i64 c.v.1,.slice b2 c.v.2.length m2] 27)):=own_ck1 (Nat.le_of_eq hsz.symm) (hc.below HBW.out)
 have hB1:Below w.heap.size w ((w.alloc (.cells #[.int .i64 c.a.1,.slice b1 c.a.2.length m1,.string c.f,.int .i64 c.n,.int .i64 c.v.1,.slice b2 c.v.2.length m2] 27)).alloc (.cells #[.int .i64 c.a.1,.slice b1 c.a.2.length m1,.string c.f,.int .i64 c.n,.int .i64 c.v.1,.slice b2 c.v.2.length m2] 27)):=HBW.out.alloc HBW.out.size _
 have hC1:C6 ((w.alloc (.cells #[.int .i64 c.a.1,.slice b1 c.a.2.length m1,.string c.f,.int .i64 c.n,.int .i64 c.v.1,.slice b2 c.v.2.length m2] 27)).alloc (.cells #[.int .i64 c.a.1,.slice b1 c.a.2.length m1,.string c.f,.int .i64 c.n,.int .i64 c.v.1,.slice b2 c.v.2.length m2] 27)) w.heap.size c b1 m1 b2 m2:=HC0.out.below box_low HC0.out.lt
 obtain⟨v7,w7,hrun,hrow7,hb7⟩:=cks_cat (w:=((w.alloc (.cells #[.int .i64 c.a.1,.slice b1 c.a.2.length m1,.string c.f,.int .i64 c.n,.int .i64 c.v.1,.slice b2 c.v.2.length m2] 27)).alloc (.cells #[.int .i64 c.a.1,.slice b1 c.a.2.length m1,.string c.f,.int .i64 c.n,.int .i64 c.v.1,.slice b2 c.v.2.length m2] 27))) (w.heap.size+1) [c] xs _ la lcap hown ((hs.below hB1 (Nat.le_succ _))) (by simp) hnil (by rw[hm];simp;omega)
 obtain⟨a7,k7,rfl,s7⟩:=hrow7.sits (by rw[List.length_append,hm,List.length_singleton];omega)
 rw[hm,List.length_append,hm,List.length_singleton,Nat.add_comm 1 ln,←hL,hsz]at hrun
 have H7:Hid (Pak.Sits ckSh (Pak.Lo w7.heap.size) w7 a7 ([c] ++ xs)∧Below w.heap.size w w7∧C6 w7 w.heap.size c b1 m1 b2 m2):=Lib.hid ⟨s7,hB1.trans (hb7.mono (Nat.le_succ _)),hC1.below hb7 (Nat.lt_succ_self _)⟩
 clear hs hm hl hN hb hc hL hnil hown hB1 hC1 hrow7 hb7 s7 hsz
 obtain⟨g7,o7,rfl,hg7,HE0⟩:=ck_cells H7.out.1 (by simp)
 have HE:=Lib.hid HE0
 have HG7:=Lib.hid hg7
 have HBX:Hid (∀x∈([c] ++ xs),x.a.2.length≤9223372036854775807∧x.v.2.length≤9223372036854775807):=Lib.hid fun x hx=>by
  rcases List.mem_append.1 hx with h | h
  ·obtain rfl:x=c:=by simpa using h
   have:=HCI.out.sa
   have:=HCI.out.sv
   omega
  ·have:=HBD.out x h
   omega
 have HB7:Hid (w.heap.size≤w7.heap.size):=Lib.hid H7.out.2.1.size
 clear HE0 hg7 HBW
 obtain⟨q0,q1,q2,q3,q4,q5⟩:=HC0.out.cells
 go_enter Tryz.func10,Tryz.ntmps10
 go_wp2_with (at_builtin;refine Lib.wpList_append_run _ rfl _ _ _ _ rfl _ _ rfl rfl _ _ (hrun _) ?_)
 clear hrun q0 q1 q2 q3 q4 q5 HC0
 have hL61:L≤61:=by have:=HLL.out;have:=HLN.out;omega
 go_loopw [7] (fun i wr=>∃m:Nat,i= .int .i64 m∧m≤L∧Hid (∀j (h:j<([c] ++ xs).length),j<m→SdC ([c] ++ xs)[j])∧Hid (Below w7.heap.size w7 wr)) (fun i _=>L - (intOf i).toNat)
 case atStart=>exact⟨0,rfl,Nat.zero_le _,fun j h hj=>absurd hj (Nat.not_lt_zero j),Below.refl _ _⟩
 case round=>
  obtain⟨m,rfl,hm,hsd,hb⟩:=hrel
  by_cases hlt:m<L
  ·have hmi:(m:Int)<(L:Int):=by omega
   have hmx:m<([c] ++ xs).length:=by rw[List.length_append,HM.out,List.length_singleton,Nat.add_comm,←HLL.out];exact hlt
   obtain⟨o,a1,k1,a2,k2,hox,hc0⟩:∃o a1 k1 a2 k2,([c] ++ xs)[m]'hmx=o∧CkAt w7.heap.size w7 g7 (o7+m*6) o a1 k1 a2 k2:=by
    obtain⟨a1,k1,a2,k2,h⟩:=HE.out m hmx
    exact⟨_,a1,k1,a2,k2,rfl,h⟩
   have hc:=hc0.below hb.out HG7.out (Nat.le_refl _)
   have HO:Hid (o.a.2.length≤9223372036854775807∧o.v.2.length≤9223372036854775807):=Lib.hid (by rw[←hox];exact HBX.out _ (List.getElem_mem hmx))
   have HNO:Hid (¬SdC o→factsK xs c=([],5)):=Lib.hid fun h=>by
    unfold factsK
    rw[if_neg]
    rintro⟨g1,g2⟩
    refine h ?_
    have hmem:o∈([c] ++ xs):=by rw[←hox];exact List.getElem_mem hmx
    rcases List.mem_append.1 hmem with h3 | h3
    ·obtain rfl:o=c:=by simpa using h3
     exact g2
    ·exact g1 o h3
   have HSN:Hid (SdC o→∀j (h:j<([c] ++ xs).length),j<m+1→SdC ([c] ++ xs)[j]):=Lib.hid fun h j hj hjm=>by
    by_cases e:j=m
    ·subst e
     rw[hox]
     exact h
    ·exact hsd.out j hj (by omega)
   have HLA:=Lib.hid (hc.la.mono hb.out.size)
   have HLV:=Lib.hid (hc.lv.mono hb.out.size)
   have HBN:=Lib.hid hb.out
   have c0:=hc.c0
   have c1:=hc.c1
   have c4:=hc.c4
   have c5:=hc.c5
   have KA:=Lib.hid (Lf.rcheck_any o.a.1 a1 _ k1 o.a.2 wr rfl HO.out.1 HLA.out)
   have KV:=Lib.hid (fun W (hW:Below wr.heap.size wr W)=>Lf.rcheck_any o.v.1 a2 _ k2 o.v.2 W rfl HO.out.2 ((HLV.out.below hW).mono hW.size))
   have HCA:=Lib.hid hc
   clear hc0 hc hox hsd hb
   cases hsa:Lf.snd o.a.1 o.a.2 with
   | false=>
     have HR:=Lib.hid (HNO.out fun h=>by have:=h.1;unfold Sd at this;rw[hsa]at this;cases this)
     rw[hsa]at KA
     clear hsa KV HCA
     go_wp2_with fail
     refine KA.out.mono ?_
     rintro r w2 ⟨rfl,hb2⟩
     have HF:=Lib.hid (H7.out.2.1.trans ((HBN.out.trans (hb2.mono HBN.out.size)).mono HB7.out))
     clear hb2 c0 c1 c4 c5
     go_wp2_with fail
     go_ret2
     exact⟨_,by rw[HR.out];rfl,by rw[HR.out];exact OwnL.nil _ _ _ _,HF.out⟩
   | true=>
     have HSA:=Lib.hid hsa
     rw[hsa]at KA
     clear hsa
     go_wp2_with fail
     refine KA.out.mono ?_
     rintro r w2 ⟨rfl,hb2⟩
     have HF2:=Lib.hid (HBN.out.trans (hb2.mono HBN.out.size))
     have C2:=Lib.hid (KV.out _ hb2)
     have hca:=HCA.out.below (hb2.mono HBN.out.size) HG7.out (Nat.le_refl _)
     clear hb2 c0 c1 c4 c5
     have c0:=hca.c0
     have c1:=hca.c1
     have c4:=hca.c4
     have c5:=hca.c5
     clear hca KV HCA
     cases hsv:Lf.snd o.v.1 o.v.2 with
     | false=>
       have HR:=Lib.hid (HNO.out fun h=>by have:=h.2;unfold Sd at this;rw[hsv]at this;cases this)
       rw[hsv]at C2
       clear hsv
       go_wp2_with fail
       refine C2.out.mono ?_
       rintro r w3 ⟨rfl,hb3⟩
       have HF:=Lib.hid (H7.out.2.1.trans ((HF2.out.trans (hb3.mono HF2.out.size)).mono HB7.out))
       clear hb3 c0 c1 c4 c5
       go_wp2_with fail
       go_ret2
       exact⟨_,by rw[HR.out];rfl,by rw[HR.out];exact OwnL.nil _ _ _ _,HF.out⟩
     | true=>
       have HN:=Lib.hid (HSN.out ⟨HSA.out,hsv⟩)
       rw[hsv]at C2
       clear hsv
       go_wp2_with fail
       refine C2.out.mono ?_
       rintro r w3 ⟨rfl,hb3⟩
       have HF:=Lib.hid (HF2.out.trans (hb3.mono HF2.out.size))
       clear hb3 c0 c1 c4 c5
       go_wp2_with fail
       go_roundw
       case rel=>exact⟨m+1,by go_num,by omega,HN,HF⟩
       case measure=>simp[intOf];omega
  ·obtain rfl:m=L:=by omega
   have hlti:¬(m:Int)<(m:Int):=by omega
   have HXS:Hid ((∀x∈xs,SdC x)∧SdC c):=Lib.hid (by
    have h:∀x∈([c] ++ xs),SdC x:=fun x hx=>by
     obtain⟨i,hi,rfl⟩:=List.getElem_of_mem hx
     exact hsd.out i hi (by rw[List.length_append,HM.out,List.length_singleton,Nat.add_comm,←HLL.out]at hi;exact hi)
    exact⟨fun x hx=>h x (List.mem_append_right _ hx),h c (by simp)⟩)
   have HBE:=Lib.hid (H7.out.2.1.trans (hb.out.mono HB7.out))
   have HCE:=Lib.hid (H7.out.2.2.below hb.out H7.out.2.2.lt)
   have HFK:Hid (factsK xs c=match addS 1 (-1) (1,[]) c.a with
    | none=>([],3)
    | some y=>open Classical in if ∀j,j<xs.length→okF c (xs.getD j ck0) then(.mk 2 y.1 y.2 [] :: factsTo c xs xs.length,0) else([],3)):=Lib.hid (by unfold factsK;rw[if_pos HXS.out];rfl)
   have HLS:Hid (Calls Tryz.prog 34 #[.agg #[.int .i64 1,.slice none 0 0],.agg #[.int .i64 c.a.1,.slice b1 c.a.2.length m1],.int .i64 (-1)] wr (LnEnd (addS 1 (-1) (1,[]) c.a) wr)):=Lib.hid (rmore_any (1,[]) c.a (-1) none b1 0 m1 wr sd_unit HXS.out.2.1 (by omega) (fun i hi=>absurd hi (Nat.not_lt_zero i)) ((HCI.out.below HBE.out).la) (fun _=>⟨rfl,rfl⟩))
   obtain⟨q0,q1,q2,q3,q4,q5⟩:=HCE.out.cells
   clear hsd hb HE HBX H7 HG7 HB7
   go_wp2_with fail
   refine HLS.out.mono ?_
   rintro r w2 h2
   rcases h2 with ⟨⟨rc,rl⟩,v2,hx,rfl,hrow2,hb2⟩ | ⟨hx,rfl,hb2⟩
   ·obtain⟨a3,k3,rfl,_,_⟩:=hrow2.lies
    have HLR:=Lib.hid (show rl.length≤9223372036854775807 by have:=(addS_sd hx).len;exact Nat.le_trans this (by decide))
    have HFK2:Hid (factsK xs c=open Classical in if ∀j,j<xs.length→okF c (xs.getD j ck0) then(.mk 2 rc rl [] :: factsTo c xs xs.length,0) else([],3)):=Lib.hid (by rw[HFK.out,hx])
    have HB2:=Lib.hid (HBE.out.trans (hb2.mono HBE.out.size))
    have HC2:=Lib.hid (HCE.out.below hb2 HCE.out.lt)
    have HB3:Hid (Below w.heap.size w (w2.alloc (.cells #[.int .i64 rc,.slice a3 rl.length k3] 25))):=Lib.hid (HB2.out.alloc HB2.out.size _)
    have HB4:Hid (Below w.heap.size w ((w2.alloc (.cells #[.int .i64 rc,.slice a3 rl.length k3] 25)).alloc (.cells #[.int .i64 2,.int .i64 rc,.slice a3 rl.length k3,.slice none 0 0] 38))):=Lib.hid (HB3.out.alloc HB3.out.size _)
    have HC3:Hid (C6 (w2.alloc (.cells #[.int .i64 rc,.slice a3 rl.length k3] 25)) w.heap.size c b1 m1 b2 m2):=Lib.hid (HC2.out.below box_low HC2.out.lt)
    have HC4:Hid (C6 ((w2.alloc (.cells #[.int .i64 rc,.slice a3 rl.length k3] 25)).alloc (.cells #[.int .i64 2,.int .i64 rc,.slice a3 rl.length k3,.slice none 0 0] 38)) w.heap.size c b1 m1 b2 m2):=Lib.hid (HC3.out.below box_low HC3.out.lt)
    have HROW:Hid (OwnL (frmSh 3) 38 (w.heap.size+1) [.mk 2 rc rl []] (.slice (some ⟨w2.heap.size+1,0,none⟩) 1 1) ((w2.alloc (.cells #[.int .i64 rc,.slice a3 rl.length k3] 25)).alloc (.cells #[.int .i64 2,.int .i64 rc,.slice a3 rl.length k3,.slice none 0 0] 38))):=Lib.hid (by
     have h:=own_fm1 (w:=(w2.alloc (.cells #[.int .i64 rc,.slice a3 rl.length k3] 25))) (n:=3) (B:=w.heap.size+1) (f:= .mk 2 rc rl []) HC3.out.lt ((fl_leaf (n:=2) 2 rc hrow2 HLR.out).keep (fun b h=>Nat.lt_of_lt_of_le h.2 (box_low (w:=w2)).size) (fun b o h=>(box_low (w:=w2)).cell (p:=⟨b,o,none⟩) h.2))
     rw[show(w2.alloc (.cells #[.int .i64 rc,.slice a3 rl.length k3] 25)).heap.size=w2.heap.size+1 from by simp]at h
     exact h)
    clear hx hb2 hrow2 q0 q1 q2 q3 q4 q5 HLS HFK HCE HBE HC2 HB2 HC3 HB3 HLR
    go_wp2_with fail
    have hln60:ln≤60:=HLN.out
    go_loopw [10,11] (fun v i wr=>∃m:Nat,i= .int .i64 m∧m≤ln∧Hid (∀j,j<m→okF c (xs.getD j ck0))∧Hid (OwnL (frmSh 3) 38 (w.heap.size+1) (.mk 2 rc rl [] :: factsTo c xs m) v wr)∧Hid (Below w.heap.size w wr)∧Hid (C6 wr w.heap.size c b1 m1 b2 m2)) (fun _ i _=>ln - (intOf i).toNat)
    case atStart=>exact⟨0,rfl,Nat.zero_le _,fun j hj=>absurd hj (Nat.not_lt_zero j),HROW,HB4,HC4⟩
    case round=>
     obtain⟨mq,rfl,hmq,hok,hrow,hb,hc6⟩:=hrel
     clear HROW HB4 HC4
     by_cases hlt2:mq<ln
     ·have hmi2:(mq:Int)<(ln:Int):=by omega
      have hmx2:mq<xs.length:=by rw[HM.out];exact hlt2
      obtain⟨gl,ol,rfl,hgl,HEL⟩:=ck_cells HS.out (by omega)
      obtain⟨o,a1,k1,a2,k2,hox,hc0⟩:∃o a1 k1 a2 k2,xs[mq]'hmx2=o∧CkAt w.heap.size w gl (ol+mq*6) o a1 k1 a2 k2:=by
       obtain⟨a1,k1,a2,k2,h⟩:=HEL mq hmx2
       exact⟨_,a1,k1,a2,k2,rfl,h⟩
      have hmem:o∈xs:=by rw[←hox];exact List.getElem_mem hmx2
      have hgd:xs.getD mq ck0=o:=by rw[List.getD_eq_getElem?_getD,List.getElem?_eq_getElem hmx2,hox];rfl
      have HTO:Hid (factsTo c xs (mq+1)=factsTo c xs mq ++ addF c o):=Lib.hid (by rw[←hgd];rfl)
      have HOK:Hid (okF c o→∀j,j<mq+1→okF c (xs.getD j ck0)):=Lib.hid fun h j hj=>by
       by_cases e:j=mq
       ·subst e
        rw[hgd]
        exact h
       ·exact hok.out j (by omega)
      have HNO:Hid (¬okF c o→factsK xs c=([],3)):=Lib.hid fun h=>by
       rw[HFK2.out,if_neg]
       intro h2
       have:=h2 mq hmx2
       rw[hgd]at this
       exact h this
      have HR0:Hid (RLp w wr c o b1 b2 m1 m2 a1 a2 k1 k2 gl (ol+mq*6) (.mk 2 rc rl [] :: factsTo c xs mq) u10):=Lib.hid ⟨hc6.out,hc0.below hb.out hgl (Nat.le_refl _),hb.out,hrow.out,hgl⟩
      have HOS:Hid (o.a.2.length*16≤140737488355328∧o.v.2.length*16≤140737488355328):=Lib.hid (HBD.out o hmem)
      have HON:Hid (-1099511627776≤o.n∧o.n≤1099511627776):=Lib.hid (HNB.out o hmem)
      have HLEN:Hid ((.mk 2 rc rl [] :: factsTo c xs mq:List Lf.FT).length≤1000000):=Lib.hid (by have:=factsTo_len c xs mq;have:=HLN.out;simp only[List.length_cons];omega)
      have HFS:Hid (.mk 2 rc rl [] :: factsTo c xs (mq+1)=(.mk 2 rc rl [] :: factsTo c xs mq) ++ addF c o):=Lib.hid (by rw[HTO.out];rfl)
      clear hc0 hok hrow hb hc6 HEL hgd hox hmem hgl HTO
      generalize (.mk 2 rc rl [] :: factsTo c xs mq:List Lf.FT)=fs at*
      by_cases hf:o.f=c.f
      ·have e1:(o.f.toList == c.f.toList)=true:=by rw[hf];simp
       have HAD:Hid (addF c o=[(apartK o c).1]):=Lib.hid (if_pos hf)
       have HKF:Hid ((apartK o c).2=0↔okF c o):=Lib.hid ⟨fun h _=>h,fun h=>h hf⟩
       clear hf
       obtain⟨q0,q1,q2,q3,q4,q5⟩:=HR0.out.c6.cells
       have c0:=HR0.out.ca.c0
       have c1:=HR0.out.ca.c1
       have c2:=HR0.out.ca.c2
       have c3:=HR0.out.ca.c3
       have c4:=HR0.out.ca.c4
       have c5:=HR0.out.ca.c5
       go_upto_region 14 with fail
       go_cut [67] (fun b wx=>b= .bool false∧Hid (Below wr.heap.size wr wx))
       case first=>
        go_quiet (fail)
        go_wp2_with fail
        go_meet
        case rel=>exact⟨rfl,Lib.hid (below_drewN (Below.refl _ _) _)⟩
       case rest=>
       obtain⟨rfl,HBwA⟩:=hcut
       obtain⟨wA,rfl⟩:∃x:World,x=wc:=⟨wc,rfl⟩
       have HRA:=Lib.hid (HR0.out.below HBwA.out)
       clear q0 q1 q2 q3 q4 q5 c0 c1 c2 c3 c4 c5 e1 HBwA
       have HSa:Hid (∀V',Below wA.heap.size wA V'→Calls Tryz.prog 12 #[.agg #[.int .i64 o.a.1,.slice a1 o.a.2.length k1],.agg #[.int .i64 c.a.1,.slice b1 c.a.2.length m1]] V' (RFmEnd 1 (sameK o.a c.a) V')):=Lib.hid fun V' hV=>
        have hr:=HRA.out.below hV
        rsame_any 0 o.a c.a a1 b1 k1 m1 V' (hr.ca.la.mono hr.bel.size) ((HCI.out.below hr.bel).la) (by have:=HOS.out;omega) (by have:=HCI.out.sa;omega) hr.ca.na
       have HD1:Hid (Below wA.heap.size wA wA.drew):=Lib.hid (Below.refl _ wA).drew
       have HD2:Hid (Below wA.heap.size wA (wA.alloc (.cells #[.int .i64 0,.int .i64 0,.slice none 0 0,.slice none 0 0] 38)).drew):=Lib.hid (box_low (w:=wA)).drew
       have HD3:Hid (Below (wA.alloc (.cells #[.int .i64 0,.int .i64 0,.slice none 0 0,.slice none 0 0] 38)).heap.size (wA.alloc (.cells #[.int .i64 0,.int .i64 0,.slice none 0 0,.slice none 0 0] 38)) (wA.alloc (.cells #[.int .i64 0,.int .i64 0,.slice none 0 0,.slice none 0 0] 38)).drew):=Lib.hid (Below.refl _ _).drew
       have HZ2:Hid ((wA.alloc (.cells #[.int .i64 0,.int .i64 0,.slice none 0 0,.slice none 0 0] 38)).drew.heap.size=wA.heap.size+1):=Lib.hid (by show(wA.alloc _).heap.size=_;simp)
       have HC1:=Lib.hid (HSa.out _ HD1.out)
       have HC2:=Lib.hid (HSa.out _ HD2.out)
       have HGW:gl<wA.heap.size:=Nat.lt_of_lt_of_le HRA.out.gw HRA.out.bel.size
       have HWW:w.heap.size<wA.heap.size:=HRA.out.c6.lt
       obtain⟨q0,q1,q2,q3,q4,q5⟩:=HRA.out.c6.cells
       have c0:=HRA.out.ca.c0
       have c1:=HRA.out.ca.c1
       have c4:=HRA.out.ca.c4
       have c5:=HRA.out.ca.c5
       go_upto_region 15 with fail
       go_cut [12,13] (fun fp er wx=>∃(fb:Nat) (sk sc:Int) (sta:Option Addr) (stn stc:Nat) (ska:Option Addr) (skn skc:Nat),fp= .pointer (some ⟨fb,0,none⟩)∧er= .int .i64 (sameK o.a c.a).2∧Hid (FBox 1 wA wx fb (sameK o.a c.a).1 (.int .i64 sk) (.int .i64 sc) (.slice sta stn stc) (.slice ska skn skc)))
       case first=>
        go_region_with (go_at_call 12;first
         | ((with_reducible refine HC1.out.mono ?_)
            rintro e w4 ⟨cs,rfl,hfl,hb4⟩
            obtain⟨x0,x1,x2,x3,rfl⟩:=hfl.four
            obtain⟨sk,sc,sta,stn,stc,ska,skn,skc,rfl,rfl,rfl,rfl⟩:=(hfl.lies (B:=w4.heap.size) (fun b hb=>hb.2)).form
            have HFB:=Lib.hid (fbox_new (t:=38) (HD1.out.trans (hb4.mono HD1.out.size)) hfl)
            clear hfl hb4)
         | ((with_reducible refine HC2.out.mono ?_)
            rintro e w4 ⟨cs,rfl,hfl,hb4⟩
            obtain⟨x0,x1,x2,x3,rfl⟩:=hfl.four
            obtain⟨sk,sc,sta,stn,stc,ska,skn,skc,rfl,rfl,rfl,rfl⟩:=(hfl.lies (B:=w4.heap.size) (fun b hb=>hb.2)).form
            obtain⟨y0,y1,y2,y3,y4⟩:=four_new (HD3.out.trans (hb4.mono HD3.out.size))
            have hz:∀i,w4.frozen? ⟨wA.heap.size,i,none⟩=false:=fun i=>((HD3.out.trans (hb4.mono HD3.out.size)).frozen (p:=⟨wA.heap.size,i,none⟩) (by simp)).trans (Lf.frozen_new _ _ _ _)
            have z0:=hz 0
            have z1:=hz 1
            have z2:=hz 2
            have z3:=hz 3
            rw[HZ2.out]at hfl
            have HFB:=Lib.hid (fbox_old (HD2.out.trans (hb4.mono HD2.out.size)) hfl y0 y1 y2 y3 y4)
            clear hfl hb4 hz))
        all_goals (
         go_wp2_with fail
         go_meet
         case rel=>exact⟨_,_,_,_,_,_,_,_,_,rfl,rfl,HFB⟩)
       case rest=>
       obtain⟨fbs,sk,sc,sta,stn,stc,ska,skn,skc,rfl,rfl,HFs⟩:=hcut
       obtain⟨ws,rfl⟩:∃x:World,x=wc:=⟨wc,rfl⟩
       clear HSa HD1 HD2 HD3 HZ2 HC1 HC2 HGW HWW q0 q1 q2 q3 q4 q5 c0 c1 c4 c5
       have HRB:=Lib.hid (HRA.out.below HFs.out.bel)
       have HUW:Hid (∀b,u10.ownBlock=some b→b<wA.heap.size):=Lib.hid HRA.out.own
       by_cases hk:(sameK o.a c.a).2=0
       ·rw[hk]
        have hw:IntKind.i64.wrap (o.n+c.n)=o.n+c.n:=IntWalk.i64_in _ (by have:=HON.out;have:=HCI.out.hn;unfold Lt40 at this;omega)
        by_cases h64:64<o.n+c.n
        ·have HAK:Hid (apartK o c=(.mk 4 0 [] [(sameK o.a c.a).1],0)):=Lib.hid (by unfold apartK;rw[if_pos hk,if_pos h64])
         obtain⟨q0,q1,q2,q3,q4,q5⟩:=HRB.out.c6.cells
         have c0:=HRB.out.ca.c0
         have c1:=HRB.out.ca.c1
         have c2:=HRB.out.ca.c2
         have c3:=HRB.out.ca.c3
         have c4:=HRB.out.ca.c4
         have c5:=HRB.out.ca.c5
         go_upto_region 18 with fail
         go_cut [89] (fun b wx=>b= .bool true∧Hid (Below ws.heap.size ws wx))
         case first=>
          go_quiet (fail)
          go_wp2_with fail
          go_meet
          case rel=>exact⟨rfl,Lib.hid (below_drewN (Below.refl _ _) _)⟩
         case rest=>
         obtain⟨rfl,HBwC⟩:=hcut
         obtain⟨wC,rfl⟩:∃x:World,x=wc:=⟨wc,rfl⟩
         clear hk h64 hw q0 q1 q2 q3 q4 q5 c0 c1 c2 c3 c4 c5
         have HRC:=Lib.hid (HRB.out.below HBwC.out)
         have HFC:=Lib.hid (HFs.out.below HBwC.out)
         have HN:=Lib.hid (rnot_any wA.heap.size 1 _ _ wC HFC.out.bel.size HFC.out.fl)
         obtain⟨g0,g1,g2,g3,_,_,_,_⟩:=HFC.out
         go_wp2_with fail
         refine HN.out.mono ?_
         rintro e w6 ⟨cs6,rfl,hf6,hb6⟩
         obtain⟨x0,x1,x2,x3,rfl⟩:=hf6.four
         obtain⟨nk,nc,nta,ntn,ntc,nka,nkn,nkc,rfl,rfl,rfl,rfl⟩:=(hf6.lies (B:=w6.heap.size) (fun b hb=>hb.2)).form
         have HRD:=Lib.hid (HRC.out.below hb6)
         have HFL:Hid (Lf.FLiesS (fun b=>b<w6.heap.size∧u10.ownBlock≠some b) w6 3 (.mk 4 0 [] [(sameK o.a c.a).1]) [.int .i64 nk,.int .i64 nc,.slice nta ntn ntc,.slice nka nkn nkc]):=Lib.hid (fl_raise (by omega) (hf6.keep (fun b h=>⟨h.2,fun e=>by have:=HUW.out b e;have:=h.1;omega⟩) (fun _ _ _=>rfl)))
         obtain⟨v8,w8,hrun,hrow8,hb8,_⟩:=run_push_fm (w:=w6) 3 (w.heap.size+1) _ _ u10 _ _ _ _ HRD.out.row HRD.out.c6.lt HFL.out HLEN.out
         have HROW:Hid (OwnL (frmSh 3) 38 (w.heap.size+1) (.mk 2 rc rl [] :: factsTo c xs (mq+1)) v8 w8):=Lib.hid (by rw[HFS.out,HAD.out,HAK.out];exact hrow8)
         have HBF:=Lib.hid (HRD.out.bel.trans (hb8.mono (Nat.le_succ _)))
         have HCF:=Lib.hid (HRD.out.c6.below hb8 (Nat.lt_succ_self _))
         have HOF:=Lib.hid (HOK.out (HKF.out.1 (by rw[HAK.out])))
         clear hf6 hb6 hrow8 hb8 g0 g1 g2 g3
         go_wp2_with (at_builtin;refine Lib.wpList_append_run _ rfl _ _ _ _ rfl _ _ rfl rfl _ _ (hrun _) ?_)
         clear hrun
         go_roundw
         case rel=>exact⟨mq+1,by go_num,by omega,HOF,HROW,HBF,HCF⟩
         case measure=>simp[intOf];omega
        ·have HA1:Hid (apartK o c=if(sameK o.v c.v).2=0 then(.mk 6 0 [] [.mk 4 0 [] [(sameK o.a c.a).1],(sameK o.v c.v).1],0) else(f0,(sameK o.v c.v).2)):=Lib.hid (by unfold apartK;rw[if_pos hk,if_neg h64])
         obtain⟨q0,q1,q2,q3,q4,q5⟩:=HRB.out.c6.cells
         have c0:=HRB.out.ca.c0
         have c1:=HRB.out.ca.c1
         have c2:=HRB.out.ca.c2
         have c3:=HRB.out.ca.c3
         have c4:=HRB.out.ca.c4
         have c5:=HRB.out.ca.c5
         go_upto_region 18 with fail
         go_cut [89] (fun b wx=>b= .bool false∧Hid (Below ws.heap.size ws wx))
         case first=>
          go_quiet (fail)
          go_wp2_with fail
          go_meet
          case rel=>exact⟨rfl,Lib.hid (below_drewN (Below.refl _ _) _)⟩
         case rest=>
         obtain⟨rfl,HBwC⟩:=hcut
         obtain⟨wC,rfl⟩:∃x:World,x=wc:=⟨wc,rfl⟩
         clear hk h64 hw q0 q1 q2 q3 q4 q5 c0 c1 c2 c3 c4 c5
         have HRC:=Lib.hid (HRB.out.below HBwC.out)
         have HFC:=Lib.hid (HFs.out.below HBwC.out)
         have HSv:Hid (∀V',Below wC.heap.size wC V'→Calls Tryz.prog 12 #[.agg #[.int .i64 o.v.1,.slice a2 o.v.2.length k2],.agg #[.int .i64 c.v.1,.slice b2 c.v.2.length m2]] V' (RFmEnd 1 (sameK o.v c.v) V')):=Lib.hid fun V' hV=>
          have hr:=HRC.out.below hV
          rsame_any 0 o.v c.v a2 b2 k2 m2 V' (hr.ca.lv.mono hr.bel.size) ((HCI.out.below hr.bel).lv) (by have:=HOS.out;omega) (by have:=HCI.out.sv;omega) hr.ca.nv
         have HD1:Hid (Below wC.heap.size wC wC.drew):=Lib.hid (Below.refl _ wC).drew
         have HD2:Hid (Below wC.heap.size wC (wC.alloc (.cells #[.int .i64 0,.int .i64 0,.slice none 0 0,.slice none 0 0] 38)).drew):=Lib.hid (box_low (w:=wC)).drew
         have HD3:Hid (Below (wC.alloc (.cells #[.int .i64 0,.int .i64 0,.slice none 0 0,.slice none 0 0] 38)).heap.size (wC.alloc (.cells #[.int .i64 0,.int .i64 0,.slice none 0 0,.slice none 0 0] 38)) (wC.alloc (.cells #[.int .i64 0,.int .i64 0,.slice none 0 0,.slice none 0 0] 38)).drew):=Lib.hid (Below.refl _ _).drew
         have HZ2:Hid ((wC.alloc (.cells #[.int .i64 0,.int .i64 0,.slice none 0 0,.slice none 0 0] 38)).drew.heap.size=wC.heap.size+1):=Lib.hid (by show(wC.alloc _).heap.size=_;simp)
         have HC1:=Lib.hid (HSv.out _ HD1.out)
         have HC2:=Lib.hid (HSv.out _ HD2.out)
         have HGW:gl<wC.heap.size:=Nat.lt_of_lt_of_le HRC.out.gw HRC.out.bel.size
         have HWW:w.heap.size<wC.heap.size:=HRC.out.c6.lt
         obtain⟨q0,q1,q2,q3,q4,q5⟩:=HRC.out.c6.cells
         have c0:=HRC.out.ca.c0
         have c1:=HRC.out.ca.c1
         have c4:=HRC.out.ca.c4
         have c5:=HRC.out.ca.c5
         go_upto_region 20 with fail
         go_cut [14,15] (fun fp er wx=>∃(fb:Nat) (sk sc:Int) (sta:Option Addr) (stn stc:Nat) (ska:Option Addr) (skn skc:Nat),fp= .pointer (some ⟨fb,0,none⟩)∧er= .int .i64 (sameK o.v c.v).2∧Hid (FBox 1 wC wx fb (sameK o.v c.v).1 (.int .i64 sk) (.int .i64 sc) (.slice sta stn stc) (.slice ska skn skc)))
         case first=>
          go_region_with (go_at_call 12;first
           | ((with_reducible refine HC1.out.mono ?_)
              rintro e w4 ⟨cs,rfl,hfl,hb4⟩
              obtain⟨x0,x1,x2,x3,rfl⟩:=hfl.four
              obtain⟨sk,sc,sta,stn,stc,ska,skn,skc,rfl,rfl,rfl,rfl⟩:=(hfl.lies (B:=w4.heap.size) (fun b hb=>hb.2)).form
              have HFB:=Lib.hid (fbox_new (t:=38) (HD1.out.trans (hb4.mono HD1.out.size)) hfl)
              clear hfl hb4)
           | ((with_reducible refine HC2.out.mono ?_)
              rintro e w4 ⟨cs,rfl,hfl,hb4⟩
              obtain⟨x0,x1,x2,x3,rfl⟩:=hfl.four
              obtain⟨sk,sc,sta,stn,stc,ska,skn,skc,rfl,rfl,rfl,rfl⟩:=(hfl.lies (B:=w4.heap.size) (fun b hb=>hb.2)).form
              obtain⟨y0,y1,y2,y3,y4⟩:=four_new (HD3.out.trans (hb4.mono HD3.out.size))
              have hz:∀i,w4.frozen? ⟨wC.heap.size,i,none⟩=false:=fun i=>((HD3.out.trans (hb4.mono HD3.out.size)).frozen (p:=⟨wC.heap.size,i,none⟩) (by simp)).trans (Lf.frozen_new _ _ _ _)
              have z0:=hz 0
              have z1:=hz 1
              have z2:=hz 2
              have z3:=hz 3
              rw[HZ2.out]at hfl
              have HFB:=Lib.hid (fbox_old (HD2.out.trans (hb4.mono HD2.out.size)) hfl y0 y1 y2 y3 y4)
              clear hfl hb4 hz))
          all_goals (
           go_wp2_with fail
           go_meet
           case rel=>exact⟨_,_,_,_,_,_,_,_,_,rfl,rfl,HFB⟩)
         case rest=>
         obtain⟨fbv,vk,vc,vta,vtn,vtc,vka,vkn,vkc,rfl,rfl,HFv⟩:=hcut
         obtain⟨wv,rfl⟩:∃x:World,x=wc:=⟨wc,rfl⟩
         clear HSv HD1 HD2 HD3 HZ2 HC1 HC2 HGW HWW q0 q1 q2 q3 q4 q5 c0 c1 c4 c5
         have HRV:=Lib.hid (HRC.out.below HFv.out.bel)
         have HFV:=Lib.hid (HFC.out.below HFv.out.bel)
         by_cases hk2:(sameK o.v c.v).2=0
         ·rw[hk2]
          have HAK:Hid (apartK o c=(.mk 6 0 [] [.mk 4 0 [] [(sameK o.a c.a).1],(sameK o.v c.v).1],0)):=Lib.hid (by rw[HA1.out,if_pos hk2])
          clear hk2
          have HD:Hid (Below wv.heap.size wv wv.drew):=Lib.hid (Below.refl _ wv).drew
          have HFD:=Lib.hid (HFV.out.below HD.out)
          have HN:=Lib.hid (rnot_any wA.heap.size 1 _ _ wv.drew HFD.out.bel.size HFD.out.fl)
          have HAC:Hid (wA.heap.size≤wC.heap.size):=Lib.hid HFC.out.bel.size
          have HS8:Hid (∀V,Below wv.heap.size wv V→V.cell? ⟨fbs,0,none⟩=some (.int .i64 sk)∧V.cell? ⟨fbs,1,none⟩=some (.int .i64 sc)∧V.cell? ⟨fbs,2,none⟩=some (.slice sta stn stc)∧V.cell? ⟨fbs,3,none⟩=some (.slice ska skn skc)∧V.cell? ⟨fbv,0,none⟩=some (.int .i64 vk)∧V.cell? ⟨fbv,1,none⟩=some (.int .i64 vc)∧V.cell? ⟨fbv,2,none⟩=some (.slice vta vtn vtc)∧V.cell? ⟨fbv,3,none⟩=some (.slice vka vkn vkc)):=Lib.hid fun V hV=>by
           obtain⟨g0,g1,g2,g3,_,_,_,_⟩:=HFV.out.below hV
           obtain⟨g4,g5,g6,g7,_,_,_,_⟩:=HFv.out.below hV
           exact⟨g0,g1,g2,g3,g4,g5,g6,g7⟩
          have HARM:Hid (∀(w6:World) (nk nc:Int) (nta:Option Addr) (ntn ntc:Nat) (nka:Option Addr) (nkn nkc:Nat),Lf.FLiesS (InS wA.heap.size w6) w6 2 (.mk 4 0 [] [(sameK o.a c.a).1]) [.int .i64 nk,.int .i64 nc,.slice nta ntn ntc,.slice nka nkn nkc]→Below wv.drew.heap.size wv.drew w6→∃v8 w8,(∀ty,(Builtin.append_ #[30,30] ty #[u10,.slice (some ⟨w6.heap.size+1,0,none⟩) 1 1]).run Tryz.prog ((w6.alloc (.cells #[.int .i64 nk,.int .i64 nc,.slice nta ntn ntc,.slice nka nkn nkc,.int .i64 vk,.int .i64 vc,.slice vta vtn vtc,.slice vka vkn vkc] 38)).alloc (.cells #[.int .i64 6,.int .i64 0,.slice none 0 0,.slice (some ⟨w6.heap.size,0,none⟩) 2 2] 38))= .ok v8 w8)∧(OwnL (frmSh 3) 38 (w.heap.size+1) (.mk 2 rc rl [] :: factsTo c xs (mq+1)) v8 w8∧Below w.heap.size w w8∧C6 w8 w.heap.size c b1 m1 b2 m2)∧(w8.cell? ⟨fbs,0,none⟩=some (.int .i64 sk)∧w8.cell? ⟨fbs,1,none⟩=some (.int .i64 sc)∧w8.cell? ⟨fbs,2,none⟩=some (.slice sta stn stc)∧w8.cell? ⟨fbs,3,none⟩=some (.slice ska skn skc)∧w8.cell? ⟨fbv,0,none⟩=some (.int .i64 vk)∧w8.cell? ⟨fbv,1,none⟩=some (.int .i64 vc)∧w8.cell? ⟨fbv,2,none⟩=some (.slice vta vtn vtc)∧w8.cell? ⟨fbv,3,none⟩=some (.slice vka vkn vkc))∧(((w6.alloc (.cells #[.int .i64 nk,.int .i64 nc,.slice nta ntn ntc,.slice nka nkn nkc,.int .i64 vk,.int .i64 vc,.slice vta vtn vtc,.slice vka vkn vkc] 38)).alloc (.cells #[.int .i64 6,.int .i64 0,.slice none 0 0,.slice (some ⟨w6.heap.size,0,none⟩) 2 2] 38)).cell? ⟨fbs,0,none⟩=some (.int .i64 sk)∧((w6.alloc (.cells #[.int .i64 nk,.int .i64 nc,.slice nta ntn ntc,.slice nka nkn nkc,.int .i64 vk,.int .i64 vc,.slice vta vtn vtc,.slice vka vkn vkc] 38)).alloc (.cells #[.int .i64 6,.int .i64 0,.slice none 0 0,.slice (some ⟨w6.heap.size,0,none⟩) 2 2] 38)).cell? ⟨fbs,1,none⟩=some (.int .i64 sc)∧((w6.alloc (.cells #[.int .i64 nk,.int .i64 nc,.slice nta ntn ntc,.slice nka nkn nkc,.int .i64 vk,.int .i64 vc,.slice vta vtn vtc,.slice vka vkn vkc] 38)).alloc (.cells #[.int .i64 6,.int .i64 0,.slice none 0 0,.slice (some ⟨w6.heap.size,0,none⟩) 2 2] 38)).cell? ⟨fbs,2,none⟩=some (.slice sta stn stc)∧((w6.alloc (.cells #[.int .i64 nk,.int .i64 nc,.slice nta ntn ntc,.slice nka nkn nkc,.int .i64 vk,.int .i64 vc,.slice vta vtn vtc,.slice vka vkn vkc] 38)).alloc (.cells #[.int .i64 6,.int .i64 0,.slice none 0 0,.slice (some ⟨w6.heap.size,0,none⟩) 2 2] 38)).cell? ⟨fbs,3,none⟩=some (.slice ska skn skc)∧((w6.alloc (.cells #[.int .i64 nk,.int .i64 nc,.slice nta ntn ntc,.slice nka nkn nkc,.int .i64 vk,.int .i64 vc,.slice vta vtn vtc,.slice vka vkn vkc] 38)).alloc (.cells #[.int .i64 6,.int .i64 0,.slice none 0 0,.slice (some ⟨w6.heap.size,0,none⟩) 2 2] 38)).cell? ⟨fbv,0,none⟩=some (.int .i64 vk)∧((w6.alloc (.cells #[.int .i64 nk,.int .i64 nc,.slice nta ntn ntc,.slice nka nkn nkc,.int .i64 vk,.int .i64 vc,.slice vta vtn vtc,.slice vka vkn vkc] 38)).alloc (.cells #[.int .i64 6,.int .i64 0,.slice none 0 0,.slice (some ⟨w6.heap.size,0,none⟩) 2 2] 38)).cell? ⟨fbv,1,none⟩=some (.int .i64 vc)∧((w6.alloc (.cells #[.int .i64 nk,.int .i64 nc,.slice nta ntn ntc,.slice nka nkn nkc,.int .i64 vk,.int .i64 vc,.slice vta vtn vtc,.slice vka vkn vkc] 38)).alloc (.cells #[.int .i64 6,.int .i64 0,.slice none 0 0,.slice (some ⟨w6.heap.size,0,none⟩) 2 2] 38)).cell? ⟨fbv,2,none⟩=some (.slice vta vtn vtc)∧((w6.alloc (.cells #[.int .i64 nk,.int .i64 nc,.slice nta ntn ntc,.slice nka nkn nkc,.int .i64 vk,.int .i64 vc,.slice vta vtn vtc,.slice vka vkn vkc] 38)).alloc (.cells #[.int .i64 6,.int .i64 0,.slice none 0 0,.slice (some ⟨w6.heap.size,0,none⟩) 2 2] 38)).cell? ⟨fbv,3,none⟩=some (.slice vka vkn vkc))∧((w6.alloc (.cells #[.int .i64 nk,.int .i64 nc,.slice nta ntn ntc,.slice nka nkn nkc,.int .i64 vk,.int .i64 vc,.slice vta vtn vtc,.slice vka vkn vkc] 38)).cell? ⟨fbs,0,none⟩=some (.int .i64 sk)∧(w6.alloc (.cells #[.int .i64 nk,.int .i64 nc,.slice nta ntn ntc,.slice nka nkn nkc,.int .i64 vk,.int .i64 vc,.slice vta vtn vtc,.slice vka vkn vkc] 38)).cell? ⟨fbs,1,none⟩=some (.int .i64 sc)∧(w6.alloc (.cells #[.int .i64 nk,.int .i64 nc,.slice nta ntn ntc,.slice nka nkn nkc,.int .i64 vk,.int .i64 vc,.slice vta vtn vtc,.slice vka vkn vkc] 38)).cell? ⟨fbs,2,none⟩=some (.slice sta stn stc)∧(w6.alloc (.cells #[.int .i64 nk,.int .i64 nc,.slice nta ntn ntc,.slice nka nkn nkc,.int .i64 vk,.int .i64 vc,.slice vta vtn vtc,.slice vka vkn vkc] 38)).cell? ⟨fbs,3,none⟩=some (.slice ska skn skc)∧(w6.alloc (.cells #[.int .i64 nk,.int .i64 nc,.slice nta ntn ntc,.slice nka nkn nkc,.int .i64 vk,.int .i64 vc,.slice vta vtn vtc,.slice vka vkn vkc] 38)).cell? ⟨fbv,0,none⟩=some (.int .i64 vk)∧(w6.alloc (.cells #[.int .i64 nk,.int .i64 nc,.slice nta ntn ntc,.slice nka nkn nkc,.int .i64 vk,.int .i64 vc,.slice vta vtn vtc,.slice vka vkn vkc] 38)).cell? ⟨fbv,1,none⟩=some (.int .i64 vc)∧(w6.alloc (.cells #[.int .i64 nk,.int .i64 nc,.slice nta ntn ntc,.slice nka nkn nkc,.int .i64 vk,.int .i64 vc,.slice vta vtn vtc,.slice vka vkn vkc] 38)).cell? ⟨fbv,2,none⟩=some (.slice vta vtn vtc)∧(w6.alloc (.cells #[.int .i64 nk,.int .i64 nc,.slice nta ntn ntc,.slice nka nkn nkc,.int .i64 vk,.int .i64 vc,.slice vta vtn vtc,.slice vka vkn vkc] 38)).cell? ⟨fbv,3,none⟩=some (.slice vka vkn vkc))∧(w6.cell? ⟨fbs,0,none⟩=some (.int .i64 sk)∧w6.cell? ⟨fbs,1,none⟩=some (.int .i64 sc)∧w6.cell? ⟨fbs,2,none⟩=some (.slice sta stn stc)∧w6.cell? ⟨fbs,3,none⟩=some (.slice ska skn skc)∧w6.cell? ⟨fbv,0,none⟩=some (.int .i64 vk)∧w6.cell? ⟨fbv,1,none⟩=some (.int .i64 vc)∧w6.cell? ⟨fbv,2,none⟩=some (.slice vta vtn vtc)∧w6.cell? ⟨fbv,3,none⟩=some (.slice vka vkn vkc))):=Lib.hid fun w6 nk nc nta ntn ntc nka nkn nkc hf6 hb6=>by
           have hb:=HD.out.trans (hb6.mono HD.out.size)
           have hA:Below w6.heap.size w6 (w6.alloc (.cells #[.int .i64 nk,.int .i64 nc,.slice nta ntn ntc,.slice nka nkn nkc,.int .i64 vk,.int .i64 vc,.slice vta vtn vtc,.slice vka vkn vkc] 38)):=box_low
           have hA2:Below (w6.alloc (.cells #[.int .i64 nk,.int .i64 nc,.slice nta ntn ntc,.slice nka nkn nkc,.int .i64 vk,.int .i64 vc,.slice vta vtn vtc,.slice vka vkn vkc] 38)).heap.size (w6.alloc (.cells #[.int .i64 nk,.int .i64 nc,.slice nta ntn ntc,.slice nka nkn nkc,.int .i64 vk,.int .i64 vc,.slice vta vtn vtc,.slice vka vkn vkc] 38)) ((w6.alloc (.cells #[.int .i64 nk,.int .i64 nc,.slice nta ntn ntc,.slice nka nkn nkc,.int .i64 vk,.int .i64 vc,.slice vta vtn vtc,.slice vka vkn vkc] 38)).alloc (.cells #[.int .i64 6,.int .i64 0,.slice none 0 0,.slice (some ⟨w6.heap.size,0,none⟩) 2 2] 38)):=box_low
           have hn:=heap_alloc_new w6 (.cells #[.int .i64 nk,.int .i64 nc,.slice nta ntn ntc,.slice nka nkn nkc,.int .i64 vk,.int .i64 vc,.slice vta vtn vtc,.slice vka vkn vkc] 38)
           have hr:=(HRV.out.below hb).below hA
           have fs':=(HFV.out.below hb).below hA
           have fv':=(HFv.out.below hb).below hA
           have h1:=fl_up hf6 hA
           have h2:Lf.FLiesS (InS wA.heap.size (w6.alloc (.cells #[.int .i64 nk,.int .i64 nc,.slice nta ntn ntc,.slice nka nkn nkc,.int .i64 vk,.int .i64 vc,.slice vta vtn vtc,.slice vka vkn vkc] 38))) (w6.alloc (.cells #[.int .i64 nk,.int .i64 nc,.slice nta ntn ntc,.slice nka nkn nkc,.int .i64 vk,.int .i64 vc,.slice vta vtn vtc,.slice vka vkn vkc] 38)) 2 (sameK o.v c.v).1 [.int .i64 vk,.int .i64 vc,.slice vta vtn vtc,.slice vka vkn vkc]:=fl_raise (by omega) (fv'.fl.keep (fun b h=>⟨Nat.le_trans HAC.out h.1,h.2⟩) (fun _ _ _=>rfl))
           have hor:=fl_or h1 h2 (g:=w6.heap.size) (Nat.le_trans (HFV.out.below hb).bel.size (Nat.le_refl _)) (by simp) ((cell_of_row _ _ _ _ _ _ hn).trans rfl) ((cell_of_row _ _ _ _ _ _ hn).trans rfl) ((cell_of_row _ _ _ _ _ _ hn).trans rfl) ((cell_of_row _ _ _ _ _ _ hn).trans rfl) ((cell_of_row _ _ _ _ _ _ hn).trans rfl) ((cell_of_row _ _ _ _ _ _ hn).trans rfl) ((cell_of_row _ _ _ _ _ _ hn).trans rfl) ((cell_of_row _ _ _ _ _ _ hn).trans rfl)
           have hfl:Lf.FLiesS (fun b=>b<(w6.alloc (.cells #[.int .i64 nk,.int .i64 nc,.slice nta ntn ntc,.slice nka nkn nkc,.int .i64 vk,.int .i64 vc,.slice vta vtn vtc,.slice vka vkn vkc] 38)).heap.size∧u10.ownBlock≠some b) (w6.alloc (.cells #[.int .i64 nk,.int .i64 nc,.slice nta ntn ntc,.slice nka nkn nkc,.int .i64 vk,.int .i64 vc,.slice vta vtn vtc,.slice vka vkn vkc] 38)) 3 (apartK o c).1 [.int .i64 6,.int .i64 0,.slice none 0 0,.slice (some ⟨w6.heap.size,0,none⟩) 2 2]:=by
            rw[HAK.out]
            exact hor.keep (fun b h=>⟨h.2,fun e=>by have:=HUW.out b e;have:=h.1;omega⟩) (fun _ _ _=>rfl)
           obtain⟨v8,w8,hrun,hrow8,hb8,hk8⟩:=run_push_fm (w:=(w6.alloc (.cells #[.int .i64 nk,.int .i64 nc,.slice nta ntn ntc,.slice nka nkn nkc,.int .i64 vk,.int .i64 vc,.slice vta vtn vtc,.slice vka vkn vkc] 38))) 3 (w.heap.size+1) fs (apartK o c).1 u10 _ _ _ _ hr.row hr.c6.lt hfl HLEN.out
           rw[show(w6.alloc (.cells #[.int .i64 nk,.int .i64 nc,.slice nta ntn ntc,.slice nka nkn nkc,.int .i64 vk,.int .i64 vc,.slice vta vtn vtc,.slice vka vkn vkc] 38)).heap.size=w6.heap.size+1 from by simp]at hrun
           have s6:=HS8.out _ hb
           have sa:(w6.alloc (.cells #[.int .i64 nk,.int .i64 nc,.slice nta ntn ntc,.slice nka nkn nkc,.int .i64 vk,.int .i64 vc,.slice vta vtn vtc,.slice vka vkn vkc] 38)).cell? ⟨fbs,0,none⟩=some (.int .i64 sk)∧(w6.alloc (.cells #[.int .i64 nk,.int .i64 nc,.slice nta ntn ntc,.slice nka nkn nkc,.int .i64 vk,.int .i64 vc,.slice vta vtn vtc,.slice vka vkn vkc] 38)).cell? ⟨fbs,1,none⟩=some (.int .i64 sc)∧(w6.alloc (.cells #[.int .i64 nk,.int .i64 nc,.slice nta ntn ntc,.slice nka nkn nkc,.int .i64 vk,.int .i64 vc,.slice vta vtn vtc,.slice vka vkn vkc] 38)).cell? ⟨fbs,2,none⟩=some (.slice sta stn stc)∧(w6.alloc (.cells #[.int .i64 nk,.int .i64 nc,.slice nta ntn ntc,.slice nka nkn nkc,.int .i64 vk,.int .i64 vc,.slice vta vtn vtc,.slice vka vkn vkc] 38)).cell? ⟨fbs,3,none⟩=some (.slice ska skn skc)∧(w6.alloc (.cells #[.int .i64 nk,.int .i64 nc,.slice nta ntn ntc,.slice nka nkn nkc,.int .i64 vk,.int .i64 vc,.slice vta vtn vtc,.slice vka vkn vkc] 38)).cell? ⟨fbv,0,none⟩=some (.int .i64 vk)∧(w6.alloc (.cells #[.int .i64 nk,.int .i64 nc,.slice nta ntn ntc,.slice nka nkn nkc,.int .i64 vk,.int .i64 vc,.slice vta vtn vtc,.slice vka vkn vkc] 38)).cell? ⟨fbv,1,none⟩=some (.int .i64 vc)∧(w6.alloc (.cells #[.int .i64 nk,.int .i64 nc,.slice nta ntn ntc,.slice nka nkn nkc,.int .i64 vk,.int .i64 vc,.slice vta vtn vtc,.slice vka vkn vkc] 38)).cell? ⟨fbv,2,none⟩=some (.slice vta vtn vtc)∧(w6.alloc (.cells #[.int .i64 nk,.int .i64 nc,.slice nta ntn ntc,.slice nka nkn nkc,.int .i64 vk,.int .i64 vc,.slice vta vtn vtc,.slice vka vkn vkc] 38)).cell? ⟨fbv,3,none⟩=some (.slice vka vkn vkc):=HS8.out _ (hb.trans (hA.mono hb.size))
           have sb:((w6.alloc (.cells #[.int .i64 nk,.int .i64 nc,.slice nta ntn ntc,.slice nka nkn nkc,.int .i64 vk,.int .i64 vc,.slice vta vtn vtc,.slice vka vkn vkc] 38)).alloc (.cells #[.int .i64 6,.int .i64 0,.slice none 0 0,.slice (some ⟨w6.heap.size,0,none⟩) 2 2] 38)).cell? ⟨fbs,0,none⟩=some (.int .i64 sk)∧((w6.alloc (.cells #[.int .i64 nk,.int .i64 nc,.slice nta ntn ntc,.slice nka nkn nkc,.int .i64 vk,.int .i64 vc,.slice vta vtn vtc,.slice vka vkn vkc] 38)).alloc (.cells #[.int .i64 6,.int .i64 0,.slice none 0 0,.slice (some ⟨w6.heap.size,0,none⟩) 2 2] 38)).cell? ⟨fbs,1,none⟩=some (.int .i64 sc)∧((w6.alloc (.cells #[.int .i64 nk,.int .i64 nc,.slice nta ntn ntc,.slice nka nkn nkc,.int .i64 vk,.int .i64 vc,.slice vta vtn vtc,.slice vka vkn vkc] 38)).alloc (.cells #[.int .i64 6,.int .i64 0,.slice none 0 0,.slice (some ⟨w6.heap.size,0,none⟩) 2 2] 38)).cell? ⟨fbs,2,none⟩=some (.slice sta stn stc)∧((w6.alloc (.cells #[.int .i64 nk,.int .i64 nc,.slice nta ntn ntc,.slice nka nkn nkc,.int .i64 vk,.int .i64 vc,.slice vta vtn vtc,.slice vka vkn vkc] 38)).alloc (.cells #[.int .i64 6,.int .i64 0,.slice none 0 0,.slice (some ⟨w6.heap.size,0,none⟩) 2 2] 38)).cell? ⟨fbs,3,none⟩=some (.slice ska skn skc)∧((w6.alloc (.cells #[.int .i64 nk,.int .i64 nc,.slice nta ntn ntc,.slice nka nkn nkc,.int .i64 vk,.int .i64 vc,.slice vta vtn vtc,.slice vka vkn vkc] 38)).alloc (.cells #[.int .i64 6,.int .i64 0,.slice none 0 0,.slice (some ⟨w6.heap.size,0,none⟩) 2 2] 38)).cell? ⟨fbv,0,none⟩=some (.int .i64 vk)∧((w6.alloc (.cells #[.int .i64 nk,.int .i64 nc,.slice nta ntn ntc,.slice nka nkn nkc,.int .i64 vk,.int .i64 vc,.slice vta vtn vtc,.slice vka vkn vkc] 38)).alloc (.cells #[.int .i64 6,.int .i64 0,.slice none 0 0,.slice (some ⟨w6.heap.size,0,none⟩) 2 2] 38)).cell? ⟨fbv,1,none⟩=some (.int .i64 vc)∧((w6.alloc (.cells #[.int .i64 nk,.int .i64 nc,.slice nta ntn ntc,.slice nka nkn nkc,.int .i64 vk,.int .i64 vc,.slice vta vtn vtc,.slice vka vkn vkc] 38)).alloc (.cells #[.int .i64 6,.int .i64 0,.slice none 0 0,.slice (some ⟨w6.heap.size,0,none⟩) 2 2] 38)).cell? ⟨fbv,2,none⟩=some (.slice vta vtn vtc)∧((w6.alloc (.cells #[.int .i64 nk,.int .i64 nc,.slice nta ntn ntc,.slice nka nkn nkc,.int .i64 vk,.int .i64 vc,.slice vta vtn vtc,.slice vka vkn vkc] 38)).alloc (.cells #[.int .i64 6,.int .i64 0,.slice none 0 0,.slice (some ⟨w6.heap.size,0,none⟩) 2 2] 38)).cell? ⟨fbv,3,none⟩=some (.slice vka vkn vkc):=HS8.out _ ((hb.trans (hA.mono hb.size)).trans (hA2.mono (hb.trans (hA.mono hb.size)).size))
           have k1:∀i,w8.cell? ⟨fbs,i,none⟩=(w6.alloc (.cells #[.int .i64 nk,.int .i64 nc,.slice nta ntn ntc,.slice nka nkn nkc,.int .i64 vk,.int .i64 vc,.slice vta vtn vtc,.slice vka vkn vkc] 38)).cell? ⟨fbs,i,none⟩:=fun i=>hk8 fbs i fs'.lt (fun e=>by have:=HUW.out _ e;have:=fs'.ge;omega)
           have k2':∀i,w8.cell? ⟨fbv,i,none⟩=(w6.alloc (.cells #[.int .i64 nk,.int .i64 nc,.slice nta ntn ntc,.slice nka nkn nkc,.int .i64 vk,.int .i64 vc,.slice vta vtn vtc,.slice vka vkn vkc] 38)).cell? ⟨fbv,i,none⟩:=fun i=>hk8 fbv i fv'.lt (fun e=>by have:=HUW.out _ e;have:=fv'.ge;have:=HAC.out;omega)
           refine⟨v8,w8,hrun,⟨by rw[HFS.out,HAD.out];exact hrow8,hr.bel.trans (hb8.mono (Nat.le_succ _)),hr.c6.below hb8 (Nat.lt_succ_self _)⟩, ?_,sb,sa,s6⟩
           rw[k1,k1,k1,k1,k2',k2',k2',k2']
           exact sa
          have HOF:=Lib.hid (HOK.out (HKF.out.1 (by rw[HAK.out])))
          obtain⟨s0,s1,s2,s3,t0,t1,t2,t3⟩:=HS8.out wv (Below.refl _ _)
          clear HFD
          go_wp2_with fail
          go_region_held3 (fun V=>V.cell? ⟨fbs,0,none⟩=some (.int .i64 sk)∧V.cell? ⟨fbs,1,none⟩=some (.int .i64 sc)∧V.cell? ⟨fbs,2,none⟩=some (.slice sta stn stc)∧V.cell? ⟨fbs,3,none⟩=some (.slice ska skn skc)∧V.cell? ⟨fbv,0,none⟩=some (.int .i64 vk)∧V.cell? ⟨fbv,1,none⟩=some (.int .i64 vc)∧V.cell? ⟨fbv,2,none⟩=some (.slice vta vtn vtc)∧V.cell? ⟨fbv,3,none⟩=some (.slice vka vkn vkc))
           (first | exact hq8 | exact hqb | exact hqa | exact hq6 | exact HS8.out _ HD.out | go_keep)
           (first
             | (go_at_call 35;refine HN.out.mono ?_;rintro e w6 ⟨cs6,rfl,hf6,hb6⟩;obtain⟨x0,x1,x2,x3,rfl⟩:=hf6.four;obtain⟨nk,nc,nta,ntn,ntc,nka,nkn,nkc,rfl,rfl,rfl,rfl⟩:=(hf6.lies (B:=w6.heap.size) (fun b hb=>hb.2)).form;obtain⟨v8,w8,hrun,hf8,hq8,hqb,hqa,hq6⟩:=HARM.out w6 nk nc nta ntn ntc nka nkn nkc hf6 hb6)
             | (refine step_append_runC (by rfl) _ _ _ (by rfl) _ _ v8 w8 (by rfl) (by rfl) hrun ?_))
          have HF8:=Lib.hid hf8
          clear hrun hf8 hq8 hqb hqa hq6 hf6 hb6 s0 s1 s2 s3 t0 t1 t2 t3 HARM HS8 HN HD
          go_wp2_with fail
          go_roundw
          case rel=>exact⟨mq+1,by go_num,by omega,HOF,Lib.hid HF8.out.1,Lib.hid HF8.out.2.1,Lib.hid HF8.out.2.2⟩
          case measure=>simp[intOf];omega
         ·have HR:=Lib.hid (HNO.out fun h=>hk2 (by have:=HKF.out.2 h;rw[HA1.out,if_neg hk2]at this;exact this))
          have hkn:((sameK o.v c.v).2 != 0)=true:=by simpa using hk2
          generalize (sameK o.v c.v).2=ek at*
          clear hk2
          go_wp2_with fail
          go_ret2
          exact⟨_,by rw[HR.out];rfl,by rw[HR.out];exact OwnL.nil _ _ _ _,HRV.out.bel⟩
       ·have HR:=Lib.hid (HNO.out fun h=>hk (by
         have:=HKF.out.2 h
         unfold apartK at this
         rw[if_neg hk]at this
         exact this))
        have hkn:((sameK o.a c.a).2 != 0)=true:=by simpa using hk
        generalize (sameK o.a c.a).2=ek at*
        clear hk
        go_wp2_with fail
        go_ret2
        exact⟨_,by rw[HR.out];rfl,by rw[HR.out];exact OwnL.nil _ _ _ _,HRB.out.bel⟩
      ·have e1:(o.f.toList == c.f.toList)=false:=bs_ne hf
       have HOF:=Lib.hid (HOK.out fun h=>absurd h hf)
       have HFS0:Hid (.mk 2 rc rl [] :: factsTo c xs (mq+1)=fs):=Lib.hid (by rw[HFS.out,show addF c o=[] from if_neg hf,List.append_nil])
       clear hf
       obtain⟨q0,q1,q2,q3,q4,q5⟩:=HR0.out.c6.cells
       have c0:=HR0.out.ca.c0
       have c1:=HR0.out.ca.c1
       have c2:=HR0.out.ca.c2
       have c3:=HR0.out.ca.c3
       have c4:=HR0.out.ca.c4
       have c5:=HR0.out.ca.c5
       go_wp2_with fail
       go_quiet (fail)
       clear q0 q1 q2 q3 q4 q5 c0 c1 c2 c3 c4 c5
       go_wp2_with fail
       go_roundw
       case rel=>exact⟨mq+1,by go_num,by omega,HOF,Lib.hid (by rw[HFS0.out];exact(HR0.out.below (below_drewN (Below.refl _ _) _)).row),Lib.hid (HR0.out.below (below_drewN (Below.refl _ _) _)).bel,Lib.hid (HR0.out.below (below_drewN (Below.refl _ _) _)).c6⟩
       case measure=>simp[intOf];omega
     ·obtain rfl:mq=ln:=by omega
      have hlti:¬(mq:Int)<(mq:Int):=by omega
      have HR:Hid (factsK xs c=(.mk 2 rc rl [] :: factsTo c xs mq,0)):=Lib.hid (by
       rw[HFK2.out,if_pos (fun j hj=>hok.out j (by rw[HM.out]at hj;exact hj)),HM.out])
      go_wp2_with fail
      go_ret2
      exact⟨_,by rw[HR.out];rfl,by rw[HR.out];exact hrow.out.monoB (Nat.le_succ _),hb.out⟩
   ·have HR:Hid (factsK xs c=([],3)):=Lib.hid (by rw[HFK.out,hx])
    have HF:=Lib.hid (HBE.out.trans (hb2.mono HBE.out.size))
    clear hx hb2 q0 q1 q2 q3 q4 q5
    go_wp2_with fail
    go_ret2
    exact⟨_,by rw[HR.out];rfl,by rw[HR.out];exact OwnL.nil _ _ _ _,HF.out.alloc HF.out.size _⟩
end
end Go.Proofs.YtjbkhdbjdahbiaaGreatDoor
