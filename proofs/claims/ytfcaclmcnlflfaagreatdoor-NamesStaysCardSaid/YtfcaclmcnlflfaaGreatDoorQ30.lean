/- Parts of a proof. -/
import Derived.Test.YtfcaclmcnlflfaaGreatDoorQ04
import Derived.Test.YtfcaclmcnlflfaaGreatDoorQ08
import Derived.Test.YtfcaclmcnlflfaaGreatDoorQ15
import Derived.Test.YtfcaclmcnlflfaaGreatDoorQ19
import Derived.Test.YtfcaclmcnlflfaaGreatDoorQ25
import Derived.Test.YtfcaclmcnlflfaaGreatDoorQ29
import Derived.Deep.CutBlock
import Derived.Deep.DeepCutAuto
import Derived.BigQuiet
import Derived.Lib.QuietBelow
set_option linter.unusedVariables false
set_option linter.unusedSimpArgs false
set_option maxHeartbeats 60000000
set_option maxRecDepth 100000
namespace Go.Proofs.YtfcaclmcnlflfaaGreatDoor
section
open Go.RowKit
theorem own_cap {w:World}{B k n:Nat}{e:TypeId}{a:Option Addr}{cap:Nat}{xs:List Value}(h:w.ownsRow B e k (.slice a n cap) n xs):n≤cap:=by
 obtain⟨_,h1 | ⟨g,cap',cur,hv,h2⟩⟩:=h
 ·rw[h1.2];exact Nat.zero_le _
 ·injection hv with e1 e2 e3
  subst e3
  exact h2.2.2.1
theorem sits_pre {T:Type}{sh:Pak.Sh T}{S:Nat→Prop}{w:World}{a:Option Addr}{xs:List T}{k:Nat}(h:Pak.Sits sh S w a xs):Pak.Sits sh S w a (xs.take k):=
 ⟨by rw[List.length_take];exact Nat.le_trans (Nat.min_le_right _ _) h.1,fun i hi=>by
   have hi2:i<xs.length:=by rw[List.length_take]at hi;omega
   obtain⟨b,off,cs,e,hb,hc,hr⟩:=h.2 i hi2
   exact⟨b,off,cs,e,hb,hc,by rw[List.getElem_take];exact hr⟩⟩
theorem ptAs_pair (n:Nat)(a b:AT):ptAs n [a,b]=ptA n a+ptA n b:=by simp[ptAs]
theorem ptAs_single (n:Nat)(a:AT):ptAs n [a]=ptA n a:=by simp[ptAs]
structure MS (V:World)(nb cb pb:Bool)(W:World):Prop where
 low:Below V.heap.size V W
 sz:V.heap.size+1≤W.heap.size
 a0:W.cell? ⟨V.heap.size,0,none⟩=some (.bool nb)
 a1:W.cell? ⟨V.heap.size,1,none⟩=some (.bool cb)
 a2:W.cell? ⟨V.heap.size,2,none⟩=some (.bool pb)
 f:∀o,W.frozen? ⟨V.heap.size,o,none⟩=false
theorem MS.start (V:World)(n c p:Bool):MS V n c p (V.alloc (.cells #[.bool n,.bool c,.bool p] 64)):=
 ⟨box_low,by simp,by simp[go_sem],by simp[go_sem],by simp[go_sem],fun o=>by simp[go_sem]⟩
theorem MS.step {V:World}{nb cb pb:Bool}{W X:World}(h:MS V nb cb pb W)(hb:Below W.heap.size W X):MS V nb cb pb X:=by
 have hs:=h.sz
 have key:∀o,X.cell? ⟨V.heap.size,o,none⟩=W.cell? ⟨V.heap.size,o,none⟩:=fun o=>hb.cell (p:=⟨V.heap.size,o,none⟩) (by show V.heap.size<W.heap.size;omega)
 exact⟨h.low.trans (hb.mono (by omega)),Nat.le_trans hs hb.size,(key _).trans h.a0,(key _).trans h.a1,(key _).trans h.a2,fun o=>(hb.frozen (p:=⟨V.heap.size,o,none⟩) (by show V.heap.size<W.heap.size;omega)).trans (h.f o)⟩
theorem MS.set0 {V:World}{nb cb pb:Bool}{W:World}(h:MS V nb cb pb W)(z:Bool):MS V z cb pb (W.setCell ⟨V.heap.size,0,none⟩ (.bool z)):=
 ⟨h.low.setCell (p:=⟨V.heap.size,0,none⟩) (Nat.le_refl _) _,by rw[World.size_setCell];exact h.sz,World.cell?_setCell_same _ _ _ h.a0,by rw[World.cell?_setCell_other _ _ _ _ (by simp)];exact h.a1,by rw[World.cell?_setCell_other _ _ _ _ (by simp)];exact h.a2,fun o=>by rw[World.frozen?_setCell];exact h.f o⟩
def docAt (n:Nat)(qs:List QT)(j:Nat):Int:=match qs[j]? with | some q=>docC n qs q (decide (findN q.name qs<j)) | none=>0
theorem docAt_at {n:Nat}{qs:List QT}{j:Nat}(h:j<qs.length):docAt n qs j=docC n qs qs[j] (decide (findN qs[j].name qs<j)):=by unfold docAt;rw[List.getElem?_eq_getElem h]
def TwoInt (x:Int×Int)(w:World)(r:Ending)(w':World):Prop:=r= .returned (.tuple #[.int .i64 x.1,.int .i64 x.2])∧Below w.heap.size w w'
theorem findI_lt {s:ByteArray}{qs:List QT}{j:Nat}(h:findN s qs<qs.length):decide (findI s qs<(j:Int))=decide (findN s qs<j):=by
 unfold findI
 rw[if_pos h]
 simp
theorem dcheck_box (n:Nat)(qs:List QT)(a:Option Addr)(m cap:Nat)(w:World)(k0:Int)(X:Int×Int)(hm:qs.length=m)(hm50:m≤50)(hs:Pak.Sits (procSh n) (Pak.Lo w.heap.size) w a qs)(hL:∀q∈qs,q.params.length≤50∧q.ghosts.length≤50∧ptAs n [q.pre,q.post]≤1000∧ptTs n q.body≤1000)
 (hX0:k0≠0→X=(k0, -1)) (hX1:k0=0→(∀j,j<m→(∀t,t<j→docAt n qs t=0)→docAt n qs j≠0→X=(docAt n qs j,(j:Int)))∧((∀t,t<m→docAt n qs t=0)→X=(0, -1)))
 (xs:∀W,Below w.heap.size w W→Calls Tryz.prog 16 #[.agg #[.slice a m cap]] W (IntIn k0 W)):
 Calls Tryz.prog 8 #[.agg #[.slice a m cap]] w (TwoInt X w):=by
 have X0:=Lib.hid (Bx.start w [.slice a m cap] 24)
 have HLW:Hid (∀W,Bx w [.slice a m cap] 24 W→Below w.heap.size w W):=Lib.hid fun W hW=>hW.low (Below.refl _ _)
 have F:=Lib.hid (xs _ (HLW.out _ X0.out))
 have HS:=Lib.hid hs
 have HM:=Lib.hid hm
 have HL:=Lib.hid hL
 have hmm:m≤9223372036854775807:=by rw[←hm];exact hs.1
 have HX0:=Lib.hid hX0
 have HX1:=Lib.hid hX1
 have c0:=X0.out.at (o:=0) rfl
 have HSN:Hid (∀i:Nat,i≤9223372036854775807→True):=Lib.hid fun _ _=>trivial
 clear xs hs hm hL hm50 hX0 hX1 HSN
 go_enter Tryz.func8,Tryz.ntmps8
 go_wp2_with fail
 refine F.out.mono ?_
 rintro r w1 ⟨rfl,hb⟩
 have X1:=Lib.hid (X0.out.step hb)
 clear hb F c0 X0
 by_cases hz:k0=0
 ·subst hz
  have HXE:=Lib.hid (HX1.out rfl)
  clear HX0 HX1
  go_wp2_with fail
  go_loopw [5] (fun i wr=>∃j:Nat,j≤m∧i= .int .i64 j∧Hid (∀t,t<j→docAt n qs t=0)∧Hid (Bx w [.slice a m cap] 24 wr)) (fun i _=>m - (intOf i).toNat)
  case atStart=>exact⟨0,Nat.zero_le _,rfl,fun t h=>absurd h (Nat.not_lt_zero _),X1⟩
  case round=>
   clear X1
   obtain⟨j,hj,rfl,hno,hxb⟩:=hrel
   obtain⟨wo,rfl⟩:∃wo:World,wo=wr:=⟨_,rfl⟩
   have XO:=Lib.hid hxb.out
   have BO:=Lib.hid (HLW.out _ hxb.out)
   have c0:=XO.out.at (o:=0) rfl
   clear hxb
   by_cases hlt:j<m
   ·have hlx:j<qs.length:=by rw[HM.out];exact hlt
    have hji:(j:Int)<(m:Int):=by omega
    obtain⟨b,off,cs,rfl,hbl,hc,hr⟩:=(HS.out.below BO.out BO.out.size).2 j hlx
    obtain⟨ca,cb,a1,a2,a5,d1,d2,d5,H⟩:=proc_is hr
    rw[procSh_k]at hc
    have HC0:Hid (∀i v,cs[i]? =some v→wo.cell? ((⟨b,off+j*34,none⟩:Addr).add i)=some v):=fun i v hv=>by
     rw[show(⟨b,off+j*34,none⟩:Addr).add i=⟨b,off+j*34+i,none⟩ by unfold Addr.add;split<;>simp_all]
     exact hc i v hv
    have HLQ:=Lib.hid (HL.out qs[j] (List.getElem_mem hlx))
    have HD:=Lib.hid (And.intro (HXE.out.1 j hlt hno.out) (And.intro (docAt_at (n:=n) hlx) (findI_lt (j:=j) (show findN qs[j].name qs<qs.length from by have:=findN_le hlx;omega))))
    have HNX:Hid (docAt n qs j=0→∀t,t<j+1→docAt n qs t=0):=fun h t ht=>by
     by_cases e:t=j
     ·subst e;exact h
     ·exact hno.out t (by omega)
    generalize docAt n qs j=dj at*
    generalize qs[j]=q at*
    have HH:=Lib.hid H
    have HCL:=Lib.hid H.len
    have HO:=Lib.hid H.one
    have S1:=Lib.hid (SB.new cs wo 49)
    have HA:Hid (Below wo.heap.size wo (wo.alloc (.cells cs.toArray 49))):=box_low
    have X1:=Lib.hid (XO.out.step HA.out)
    have B1:=Lib.hid (HLW.out _ X1.out)
    have UP:=Lib.hid (fun W (hW:Below wo.heap.size wo W)=>And.intro (H.rparams.below hW hW.size) (H.rghosts.below hW hW.size))
    have LA:=Lib.hid (((assnSh n).len H.rpre).trans (assnSh_k _))
    have LC:=Lib.hid (((assnSh n).len H.rpost).trans (assnSh_k _))
    obtain⟨vO1,wO1,hrun1,hrow1,hbO1⟩:=run_cat_any (w:=wo.alloc (.cells cs.toArray 49)) (wo.heap.size+1) [] q.params (.slice none 0 0) (.slice a1 q.params.length d1) (OwnL.nil _ _ _ _) (by simp) ⟨a1,d1,rfl,(UP.out _ HA.out).1⟩ (by have:=HLQ.out.1;simp only[List.length_nil];omega)
    have BO1:=Lib.hid (HA.out.trans (hbO1.mono (Nat.le_succ _)))
    obtain⟨vO2,wO2,hrun2,hrow2,hbO2⟩:=run_cat_any (w:=wO1) (wo.heap.size+1) ([] ++ q.params) q.ghosts vO1 (.slice a2 q.ghosts.length d2) hrow1 (by have:=hbO1.size;simpa using this) ⟨a2,d2,rfl,(UP.out _ BO1.out).2⟩ (by have h1:=HLQ.out.1;have h2:=HLQ.out.2.1;simp only[List.nil_append];omega)
    have SO1:=Lib.hid (S1.out.stepB hbO1 (Nat.lt_succ_self _))
    have SO2:=Lib.hid (SO1.out.stepB hbO2 (Nat.lt_succ_self _))
    have BO2:=Lib.hid (BO1.out.trans (hbO2.mono (Nat.le_succ _)))
    have XO2:=Lib.hid (XO.out.step BO2.out)
    obtain⟨oa,oc,hvo,hso⟩:=hrow2.sits (by have h1:=HLQ.out.1;have h2:=HLQ.out.2.1;simp only[List.nil_append,List.length_append];omega)
    have OW0:Hid (Pak.Sits strSh (Pak.Lo wO2.heap.size) wO2 oa (q.params ++ q.ghosts)):=Lib.hid hso
    obtain⟨LO,hLO⟩:∃L,(q.params ++ q.ghosts).length=L:=⟨_,rfl⟩
    have HLO:=Lib.hid hLO
    have HLO1:Hid (LO≤100):=Lib.hid (by rw[←hLO,List.length_append];have h1:=HLQ.out.1;have h2:=HLQ.out.2.1;omega)
    have HOC:Hid (LO≤oc):=Lib.hid (by
     obtain⟨css,c1,c2,_⟩:=hrow2.row
     rw[hvo]at c2
     have:=own_cap c2
     rw[show(([]:List ByteArray) ++ q.params ++ q.ghosts).length=LO from hLO]at this
     exact this)
    rw[show(([]:List ByteArray) ++ q.params ++ q.ghosts).length=LO from hLO]at hvo
    subst hvo
    have e1:=S1.out.c 1 _ HH.out.params
    have e2:=SO1.out.c 2 _ HH.out.ghosts
    clear hrow1 hrow2 hbO1 hbO2 hso hLO H
    go_upto_region 11 with (first | go_skip | (refine wpList_store_new (by kernel_rfl) 49 _ _ rfl _ rfl cs rfl (by rw[HCL.out];kernel_rfl) (by rw[HCL.out];rfl) HO.out ?_) | (refine wpList_load_w (by kernel_rfl) 49 _ rfl ⟨b,off+j*34,none⟩ rfl cs _ HC0.out Tryz.underlying49 rfl (by rw[HCL.out];kernel_rfl) ?_) | (at_builtin;refine Lib.wpList_append_run _ rfl _ _ _ _ rfl _ _ rfl rfl _ _ (hrun1 _) ?_) | (at_builtin;refine Lib.wpList_append_run _ rfl _ _ _ _ rfl _ _ rfl rfl _ _ (hrun2 _) ?_))
    clear hrun1 hrun2 e1 e2 c0
    have HF:=Lib.hid (rfind16_any n q.name (some ⟨b,off,none⟩) m cap qs wO2 HM.out (HS.out.below (HLW.out _ XO2.out) (HLW.out _ XO2.out).size))
    go_cut [8] (fun v8 wx=>v8= .bool (decide (findN q.name qs<j) || hasW resW (q.params ++ q.ghosts))∧Hid (Below wO2.heap.size wO2 wx))
    case first=>
     have k0:=SO2.out.c 0 _ HH.out.name
     have g0:=XO2.out.at (o:=0) rfl
     have hzb:=HD.out.2.2
     generalize hzb0:decide (findN q.name qs<j)=zb at hzb
     have HZB:=Lib.hid hzb0
     clear hzb0
     generalize findI q.name qs=fi at*
     go_wp2_with fail
     refine HF.out.mono ?_
     rintro r w3 ⟨rfl,hb3⟩
     have B3:=Lib.hid hb3
     clear hb3 HF
     cases zb with
     | true=>
       go_wp2_with fail
       go_meet
       case rel=>exact⟨by rw[HZB.out];rfl,B3⟩
     | false=>
       have F:=Lib.hid (has_any16 resW oa LO oc (q.params ++ q.ghosts) w3 HLO.out (OW0.out.below B3.out B3.out.size))
       obtain⟨zr,hzr⟩:∃z,hasW resW (q.params ++ q.ghosts)=z:=⟨_,rfl⟩
       rw[hzr]at F
       have HZR:=Lib.hid hzr
       clear hzr
       unfold resW at F
       go_wp2_with fail
       refine F.out.mono ?_
       rintro r w4 ⟨rfl,hb4⟩
       have B4:=Lib.hid (B3.out.trans (hb4.mono B3.out.size))
       clear hb4 F
       go_wp2_with fail
       go_meet
       case rel=>exact⟨by rw[HZB.out,HZR.out];rfl,B4⟩
    case rest=>
    obtain⟨h8,hb8⟩:=hcut
    obtain⟨wp,rfl⟩:∃x:World,x=wc:=⟨wc,rfl⟩
    have BP:=Lib.hid hb8.out
    obtain⟨tw0,htw0⟩:∃z,(decide (findN q.name qs<j) || hasW resW (q.params ++ q.ghosts))=z:=⟨_,rfl⟩
    rw[htw0]at h8
    have HTW0:=Lib.hid htw0
    subst h8
    have h80:Hid (Value.bool tw0=Value.bool (tw0 || dupTo (q.params ++ q.ghosts) 0)):=Lib.hid (by rw[show dupTo (q.params ++ q.ghosts) 0=false from rfl,Bool.or_false])
    have HDD:=Lib.hid HD.out.2.1
    have HD1:=Lib.hid HD.out.1
    clear hb8 htw0 HF HD S1 SO1 BO1 HCL HO HC0 UP X1 B1
    go_wp2_with fail
    go_loopw [8,9] (fun t i wr=>∃k:Nat,k≤LO∧i= .int .i64 k∧t= .bool (tw0 || dupTo (q.params ++ q.ghosts) k)∧Hid (Below wO2.heap.size wO2 wr)) (fun _ i _=>LO - (intOf i).toNat)
    case atStart=>exact⟨0,Nat.zero_le _,rfl,h80.out,BP⟩
    case round=>
     clear BP h80
     obtain⟨k,hkl,rfl,rfl,hb⟩:=hrel
     obtain⟨wq,rfl⟩:∃wq:World,wq=wr:=⟨_,rfl⟩
     have BQ:=Lib.hid hb.out
     clear hb
     by_cases hlk:k<LO
     ·have hki:(k:Int)<(LO:Int):=by omega
      have hkx:k<(q.params ++ q.ghosts).length:=by rw[HLO.out];exact hlk
      have hkc:k≤oc:=by have:=HOC.out;omega
      have hkc2:(k:Int)≤(oc:Int):=by omega
      have hll:LO≤1000:=by have:=HLO1.out;omega
      obtain⟨b2,off2,cs2,hoa,hbl2,hc2,rfl,hsl2⟩:=(OW0.out.below BQ.out BQ.out.size).2 k hkx
      have g0:=hc2 0 _ rfl
      rw[show strSh.k=1 from rfl,Nat.mul_one,Nat.add_zero]at g0
      have F:Hid (BoolAll 18 #[.slice oa k oc,.string (q.params ++ q.ghosts)[k]] (hasW (q.params ++ q.ghosts)[k] ((q.params ++ q.ghosts).take k)) wq):=Lib.hid fun W hW=>has_any16 _ oa k oc _ W (by rw[List.length_take];omega) (sits_pre ((OW0.out.below BQ.out BQ.out.size).below hW hW.size))
      have HA2:=Lib.hid (dupTo_snoc hkx)
      subst hoa
      clear hc2
      generalize (q.params ++ q.ghosts)[k]=xk at*
      generalize hasW xk ((q.params ++ q.ghosts).take k)=z at*
      obtain⟨z1,hz1⟩:∃z1,(tw0 || dupTo (q.params ++ q.ghosts) k)=z1:=⟨_,rfl⟩
      rw[hz1]
      have HN:Hid ((tw0 || dupTo (q.params ++ q.ghosts) (k+1))=(z1 || z)):=Lib.hid (by rw[HA2.out,←Bool.or_assoc,hz1])
      clear hz1 HA2
      have rn:=fun d os=>F.out.reg d os
      have c0:=fun d os=>cell_regrown g0 d os
      go_wp2_with fail
      refine wp_region_quiet_below (by kernel_rfl) (by kernel_rfl) ?_
      repeat (go_big_quiet_step (first | with_reducible exact rn _ _))
      refine wpQuiet_nil ?_
      intro w5 hw'
      obtain⟨⟨dq,osq⟩,hw''⟩:=hw'
      have B5:Hid (Below wO2.heap.size wO2 w5):=Lib.hid (by rw[hw''];exact BQ.out.trans ((below_regrown _ dq osq).mono BQ.out.size))
      clear hw'' rn c0 F BQ g0
      cases z1 with
      | true=>
        go_wp2_with fail
        go_roundw
        case rel=>exact⟨k+1,by omega,by go_num,by rw[HN.out];rfl,B5⟩
        case measure=>simp[intOf];omega
      | false=>
        go_wp2_with fail
        go_roundw
        case rel=>exact⟨k+1,by omega,by go_num,by rw[HN.out];rfl,B5⟩
        case measure=>simp[intOf];omega
     ·obtain rfl:k=LO:=by omega
      obtain⟨LX,rfl⟩:∃LX:Nat,LX=k:=⟨_,rfl⟩
      have hki:¬(LX:Int)<(LX:Int):=by omega
      obtain⟨tw,htw⟩:∃z,(tw0 || dupTo (q.params ++ q.ghosts) LX)=z:=⟨_,rfl⟩
      rw[htw]
      have HTW1:Hid (((decide (findN q.name qs<j) || hasW resW (q.params ++ q.ghosts)) || dupTo (q.params ++ q.ghosts) (q.params ++ q.ghosts).length)=tw):=Lib.hid (by rw[HTW0.out,HLO.out];exact htw)
      have XQ:=Lib.hid (XO2.out.step BQ.out)
      have BW:=Lib.hid (HLW.out _ XQ.out)
      clear htw HTW0
      cases tw with
      | true=>
        have h13:dj=13:=by rw[HDD.out];unfold docC;rw[if_pos HTW1.out]
        have HX13:=Lib.hid (HD1.out (by rw[h13];decide))
        rw[h13]at HX13
        obtain rfl:=HX13.out
        clear h13 HTW1 HDD HD1 HNX
        go_wp2_with fail
        go_ret2
        exact⟨rfl,BW.out⟩
      | false=>
      have SQ:=Lib.hid (SO2.out.step BQ.out)
      have OW2:=Lib.hid (OW0.out.below BQ.out BQ.out.size)
      have BOQ:=Lib.hid (BO2.out.trans (BQ.out.mono BO2.out.size))
      have F:=Lib.hid (nstmts_any n qs q.ghosts (some ⟨b,off,none⟩) a2 cap d2 n q.body a5 d5 false false false wq HLQ.out.2.2.2 (HH.out.rbody.below BOQ.out BOQ.out.size) (HS.out.below BW.out BW.out.size) (HH.out.rghosts.below BOQ.out BOQ.out.size))
      rw[HM.out]at F
      have e2:=SQ.out.c 2 _ HH.out.ghosts
      have e33:=SQ.out.c 33 _ HH.out.body
      have g0:=XQ.out.at (o:=0) rfl
      obtain⟨nb,hnb⟩:∃z,(false || ans (stN qs q.ghosts) n q.body)=z:=⟨_,rfl⟩
      obtain⟨cb',hcb⟩:∃z,(false || ans (stC qs) n q.body)=z:=⟨_,rfl⟩
      obtain⟨pb,hpb⟩:∃z,(false || ans stP n q.body)=z:=⟨_,rfl⟩
      rw[hnb,hcb,hpb]at F
      rw[Bool.false_or]at hnb hcb hpb
      have HNB:=Lib.hid hnb.symm
      have HCB:=Lib.hid hcb.symm
      have HPB:=Lib.hid hpb.symm
      clear hnb hcb hpb SO2 OW0 BO2 XO2
      go_wp2_with fail
      refine F.out.mono ?_
      rintro r V ⟨rfl,hbV⟩
      have XV:=Lib.hid (XQ.out.step hbV)
      have SV:=Lib.hid (SQ.out.step hbV)
      have OW:=Lib.hid (OW2.out.below hbV hbV.size)
      have HWV:=Lib.hid (BOQ.out.trans (hbV.mono BOQ.out.size))
      have HXV:=Lib.hid (fun W (hW:Below V.heap.size V W)=>XV.out.step hW)
      have HSV:=Lib.hid (fun W (hW:Below V.heap.size V W)=>SV.out.step hW)
      have HD2:=HDD
      have HTW:=HTW1
      have M0:=Lib.hid (MS.start V nb cb' pb)
      have e33:=(HSV.out _ M0.out.low).c 33 _ HH.out.body
      have G:=Lib.hid (assigned_any n (V.alloc (.cells #[.bool nb,.bool cb',.bool pb] 64)).heap.size q.body [] (.slice none 0 0) a5 d5 (V.alloc (.cells #[.bool nb,.bool cb',.bool pb] 64)) (Nat.le_refl _) (StrRow.nil _ _) (by have:=HLQ.out.2.2.2;simp only[List.length_nil];omega) ((HH.out.rbody.below HWV.out HWV.out.size).below M0.out.low M0.out.low.size))
      clear hbV F SQ OW2 BOQ XQ BW BQ e2 g0 HDD HTW1
      go_wp2_with fail
      refine G.out.mono ?_
      rintro r w4 ⟨y4,rfl,hrow4,hb4⟩
      have M4:=Lib.hid (M0.out.step hb4)
      have R4:Hid (RowX V.heap.size (asgs n q.body []) y4 w4):=Lib.hid ⟨_,by simp,hb4.size,hrow4⟩
      have HZ13':Hid ((asgs n q.body []).length≤1000):=Lib.hid (by have h0:=asgs_len n q.body [];have:=HLQ.out.2.2.2;simp only[List.length_nil]at h0;omega)
      obtain⟨va13,vc13,hv4,_⟩:=R4.out.sits HZ13'.out
      obtain⟨L13,hL13⟩:∃L,(asgs n q.body []).length=L:=⟨_,rfl⟩
      rw[hL13]at hv4
      have HL13:=Lib.hid hL13
      have HZ13:Hid (L13≤1000):=Lib.hid (by rw[←hL13];exact HZ13'.out)
      subst hv4
      clear hL13 hrow4 hb4 G M0 HZ13' e33
      have MZ13:Hid (MS V (nb || ((asgs n q.body []).take 0).any (fun x=>hasW x (q.params ++ q.ghosts))) cb' pb w4):=Lib.hid (by rw[show((asgs n q.body []).take 0).any (fun x=>hasW x (q.params ++ q.ghosts))=false from rfl,Bool.or_false];exact M4.out)
      have RZ13:=Lib.hid R4.out
      clear M4 R4
      go_wp2_with fail
      go_loopw [13] (fun i wr=>∃k:Nat,k≤L13∧i= .int .i64 k∧Hid (MS V (nb || ((asgs n q.body []).take k).any (fun x=>hasW x (q.params ++ q.ghosts))) cb' pb wr)∧Hid (RowX V.heap.size (asgs n q.body []) (.slice va13 L13 vc13) wr)) (fun i _=>L13 - (intOf i).toNat)
      case atStart=>exact⟨0,Nat.zero_le _,rfl,MZ13,RZ13⟩
      case round=>
       clear MZ13 RZ13
       obtain⟨k,hkl,rfl,hms,hrx⟩:=hrel
       obtain⟨wq,rfl⟩:∃wq:World,wq=wr:=⟨_,rfl⟩
       have MQ:=Lib.hid hms.out
       have RQ:=Lib.hid hrx.out
       clear hms hrx
       by_cases hlk:k<L13
       ·have hki:(k:Int)<(L13:Int):=by omega
        have hkx:k<(asgs n q.body []).length:=by rw[HL13.out];exact hlk
        obtain⟨va2,vc2,e2,hsx⟩:=RQ.out.sits (by rw[HL13.out];exact HZ13.out)
        injection e2 with e2 e2b e3
        clear e2b
        subst e2 e3
        obtain⟨b2,off2,cs2,rfl,hbl2,hc2,rfl,hsl2⟩:=hsx.2 k hkx
        have g0:=hc2 0 _ rfl
        rw[show strSh.k=1 from rfl,Nat.mul_one,Nat.add_zero]at g0
        have F:=Lib.hid (has_any16 (asgs n q.body [])[k] oa LX oc (q.params ++ q.ghosts) wq HLO.out (OW.out.below MQ.out.low MQ.out.low.size))
        have HA2:=Lib.hid (any_snoc (p:=(fun x=>hasW x (q.params ++ q.ghosts))) hkx)
        have hll:L13≤1000:=HZ13.out
        clear hsx hc2
        generalize (asgs n q.body [])[k]=xk at*
        generalize ((asgs n q.body []).take k).any (fun x=>hasW x (q.params ++ q.ghosts))=z1 at*
        generalize hasW xk (q.params ++ q.ghosts)=z at*
        go_wp2_with fail
        refine F.out.mono ?_
        rintro r w5 ⟨rfl,hb5⟩
        have M5:=Lib.hid (MQ.out.step hb5)
        have R5:=Lib.hid (RQ.out.step hb5)
        have a0:=M5.out.a0
        have f0:=M5.out.f 0
        have g0:=(hb5.cell (p:=⟨b2,off2+k,none⟩) hbl2).trans g0
        clear hb5 F MQ RQ
        have MN:Hid (MS V (nb || ((asgs n q.body []).take (k+1)).any (fun x=>hasW x (q.params ++ q.ghosts))) cb' pb (w5.setCell ⟨V.heap.size,0,none⟩ (.bool ((nb || z1) || z)))):=Lib.hid (by rw[HA2.out,←Bool.or_assoc];exact M5.out.set0 _)
        have RN:=Lib.hid (R5.out.set (Nat.le_refl _) 0 (.bool ((nb || z1) || z)))
        clear HA2 M5 R5
        generalize (nb || z1)=nbx at*
        cases nbx with
        | true=>
          go_wp2_with fail
          go_roundw
          case rel=>exact⟨k+1,by omega,by go_num,MN,RN⟩
          case measure=>simp[intOf];omega
        | false=>
          go_wp2_with fail
          go_roundw
          case rel=>exact⟨k+1,by omega,by go_num,MN,RN⟩
          case measure=>simp[intOf];omega
       ·obtain rfl:k=L13:=by omega
        have hki:¬(k:Int)<(k:Int):=by omega
        rw[←HL13.out,List.take_length]at MQ
        clear RQ HL13 HZ13
        have HW16:=Lib.hid MQ.out.low
        have hfold:List.foldl (fun(xs:Array Value) (x:Value×Nat)=>xs.setIfInBounds x.2 x.1) #[.int .i64 0,.int .i64 0,.slice none 0 0,.slice none 0 0,.int .i64 0,.int .i64 0,.string ⟨#[]⟩,.slice none 0 0,.int .i64 0,.int .i64 0,.string ⟨#[]⟩,.slice none 0 0,.string ⟨#[]⟩,.int .i64 0,.slice none 0 0] ca.zipIdx=ca.toArray:=fold_put2 ca [] [.int .i64 0,.int .i64 0,.slice none 0 0,.slice none 0 0,.int .i64 0,.int .i64 0,.string ⟨#[]⟩,.slice none 0 0,.int .i64 0,.int .i64 0,.string ⟨#[]⟩,.slice none 0 0,.string ⟨#[]⟩,.int .i64 0,.slice none 0 0] (by rw[LA.out];rfl)
        have hlen15:=LA.out
        have F:=Lib.hid (varsA_any n [q.pre] (some ⟨wq.heap.size,0,none⟩) 1 (wq.alloc (.cells ca.toArray 44)) (by have:=HLQ.out.2.2.1;have h1:=ptAs_pair n q.pre q.post;rw[ptAs_single];omega) (sits_blk (heap_alloc_new _ _) (by simp) (rel_low (rel_low HH.out.rpre HWV.out) (MQ.out.low.alloc MQ.out.low.size _))))
        have PA:=Lib.hid ((HSV.out wq MQ.out.low).part HH.out.pre)
        have M1:=Lib.hid (MQ.out.step (box_low (cs:=ca.toArray) (t:=44)))
        clear MQ
        go_wp2_with (first | go_skip | (refine wpList_load_w (by kernel_rfl) 44 _ rfl ⟨wo.heap.size,3,none⟩ rfl ca _ PA.out Tryz.underlying44 rfl (by rw[LA.out];kernel_rfl) ?_))
        refine F.out.mono ?_
        rintro r w4 ⟨y4,rfl,hrow4,hb4⟩
        have M4:=Lib.hid (M1.out.step hb4)
        have R4:Hid (RowX V.heap.size (vrAs n [q.pre]) y4 w4):=Lib.hid ⟨_,by have:=HW16.out.size;have h2:=M1.out.sz;exact h2,hb4.size,hrow4⟩
        obtain⟨va16,vc16,hv4,_⟩:=R4.out.sits (by have h0:=vrAs_len n [q.pre];have:=HLQ.out.2.2.1;have h1:=ptAs_pair n q.pre q.post;rw[ptAs_single]at h0;omega)
        obtain⟨L16,hL16⟩:∃L,(vrAs n [q.pre]).length=L:=⟨_,rfl⟩
        rw[hL16]at hv4
        have HL16:=Lib.hid hL16
        have HZ16:Hid (L16≤1000):=Lib.hid (by have h0:=vrAs_len n [q.pre];have:=HLQ.out.2.2.1;have h1:=ptAs_pair n q.pre q.post;rw[ptAs_single]at h0;omega)
        subst hv4
        clear hL16 hrow4 hb4 F PA M1 hfold hlen15 HW16
        have MZ16:Hid (MS V ((nb || (asgs n q.body []).any (fun x=>hasW x (q.params ++ q.ghosts))) || ((vrAs n [q.pre]).take 0).any (fun x=> !hasW x (q.params ++ q.ghosts))) cb' pb w4):=Lib.hid (by rw[show((vrAs n [q.pre]).take 0).any (fun x=> !hasW x (q.params ++ q.ghosts))=false from rfl,Bool.or_false];exact M4.out)
        have RZ16:=Lib.hid R4.out
        clear M4 R4
        go_wp2_with fail
        go_loopw [16] (fun i wr=>∃k:Nat,k≤L16∧i= .int .i64 k∧Hid (MS V ((nb || (asgs n q.body []).any (fun x=>hasW x (q.params ++ q.ghosts))) || ((vrAs n [q.pre]).take k).any (fun x=> !hasW x (q.params ++ q.ghosts))) cb' pb wr)∧Hid (RowX V.heap.size (vrAs n [q.pre]) (.slice va16 L16 vc16) wr)) (fun i _=>L16 - (intOf i).toNat)
        case atStart=>exact⟨0,Nat.zero_le _,rfl,MZ16,RZ16⟩
        case round=>
         clear MZ16 RZ16
         obtain⟨k,hkl,rfl,hms,hrx⟩:=hrel
         obtain⟨wq,rfl⟩:∃wq:World,wq=wr:=⟨_,rfl⟩
         have MQ:=Lib.hid hms.out
         have RQ:=Lib.hid hrx.out
         clear hms hrx
         by_cases hlk:k<L16
         ·have hki:(k:Int)<(L16:Int):=by omega
          have hkx:k<(vrAs n [q.pre]).length:=by rw[HL16.out];exact hlk
          obtain⟨va2,vc2,e2,hsx⟩:=RQ.out.sits (by rw[HL16.out];exact HZ16.out)
          injection e2 with e2 e2b e3
          clear e2b
          subst e2 e3
          obtain⟨b2,off2,cs2,rfl,hbl2,hc2,rfl,hsl2⟩:=hsx.2 k hkx
          have g0:=hc2 0 _ rfl
          rw[show strSh.k=1 from rfl,Nat.mul_one,Nat.add_zero]at g0
          have F:=Lib.hid (has_any16 (vrAs n [q.pre])[k] oa LX oc (q.params ++ q.ghosts) wq HLO.out (OW.out.below MQ.out.low MQ.out.low.size))
          have HA2:=Lib.hid (any_snoc (p:=(fun x=> !hasW x (q.params ++ q.ghosts))) hkx)
          have hll:L16≤1000:=HZ16.out
          clear hsx hc2
          generalize (vrAs n [q.pre])[k]=xk at*
          generalize ((vrAs n [q.pre]).take k).any (fun x=> !hasW x (q.params ++ q.ghosts))=z1 at*
          generalize hasW xk (q.params ++ q.ghosts)=z at*
          go_wp2_with fail
          refine F.out.mono ?_
          rintro r w5 ⟨rfl,hb5⟩
          have M5:=Lib.hid (MQ.out.step hb5)
          have R5:=Lib.hid (RQ.out.step hb5)
          have a0:=M5.out.a0
          have f0:=M5.out.f 0
          have g0:=(hb5.cell (p:=⟨b2,off2+k,none⟩) hbl2).trans g0
          clear hb5 F MQ RQ
          have MN:Hid (MS V ((nb || (asgs n q.body []).any (fun x=>hasW x (q.params ++ q.ghosts))) || ((vrAs n [q.pre]).take (k+1)).any (fun x=> !hasW x (q.params ++ q.ghosts))) cb' pb (w5.setCell ⟨V.heap.size,0,none⟩ (.bool (((nb || (asgs n q.body []).any (fun x=>hasW x (q.params ++ q.ghosts))) || z1) || !z)))):=Lib.hid (by rw[HA2.out,←Bool.or_assoc];exact M5.out.set0 _)
          have RN:=Lib.hid (R5.out.set (Nat.le_refl _) 0 (.bool (((nb || (asgs n q.body []).any (fun x=>hasW x (q.params ++ q.ghosts))) || z1) || !z)))
          clear HA2 M5 R5
          generalize ((nb || (asgs n q.body []).any (fun x=>hasW x (q.params ++ q.ghosts))) || z1)=nbx at*
          cases nbx with
          | true=>
            go_wp2_with fail
            go_roundw
            case rel=>exact⟨k+1,by omega,by go_num,MN,RN⟩
            case measure=>simp[intOf];omega
          | false=>
            go_wp2_with fail
            go_roundw
            case rel=>exact⟨k+1,by omega,by go_num,MN,RN⟩
            case measure=>simp[intOf];omega
         ·obtain rfl:k=L16:=by omega
          have hki:¬(k:Int)<(k:Int):=by omega
          rw[←HL16.out,List.take_length]at MQ
          clear RQ HL16 HZ16
          have HW18:=Lib.hid MQ.out.low
          have hfold:List.foldl (fun(xs:Array Value) (x:Value×Nat)=>xs.setIfInBounds x.2 x.1) #[.int .i64 0,.int .i64 0,.slice none 0 0,.slice none 0 0,.int .i64 0,.int .i64 0,.string ⟨#[]⟩,.slice none 0 0,.int .i64 0,.int .i64 0,.string ⟨#[]⟩,.slice none 0 0,.string ⟨#[]⟩,.int .i64 0,.slice none 0 0] cb.zipIdx=cb.toArray:=fold_put2 cb [] [.int .i64 0,.int .i64 0,.slice none 0 0,.slice none 0 0,.int .i64 0,.int .i64 0,.string ⟨#[]⟩,.slice none 0 0,.int .i64 0,.int .i64 0,.string ⟨#[]⟩,.slice none 0 0,.string ⟨#[]⟩,.int .i64 0,.slice none 0 0] (by rw[LC.out];rfl)
          have hlen15:=LC.out
          have F:=Lib.hid (varsA_any n [q.post] (some ⟨wq.heap.size,0,none⟩) 1 (wq.alloc (.cells cb.toArray 44)) (by have:=HLQ.out.2.2.1;have h1:=ptAs_pair n q.pre q.post;rw[ptAs_single];omega) (sits_blk (heap_alloc_new _ _) (by simp) (rel_low (rel_low HH.out.rpost HWV.out) (MQ.out.low.alloc MQ.out.low.size _))))
          have PA:=Lib.hid ((HSV.out wq MQ.out.low).part HH.out.post)
          have M1:=Lib.hid (MQ.out.step (box_low (cs:=cb.toArray) (t:=44)))
          clear MQ
          go_wp2_with (first | go_skip | (refine wpList_load_w (by kernel_rfl) 44 _ rfl ⟨wo.heap.size,18,none⟩ rfl cb _ PA.out Tryz.underlying44 rfl (by rw[LC.out];kernel_rfl) ?_))
          refine F.out.mono ?_
          rintro r w4 ⟨y4,rfl,hrow4,hb4⟩
          have M4:=Lib.hid (M1.out.step hb4)
          have R4:Hid (RowX V.heap.size (vrAs n [q.post]) y4 w4):=Lib.hid ⟨_,by have:=HW18.out.size;have h2:=M1.out.sz;exact h2,hb4.size,hrow4⟩
          obtain⟨va18,vc18,hv4,_⟩:=R4.out.sits (by have h0:=vrAs_len n [q.post];have:=HLQ.out.2.2.1;have h1:=ptAs_pair n q.pre q.post;rw[ptAs_single]at h0;omega)
          obtain⟨L18,hL18⟩:∃L,(vrAs n [q.post]).length=L:=⟨_,rfl⟩
          rw[hL18]at hv4
          have HL18:=Lib.hid hL18
          have HZ18:Hid (L18≤1000):=Lib.hid (by have h0:=vrAs_len n [q.post];have:=HLQ.out.2.2.1;have h1:=ptAs_pair n q.pre q.post;rw[ptAs_single]at h0;omega)
          subst hv4
          clear hL18 hrow4 hb4 F PA M1 hfold hlen15 HW18
          have MZ18:Hid (MS V (((nb || (asgs n q.body []).any (fun x=>hasW x (q.params ++ q.ghosts))) || (vrAs n [q.pre]).any (fun x=> !hasW x (q.params ++ q.ghosts))) || ((vrAs n [q.post]).take 0).any (fun x=> !hasW x (q.params ++ q.ghosts) && !decide (x=resW))) cb' pb w4):=Lib.hid (by rw[show((vrAs n [q.post]).take 0).any (fun x=> !hasW x (q.params ++ q.ghosts) && !decide (x=resW))=false from rfl,Bool.or_false];exact M4.out)
          have RZ18:=Lib.hid R4.out
          clear M4 R4
          go_wp2_with fail
          go_loopw [18] (fun i wr=>∃k:Nat,k≤L18∧i= .int .i64 k∧Hid (MS V (((nb || (asgs n q.body []).any (fun x=>hasW x (q.params ++ q.ghosts))) || (vrAs n [q.pre]).any (fun x=> !hasW x (q.params ++ q.ghosts))) || ((vrAs n [q.post]).take k).any (fun x=> !hasW x (q.params ++ q.ghosts) && !decide (x=resW))) cb' pb wr)∧Hid (RowX V.heap.size (vrAs n [q.post]) (.slice va18 L18 vc18) wr)) (fun i _=>L18 - (intOf i).toNat)
          case atStart=>exact⟨0,Nat.zero_le _,rfl,MZ18,RZ18⟩
          case round=>
           clear MZ18 RZ18
           obtain⟨k,hkl,rfl,hms,hrx⟩:=hrel
           obtain⟨wq,rfl⟩:∃wq:World,wq=wr:=⟨_,rfl⟩
           have MQ:=Lib.hid hms.out
           have RQ:=Lib.hid hrx.out
           clear hms hrx
           by_cases hlk:k<L18
           ·have hki:(k:Int)<(L18:Int):=by omega
            have hkx:k<(vrAs n [q.post]).length:=by rw[HL18.out];exact hlk
            obtain⟨va2,vc2,e2,hsx⟩:=RQ.out.sits (by rw[HL18.out];exact HZ18.out)
            injection e2 with e2 e2b e3
            clear e2b
            subst e2 e3
            obtain⟨b2,off2,cs2,rfl,hbl2,hc2,rfl,hsl2⟩:=hsx.2 k hkx
            have g0:=hc2 0 _ rfl
            rw[show strSh.k=1 from rfl,Nat.mul_one,Nat.add_zero]at g0
            have F:=Lib.hid (has_any16 (vrAs n [q.post])[k] oa LX oc (q.params ++ q.ghosts) wq HLO.out (OW.out.below MQ.out.low MQ.out.low.size))
            have HA2:=Lib.hid (any_snoc (p:=(fun x=> !hasW x (q.params ++ q.ghosts) && !decide (x=resW))) hkx)
            have hll:L18≤1000:=HZ18.out
            clear hsx hc2
            generalize (vrAs n [q.post])[k]=xk at*
            generalize ((vrAs n [q.post]).take k).any (fun x=> !hasW x (q.params ++ q.ghosts) && !decide (x=resW))=z1 at*
            obtain⟨zr,hzr⟩:∃z,decide (xk=resW)=z:=⟨_,rfl⟩
            have hz1:(xk.toList == [114,101,115])=zr:=by
             rw[←hzr]
             have hr0:resW.toList=[114,101,115]:=by rw[Lib.toList_data];rfl
             rw[←hr0]
             by_cases h:xk=resW
             ·subst h;simp
             ·rw[decide_eq_false h];exact nbs_ne h
            have hz2:(xk.toList != [114,101,115])= !zr:=by rw[bne,hz1]
            rw[hzr]at HA2
            clear hzr
            generalize hasW xk (q.params ++ q.ghosts)=z at*
            go_wp2_with fail
            refine F.out.mono ?_
            rintro r w5 ⟨rfl,hb5⟩
            have M5:=Lib.hid (MQ.out.step hb5)
            have R5:=Lib.hid (RQ.out.step hb5)
            have a0:=M5.out.a0
            have f0:=M5.out.f 0
            have g0:=(hb5.cell (p:=⟨b2,off2+k,none⟩) hbl2).trans g0
            clear hb5 F MQ RQ
            have MN:Hid (MS V (((nb || (asgs n q.body []).any (fun x=>hasW x (q.params ++ q.ghosts))) || (vrAs n [q.pre]).any (fun x=> !hasW x (q.params ++ q.ghosts))) || ((vrAs n [q.post]).take (k+1)).any (fun x=> !hasW x (q.params ++ q.ghosts) && !decide (x=resW))) cb' pb (w5.setCell ⟨V.heap.size,0,none⟩ (.bool ((((nb || (asgs n q.body []).any (fun x=>hasW x (q.params ++ q.ghosts))) || (vrAs n [q.pre]).any (fun x=> !hasW x (q.params ++ q.ghosts))) || z1) || (!z && !zr))))):=Lib.hid (by rw[HA2.out,←Bool.or_assoc];exact M5.out.set0 _)
            have RN:=Lib.hid (R5.out.set (Nat.le_refl _) 0 (.bool ((((nb || (asgs n q.body []).any (fun x=>hasW x (q.params ++ q.ghosts))) || (vrAs n [q.pre]).any (fun x=> !hasW x (q.params ++ q.ghosts))) || z1) || (!z && !zr))))
            clear HA2 M5 R5
            generalize (((nb || (asgs n q.body []).any (fun x=>hasW x (q.params ++ q.ghosts))) || (vrAs n [q.pre]).any (fun x=> !hasW x (q.params ++ q.ghosts))) || z1)=nbx at*
            cases nbx with
            | true=>
              go_wp2_with fail
              go_roundw
              case rel=>exact⟨k+1,by omega,by go_num,MN,RN⟩
              case measure=>simp[intOf];omega
            | false=>
              cases z with
              | true=>
                go_wp2_with fail
                go_roundw
                case rel=>exact⟨k+1,by omega,by go_num,MN,RN⟩
                case measure=>simp[intOf];omega
              | false=>
                go_wp2_with fail
                go_roundw
                case rel=>exact⟨k+1,by omega,by go_num,MN,RN⟩
                case measure=>simp[intOf];omega
           ·obtain rfl:k=L18:=by omega
            have hki:¬(k:Int)<(k:Int):=by omega
            rw[←HL18.out,List.take_length]at MQ
            clear RQ HL18 HZ18
            have a0:=MQ.out.a0
            have a1:=MQ.out.a1
            have a2:=MQ.out.a2
            have F1:=Lib.hid (fun W (hW:Below V.heap.size V W)=>part16_any n q.pre ca W (rel_low (rel_low HH.out.rpre HWV.out) hW))
            have F2:=Lib.hid (fun W (hW:Below V.heap.size V W)=>part16_any n q.post cb W (rel_low (rel_low HH.out.rpost HWV.out) hW))
            have XQ:=Lib.hid (HXV.out wq MQ.out.low)
            have BQ:=Lib.hid (HLW.out _ XQ.out)
            have HDJ:Hid (dj=if(((nb || (asgs n q.body []).any (fun x=>hasW x (q.params ++ q.ghosts))) || (vrAs n [q.pre]).any (fun x=> !hasW x (q.params ++ q.ghosts))) || (vrAs n [q.post]).any (fun x=> !hasW x (q.params ++ q.ghosts) && !decide (x=resW)))=true then 12 else if cb'=true then 14 else if((pb || prA n q.pre) || prA n q.post)=true then 1 else 0):=Lib.hid (by rw[HD2.out];unfold docC;rw[if_neg (by rw[HTW.out];decide)];rw[←HNB.out,←HCB.out,←HPB.out])
            clear HD2 HTW HNB HCB HPB
            generalize (((nb || (asgs n q.body []).any (fun x=>hasW x (q.params ++ q.ghosts))) || (vrAs n [q.pre]).any (fun x=> !hasW x (q.params ++ q.ghosts))) || (vrAs n [q.post]).any (fun x=> !hasW x (q.params ++ q.ghosts) && !decide (x=resW)))=zN at*
            cases zN with
            | true=>
              have h12:dj=12:=by rw[HDJ.out];rfl
              have HX12:=Lib.hid (HD1.out (by rw[h12];decide))
              rw[h12]at HX12
              obtain rfl:=HX12.out
              clear h12 HDJ F1 F2
              go_wp2_with fail
              go_ret2
              exact⟨rfl,BQ.out⟩
            | false=>
            cases cb' with
            | true=>
              have h14:dj=14:=by rw[HDJ.out];rfl
              have HX14:=Lib.hid (HD1.out (by rw[h14];decide))
              rw[h14]at HX14
              obtain rfl:=HX14.out
              clear h14 HDJ F1 F2
              go_wp2_with fail
              go_ret2
              exact⟨rfl,BQ.out⟩
            | false=>
            cases pb with
            | true=>
              have h1:dj=1:=by rw[HDJ.out];rfl
              have HX1:=Lib.hid (HD1.out (by rw[h1];decide))
              rw[h1]at HX1
              obtain rfl:=HX1.out
              clear h1 HDJ F1 F2
              go_wp2_with fail
              go_ret2
              exact⟨rfl,BQ.out⟩
            | false=>
            have G1:=Lib.hid (F1.out wq MQ.out.low)
            have PA:=Lib.hid ((HSV.out wq MQ.out.low).part HH.out.pre)
            go_wp2_with (first | go_skip | (refine wpList_load_w (by kernel_rfl) 44 _ rfl ⟨wo.heap.size,3,none⟩ rfl ca _ PA.out Tryz.underlying44 rfl (by rw[LA.out];kernel_rfl) ?_))
            refine G1.out.mono ?_
            rintro r w6 ⟨rfl,hb6⟩
            have M6:=Lib.hid (MQ.out.step hb6)
            have X6:=Lib.hid (HXV.out w6 M6.out.low)
            have B6:=Lib.hid (HLW.out _ X6.out)
            clear hb6 G1 MQ XQ BQ a0 a1 a2 F1 PA
            generalize prA n q.pre=zp at*
            cases zp with
            | true=>
              have h1:dj=1:=by rw[HDJ.out];rfl
              have HX1:=Lib.hid (HD1.out (by rw[h1];decide))
              rw[h1]at HX1
              obtain rfl:=HX1.out
              clear h1 HDJ F2
              go_wp2_with fail
              go_ret2
              exact⟨rfl,B6.out⟩
            | false=>
            have G1:=Lib.hid (F2.out w6 M6.out.low)
            have PB:=Lib.hid ((HSV.out w6 M6.out.low).part HH.out.post)
            go_wp2_with (first | go_skip | (refine wpList_load_w (by kernel_rfl) 44 _ rfl ⟨wo.heap.size,18,none⟩ rfl cb _ PB.out Tryz.underlying44 rfl (by rw[LC.out];kernel_rfl) ?_))
            refine G1.out.mono ?_
            rintro r w7 ⟨rfl,hb7⟩
            have M7:=Lib.hid (M6.out.step hb7)
            have X7:=Lib.hid (HXV.out w7 M7.out.low)
            have B7:=Lib.hid (HLW.out _ X7.out)
            clear hb7 G1 M6 X6 B6 F2 PB
            generalize prA n q.post=zq at*
            cases zq with
            | true=>
              have h1:dj=1:=by rw[HDJ.out];rfl
              have HX1:=Lib.hid (HD1.out (by rw[h1];decide))
              rw[h1]at HX1
              obtain rfl:=HX1.out
              clear h1 HDJ
              go_wp2_with fail
              go_ret2
              exact⟨rfl,B7.out⟩
            | false=>
              have HN2:=Lib.hid (HNX.out (by rw[HDJ.out];rfl))
              clear HDJ HD1 M7
              go_wp2_with fail
              go_roundw
              case rel=>exact⟨j+1,by omega,by go_num,HN2,X7⟩
              case measure=>simp[intOf];omega
   ·obtain rfl:j=m:=by omega
    have hji:¬(j:Int)<(j:Int):=by omega
    have HY:=Lib.hid (HXE.out.2 hno.out)
    obtain rfl:=HY.out
    go_wp2_with fail
    go_ret2
    exact⟨rfl,BO.out⟩
 ·have HXZ:=Lib.hid (HX0.out hz)
  obtain rfl:=HXZ.out
  have B1:=Lib.hid (HLW.out _ X1.out)
  go_wp2_with fail
  go_ret2
  exact⟨rfl,B1.out⟩
end
section
open Go.RowKit
theorem nmB_empty:nmB ⟨#[]⟩=false:=by kernel_rfl
theorem chk_sound {nm:ByteArray→Bool}{n:Nat}{qs:List QT}(h:chkQ nm n qs=0):∀q∈qs,snQ nm n q=true:=by
 unfold chkQ at h
 cases hd:qs.any dpQ with
 | true=>rw[hd]at h;cases h
 | false=>
   cases ha:qs.all (snQ nm n)with
   | false=>rw[hd,ha]at h;cases h
   | true=>exact List.all_eq_true.1 ha
theorem docAt_am {nm:ByteArray→Bool}(h0:nm ⟨#[]⟩=false){n:Nat}{qs:List QT}(h:chkQ nm n qs=0)(j:Nat):docAt n qs j=amAt n qs j:=by
 unfold docAt amAt
 cases hq:qs[j]? with
 | none=>rfl
 | some q=>exact doc_is_code h0 n qs q _ (chk_sound h q (List.mem_of_getElem? hq))
theorem dcheck_any (n:Nat)(qs:List QT)(a:Option Addr)(cap:Nat)(w:World)(hs:Pak.Sits (procSh n) (Pak.Lo w.heap.size) w a qs)(h50:qs.length≤50)(hl:∀q∈qs,OkQ n 600 q):
 Calls Tryz.prog 8 #[.agg #[.slice a qs.length cap]] w (TwoInt (chkN nmB n qs) w):=
 dcheck_box n qs a qs.length cap w (chkQ nmB n qs) (chkN nmB n qs) rfl h50 hs (fun q hq=>⟨(hl q hq).1,(hl q hq).2.1,Nat.le_trans (hl q hq).2.2.2.2.1 (by decide),Nat.le_trans (hl q hq).2.2.2.2.2.2 (by decide)⟩)
  (fun h=>if_neg h) (fun h=>⟨fun j hj h1 h2=>by
    rw[show chkN nmB n qs=cksN n qs 0 qs.length from if_pos h]
    rw[docAt_am nmB_empty h]at h2⊢
    exact cksN_hit (Nat.zero_le _) (by omega) (fun t _ ht=>by rw[←docAt_am nmB_empty h];exact h1 t ht) h2,fun h1=>by
    rw[show chkN nmB n qs=cksN n qs 0 qs.length from if_pos h]
    exact cksN_miss fun t _ ht=>by rw[←docAt_am nmB_empty h];exact h1 t (by omega)⟩)
  (fun W hW=>rcheck_prog (fun s w hs=>rnmLaw s w hs) n qs a qs.length cap W rfl (hs.below hW hW.size))
theorem cksN_code (n:Nat)(qs:List QT):∀(k i:Nat),(0≤(cksN n qs i k).1∧(cksN n qs i k).1≤16)∧(0≤(cksN n qs i k).2→(cksN n qs i k).1≠0)
 | 0,_=>⟨⟨Int.le_refl _,show(0:Int)≤16 by decide⟩,fun h=>absurd h (show ¬(0:Int)≤ -1 by decide)⟩
 | k+1,i=>by
   unfold cksN
   split
   ·exact cksN_code n qs k (i+1)
   ·next h=>exact⟨amAt_code n qs i,fun _=>h⟩
theorem chkN_code (n:Nat)(qs:List QT):(0≤(chkN nmB n qs).1∧(chkN nmB n qs).1≤16)∧(0≤(chkN nmB n qs).2→(chkN nmB n qs).1≠0):=by
 unfold chkN
 split
 ·exact cksN_code n qs _ _
 ·exact⟨chkQ_code nmB n qs,fun h=>absurd h (show ¬(0:Int)≤ -1 by decide)⟩
def UpSaid16:Prop:=∀w:World,Laid w→Laid0 w→Calls Tryz.prog 5 #[] w fun e w'=>e= .returned (.bool true)∧Below w.heap.size w w'
theorem namesCheck_any (hup:UpSaid16)(n:Nat)(qs:List QT)(a:Option Addr)(m cap:Nat)(w:World)(hm:qs.length=m)(hs:Pak.Sits (procSh n) (Pak.Lo w.heap.size) w a qs)(hL:Laid w)(hL0:Laid0 w):
 Calls Tryz.prog 3 #[.agg #[.slice a m cap]] w fun e w'=>e= .returned (.bool true)∧Below w.heap.size w w':=by
 subst hm
 have X0:=Lib.hid (Bx.start w [.slice a qs.length cap] 24)
 have HLW:Hid (∀W,Bx w [.slice a qs.length cap] 24 W→Below w.heap.size w W):=Lib.hid fun W hW=>hW.low (Below.refl _ _)
 have FU:=Lib.hid (hup _ (hL.up (HLW.out _ X0.out)) (hL0.below (HLW.out _ X0.out) hL0.pos))
 have FS:=Lib.hid (fun W (hW:Below w.heap.size w W)=>small16_any n qs a qs.length cap W rfl (hs.below hW hW.size))
 have FC:=Lib.hid (fun W (hW:Below w.heap.size w W) (h50:qs.length≤50) (hq:∀q∈qs,OkQ n 600 q)=>ncheck_any nmLaw n qs a cap W (hs.below hW hW.size) h50 (fun q hq'=>⟨(hq q hq').1,(hq q hq').2.1⟩) (hL.up hW))
 have FD:=Lib.hid (fun W (hW:Below w.heap.size w W) (h50:qs.length≤50) (hq:∀q∈qs,OkQ n 600 q)=>dcheck_any n qs a cap W (hs.below hW hW.size) h50 hq)
 have HL0:=Lib.hid hL0
 clear hup hs hL hL0
 go_enter Tryz.func3,Tryz.ntmps3
 go_wp2_with fail
 refine FU.out.mono ?_
 rintro r w1 ⟨rfl,hb⟩
 have X1:=Lib.hid (X0.out.step hb)
 have B1:=Lib.hid (HLW.out _ X1.out)
 have c0:=X1.out.at (o:=0) rfl
 clear hb FU X0
 go_wp2_with fail
 refine(FS.out w1 B1.out).mono ?_
 rintro r w2 ⟨z,rfl,hz,hb⟩
 have X2:=Lib.hid (X1.out.step hb)
 have B2:=Lib.hid (HLW.out _ X2.out)
 have HZ:=Lib.hid hz
 clear hb hz c0 X1 B1 FS
 cases z with
 | false=>
   go_wp2_with fail
   go_ret
   exact⟨rfl,B2.out⟩
 | true=>
 have HQ:=Lib.hid (HZ.out rfl)
 have c0:=X2.out.at (o:=0) rfl
 go_wp2_with fail
 refine(FC.out w2 B2.out HQ.out.1 HQ.out.2).mono ?_
 rintro r w3 ⟨er,rfl,he,hb⟩
 have X3:=Lib.hid (X2.out.step hb)
 have B3:=Lib.hid (HLW.out _ X3.out)
 have HE:=Lib.hid he
 clear hb he c0 X2 B2 FC
 have c0:=X3.out.at (o:=0) rfl
 go_wp2_with fail
 refine(FD.out w3 B3.out HQ.out.1 HQ.out.2).mono ?_
 rintro r w4 ⟨rfl,hb⟩
 have B4:=Lib.hid (HLW.out _ (X3.out.step hb))
 have HCD:=Lib.hid (chkN_code n qs)
 have FT:=Lib.hid (etold_any (HE.out.below hb) HCD.out.1 HCD.out.2 (HL0.out.below B4.out HL0.out.pos))
 clear hb c0 X3 B3 FD HE
 generalize chkN nmB n qs=X at*
 go_wp2_with fail
 refine FT.out.mono ?_
 rintro r w5 ⟨rfl,hb⟩
 have B5:=Lib.hid (B4.out.trans (hb.mono B4.out.size))
 clear hb FT
 go_wp2_with fail
 go_ret
 exact⟨rfl,B5.out⟩
end
end Go.Proofs.YtfcaclmcnlflfaaGreatDoor
