/- Parts of a proof. -/
import Derived.Test.YtfinhpfjokpcfaaDoorQ08
import Derived.Test.YtfinhpfjokpcfaaDoorQ18
import Derived.Test.YtfinhpfjokpcfaaDoorRows
import Derived.BigQuiet
set_option linter.unusedVariables false
set_option linter.unusedSimpArgs false
set_option maxHeartbeats 60000000
set_option maxRecDepth 100000
namespace Go.Proofs.YtfinhpfjokpcfaaDoor
section
open Go.RowKit
theorem ownL_snoc {hs ss:List HC}{i:Nat}(h:i<hs.length):ownL (hs.take (i+1)) ss=ownL (hs.take i) ss ++ ownF ss (hs.getD i hc0):=by
 unfold ownL
 rw[List.take_succ_eq_append_getElem h,List.flatMap_append,List.getD_eq_getElem?_getD,List.getElem?_eq_getElem h]
 simp
theorem ownF_snoc {ss:List HC}{c:HC}{j:Nat}(h:j<ss.length):ownF (ss.take (j+1)) c=ownF (ss.take j) c ++ (if hkey (ss.getD j hc0)=hkey c then[c] else[]):=by
 unfold ownF
 rw[List.take_succ_eq_append_getElem h,List.filter_append,List.map_append,List.getD_eq_getElem?_getD,List.getElem?_eq_getElem h]
 congr 1
 by_cases e:hkey ss[j]=hkey c
 ·simp[e]
 ·simp[e]
theorem ownL_le {hs ss:List HC}(h1:hs.length≤200)(h2:ss.length≤100)(i:Nat)(c:HC)(j:Nat):(ownL (hs.take i) ss ++ ownF (ss.take j) c).length≤30000:=by
 have:=ownL_len ss (hs.take i)
 have h3:=ownF_len (ss.take j) c
 have h4:(hs.take i).length≤200:=by rw[List.length_take];omega
 have h5:(ss.take j).length≤100:=by rw[List.length_take];omega
 have h6:(hs.take i).length*ss.length≤200*100:=Nat.mul_le_mul h4 h2
 rw[List.length_append]
 omega
theorem holdsOwn_any (hup:UpSaid18)(n:Nat)(a:AT)(ca:List Value)(xs:List (ByteArray×Int))(av:Option Addr)(cv m:Nat)(hs:List HC)(ah:Option Addr)(ch mh:Nat)(w:World)(hm:xs.length=m)(hmh:hs.length=mh)(h:(assnSh (n+3)).rel (Pak.Lo w.heap.size) w ca a)(hx:Pak.Sits varSh (Pak.Lo w.heap.size) w av xs)(hh:HLies w.heap.size w ah hs)(hL:Laid w):
 Calls Tryd.prog 3 #[.agg ca.toArray,.slice av m cv,.slice ah mh ch] w fun e w'=>e= .returned (.bool true)∧Below w.heap.size w w':=by
 have hlen:=((assnSh (n+3)).len h).trans (assnSh_k _)
 have HA:Hid (Below w.heap.size w (w.alloc (.cells ca.toArray 30))):=box_low
 have HB0:Hid (Below (w.alloc (.cells ca.toArray 30)).heap.size (w.alloc (.cells ca.toArray 30)) (w.alloc (.cells ca.toArray 30))):=Below.refl _ _
 have P0:=Lib.hid (fun W (hb:Below (w.alloc (.cells ca.toArray 30)).heap.size (w.alloc (.cells ca.toArray 30)) W)=>box_part (cs:=ca) (l:=ca) (o:=0) (fun i v h=>by rw[Nat.zero_add];exact h) hb)
 have L0:=Lib.hid hlen
 have HUP:=Lib.hid (hup (w.alloc (.cells ca.toArray 30)) (hL.up HA.out))
 have HSM:=Lib.hid (fun W (hW:Below w.heap.size w W)=>smallA_any (n+3) a ca W (rel_low h hW))
 obtain⟨zS,hz⟩:∃z:Bool,Sound hs↔z=true:=by
  classical
  exact⟨decide (Sound hs),by simp⟩
 obtain⟨z2,hz2⟩:∃z:Bool,Sound (ownL hs (ftR (akA n a) (takA (fun s=>varOf s xs) [] (n+3) a)).1)↔z=true:=by
  classical
  exact⟨decide (Sound (ownL hs (ftR (akA n a) (takA (fun s=>varOf s xs) [] (n+3) a)).1)),by simp⟩
 have HF:=Lib.hid (fun W (hW:Below w.heap.size w W) hsz=>hFoot_any n a ca xs av cv W (rel_low h hW) (hx.below hW hW.size) (hL.up hW) hsz)
 have HH:=Lib.hid (fun W (hW:Below w.heap.size w W) hle hsz=>hHolds_any n a ca xs av cv hs ah ch zS W (rel_low h hW) (hx.below hW hW.size) ((hh.below hW).mono hW.size) hle hz (hL.up hW) hsz)
 have HO:=Lib.hid (fun(ys:List HC) (hzy:Sound ys↔z2=true) oa oc W (hW:Below w.heap.size w W) (ho:HLies W.heap.size W oa ys) hle hsz=>hHolds_any n a ca xs av cv ys oa oc z2 W (rel_low h hW) (hx.below hW hW.size) ho hle hzy (hL.up hW) hsz)
 have HSAME:=Lib.hid (fun h0 h1=>hold_own (k:=akA n a) (ρ:=fun s=>varOf s xs) (hs:=hs) (n:=n+3) (a:=a) h0 h1 hz hz2)
 rw[hm,hmh]at HH
 rw[hm]at HF HO
 have hmm:m≤9223372036854775807:=by rw[←hm];exact hx.1
 have HMH:=Lib.hid hmh
 have HY:=Lib.hid hh
 have n1:=fun W=>Tryd.neNil W
 have n2:=fun t v W=>Tryd.neIface t v W
 have n3:=fun W=>Tryd.eqNil W
 clear h hx hh hL hup hlen hz hm hmh
 go_enter Tryd.func3,Tryd.ntmps3
 go_wp2_with fail
 refine HUP.out.mono ?_
 rintro r w1 ⟨rfl,hb⟩
 have H1:=Lib.hid (HB0.out.trans hb)
 have W1:=Lib.hid (HA.out.trans (H1.out.mono HA.out.size))
 clear hb HUP
 go_wp2_with (first | go_skip | (refine wpList_load_w (by kernel_rfl) 30 _ rfl ⟨w.heap.size,0,none⟩ rfl ca _ (P0.out _ H1.out) Tryd.underlying30 rfl (by rw[L0.out];kernel_rfl) ?_))
 refine(HSM.out _ W1.out).mono ?_
 rintro r w2 ⟨b,rfl,hbn,hb⟩
 have H2:=Lib.hid (H1.out.trans (hb.mono H1.out.size))
 have W2:=Lib.hid (HA.out.trans (H2.out.mono HA.out.size))
 have HBN:=Lib.hid hbn
 clear hb hbn HSM
 cases b with
 | false=>
   go_wp2_with fail
   go_ret
   exact⟨rfl,W2.out⟩
 | true=>
 have HND:=Lib.hid (HBN.out rfl)
 clear HBN
 by_cases g1:(200:Int)<(m:Int)
 ·have d1:decide ((m:Int) > 200)=true:=decide_eq_true g1
  have d2:decide ((200:Int)<(m:Int))=true:=decide_eq_true g1
  have d3:200<m:=by omega
  clear g1
  go_wp2_with fail
  go_ret
  exact⟨rfl,W2.out⟩
 have d1:decide ((m:Int) > 200)=false:=decide_eq_false g1
 have d2:decide ((200:Int)<(m:Int))=false:=decide_eq_false g1
 have d3:¬ 200<m:=by omega
 clear g1
 by_cases g2:(200:Int)<(mh:Int)
 ·have d4:decide ((mh:Int) > 200)=true:=decide_eq_true g2
  have d5:decide ((200:Int)<(mh:Int))=true:=decide_eq_true g2
  have d6:200<mh:=by omega
  clear g2
  go_wp2_with fail
  go_ret
  exact⟨rfl,W2.out⟩
 have d4:decide ((mh:Int) > 200)=false:=decide_eq_false g2
 have d5:decide ((200:Int)<(mh:Int))=false:=decide_eq_false g2
 have d6:¬ 200<mh:=by omega
 have HHL:Hid (mh≤1000000):=Lib.hid (by omega)
 have HH2:Hid (hs.length≤200):=Lib.hid (by rw[HMH.out];omega)
 clear g2
 have SZ0:=Lib.hid (akA_nd (ρ:=fun s=>varOf s xs) (hs:=[]) HND.out)
 have SZ1:=Lib.hid (akA_nd (ρ:=fun s=>varOf s xs) (hs:=hs) HND.out)
 have SZ2:=Lib.hid (akA_nd (ρ:=fun s=>varOf s xs) (hs:=ownL hs (ftR (akA n a) (takA (fun s=>varOf s xs) [] (n+3) a)).1) HND.out)
 have FL:=Lib.hid (ftR_len SZ0.out)
 have F1:=Lib.hid (fun W hW=>HF.out W hW SZ0.out)
 have F2:=Lib.hid (fun W hW=>HH.out W hW HHL.out SZ1.out)
 have F3:=Lib.hid (fun oa oc W hW ho hle=>HO.out (ownL hs (ftR (akA n a) (takA (fun s=>varOf s xs) [] (n+3) a)).1) hz2 oa oc W hW ho hle SZ2.out)
 clear HF HH HO SZ0 SZ1 SZ2 HHL HND hz2
 generalize ftR (akA n a) (takA (fun s=>varOf s xs) [] (n+3) a)=ft at*
 obtain⟨fl,fk⟩:=ft
 dsimp only at FL F3 HSAME
 generalize hdR (akA n a) z2 (takA (fun s=>varOf s xs) (ownL hs fl) (n+3) a)=hd2 at*
 generalize hdR (akA n a) zS (takA (fun s=>varOf s xs) hs (n+3) a)=hd at*
 obtain⟨hl,hk⟩:=hd
 dsimp only at HSAME
 go_wp2_with (first | go_skip | (refine wpList_load_w (by kernel_rfl) 30 _ rfl ⟨w.heap.size,0,none⟩ rfl ca _ (P0.out _ H2.out) Tryd.underlying30 rfl (by rw[L0.out];kernel_rfl) ?_))
 refine(F1.out _ W2.out).mono ?_
 rintro r w3 ⟨v1,rfl,hs1,hb⟩
 obtain⟨a1,cap1,rfl,hq1,hq2,hl1⟩:=hs1.lies
 have H3:=Lib.hid (H2.out.trans (hb.mono H2.out.size))
 have W3:=Lib.hid (HA.out.trans (H3.out.mono HA.out.size))
 have HL1:=Lib.hid hl1
 have HQL:Hid (fl.length≤9223372036854775807):=Lib.hid (Nat.le_trans hq1 hq2)
 clear hb hs1 hl1 hq1 hq2 F1
 go_wp2_with (first | go_skip | (refine wpList_load_w (by kernel_rfl) 30 _ rfl ⟨w.heap.size,0,none⟩ rfl ca _ (P0.out _ H3.out) Tryd.underlying30 rfl (by rw[L0.out];kernel_rfl) ?_))
 refine(F2.out _ W3.out).mono ?_
 rintro r w4 ⟨rfl,hb⟩
 have H4:=Lib.hid (H3.out.trans (hb.mono H3.out.size))
 have W4:=Lib.hid (HA.out.trans (H4.out.mono HA.out.size))
 have HL2:=Lib.hid (HL1.out.up hb)
 clear hb F2 HL1
 by_cases e1:fk=0
 ·by_cases e2:hk=0
  ·have hv1:erV fk= .nilIface:=if_pos e1
   have hv2:erV hk= .nilIface:=if_pos e2
   have HSM2:=Lib.hid (HSAME.out e1 e2)
   have HE2:=Lib.hid e2
   dsimp only
   rw[hv1,hv2]
   clear hv1 hv2 e1 e2 HSAME
   have HFL:Hid (fl.length≤100):=Lib.hid FL.out
   have B4:Hid (Below w4.heap.size w4 w4):=Below.refl _ _
   have HFW:Hid (HLies w4.heap.size w4 a1 fl):=HL2
   have HHW:Hid (HLies w4.heap.size w4 ah hs):=Lib.hid ((HY.out.below W4.out).mono W4.out.size)
   generalize hfn:fl.length=nf at*
   have HFN:=Lib.hid hfn
   have hfq:nf≤9223372036854775807:=HQL.out
   have hmq:mh≤200:=by omega
   clear hfn HQL
   go_wp2_with fail
   go_loopw [13,14,15] (fun o i kk wr=>∃(p:Nat) (v:Value),i= .int .i64 p∧p≤mh∧v=o∧Hid (HRow w4.heap.size (ownL (hs.take p) fl) v wr∧Below w4.heap.size w4 wr)) (fun _ i _ _=>mh - (intOf i).toNat)
   case atStart=>exact⟨0,_,rfl,Nat.zero_le _,rfl,HRow.nil _ _,B4.out⟩
   case round=>
    obtain⟨p,v,rfl,hp,rfl,hrel⟩:=hrel
    by_cases hlt:p<mh
    ·have hlti:(p:Int)<(mh:Int):=by omega
     have hpx:p<hs.length:=by rw[HMH.out];exact hlt
     have HSN:=Lib.hid (ownL_snoc (ss:=fl) hpx)
     have HLE:=Lib.hid (fun j=>ownL_le HH2.out (by rw[HFN.out];exact HFL.out:fl.length≤100) p (hs.getD p hc0) j)
     obtain⟨b4,off4,rfl,hb4,c1,c2,c3⟩:=HHW.out p hpx
     have C1:=Lib.hid (fun W (hW:Below w4.heap.size w4 W)=>(hW.cell (p:=⟨b4,_,none⟩) hb4).trans c1)
     have C2:=Lib.hid (fun W (hW:Below w4.heap.size w4 W)=>(hW.cell (p:=⟨b4,_,none⟩) hb4).trans c2)
     have C3:=Lib.hid (fun W (hW:Below w4.heap.size w4 W)=>(hW.cell (p:=⟨b4,_,none⟩) hb4).trans c3)
     have HST:Hid (HRow w4.heap.size (ownL (hs.take p) fl ++ ownF (fl.take 0) (hs.getD p hc0)) v wr∧Below w4.heap.size w4 wr):=Lib.hid ⟨by rw[List.take_zero,show ownF [] (hs.getD p hc0)=[] from rfl,List.append_nil];exact hrel.out.1,hrel.out.2⟩
     clear c1 c2 c3 hrel
     generalize ownL (hs.take p) fl=A at*
     generalize hs.getD p hc0=c at*
     obtain⟨cA,cF,cV⟩:=c
     dsimp only at C1 C2 C3
     go_wp2_with fail
     rename_i wq
     go_loopw [13,15] (fun o2 kk2 wr2=>∃(j:Nat) (v2:Value),kk2= .int .i64 j∧j≤nf∧v2=o2∧Hid (HRow w4.heap.size (A ++ ownF (fl.take j) ⟨cA,cF,cV⟩) v2 wr2∧Below w4.heap.size w4 wr2)) (fun _ kk2 _=>nf - (intOf kk2).toNat)
     case atStart=>exact⟨0,_,rfl,Nat.zero_le _,rfl,HST.out⟩
     case round=>
      obtain⟨j,v2,rfl,hj,rfl,hrel2⟩:=hrel
      by_cases hlt2:j<nf
      ·have hlti2:(j:Int)<(nf:Int):=by omega
       have hjx:j<fl.length:=by rw[HFN.out];exact hlt2
       have HFS:=Lib.hid (ownF_snoc (c:=⟨cA,cF,cV⟩) hjx)
       obtain⟨b5,off5,rfl,hb5,s1,s2,s3⟩:=HFW.out j hjx
       have q1:=(hrel2.out.2.cell (p:=⟨b5,_,none⟩) hb5).trans s1
       have q2:=(hrel2.out.2.cell (p:=⟨b5,_,none⟩) hb5).trans s2
       have c1:=C1.out _ hrel2.out.2
       have c2:=C2.out _ hrel2.out.2
       have c3:=C3.out _ hrel2.out.2
       have HLJ:=Lib.hid (HLE.out j)
       clear s1 s2 s3
       generalize fl.getD j hc0=y at*
       obtain⟨yA,yF,yV⟩:=y
       dsimp only at q1 q2
       by_cases ea:yA=cA
       ·subst ea
        by_cases ef:yF=cF
        ·subst ef
         have HNX:Hid (ownF (fl.take (j+1)) ⟨yA,yF,cV⟩=ownF (fl.take j) ⟨yA,yF,cV⟩ ++ [⟨yA,yF,cV⟩]):=Lib.hid (HFS.out.trans (by rw[if_pos (show hkey (⟨yA,yF,yV⟩:HC)=hkey ⟨yA,yF,cV⟩ from rfl)]))
         clear HFS
         go_wp2_with fail
         go_quiet (fail)
         rename_i nq
         have BW:Hid (Below w4.heap.size w4 (wr.drewN nq)):=Lib.hid (below_drewN2 hrel2.out.2 _)
         have RW:Hid (HRow w4.heap.size (A ++ ownF (fl.take j) ⟨yA,yF,cV⟩) v2 (wr.drewN nq)):=Lib.hid (hrel2.out.1.below (below_drewN2 (Below.refl _ _) _))
         clear q1 q2 c1 c2 c3 hrel2
         have c1:=C1.out _ BW.out
         have c2:=C2.out _ BW.out
         have c3:=C3.out _ BW.out
         obtain⟨v5,w5,hr5,hrow5,hb5'⟩:=run_append_cell 32 w4.heap.size (A ++ ownF (fl.take j) ⟨yA,yF,cV⟩) v2 ⟨yA,yF,cV⟩ RW.out BW.out.size (by have:=HLJ.out;omega)
         have hr5:∀ty,(Builtin.append_ #[32,32] ty #[v2,.slice (some ⟨(wr.drewN nq).heap.size,0,none⟩) 1 1]).run Tryd.prog ((wr.drewN nq).alloc (.cells #[.int .i64 yA,.string yF,.int .i64 cV] 45))= .ok v5 w5:=fun ty=>hr5
         have BF:Hid (Below w4.heap.size w4 w5):=Lib.hid (BW.out.trans hb5')
         have RF:Hid (HRow w4.heap.size (A ++ ownF (fl.take (j+1)) ⟨yA,yF,cV⟩) v5 w5):=Lib.hid (by rw[HNX.out,←List.append_assoc];exact hrow5)
         clear hrow5 hb5' HNX BW RW HLJ
         go_wp2_with (at_builtin;refine Lib.wpList_append_run _ rfl _ _ _ _ rfl _ _ rfl rfl _ _ (hr5 _) ?_)
         go_roundw
         case rel=>exact⟨j+1,v5,by go_num,by omega,rfl,RF.out,BF.out⟩
         case measure=>simp[intOf];omega
        ·have HNX:Hid (ownF (fl.take (j+1)) ⟨yA,cF,cV⟩=ownF (fl.take j) ⟨yA,cF,cV⟩):=Lib.hid (HFS.out.trans (by rw[if_neg (fun e=>ef (bs_inj (congrArg Prod.snd e))),List.append_nil]))
         have e5:(yF.toList == cF.toList)=false:=bs_ne ef
         have e6:decide (yF.toList=cF.toList)=false:=by simpa using e5
         clear HFS ef
         go_wp2_with fail
         go_quiet (fail)
         rename_i nq
         have RF:Hid (HRow w4.heap.size (A ++ ownF (fl.take (j+1)) ⟨yA,cF,cV⟩) v2 (wr.drewN nq)):=Lib.hid (by rw[HNX.out];exact hrel2.out.1.below (below_drewN2 (Below.refl _ _) _))
         have BF:Hid (Below w4.heap.size w4 (wr.drewN nq)):=Lib.hid (below_drewN2 hrel2.out.2 _)
         clear hrel2 HNX
         go_wp2_with fail
         go_roundw
         case rel=>exact⟨j+1,v2,by go_num,by omega,rfl,RF.out,BF.out⟩
         case measure=>simp[intOf];omega
       ·have HNX:Hid (ownF (fl.take (j+1)) ⟨cA,cF,cV⟩=ownF (fl.take j) ⟨cA,cF,cV⟩):=Lib.hid (HFS.out.trans (by rw[if_neg (fun e=>ea (congrArg Prod.fst e)),List.append_nil]))
        have e5:(yA == cA)=false:=by simpa using ea
        clear HFS ea
        go_wp2_with fail
        go_quiet (fail)
        rename_i nq
        have RF:Hid (HRow w4.heap.size (A ++ ownF (fl.take (j+1)) ⟨cA,cF,cV⟩) v2 (wr.drewN nq)):=Lib.hid (by rw[HNX.out];exact hrel2.out.1.below (below_drewN2 (Below.refl _ _) _))
        have BF:Hid (Below w4.heap.size w4 (wr.drewN nq)):=Lib.hid (below_drewN2 hrel2.out.2 _)
        clear hrel2 HNX
        go_wp2_with fail
        go_roundw
        case rel=>exact⟨j+1,v2,by go_num,by omega,rfl,RF.out,BF.out⟩
        case measure=>simp[intOf];omega
      ·obtain rfl:j=nf:=by omega
       have hlti2:¬(j:Int)<(j:Int):=by omega
       have RF:Hid (HRow w4.heap.size (A ++ ownF fl ⟨cA,cF,cV⟩) v2 wr∧Below w4.heap.size w4 wr):=Lib.hid (by have h:=hrel2.out;rw[show fl.take j=fl by rw[←HFN.out,List.take_length]]at h;exact h)
       clear hrel2
       go_wp2_with fail
       go_roundw
       case rel=>exact⟨p+1,v2,by go_num,by omega,rfl,by rw[HSN.out];exact RF.out⟩
       case measure=>simp[intOf];omega
    ·obtain rfl:p=mh:=by omega
     have hlti:¬(p:Int)<(p:Int):=by omega
     have RF:Hid (HRow w4.heap.size (ownL hs fl) v wr∧Below w4.heap.size w4 wr):=Lib.hid (by have h:=hrel.out;rw[show hs.take p=hs by rw[←HMH.out,List.take_length]]at h;exact h)
     have HLN:Hid ((ownL hs fl).length≤1000000):=Lib.hid (by have:=ownL_le HH2.out (by rw[HFN.out];exact HFL.out:fl.length≤100) hs.length hc0 0;rw[List.take_length,List.length_append]at this;omega)
     obtain⟨oa,oc,rfl,_,_,hol,_⟩:=own_hlies rfl RF.out.1
     have W9:=Lib.hid (W4.out.trans (RF.out.2.mono W4.out.size))
     have H9:=Lib.hid (H4.out.trans (RF.out.2.mono H4.out.size))
     have F9:=Lib.hid (F3.out oa oc _ W9.out hol HLN.out)
     clear hrel RF hol F3 HLN
     go_wp2_with (first | go_skip | (refine wpList_load_w (by kernel_rfl) 30 _ rfl ⟨w.heap.size,0,none⟩ rfl ca _ (P0.out _ H9.out) Tryd.underlying30 rfl (by rw[L0.out];kernel_rfl) ?_))
     rw[HSM2.out]at F9
     refine F9.out.mono ?_
     rintro r wz ⟨rfl,hb⟩
     have WZ:=Lib.hid (W9.out.trans (hb.mono W9.out.size))
     have hv2:erV hk= .nilIface:=if_pos HE2.out
     dsimp only
     rw[hv2]
     clear hb F9 hv2
     go_wp2_with fail
     go_ret
     exact⟨by simp,WZ.out⟩
  ·have hv1:erV fk= .nilIface:=if_pos e1
   have hv2:erV hk= .iface 57 (.int .i64 hk):=if_neg e2
   dsimp only
   rw[hv1,hv2]
   clear hv1 hv2 e1 e2 HSAME F3
   go_wp2_with fail
   go_ret
   exact⟨rfl,W4.out⟩
 ·have hv1:erV fk= .iface 57 (.int .i64 fk):=if_neg e1
  rw[hv1]
  clear hv1 e1 HSAME F3
  go_wp2_with fail
  go_ret
  exact⟨rfl,W4.out⟩
end
section
open Go.ChangeShapes Go.WideShapes Go.ChangeAt Go.RowKit
theorem holdsOwn_lifted (hup:UpSaid18)(os:Os)(started:os.Started)(H:Type)(enc:TypeId×Value→H):
 ReturnsInHanded {} Tryd.checked os 3 .any (fun w args=>(Rows.holdsOwnSpec.pre enc Tryd.prog Tryd.f3 [] false w args∧laidMetH Tryd.prog laidL w)∧sizedMet enc Tryd.prog Tryd.f3 (OpenSpec.ofChange Rows.holdsOwnSpec) false w args)
  (Rows.holdsOwnSpec.post enc Tryd.prog Tryd.f3 false true false false):=by
 refine returnsInHanded_of_change_and (C:=Tryd.checked) (X:=fun w _=>laidMetH Tryd.prog laidL w) (fun _ _ _ hh h=>h.of_heap hh) Tryd.own started (by kernel_rfl) Tryd.func3
  (ChangeSpec.witness_at (enc:=enc) (C:=Tryd.checked) (os:=os) (X:=fun w _=>laidMetH Tryd.prog laidL w) false (laidWorld os) #[.agg #[.int .i64 0,.int .i64 0,.slice none 0 0,.slice none 0 0,.int .i64 0,.int .i64 0,.string ⟨#[]⟩,.slice none 0 0,.int .i64 0,.int .i64 0,.string ⟨#[]⟩,.slice none 0 0,.string ⟨#[]⟩,.int .i64 0,.slice none 0 0],.slice none 0 0,.slice none 0 0] 8 rfl (by kernel_rfl) (by kernel_rfl) (by kernel_rfl) (by kernel_rfl) (by kernel_rfl) (laidWorld_met os _)) ?_
 intro W base args ds gs before hval0 hW _ _ hL _
 have hval:∀(j:Nat) t v,Tryd.f3.params[j]? =some t→args[j]? =some v→Value.okWide Tryd.prog W .any base t v:=hval0
 have hW':=hW
 obtain⟨p,q,hA0,hV,rfl,hfz,hnd⟩:=hW
 have hA:DataW.TrodAll enc Tryd.prog W 0 (fun _=>true) true Tryd.f3.params.toList args.toList ds p:=hA0
 rw[Tryd.params3]at hA hval
 obtain⟨v0,vs0,d0,ds0,p0,q0,hargs,rfl,rfl,h0,r0⟩:=trodAll_cons hA
 obtain⟨v1,vs1,d1,ds1,p1,q1,rfl,rfl,rfl,h1,r1⟩:=trodAll_cons r0
 obtain⟨v2,vs2,d2,ds2,p2,q2,rfl,rfl,rfl,h2,r2⟩:=trodAll_cons r1
 obtain⟨rfl,rfl,rfl⟩:=trodAll_nil r2
 obtain rfl:args= #[v0,v1,v2]:=by cases args;simp_all
 obtain⟨rfl,rfl⟩:=trodVars_none hV
 have k0:=h0
 have lt0:∀x∈p0,x.block<W.heap.size:=by obtain⟨m,hm⟩:=k0;exact DataW.trod_lt m _ _ _ hm
 have k1:=h1
 have lt1:∀x∈p1,x.block<W.heap.size:=by obtain⟨m,hm⟩:=k1;exact DataW.trod_lt m _ _ _ hm
 have k2:=h2
 have lt2:∀x∈p2,x.block<W.heap.size:=by obtain⟨m,hm⟩:=k2;exact DataW.trod_lt m _ _ _ hm
 obtain⟨na,ca,ya,rfl,ra⟩:=open_assn (hval 0 30 v0 rfl rfl) h0
 obtain⟨av,mv,cv,xs,rfl,lv,sv⟩:=open_vars (hval 1 31 v1 rfl rfl) h1
 obtain⟨ah,mh,ch,hs,rfl,lh,sh⟩:=open_cells (hval 2 32 v2 rfl rfl) h2
 have hg:=handle_of_laid hL
 clear hA0 hval0
 refine(holdsOwn_any hup na ya ca xs av cv mv hs ah ch mh W lv lh ra sv sh hg).mono fun e W' ⟨he,bel⟩=> ?_
 subst he
 exact⟨_,rfl,_,_,_,[],_,[],hW',trodAll_mk1 (shut_bool Tryd.underlying4 _),(trodAll_cons_mk (Below.trod Tryd.laidOut (by kernel_rfl) (of_decide_eq_true (by kernel_rfl)) k0 bel lt0) (trodAll_cons_mk (Below.trod Tryd.laidOut (by kernel_rfl) (of_decide_eq_true (by kernel_rfl)) k1 bel lt1) (trodAll_cons_mk (Below.trod Tryd.laidOut (by kernel_rfl) (of_decide_eq_true (by kernel_rfl)) k2 bel lt2) trodAll_mk0))),rfl,bel.frame _,fun h=>by cases h⟩
theorem holdsOwn_over (hup:UpSaid18):Rows.HoldsOwnSaid:=
 OpenClaim.holds_of_wide 3 Tryd.f3 rfl rfl rfl rfl rfl rfl rfl ⟨rfl,rfl,rfl,rfl,rfl⟩ rfl rfl rfl rfl rfl (by kernel_rfl) Tryd.func3 (by kernel_rfl)
  (of_decide_eq_true (by kernel_rfl)) (by unfold Func.isWrapper;first | (rw[if_pos (by decide+kernel)];kernel_rfl) | (rw[if_neg (by decide+kernel)];exact⟨rfl,rfl⟩))
  (fun os started H enc _=>holdsOwn_lifted hup os started H enc)
end
end Go.Proofs.YtfinhpfjokpcfaaDoor
