/- Parts of a proof. -/
import Derived.Test.YtipahfcaplbifaaGreatDoorZ05
import Derived.BigRegion
import Derived.Deep.DeepCutAuto
set_option linter.unusedVariables false
set_option linter.unusedSimpArgs false
set_option maxHeartbeats 60000000
set_option maxRecDepth 100000
namespace Go.Proofs.YtipahfcaplbifaaGreatDoor
namespace Prp
open Go.RowKit
theorem begin_any {n:Nat}{cs:List (List Int)}{ls:List Int}{w:World}(hx:Ctx n cs ls)(a:Option Addr)(cap:Nat)(hc:CLies w.heap.size w a cs):
 Calls Tryz.prog 120 #[.int .i64 n,.slice a cs.length cap] w (BeginEnd n cs ls w):=by
 have hn:=hx.hn
 have hm:=hx.hm
 have HX:=Lib.hid hx
 have HCL:=Lib.hid hc
 clear hx hc
 have HEND:Hid (∀p Wd H T S L wr,p.ca=a→Fol w.heap.size n cs.length p wr (fun _=>0) Wd H T S []→Beg n cs cs.length Wd H T S L→Below w.heap.size w wr→BeginEnd n cs ls w (.returned (.pointer (some ⟨p.F,0,none⟩))) wr):=fun p Wd H T S L wr hpa hf hb hbel=>
  ⟨p,Wd,H,T,S,L,rfl,hb.st hf (by rw[hpa];exact HCL.out.below hbel),hb.ones,hbel⟩
 generalize hmm:cs.length=m at hm
 have w1:IntKind.i64.wrap ((n:Int)+1)=(n:Int)+1:=IntWalk.i64_in _ (by omega)
 have m1:=fun W=>run_make_ints W ((n:Int)+1) (n+1) (by omega) (by omega)
 have m2:=fun W=>run_make_ints W (2*(m:Int)) (2*m) (by omega) (by omega)
 have m3:=fun W=>run_make_ints W (2*(n:Int)+2) (2*n+2) (by omega) (by omega)
 have m4:=fun W=>run_make_ints W (m:Int) m (by omega) (by omega)
 go_enter Tryz.func120,Tryz.ntmps120
 go_upto_region 1 with (fail)
 go_cut [5] (fun v wr=>∃F I W H T S,v= .pointer (some ⟨F,0,none⟩)∧Begun w wr a m cap n F I W H T S)
 case first=>
  go_region
  all_goals
   first
   | (go_wp2_with fail
      go_meet
      case rel=>
       refine⟨_,_,_,_,_,_,rfl,⟨six6 _ _ _ _ _ _ _, ?_, ?_, ?_, ?_, ?_, ?_, ?_,six_below _ _ _ _ _ _ _⟩⟩
       any_goals first | exact six1 _ _ _ _ _ _ _ | exact six2 _ _ _ _ _ _ _ | exact six3 _ _ _ _ _ _ _ | exact six4 _ _ _ _ _ _ _ | exact six5 _ _ _ _ _ _ _ | omega)
   | (go_meet
      case rel=>
       refine⟨_,_,_,_,_,_,rfl,⟨six6 _ _ _ _ _ _ _, ?_, ?_, ?_, ?_, ?_, ?_, ?_,six_below _ _ _ _ _ _ _⟩⟩
       any_goals first | exact six1 _ _ _ _ _ _ _ | exact six2 _ _ _ _ _ _ _ | exact six3 _ _ _ _ _ _ _ | exact six4 _ _ _ _ _ _ _ | exact six5 _ _ _ _ _ _ _ | omega)
 case rest=>
  obtain⟨F,I,W,H,T,S,rfl,hb⟩:=hcut
  subst hmm
  have hf0:=hb.fol
  have HF0:=Lib.hid hf0
  have HB0:=Lib.hid hb.b
  have c3:=hf0.c3
  have e0:(⟨F,I,W,H,T,S,a,cap,F,.slice a cs.length cap⟩:FolS).ca=a:=rfl
  have e1:(⟨F,I,W,H,T,S,a,cap,F,.slice a cs.length cap⟩:FolS).F=F:=rfl
  clear hb hf0 m1 m2 m3 m4 w1
  generalize (⟨F,I,W,H,T,S,a,cap,F,.slice a cs.length cap⟩:FolS)=p at HF0 c3 e0 e1
  subst e1
  obtain⟨N2,hN2⟩:∃N2,Hid (2*n+2=N2):=⟨_,rfl⟩
  rw[hN2.out]at c3
  have hN3:N2≤16386:=by have:=hN2.out;omega
  go_wp2_with fail
  clear c3
  go_loopw [36] (fun i wr=>∃k:Nat,k≤N2∧i= .int .i64 k∧Hid (∃H,Fol w.heap.size n cs.length p wr (fun _=>0) (fun _=>0) H (fun _=>0) (fun _=>0) []∧∀i,i<k→H i= -1)∧Hid (Below w.heap.size w wr)) (fun i _=>N2 - (intOf i).toNat)
  case atStart=>exact⟨0,Nat.zero_le _,rfl,⟨_,HF0.out,fun i hi=>absurd hi (Nat.not_lt_zero _)⟩,HB0⟩
  case round=>
   clear HF0 HB0
   obtain⟨k,hk,rfl,hF,hB⟩:=hrel
   by_cases hlt:k<N2
   ·obtain⟨H1,hf,hH⟩:=hF.out
    have hlt3:k<2*n+2:=by rw[hN2.out];exact hlt
    have c3:=hf.c3
    rw[hN2.out]at c3
    have a3:=hf.aH k hlt3
    have f3:=hf.fr _ p.inH k
    have HF1:Hid (∃H,Fol w.heap.size n cs.length p (wr.setCell ⟨p.H,k,none⟩ (.int .i64 (-1))) (fun _=>0) (fun _=>0) H (fun _=>0) (fun _=>0) []∧∀i,i<k+1→H i= -1):=⟨_,hf.setH hlt3 (-1),fun i hi=>by
     by_cases e:i=k
     ·subst e;exact upd_same
     ·rw[upd_ne e];exact hH i (by omega)⟩
    have HB1:=Lib.hid (hB.out.setCell (p:=⟨p.H,k,none⟩) (hf.lo _ p.inH).1 (.int .i64 (-1)))
    have hlt2:(k:Int)<(N2:Int):=by omega
    clear hlt3
    clear hf hH hF hB
    go_wp2_with fail
    go_roundw
    case rel=>exact⟨k+1,by omega,by go_num,HF1,HB1⟩
    case measure=>simp[intOf];omega
   ·obtain rfl:k=N2:=by omega
    have HJ0:Hid (Jbeg w.heap.size n cs p w 0 wr):=by
     obtain⟨H1,hf,hH⟩:=hF.out
     exact⟨_,_,_,_,_,hf,Beg.nil (fun i hi=>hH i (by rw[←hN2.out];exact hi)),hB.out⟩
    clear hF hB
    go_wp2_with fail
    go_loopw [48] (fun i wr=>∃j:Nat,j≤cs.length∧i= .int .i64 j∧Hid (Jbeg w.heap.size n cs p w j wr)) (fun i _=>cs.length - (intOf i).toNat)
    case atStart=>exact⟨0,Nat.zero_le _,rfl,HJ0⟩
    case round=>
     clear HJ0
     obtain⟨j,hj,rfl,hJ⟩:=hrel
     by_cases hjl:j<cs.length
     ·obtain⟨Wd,H1,T1,S1,L,hf,hbg,hbw⟩:=hJ.out
      obtain⟨b,off,ta,tcap,rfl,hblt,cc,cn⟩:=HCL.out j hjl
      rw[←hbw.cell (p:=⟨b,_,none⟩) hblt]at cc
      have hcj:cs[j]? =some (cs.getD j []):=by rw[List.getD_eq_getElem?_getD,List.getElem?_eq_getElem hjl];rfl
      have hmem:cs.getD j []∈cs:=List.mem_of_getElem? hcj
      have hcl:=HX.out.hk _ hmem
      have HFL:=Lib.hid hf
      have HBG:=Lib.hid hbg
      have HBW:=Lib.hid hbw
      have HCN:=Lib.hid cn
      have HCJ:=Lib.hid hcj
      have HIN:=Lib.hid (HX.out.sane.hc _ hmem)
      clear hf hbg hbw cn hcj hmem hJ
      generalize cs.getD j []=c at*
      obtain⟨wo,rfl⟩:∃wo:World,wo=wr:=⟨_,rfl⟩
      have hhd:c.headD 0=c.getD 0 0:=by cases c<;>rfl
      go_wp2_with fail
      clear cc
      go_loopw [9] (fun kk wr=>∃k:Nat,k≤c.length∧kk= .int .i64 k∧Hid (sameTo c k)∧Hid (Below wo.heap.size wo wr)) (fun kk _=>c.length - (intOf kk).toNat)
      case atStart=>exact⟨0,Nat.zero_le _,rfl,fun i hi=>absurd hi (Nat.not_lt_zero _),Below.refl _ _⟩
      case round=>
       obtain⟨k,hk2,rfl,hsm,hb2⟩:=hrel
       have hF2:=HFL.out.below hb2.out.drew
       have HB2:=Lib.hid (HBW.out.trans ((hb2.out.drew).mono HBW.out.size))
       have HB3:Hid (Below wo.heap.size wo wr.drew):=hb2.out.drew
       by_cases hkl:k<c.length
       ·obtain⟨b2,off2,rfl,hb2l,_⟩:=HCN.out k hkl
        have HCE:Hid (∀W,Below w.heap.size w W→∀i,i<c.length→W.cell? ⟨b2,off2+i,none⟩=some (.int .i64 (c.getD i 0))):=fun W hW i hi=>by
         obtain⟨b3,off3,e3,hl3,h3⟩:=HCN.out i hi
         injection e3 with e3
         injection e3 with e31 e32
         subst e31 e32
         exact(hW.cell (p:=⟨b2,_,none⟩) hl3).trans h3
        have n1:wr.cell? ⟨b2,off2+k,none⟩=some (.int .i64 (c.getD k 0)):=HCE.out _ HB2.out k hkl
        have n0:wr.cell? ⟨b2,off2,none⟩=some (.int .i64 (c.headD 0)):=by rw[hhd];exact HCE.out _ HB2.out 0 (by omega)
        by_cases heq:c.getD k 0=c.headD 0
        ·have HSM:Hid (sameTo c (k+1)):=fun i hi=>by
          by_cases e:i=k
          ·subst e;exact heq
          ·exact hsm.out i (by omega)
         rw[heq]at n1
         clear hsm hb2 hF2 HB2 heq hhd HCE
         generalize c.headD 0=y0 at n0 n1
         go_wp2_with fail
         go_region
         all_goals
          go_wp2_with fail
          go_roundw
          case rel=>exact⟨k+1,by omega,by go_num,HSM,HB3⟩
          case measure=>simp[intOf];omega
        ·have hhm:c.headD 0∈c:=by
          cases c with
          | nil=>exact absurd hkl (Nat.not_lt_zero _)
          | cons y r=>exact List.mem_cons_self
         have hkm:c.getD k 0∈c:=by rw[List.getD_eq_getElem?_getD,List.getElem?_eq_getElem hkl];exact List.getElem_mem hkl
         have HFS:Hid (Fol w.heap.size n cs.length p (wr.setCell ⟨p.S,j,none⟩ (.int .i64 ((k:Int)+1))).drew (fun _=>0) Wd H1 T1 (upd S1 j ((k:Int)+1)) []):=hF2.setS hjl _
         have HBS1:Hid (Below w.heap.size w (wr.setCell ⟨p.S,j,none⟩ (.int .i64 ((k:Int)+1))).drew):=HB2.out.setCell (p:=⟨p.S,j,none⟩) (hF2.lo _ p.inS).1 _
         have c5:=hF2.c5
         have a5:=hF2.aS j hjl
         have f5:=hF2.fr _ p.inS j
         have hjl2:(j:Int)<(cs.length:Nat):=by omega
         have HPAIR:=Lib.hid (HBG.out.pair HX.out.sane HCJ.out hkl hsm.out heq)
         have HI0:=Lib.hid (HIN.out _ hhm)
         have HI1:=Lib.hid (HIN.out _ hkm)
         have HC0:Hid (∀W,Below w.heap.size w W→W.cell? ⟨b2,off2,none⟩=some (.int .i64 (c.headD 0))∧W.cell? ⟨b2,off2+k,none⟩=some (.int .i64 (c.getD k 0))):=fun W hW=>⟨by rw[hhd];exact HCE.out _ hW 0 (by omega),HCE.out _ hW k hkl⟩
         clear hsm hb2 hF2 HB2 HB3 hhd HCE hhm hkm
         generalize c.headD 0=y0 at*
         generalize c.getD k 0=yk at*
         have n10:(wr.setCell ⟨p.S,j,none⟩ (.int .i64 ((k:Int)+1))).cell? ⟨b2,off2,none⟩=some (.int .i64 y0):=(HC0.out _ HBS1.out).1
         have hk3:(k:Int)<(c.length:Nat):=by omega
         have HW1:Hid (Calls Tryz.prog 136 #[.pointer (some ⟨p.F,0,none⟩),.int .i64 (2*(j:Int)),.int .i64 y0] (wr.setCell ⟨p.S,j,none⟩ (.int .i64 ((k:Int)+1))).drew fun e w'=>e= .returned (.tuple #[])∧Fol w.heap.size n cs.length p w' (fun _=>0) (upd Wd (2*j) y0) (upd H1 (place y0) (2*j:Nat)) (upd T1 (2*j) (H1 (place y0))) (upd S1 j ((k:Int)+1)) []∧Below w.heap.size (wr.setCell ⟨p.S,j,none⟩ (.int .i64 ((k:Int)+1))).drew w'):=
          watch_any (x:=2*j) HFS.out HI0.out hn (by omega) hm
         clear HFS
         go_wp2_with fail
         go_region
         all_goals
          go_wp2_with fail
          refine HW1.out.mono ?_
          rintro e w11 ⟨rfl,hf11,hb11⟩
          have HB11:Hid (Below w.heap.size w w11):=HBS1.out.trans hb11
          have n11:=(HC0.out _ HB11.out).2
          have HW2:Hid (Calls Tryz.prog 136 #[.pointer (some ⟨p.F,0,none⟩),.int .i64 (2*(j:Int)+1),.int .i64 yk] w11 fun e w'=>e= .returned (.tuple #[])∧Fol w.heap.size n cs.length p w' (fun _=>0) (upd (upd Wd (2*j) y0) (2*j+1) yk) (upd (upd H1 (place y0) (2*j:Nat)) (place yk) (2*j+1:Nat)) (upd (upd T1 (2*j) (H1 (place y0))) (2*j+1) (upd H1 (place y0) (2*j:Nat) (place yk))) (upd S1 j ((k:Int)+1)) []∧Below w.heap.size w11 w'):=
           watch_any (x:=2*j+1) hf11 HI1.out hn (by omega) hm
          clear hf11 hb11 HW1 HBS1 c5 a5 f5 n10 n1 n0
          go_wp2_with fail
          refine HW2.out.mono ?_
          rintro e w12 ⟨rfl,hf12,hb12⟩
          have HJ9:Hid (Jbeg w.heap.size n cs p w (j+1) w12):=by
           obtain⟨L',hL'⟩:=HPAIR.out
           exact⟨_,_,_,_,L',hf12,hL',HB11.out.trans hb12⟩
          clear hf12 hb12 HW2 HPAIR n11
          go_wp2_with fail
          go_roundw
          case rel=>exact⟨j+1,by omega,by go_num,HJ9⟩
          case measure=>simp[intOf];omega
       ·obtain rfl:k=c.length:=by omega
        have HJ9:Hid (Jbeg w.heap.size n cs p w (j+1) (wr.drew.setCell ⟨p.S,j,none⟩ (.int .i64 ((c.length:Int)+1)))):=
         ⟨_,_,_,_,_,hF2.setS hjl _,HBG.out.flat HCJ.out hsm.out,HB2.out.setCell (p:=⟨p.S,j,none⟩) (hF2.lo _ p.inS).1 _⟩
        have c5:=hF2.c5
        have a5:=hF2.aS j hjl
        have f5:=hF2.fr _ p.inS j
        clear hsm hb2 hF2 HB2 hhd
        have hjl2:(j:Int)<(cs.length:Nat):=by omega
        go_wp2_with fail
        go_region
        all_goals
         go_wp2_with fail
         go_roundw
         case rel=>exact⟨j+1,by omega,by go_num,HJ9⟩
         case measure=>simp[intOf];omega
     ·obtain rfl:j=cs.length:=by omega
      have HE:Hid (BeginEnd n cs ls w (.returned (.pointer (some ⟨p.F,0,none⟩))) wr):=by
       obtain⟨Wd,H1,T1,S1,L,hf,hbg,hbw⟩:=hJ.out
       exact HEND.out p Wd H1 T1 S1 L wr e0 hf hbg hbw
      clear hJ
      go_wp2_with fail
      go_ret
      exact HE.out
end Prp
end Go.Proofs.YtipahfcaplbifaaGreatDoor
