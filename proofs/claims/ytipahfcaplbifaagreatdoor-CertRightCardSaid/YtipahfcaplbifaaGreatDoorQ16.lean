/- Parts of a proof. -/
import Derived.Test.YtipahfcaplbifaaGreatDoorQ05
import Derived.Test.YtipahfcaplbifaaGreatDoorQ08
import Derived.Test.YtipahfcaplbifaaGreatDoorQ11
set_option linter.unusedVariables false
set_option linter.unusedSimpArgs false
set_option maxHeartbeats 60000000
set_option maxRecDepth 100000
namespace Go.Proofs.YtipahfcaplbifaaGreatDoor
namespace Prp
open Go.RowKit
theorem bne_dec (a b:Int):(a != b)=decide (a≠b):=by by_cases h:a=b<;>simp[h]
structure Own (b n:Nat)(A:Nat→Int)(w:World):Prop where
 arr:Arr w b (n+1) A
 fr:∀o,w.frozen? ⟨b,o,none⟩=false
 lt:b<w.heap.size
def RFEnd (n:Nat)(cs:List (List Int))(ls:List Int)(B:Nat)(w:World)(e:Ending)(w':World):Prop:=
 Below B w w'∧∃v b A,e= .returned (.tuple #[v,.bool b])∧FollowIs n cs ls b A∧(b=true→v= .slice none 0 0)∧(b=false→∃I,v= .slice (some ⟨I,0,none⟩) (n+1) (n+1)∧B≤I∧I<w'.heap.size∧Arr w' I (n+1) A)
def Jpass (n:Nat)(cs:List (List Int))(ls:List Int)(b B:Nat)(w0:World)(k:Nat)(ch:Value)(wr:World):Prop:=
 ∃A c,ch= .bool c∧k=2*zeros A n+(if c=true then 1 else 0)∧Own b n A wr∧Asg n cs ls A []∧(∀l,l∈ls→va A l=1)∧(c=false→∀x,x∈cs→Quiet A x)∧Below B w0 wr
def Jclause (n:Nat)(cs:List (List Int))(ls:List Int)(b B:Nat)(w0:World)(z0:Nat)(i:Nat)(ch:Value)(wr:World):Prop:=
 ∃A c,ch= .bool c∧Own b n A wr∧Asg n cs ls A []∧(∀l,l∈ls→va A l=1)∧(c=false→zeros A n=z0∧∀j,j<i→Quiet A (cs.getD j []))∧(c=true→zeros A n<z0)∧Below B w0 wr
theorem madeOwn (w:World)(n:Nat):Own w.heap.size n (fun _=>0) (w.alloc (.cells (madeCells #[.int .i64 0] (n+1)) 3)):=by
 have hn:=heap_alloc_new w (.cells (madeCells #[.int .i64 0] (n+1)) 3)
 refine⟨fun i hi=> ?_,fun o=>frozen_of_row _ _ _ _ _ hn,lt_of_some hn⟩
 rw[cell_of_row _ _ _ _ _ _ hn]
 simp[madeCells,hi,Nat.mod_one]
theorem rfollow_any {n:Nat}{cs:List (List Int)}{ls:List Int}(hx:Ctx n cs ls)(a:Option Addr)(m cap:Nat)(a2:Option Addr)(k2 cap2:Nat)(w:World)(hm:cs.length=m)(hl:CLies w.heap.size w a cs)(hk2:ls.length=k2)(hkm2:k2≤9223372036854775807)(hl2:Nums w.heap.size w a2 ls):
  Calls Tryz.prog 67 #[.int .i64 n,.slice a m cap,.slice a2 k2 cap2] w (RFEnd n cs ls w.heap.size w):=by
 have hn:=hx.hn
 have hmm:=hx.hm
 rw[hm]at hmm
 have HX:=Lib.hid hx
 have HL:=Lib.hid hl
 have HM:=Lib.hid hm
 have HL2:=Lib.hid hl2
 have HK2:=Lib.hid hk2
 have hw1:IntKind.i64.wrap ((n:Int)+1)=(n:Int)+1:=IntWalk.i64_in _ (by omega)
 have m1:=fun W=>run_make_ints W ((n:Int)+1) (n+1) (by omega) (by omega)
 have HO:=Lib.hid (madeOwn w n)
 have HB:Hid (Below w.heap.size w (w.alloc (.cells (madeCells #[.int .i64 0] (n+1)) 3))):=(Below.refl _ w).alloc (Nat.le_refl _) _
 have HA0:Hid (Asg n cs ls (fun _=>0) []):=⟨fun _=> .inr (.inl rfl),rfl,fun l _ hv=>by rw[va_zero]at hv;omega,(fun l hl=>by cases hl),List.nodup_nil⟩
 have HCONF:Hid (∀(w':World) (e:Ending),Below w.heap.size w w'→e= .returned (.tuple #[.slice none 0 0,.bool true])→Conf cs ls→RFEnd n cs ls w.heap.size w e w'):=fun w' e hb he hc=>⟨hb,_,true,fun _=>0,he,.conf hc,fun _=>rfl,fun h=>by cases h⟩
 have HSET:=Lib.hid (fun(A:Nat→Int) (W:World) (ho:Own w.heap.size n A W) (ha:Asg n cs ls A []) (l:Int) (hl:inR n l)=>set_any ho.arr ho.fr ho.lt ha.tri hl hn)
 clear hx hl hm hl2 hk2
 go_enter Tryz.func67,Tryz.ntmps67
 go_wp2_with fail
 clear m1
 go_loopw [9] (fun i wr=>∃(k:Nat) (A:Nat→Int),k≤k2∧i= .int .i64 k∧Hid (Own w.heap.size n A wr)∧Hid (Asg n cs ls A [])∧Hid (∀j,j<k→va A (ls.getD j 0)=1)∧Hid (Below w.heap.size w wr)) (fun i _=>k2 - (intOf i).toNat)
 case atStart=>exact⟨0,_,Nat.zero_le _,rfl,HO,HA0,fun j hj=>absurd hj (Nat.not_lt_zero _),HB⟩
 case round=>
  clear HO HA0 HB
  obtain⟨k,A,hk,rfl,hO,hA,hal,hb⟩:=hrel
  by_cases hlt:k<k2
  ·obtain⟨b2,off2,rfl,hb2l,c1⟩:=HL2.out k (by rw[HK2.out];exact hlt)
   have c1:=(hb.out.cell (p:=⟨b2,off2+k,none⟩) hb2l).trans c1
   have hmem:ls.getD k 0∈ls:=getD_mem (by rw[HK2.out];exact hlt)
   have hlr:=HX.out.sane.hl _ hmem
   have HS:=Lib.hid (HSET.out A wr hO.out hA.out _ hlr)
   have HAS:=Lib.hid (fun hv=>hA.out.set hlr hv (.told hmem))
   have HCF:Hid (va A (ls.getD k 0)= -1→Conf cs ls):=fun hv=> .inr ⟨_,.told hmem,hA.out.snd _ hlr.neg (by rw[va_neg hlr.1,hv];decide)⟩
   have HAL:Hid (∀A',Grow A A'→va A' (ls.getD k 0)=1→∀j,j<k+1→va A' (ls.getD j 0)=1):=fun A' hg h1 j hj=>by
    by_cases e:j=k
    ·subst e;exact h1
    ·exact hg _ (HX.out.sane.hl _ (getD_mem (by rw[HK2.out];omega))).1 (hal.out j (by omega))
   have HBB:Hid (∀w',Below w.heap.size wr w'→Below w.heap.size w w'):=fun w' h=>hb.out.trans h
   clear hO hA hal hb hmem hlr
   generalize ls.getD k 0=l at c1 HS HAS HCF HAL
   go_wp2_with fail
   refine HS.out.mono ?_
   rintro e w' ⟨hb',hlt',hf',⟨hv,rfl,harr⟩ | ⟨hv,rfl,harr⟩⟩
   ·have HE:=Lib.hid (HCONF.out w' _ (HBB.out w' hb') rfl (HCF.out hv))
    clear hb' hlt' hf' hv harr HS HAS HCF HAL
    go_wp2_with fail
    go_ret2
    exact HE.out
   ·obtain⟨g1,g2,g3⟩:=HAS.out hv
    have HO2:Hid (Own w.heap.size n (setL A l) w'):=⟨harr,hf',hlt'⟩
    have HA2:=Lib.hid g1
    have HAL2:=Lib.hid (HAL.out _ g3 g2)
    have HB2:=Lib.hid (HBB.out w' hb')
    clear hb' hlt' hf' hv harr HS HAS HCF HAL g1 g2 g3
    go_wp2_with fail
    go_roundw
    case rel=>exact⟨k+1,_,by omega,by go_num,HO2,HA2,HAL2,HB2⟩
    case measure=>simp[intOf];omega
  ·obtain rfl:k=k2:=by omega
   have HJ0:Hid (Jpass n cs ls w.heap.size w.heap.size w (2*zeros A n+1) (.bool true) wr):=⟨A,true,rfl,rfl,hO.out,hA.out,fun l hl=>by
    obtain⟨j,hj,rfl⟩:=List.getElem_of_mem hl
    have:=hal.out j (by rw[←HK2.out];exact hj)
    rwa [List.getD_eq_getElem?_getD,List.getElem?_eq_getElem hj]at this,(fun h=>by cases h),hb.out⟩
   clear hO hA hal hb
   go_wp2_with fail
   go_loopw [11] (fun ch wr=>∃k,Jpass n cs ls w.heap.size w.heap.size w k ch wr) (fun ch wr=>least (fun k=>Jpass n cs ls w.heap.size w.heap.size w k ch wr))
   case atStart=>exact⟨_,HJ0.out⟩
   case round=>
    clear HJ0
    obtain⟨k1,hk1⟩:=hrel
    have hk:=(least_spec (P:=fun k=>Jpass n cs ls w.heap.size w.heap.size w k u11 wr) hk1).1
    generalize hMM:(least fun k=>Jpass n cs ls w.heap.size w.heap.size w k u11 wr)=M at hk⊢
    have HMM:=Lib.hid hMM
    clear hk1 k1 hMM
    obtain⟨A1,c,rfl,hM,hO,hA,hls,hq,hb⟩:=hk
    cases c with
    | false=>
      have HE:Hid (RFEnd n cs ls w.heap.size w (.returned (.tuple #[.slice (some ⟨w.heap.size,0,none⟩) (n+1) (n+1),.bool false])) wr):=
       ⟨hb,_,false,A1,rfl,quiet_ends HX.out.sane hA hls (hq rfl),(fun h=>by cases h),fun _=>⟨w.heap.size,rfl,Nat.le_refl _,hO.lt,hO.arr⟩⟩
      clear hM hO hA hls hq hb HMM
      go_wp2_with fail
      go_ret2
      exact HE.out
    | true=>
      rw[if_pos rfl]at hM
      have HM1:=Lib.hid hM
      have HJC:Hid (Jclause n cs ls w.heap.size w.heap.size w (zeros A1 n) 0 (.bool false) wr):=⟨A1,false,rfl,hO,hA,hls,fun _=>⟨rfl,fun j hj=>absurd hj (Nat.not_lt_zero _)⟩,(fun h=>by cases h),hb⟩
      clear hM hO hA hls hq hb
      generalize zeros A1 n=z0 at HM1 HJC
      go_wp2_with fail
      go_loopw [11,12] (fun ch i wr=>∃j:Nat,j≤m∧i= .int .i64 j∧Hid (Jclause n cs ls w.heap.size w.heap.size w z0 j ch wr)) (fun _ i _=>m - (intOf i).toNat)
      case atStart=>exact⟨0,Nat.zero_le _,rfl,HJC⟩
      case round=>
       clear HJC
       obtain⟨j,hj,rfl,hJ⟩:=hrel
       by_cases hjl:j<m
       ·obtain⟨A1,ch,rfl,hO,hA,hls,hf,ht,hb⟩:=hJ.out
        obtain⟨wo,rfl⟩:∃wo:World,wo=wr:=⟨_,rfl⟩
        obtain⟨b2,off2,ta,tcap,rfl,hblt,cc,cn⟩:=HL.out j (by rw[HM.out];exact hjl)
        have cc:=(hb.cell (p:=⟨b2,off2+j,none⟩) hblt).trans cc
        have HCN:Hid (Nums w.heap.size wo ta (cs.getD j [])):=cn.below hb
        have hcj:cs[j]? =some (cs.getD j []):=by rw[List.getD_eq_getElem?_getD,List.getElem?_eq_getElem (by rw[HM.out];exact hjl)];rfl
        have hmem:cs.getD j []∈cs:=List.mem_of_getElem? hcj
        have hcl:=HX.out.hk _ hmem
        have HIN:=Lib.hid (HX.out.sane.hc _ hmem)
        have HOF:=Lib.hid (fun l (hl:inR n l)=>of_any hO.arr hA.tri hl hn)
        have HTRI:=Lib.hid (va_tri hA.tri)
        have hz:zeros A1 n≤z0:=by
         cases ch
         ·exact Nat.le_of_eq (hf rfl).1
         ·exact Nat.le_of_lt (ht rfl)
        have HSC:Hid (∀q,q≤(cs.getD j []).length→ScanIs A1 (cs.getD j []) q (scanA A1 (cs.getD j []) q)):=fun q hq=>scan_is A1 _ (fun i hi=>(HX.out.sane.hc _ hmem _ (getD_mem hi)).1) q hq
        have HQ:Hid (Quiet A1 (cs.getD j [])→Jclause n cs ls w.heap.size w.heap.size w z0 (j+1) (.bool ch) wo):=fun hq=>⟨A1,ch,rfl,hO,hA,hls,fun h=>⟨(hf h).1,fun i hi=>by
         by_cases e:i=j
         ·subst e;exact hq
         ·exact(hf h).2 i (by omega)⟩,ht,hb⟩
        have HSETJ:Hid (∀(l:Int) (w':World),inR n l→va A1 l=0→Der cs ls l→Below w.heap.size wo w'→Own w.heap.size n (setL A1 l) w'→Jclause n cs ls w.heap.size w.heap.size w z0 (j+1) (.bool true) w'):=fun l w' hl hv hd hb' ho=>by
         obtain⟨g1,g2,g3⟩:=hA.set hl (by rw[hv];decide) hd
         exact⟨setL A1 l,true,rfl,ho,g1,fun x hx=>g3 x (HX.out.sane.hl x hx).1 (hls x hx),(fun h=>by cases h),fun _=>by have:=zeros_make hl hv;omega,hb.trans hb'⟩
        have HST:=Lib.hid (fun l (hl:inR n l)=>HSET.out A1 wo hO hA l hl)
        have HCF:Hid (∀(w':World) (e:Ending),Below w.heap.size wo w'→e= .returned (.tuple #[.slice none 0 0,.bool true])→Conf cs ls→RFEnd n cs ls w.heap.size w e w'):=fun w' e hb' he hc=>HCONF.out w' e (hb.trans hb') he hc
        have HSQ:=Lib.hid (fun h=>scan_quiet (A:=A1) (c:=cs.getD j []) (HSC.out _ (Nat.le_refl _)) h)
        have HSCF:=Lib.hid (fun ht hm ho=>scan_conf (c:=cs.getD j []) HX.out.sane hA hmem (HSC.out _ (Nat.le_refl _)) ht hm ho)
        have HSD:=Lib.hid (fun ht hm ho=>scan_der (c:=cs.getD j []) HX.out.sane hA hmem (HSC.out _ (Nat.le_refl _)) ht hm ho)
        clear hO hA hls hf ht hb hJ cn hcj hmem hz HSC HSET HCONF
        generalize cs.getD j []=c at*
        go_wp2_with fail
        go_loop [13,14,15,16] (fun t o m k=>∃q:Nat,q≤c.length∧k= .int .i64 q∧t= .bool (scanA A1 c q).1∧o= .int .i64 (scanA A1 c q).2.1∧m= .bool (scanA A1 c q).2.2) (fun _ _ _ k=>c.length - (intOf k).toNat)
        case atStart=>exact⟨0,Nat.zero_le _,rfl,rfl,rfl,rfl⟩
        case round=>
         obtain⟨q,hq,rfl,rfl,rfl,rfl⟩:=hrel
         by_cases hql:q<c.length
         ·obtain⟨b3,off3,rfl,hb3,n1⟩:=HCN.out q hql
          have hin:=HIN.out _ (getD_mem hql)
          have HC:=Lib.hid (HOF.out _ hin)
          have HT:=HTRI.out (c.getD q 0)
          have HE:Hid (scanA A1 c (q+1)=((scanA A1 c q).1 || decide (va A1 (c.getD q 0)=1),if va A1 (c.getD q 0)=0 then c.getD q 0 else(scanA A1 c q).2.1,if va A1 (c.getD q 0)=0 then((scanA A1 c q).2.2 || (decide ((scanA A1 c q).2.1≠0) && decide ((scanA A1 c q).2.1≠c.getD q 0))) else(scanA A1 c q).2.2)):=rfl
          have hl0:=hin.1
          clear hin
          generalize scanA A1 c q=s at HE
          obtain⟨t,o,mm⟩:=s
          simp only at HE
          generalize c.getD q 0=l at n1 HC HT HE hl0
          generalize va A1 l=v at HC HT HE
          rcases HT with rfl | rfl | rfl
          ·cases t
           all_goals
            go_wp2_with fail
            refine HC.out.mono ?_
            rintro e w' ⟨rfl,rfl⟩
            go_wp2_with fail
            go_round
            case rel=>exact⟨q+1,by omega,by go_num,by rw[HE.out];first | rfl | simp,by rw[HE.out];first | rfl | simp,by rw[HE.out];first | rfl | simp⟩
            case measure=>simp[intOf];omega
          ·cases t<;>cases mm<;>by_cases ho:o=0
           all_goals
            first
            | (by_cases hol:o=l
               all_goals
                have hb1:=bne_dec o l
                have hb0:=bne_dec o 0
                go_wp2_with fail
                refine HC.out.mono ?_
                rintro e w' ⟨rfl,rfl⟩
                go_wp2_with fail
                go_round
                case rel=>exact⟨q+1,by omega,by go_num,by rw[HE.out];first | rfl | simp,by rw[HE.out];first | rfl | simp,by rw[HE.out];first | rfl | simp[ho,hol]⟩
                case measure=>simp[intOf];omega)
          ·cases t
           all_goals
            go_wp2_with fail
            refine HC.out.mono ?_
            rintro e w' ⟨rfl,rfl⟩
            go_wp2_with fail
            go_round
            case rel=>exact⟨q+1,by omega,by go_num,by rw[HE.out];first | rfl | simp,by rw[HE.out];first | rfl | simp,by rw[HE.out];first | rfl | simp⟩
            case measure=>simp[intOf];omega
         ·obtain rfl:q=c.length:=by omega
          generalize scanA A1 c c.length=s at HSQ HSCF HSD
          obtain⟨t,o,mm⟩:=s
          simp only at HSQ HSCF HSD
          clear HCN HIN HOF HTRI
          cases t with
          | true=>
            have HJ9:=Lib.hid (HQ.out (HSQ.out (.inl rfl)))
            clear HSQ HSCF HSD HQ HSETJ HST HCF
            go_wp2_with fail
            go_roundw
            case rel=>exact⟨j+1,by omega,by go_num,HJ9⟩
            case measure=>simp[intOf];omega
          | false=>
            cases mm with
            | true=>
              have HJ9:=Lib.hid (HQ.out (HSQ.out (.inr rfl)))
              clear HSQ HSCF HSD HQ HSETJ HST HCF
              go_wp2_with fail
              go_roundw
              case rel=>exact⟨j+1,by omega,by go_num,HJ9⟩
              case measure=>simp[intOf];omega
            | false=>
              by_cases ho:o=0
              ·have HE9:=Lib.hid (HCF.out wo _ (Below.refl _ _) rfl (HSCF.out rfl rfl ho))
               subst ho
               clear HSQ HSCF HSD HQ HSETJ HST HCF
               go_wp2_with fail
               go_ret2
               exact HE9.out
              ·obtain⟨d1,d2,d3⟩:=HSD.out rfl rfl ho
               have hob:(o == 0)=false:=by simp[ho]
               have HC9:=Lib.hid (HST.out o d3)
               have HJ8:=Lib.hid (fun w' hb ho=>HSETJ.out o w' d3 d2 d1 hb ho)
               have hv0:=d2
               clear HSQ HSCF HSD HQ HSETJ HST HCF d1 d2 d3
               go_wp2_with fail
               refine HC9.out.mono ?_
               rintro e w' ⟨hb',hlt',hf',⟨hv,rfl,harr⟩ | ⟨hv,rfl,harr⟩⟩
               ·rw[hv0]at hv;cases hv
               ·have HJ9:=Lib.hid (HJ8.out w' hb' ⟨harr,hf',hlt'⟩)
                clear hb' hlt' hf' hv harr HJ8 HC9
                go_wp2_with fail
                go_roundw
                case rel=>exact⟨j+1,by omega,by go_num,HJ9⟩
                case measure=>simp[intOf];omega
       ·obtain rfl:j=m:=by omega
        obtain⟨A1,ch,rfl,hO,hA,hls,hf,ht,hb⟩:=hJ.out
        have HJP:Hid (∃k,k<M∧Jpass n cs ls w.heap.size w.heap.size w k (.bool ch) wr):=by
         cases ch with
         | false=>
           obtain⟨f1,f2⟩:=hf rfl
           refine⟨2*zeros A1 n+0,by rw[HM1.out,f1];omega,A1,false,rfl,rfl,hO,hA,hls,fun _ x hx=> ?_,hb⟩
           obtain⟨i,hi,rfl⟩:=List.getElem_of_mem hx
           have:=f2 i (by rw[←HM.out];exact hi)
           rwa [List.getD_eq_getElem?_getD,List.getElem?_eq_getElem hi]at this
         | true=>
           have:=ht rfl
           exact⟨2*zeros A1 n+1,by rw[HM1.out];omega,A1,true,rfl,rfl,hO,hA,hls,(fun h=>by cases h),hb⟩
        clear hO hA hls hf ht hb hJ
        go_wp2_with fail
        go_roundw
        case rel=>
         obtain⟨k,_,hk⟩:=HJP.out
         exact⟨k,hk⟩
        case measure=>
         obtain⟨k,hlt9,hk⟩:=HJP.out
         exact Nat.lt_of_le_of_lt (least_spec (P:=fun k=>Jpass n cs ls w.heap.size w.heap.size w k (.bool ch) wr) hk).2 (by rw[HMM.out];exact hlt9)
end Prp
end Go.Proofs.YtipahfcaplbifaaGreatDoor
