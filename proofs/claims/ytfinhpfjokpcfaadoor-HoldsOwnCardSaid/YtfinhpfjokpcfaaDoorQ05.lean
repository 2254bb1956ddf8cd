/- Parts of a proof. -/
import Derived.Test.YtfinhpfjokpcfaaDoorQ03
import Derived.Deep.DeepCutAuto
set_option linter.unusedVariables false
set_option linter.unusedSimpArgs false
set_option maxHeartbeats 60000000
set_option maxRecDepth 100000
namespace Go.Proofs.YtfinhpfjokpcfaaDoor
section
open Go.RowKit
structure Ends (a m b mid N s0 r0:Nat):Prop where
 sum:mid+m=N
 lo:a≤s0∧s0≤r0∧r0≤m∧r0≤mid
 far:N≤b+s0
 near:m+r0≤N
 left:s0=a∨N=b+s0
 right:r0=m∨N=m+r0
theorem ends_one {a m b mid N:Nat}(ham:a<m)(hmb:m<b)(hm:(a+b) / 2=mid)(hN:mid+m=N)(h:mid<m):Ends a m b mid N (N - b) mid:=
 ⟨hN,⟨by omega,by omega,by omega,Nat.le_refl _⟩,by omega,by omega,.inr (by omega),.inr (by omega)⟩
theorem ends_two {a m b mid N:Nat}(ham:a<m)(hmb:m<b)(hm:(a+b) / 2=mid)(hN:mid+m=N)(h:¬mid<m):Ends a m b mid N a m:=
 ⟨hN,⟨Nat.le_refl _,by omega,Nat.le_refl _,by omega⟩,by omega,by omega,.inl rfl,.inl rfl⟩
def Srch (xs:List HC)(N s0 r0 p q:Nat):Prop:=s0≤p∧p≤q∧q≤r0∧(s0<p→le (at' xs (p - 1)) (at' xs (N - p)))∧(q<r0→le (at' xs (N - 1 - q)) (at' xs q))
theorem Srch.cross {xs ys:List HC}{a m b mid N s0 r0 s:Nat}(he:Ends a m b mid N s0 r0)(h:Srch xs N s0 r0 s s)(h1:SortedSeg xs a m)(h2:SortedSeg xs m b)(hm:Mov xs ys (rotI s m (N - s))):Cross ys a s mid (N - s) b:=by
 obtain⟨e1,e2,e3,e4,e5,e6⟩:=he
 obtain⟨i1,_,i2,i3,i4⟩:=h
 have:=cross_of (xs:=xs) (ys:=ys) (a:=a) (s:=s) (m:=m) (e:=N - s) (b:=b) h1 h2 (by omega) (by omega) (by omega) (by omega) (fun k1 k2=>i3 (by omega)) (fun k1 k2=>by
  have:=i4 (by omega)
  rw[show N - s - 1=N - 1 - s by omega]
  exact this) hm
 rw[show s+(N - s - m)=mid by omega]at this
 exact this
theorem symm_big (B g n cap:Nat)(xs:List HC)(a m b:Nat)(w:World)(h:RowAt B g n cap xs w)(ham:a+1<m)(hmb:m+1<b)(hbn:b≤n)(hn:n≤200)(hs1:SortedSeg xs a m)(hs2:SortedSeg xs m b)(hrec:SymSaid B g n cap (b - a)):
 Calls Tryd.prog 47 #[.slice (some ⟨g,0,none⟩) n cap,.int .i64 a,.int .i64 m,.int .i64 b,.func (.func 22) #[] #[]] w (SegEnd B g n cap xs a b w):=by
 have HH:=Lib.hid h
 have HS1:=Lib.hid hs1
 have HS2:=Lib.hid hs2
 have HJ:=Lib.hid (fun x y W=>jcmp_any x y W)
 have HREC:=Lib.hid hrec
 have HROT:=Lib.hid (fun s e W h h1 h2 h3 h4=>rotate_any B g n cap xs s m e W h h1 h2 h3 h4)
 clear h hs1 hs2 hrec
 have ha1:a<1000:=by omega
 have hm1:m<1000:=by omega
 have hb1:b<1000:=by omega
 have hne1:((m:Int) - (a:Int) == 1)=false:=by rw[beq_eq_false_iff_ne];omega
 have hne2:((b:Int) - (m:Int) == 1)=false:=by rw[beq_eq_false_iff_ne];omega
 have hsb1:IntKind.i64.wrap ((m:Int) - (a:Int))=(m:Int) - (a:Int):=IntWalk.i64_in _ (by omega)
 have hsb2:IntKind.i64.wrap ((b:Int) - (m:Int))=(b:Int) - (m:Int):=IntWalk.i64_in _ (by omega)
 obtain⟨mid,hmid⟩:∃mid,(a+b) / 2=mid:=⟨_,rfl⟩
 obtain⟨N,hN⟩:∃N,mid+m=N:=⟨_,rfl⟩
 have hmidi:((a:Int)+(b:Int)) / 2=(mid:Int):=by omega
 have hNi:(mid:Int)+(m:Int)=(N:Int):=by omega
 have hsb3:IntKind.i64.wrap ((a:Int)+(b:Int))=(a:Int)+(b:Int):=IntWalk.i64_in _ (by omega)
 have hsb4:IntKind.i64.wrap (N:Int)=(N:Int):=IntWalk.i64_in _ (by omega)
 have HE1:Hid (mid<m→Ends a m b mid N (N - b) mid):=fun h=>ends_one (by omega) (by omega) hmid hN h
 have HE2:Hid (¬mid<m→Ends a m b mid N a m):=fun h=>ends_two (by omega) (by omega) hmid hN h
 have HF:Hid (a+1<m∧m+1<b∧b≤n∧n≤200∧(a+b) / 2=mid∧mid+m=N):=⟨ham,hmb,hbn,hn,hmid,hN⟩
 clear hmid hN
 go_enter Tryd.func47,Tryd.ntmps47
 go_upto_if 140 with (fail)
 clear hne1 hne2 hsb1 hsb2 hmidi hNi hsb3 hsb4 ham hmb hbn hn
 go_cut [20,21] (fun vs vr wx=>w=wx∧∃s0 r0,vs= .int .i64 (s0:Nat)∧vr= .int .i64 (r0:Nat)∧Hid (Ends a m b mid N s0 r0))
 case first=>
  by_cases hc:mid<m
  ·have hci:(mid:Int)<(m:Int):=by omega
   have hsub:(N:Int) - (b:Int)=((N - b:Nat):Int):=by have:=(HE1.out hc).far;have:=(HE1.out hc).left;have:=HF.out;omega
   have hsb5:IntKind.i64.wrap ((N - b:Nat):Int)=((N - b:Nat):Int):=IntWalk.i64_in _ (by have:=HF.out;omega)
   go_wp2_with fail
   go_meet
   case rel=>exact⟨rfl,N - b,mid,rfl,rfl,HE1.out hc⟩
  ·have hci:¬(mid:Int)<(m:Int):=by omega
   go_wp2_with fail
   go_meet
   case rel=>exact⟨rfl,a,m,rfl,rfl,HE2.out hc⟩
 case rest=>
  obtain⟨rfl,s0,r0,rfl,rfl,HEN⟩:=hcut
  clear HE1 HE2
  obtain⟨P,hP⟩:∃P,N - 1=P:=⟨_,rfl⟩
  have HEF:=HEN.out
  have HFF:=HF.out
  have hPi:(N:Int) - 1=(P:Int):=by obtain⟨e1,e2,e3,e4,e5,e6⟩:=HEF;omega
  have hP1:P<1000:=by omega
  have hmid1:mid<1000:=by omega
  have hN1:N<1000:=by omega
  have hs01:s0<1000:=by obtain⟨e1,e2,e3,e4,e5,e6⟩:=HEF;omega
  have hr01:r0<1000:=by obtain⟨e1,e2,e3,e4,e5,e6⟩:=HEF;omega
  have HP:Hid (N - 1=P):=hP
  clear hP HEF HFF
  have hi1:∀k:Nat,k<1000→IntKind.i64.wrap ((k:Int)+1)=(k:Int)+1:=fun k h=>(ifacts k h).2.2.2.2.1
  have hi3:∀k:Nat,k<1000→IntKind.i64.wrap (k:Int)=(k:Int):=fun k h=>(ifacts k h).2.2.1
  go_wp2_with fail
  clear hPi
  have hwa:=wrap_add
  go_loopw [20,21] (fun vi vj wr=>∃(p q:Nat),vi= .int .i64 p∧vj= .int .i64 q∧p<1000∧q<1000∧Hid (Srch xs N s0 r0 p q)∧Hid (RowAt B g n cap xs wr∧Below B w wr)) (fun vi vj _=>(intOf vj - intOf vi).toNat)
  case atStart=>exact⟨s0,r0,rfl,rfl,hs01,hr01,⟨Nat.le_refl _,HEN.out.lo.2.1,Nat.le_refl _,fun h=>absurd h (Nat.lt_irrefl _),fun h=>absurd h (Nat.lt_irrefl _)⟩,HH.out,Below.refl _ _⟩
  case round=>
   obtain⟨p,q,rfl,rfl,hp1,hq1,hpq,hrel⟩:=hrel
   by_cases hlt:p<q
   ·as_aux_lemma=>
     have hlti:(p:Int)<(q:Int):=by omega
     obtain⟨h,hh⟩:∃h,(p+q) / 2=h:=⟨_,rfl⟩
     have hhi:((p:Int)+(q:Int)) / 2=(h:Int):=by omega
     have HHB:Hid (p≤h∧h<q):=⟨by omega,by omega⟩
     have HU:Hid (h≤P∧P - h<b∧P - h<n∧h<n):=by
      obtain⟨e1,e2,e3,e4,e5,e6⟩:=HEN.out
      obtain⟨i1,i2,i3,i4⟩:=hpq.out
      have:=HF.out
      have:=HP.out
      have:=HHB.out
      exact⟨by omega,by omega,by omega,by omega⟩
     obtain⟨u,hu⟩:∃u,P - h=u:=⟨_,rfl⟩
     have hui:(P:Int) - (h:Int)=(u:Int):=by have:=HU.out;omega
     have HUE:Hid (P - h=u):=hu
     have hu1:u<1000:=by omega
     have hh1:h<1000:=by omega
     have hhn:h<n:=HU.out.2.2.2
     have hun:u<n:=by have:=HU.out;omega
     have hhni:(h:Int)<(n:Int):=by omega
     have huni:(u:Int)<(n:Int):=by omega
     have hh0:¬(h:Int)<0:=by omega
     have hu0:¬(u:Int)<0:=by omega
     clear hh hu
     obtain⟨c1,c2,c3⟩:=hrel.out.1.cells (i:=u) hun
     obtain⟨d1,d2,d3⟩:=hrel.out.1.cells (i:=h) hhn
     have HC:Hid (∀W,Calls Tryd.prog 22 #[.agg #[.int .i64 (at' xs u).a,.string (at' xs u).f,.int .i64 (at' xs u).v],.agg #[.int .i64 (at' xs h).a,.string (at' xs h).f,.int .i64 (at' xs h).v]] W fun e w'=>e= .returned (.int .i64 (ordK (hkey (at' xs u)) (hkey (at' xs h))))∧Below W.heap.size W w'):=HJ.out _ _
     have HGE:Hid (¬ordK (hkey (at' xs u)) (hkey (at' xs h))<0→Srch xs N s0 r0 (h+1) q):=fun ho=>by
      obtain⟨i1,i2,i3,i4,i5⟩:=hpq.out
      have h2:=HHB.out
      have h3:=HUE.out
      have h4:=HP.out
      exact⟨by omega,by omega,i3,fun _=>by rw[show N - (h+1)=u by omega];exact fun hk=>ho (ordK_lt.2 hk),i5⟩
     have HLT:Hid (ordK (hkey (at' xs u)) (hkey (at' xs h))<0→Srch xs N s0 r0 p h):=fun ho=>by
      obtain⟨i1,i2,i3,i4,i5⟩:=hpq.out
      have h2:=HHB.out
      have h3:=HUE.out
      have h4:=HP.out
      exact⟨i1,by omega,by omega,i4,fun _=>by rw[show N - 1 - h=u by omega];exact le_of_lt (ordK_lt.1 ho)⟩
     have HRB:=Lib.hid (fun d os=>(⟨hrel.out.1.below (below_regrown wr d os),regrown_trV hrel.out.2 (Nat.le_of_lt (Nat.lt_of_le_of_lt hrel.out.1.low.1 hrel.out.1.low.2)) d os⟩:RowAt B g n cap xs (Go.Sort.grow (redrawn wr d) os)∧Below B w (Go.Sort.grow (redrawn wr d) os)))
     clear hrel HH HS1 HS2 HJ HREC HROT HUE hpq HEN HU
     generalize ordK (hkey (at' xs u)) (hkey (at' xs h))=o at HC HLT HGE
     generalize at' xs u=x at c1 c2 c3 HC
     generalize at' xs h=y at d1 d2 d3 HC
     obtain⟨xa,xf,xv⟩:=x
     obtain⟨ya,yf,yv⟩:=y
     simp only at c1 c2 c3 d1 d2 d3
     have cJ:=fun d os=>Calls.regrown_of (HC.out (Go.Sort.grow (redrawn wr d) os))
     have r1:=fun d os=>cell_regrown c1 d os
     have r2:=fun d os=>cell_regrown c2 d os
     have r3:=fun d os=>cell_regrown c3 d os
     have r4:=fun d os=>cell_regrown d1 d os
     have r5:=fun d os=>cell_regrown d2 d os
     have r6:=fun d os=>cell_regrown d3 d os
     go_wp2_with fail
     refine wp_region_quiet_below (by kernel_rfl) (by kernel_rfl) ?_
     repeat (go_big_quiet_step (with_reducible exact cJ _ _))
     refine wpQuiet_nil ?_
     intro _ hw'
     obtain⟨⟨dq,osq⟩,hw''⟩:=hw'
     subst hw''
     have HRB:=Lib.hid (HRB.out dq osq)
     clear r1 r2 r3 r4 r5 r6 c1 c2 c3 d1 d2 d3 cJ HC
     by_cases ho:o<0
     ·have HL2:=Lib.hid (HLT.out ho)
      have hob:(!decide (o<0))=false:=by rw[decide_eq_true (show o<0 by omega)];rfl
      clear HLT HGE
      generalize Go.Sort.grow (redrawn wr dq) osq=W0 at HRB⊢
      go_wp2_with fail
      all_goals try (exfalso;rename_i hd;rw[hob]at hd;exact Bool.noConfusion hd)
      clear hi1 hi3 hwa
      go_roundw
      case rel=>exact⟨p,h,rfl,rfl,hp1,hh1,HL2,HRB⟩
      case measure=>have:=HHB.out;simp[intOf];omega
     ·have HL2:=Lib.hid (HGE.out (by first | exact ho | omega))
      have hob:(!decide (o<0))=true:=by rw[decide_eq_false (show ¬o<0 by omega)];rfl
      clear HLT HGE
      generalize Go.Sort.grow (redrawn wr dq) osq=W0 at HRB⊢
      go_wp2_with fail
      all_goals try (exfalso;rename_i hd;rw[hob]at hd;exact Bool.noConfusion hd)
      clear hi1 hi3 hwa
      go_roundw
      case rel=>exact⟨h+1,q,by go_num,rfl,by have:=HHB.out;omega,hq1,HL2,HRB⟩
      case measure=>have:=HHB.out;simp[intOf];omega
   ·have hlti:¬(p:Int)<(q:Int):=by omega
    have hqp:q=p:=by have:=hpq.out.2.1;omega
    have HSR:Hid (Srch xs N s0 r0 p p):=by have:=hpq.out;rw[hqp]at this;exact this
    clear hpq hqp
    obtain⟨e,he⟩:∃e,N - p=e:=⟨_,rfl⟩
    have HEE:Hid (N - p=e∧p≤N∧a≤p∧p≤m∧m≤e∧e≤b∧p≤mid∧mid≤e∧mid<b∧a<mid):=by
     obtain⟨e1,e2,e3,e4,e5,e6⟩:=HEN.out
     obtain⟨i1,i2,i3,i4⟩:=HSR.out
     have:=HF.out
     exact⟨he,by omega,by omega,by omega,by omega,by omega,by omega,by omega,by omega,by omega⟩
    have hei:(N:Int) - (p:Int)=(e:Int):=by have:=HEE.out;omega
    have he1:e<1000:=by omega
    have HCR:Hid (∀ys,Mov xs ys (rotI p m e)→Cross ys a p mid e b):=fun ys hm=>by
     have h1:=HEE.out.1
     have:=HSR.out.cross (ys:=ys) HEN.out HS1.out HS2.out (by rw[h1];exact hm)
     rw[h1]at this
     exact this
    clear he HEN HSR HS1 HS2
    obtain⟨wo,rfl⟩:∃wo:World,wo=wr:=⟨_,rfl⟩
    go_upto_region 39 with (fail)
    clear hei hi1
    obtain⟨bR,hbR⟩:∃x:Bool,x=decide (p<m∧m<e):=⟨_,rfl⟩
    have HbR:=Lib.hid hbR
    clear hbR
    go_cut [185] (fun c wx=>c= .bool bR∧wo=wx)
    case first=>
     by_cases k1:(p:Int)<(m:Int)
     all_goals by_cases k2:(m:Int)<(e:Int)
     all_goals
      go_wp2_with fail
      go_meet
      case rel=>
       refine⟨?_,rfl⟩
       rw[HbR.out]
       first | rw[decide_eq_true (by omega)] | rw[decide_eq_false (by omega)]
    case rest=>
     as_aux_lemma=>
      obtain⟨rfl,rfl⟩:=hcut
      have HRW:=Lib.hid hrel
      clear hrel
      go_upto_if 185 with (fail)
      go_cut [24] (fun v wx=>v= .int .i64 e∧∃ys,Hid (RowAt B g n cap ys wx∧Seg xs ys a b∧Below B w wx∧Cross ys a p mid e b))
      case first=>
       cases bR
       ·have HNO:Hid (Cross xs a p mid e b):=by
         have h1:=HbR.out
         have h2:=HEE.out
         have h3:¬(p<m∧m<e):=of_decide_eq_false h1.symm
         exact HCR.out xs (Mov.none (by omega) (by omega) (by omega))
        go_wp2_with fail
        go_meet
        case rel=>exact⟨rfl,xs,HRW.out.out.1,Seg.refl _ _ _,HRW.out.out.2,HNO.out⟩
       ·have HC:Hid (Calls Tryd.prog 73 #[.slice (some ⟨g,0,none⟩) n cap,.int .i64 p,.int .i64 m,.int .i64 e,.func (.func 22) #[] #[]] wo (MovEnd B g n cap xs (rotI p m e) p e wo)):=by
         have h1:=HbR.out
         have h2:=HEE.out
         have h4:=HF.out
         have h3:p<m∧m<e:=of_decide_eq_true h1.symm
         exact HROT.out p e wo HRW.out.out.1 h3.1 h3.2 (by omega) (by omega)
        go_wp2_with fail
        refine HC.out.mono ?_
        rintro e5 w5 ⟨rfl,ys,t1,t2,t3,t4⟩
        have HFIN:Hid (RowAt B g n cap ys w5∧Seg xs ys a b∧Below B w w5∧Cross ys a p mid e b):=⟨t1,t2.mono HEE.out.2.2.1 HEE.out.2.2.2.2.2.1,HRW.out.out.2.trans t4,HCR.out ys t3⟩
        clear t1 t2 t3 t4 HC
        go_wp2_with fail
        go_meet
        case rel=>exact⟨rfl,ys,HFIN⟩
      case rest=>
       as_aux_lemma=>
        obtain⟨rfl,ys,HY⟩:=hcut
        clear HbR HCR HRW HROT
        obtain⟨wy,rfl⟩:∃wy:World,wy=wc:=⟨_,rfl⟩
        go_upto_region 41 with (fail)
        obtain⟨bL,hbL⟩:∃x:Bool,x=decide (a<p∧p<mid):=⟨_,rfl⟩
        have HbL:=Lib.hid hbL
        clear hbL
        go_cut [199] (fun c wx=>c= .bool bL∧wy=wx)
        case first=>
         by_cases k1:(a:Int)<(p:Int)
         all_goals by_cases k2:(p:Int)<(mid:Int)
         all_goals
          go_wp2_with fail
          go_meet
          case rel=>
           refine⟨?_,rfl⟩
           rw[HbL.out]
           first | rw[decide_eq_true (by omega)] | rw[decide_eq_false (by omega)]
        case rest=>
         as_aux_lemma=>
          obtain⟨rfl,rfl⟩:=hcut
          go_upto_if 199 with (fail)
          go_cut [24] (fun v wx=>v= .int .i64 e∧∃zs,Hid (RowAt B g n cap zs wx∧Seg ys zs a mid∧SortedSeg zs a mid∧Below B w wx))
          case first=>
           cases bL
           ·have HNO:Hid (SortedSeg ys a mid):=by
             have h2:=HEE.out
             exact HY.out.2.2.2.lo (of_decide_eq_false HbL.out.symm) (by omega) (by omega)
            go_wp2_with fail
            go_meet
            case rel=>exact⟨rfl,ys,HY.out.1,Seg.refl _ _ _,HNO.out,HY.out.2.2.1⟩
           ·have HC:Hid (Calls Tryd.prog 47 #[.slice (some ⟨g,0,none⟩) n cap,.int .i64 a,.int .i64 p,.int .i64 mid,.func (.func 22) #[] #[]] wy (SegEnd B g n cap ys a mid wy)):=by
             have h2:=HEE.out
             have h4:=HF.out
             have h3:a<p∧p<mid:=of_decide_eq_true HbL.out.symm
             exact HREC.out ys a p mid wy (by omega) HY.out.1 h3.1 h3.2 (by omega) HY.out.2.2.2.s1 HY.out.2.2.2.s2
            go_wp2_with fail
            refine HC.out.mono ?_
            rintro e5 w5 ⟨rfl,zs,t1,t2,t3,t4⟩
            have HFIN:Hid (RowAt B g n cap zs w5∧Seg ys zs a mid∧SortedSeg zs a mid∧Below B w w5):=⟨t1,t2,t3,HY.out.2.2.1.trans t4⟩
            clear t1 t2 t3 t4 HC
            go_wp2_with fail
            go_meet
            case rel=>exact⟨rfl,zs,HFIN⟩
          case rest=>
           as_aux_lemma=>
            obtain⟨rfl,zs,HZ⟩:=hcut
            clear HbL
            obtain⟨wz,rfl⟩:∃wz:World,wz=wc:=⟨_,rfl⟩
            go_upto_region 43 with (fail)
            obtain⟨bH,hbH⟩:∃x:Bool,x=decide (mid<e∧e<b):=⟨_,rfl⟩
            have HbH:=Lib.hid hbH
            clear hbH
            go_cut [213] (fun c wx=>c= .bool bH∧wz=wx)
            case first=>
             by_cases k1:(mid:Int)<(e:Int)
             all_goals by_cases k2:(e:Int)<(b:Int)
             all_goals
              go_wp2_with fail
              go_meet
              case rel=>
               refine⟨?_,rfl⟩
               rw[HbH.out]
               first | rw[decide_eq_true (by omega)] | rw[decide_eq_false (by omega)]
            case rest=>
             as_aux_lemma=>
              obtain⟨rfl,rfl⟩:=hcut
              have HDONE:Hid (∀z2 W,RowAt B g n cap z2 W→Seg zs z2 mid b→SortedSeg z2 mid b→Below B wz W→SegEnd B g n cap xs a b w (.returned (.tuple #[])) W):=fun z2 W t1 t2 t3 t4=>by
               obtain⟨y1,y2,y3,y4⟩:=HY.out
               obtain⟨z3,z4,z5,z6⟩:=HZ.out
               have h2:=HEE.out
               exact⟨rfl,z2,t1,(y2.trans (z4.mono (Nat.le_refl _) (by omega))).trans (t2.mono (by omega) (Nat.le_refl _)),merged y4.cr z4 t2 z5 t3,z6.trans t4⟩
              cases bH
              ·have HNO:Hid (SortedSeg zs mid b):=by
                have h2:=HEE.out
                exact(HY.out.2.2.2.hi (of_decide_eq_false HbH.out.symm) (by omega) (by omega)).seg HZ.out.2.1 (.inr (Nat.le_refl _))
               go_wp2_with fail
               go_end0
               exact HDONE.out zs _ HZ.out.1 (Seg.refl _ _ _) HNO.out (Below.refl _ _)
              ·have HC:Hid (Calls Tryd.prog 47 #[.slice (some ⟨g,0,none⟩) n cap,.int .i64 mid,.int .i64 e,.int .i64 b,.func (.func 22) #[] #[]] wz (SegEnd B g n cap zs mid b wz)):=by
                have h2:=HEE.out
                have h4:=HF.out
                have h3:mid<e∧e<b:=of_decide_eq_true HbH.out.symm
                exact HREC.out zs mid e b wz (by omega) HZ.out.1 h3.1 h3.2 (by omega) (HY.out.2.2.2.s3.seg HZ.out.2.1 (.inr (Nat.le_refl _))) (HY.out.2.2.2.s4.seg HZ.out.2.1 (.inr (by omega)))
               go_wp2_with fail
               refine HC.out.mono ?_
               rintro e5 w5 ⟨rfl,z2,t1,t2,t3,t4⟩
               have HFIN:=Lib.hid (HDONE.out z2 w5 t1 t2 t3 t4)
               clear t1 t2 t3 t4 HC
               go_wp2_with fail
               go_end0
               exact HFIN.out
end
end Go.Proofs.YtfinhpfjokpcfaaDoor
