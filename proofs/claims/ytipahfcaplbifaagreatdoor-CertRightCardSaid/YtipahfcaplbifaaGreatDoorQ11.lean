/- Parts of a proof. -/
import Derived.Test.YtipahfcaplbifaaGreatDoorQ05
import Derived.Test.YtipahfcaplbifaaGreatDoorQ08
import Derived.LaidEql
import Derived.Lib.QuietBelow
import Derived.Deep.AppendLies
import Derived.Deep.AppendSrc
import Derived.Test.YtipahfcaplbifaaGreatDoorRows
import Derived.ProofKit
import Derived.OpenShut
import Derived.ChangeOld
import Derived.Deep.Slices
import Derived.Deep.Fields
import Derived.BigRegion
import Derived.Lib.AppendZerosOnto
set_option linter.unusedVariables false
set_option linter.unusedSimpArgs false
set_option maxHeartbeats 60000000
set_option maxRecDepth 100000
namespace Go.Proofs.YtipahfcaplbifaaGreatDoor
namespace Prp
open Go.RowKit
theorem lits_any (n:Int)(hn:0≤n∧n≤8192)(a:Option Addr)(k cap:Nat)(c:List Int)(w:World)(hk:c.length=k)(hkm:k≤9223372036854775807)(hl:Nums w.heap.size w a c):
  Calls Tryz.prog 99 #[.int .i64 n,.slice a k cap] w fun e w'=>e= .returned (.bool (litsB n c))∧w=w':=by
 have hw:IntKind.i64.wrap (-n)= -n:=IntWalk.i64_in _ (by omega)
 have HL:=Lib.hid hl
 have HK:=Lib.hid hk
 have HYES:Hid (∀j,j<k→litB n (c.getD j 0)=false→litsB n c=false):=fun j hj h=>by
  cases e:litsB n c
  ·rfl
  ·have:=List.all_eq_true.1 e _ (getD_mem (by rw[hk];exact hj));rw[h]at this;cases this
 have HNO:Hid ((∀j,j<k→litB n (c.getD j 0)=true)→litsB n c=true):=fun h=>List.all_eq_true.2 fun x hx=>by
  obtain⟨i,hi,rfl⟩:=List.getElem_of_mem hx
  have:=h i (by omega)
  rwa [List.getD_eq_getElem?_getD,List.getElem?_eq_getElem hi]at this
 clear hl hk
 generalize litsB n c=r at HYES HNO
 go_enter Tryz.func99,Tryz.ntmps99
 go_wp2_with fail
 go_loop [5] (fun i=>∃j:Nat,j≤k∧i= .int .i64 j∧Hid (∀i,i<j→litB n (c.getD i 0)=true)) (fun i=>k - (intOf i).toNat)
 case atStart=>exact⟨0,Nat.zero_le _,rfl,fun i hi=>absurd hi (Nat.not_lt_zero _)⟩
 case round=>
  obtain⟨j,hj,rfl,hal⟩:=hrel
  by_cases hlt:j<k
  ·obtain⟨b,off,rfl,hblt,c1⟩:=HL.out j (by rw[HK.out];exact hlt)
   have HY:=Lib.hid (HYES.out j hlt)
   have HST:Hid (litB n (c.getD j 0)=true→∀i,i<j+1→litB n (c.getD i 0)=true):=fun h i hi=>by
    by_cases e:i=j
    ·subst e;exact h
    ·exact hal.out i (by omega)
   generalize c.getD j 0=l at c1 HY HST
   by_cases h0:l=0
   ·obtain rfl:=HY.out (by unfold litB;simp[h0])
    subst h0
    clear HYES HNO HY HST hal
    go_wp2_with fail
    go_ret
    exact⟨rfl,rfl⟩
   ·have h00:(l == 0)=false:=by simp[h0]
    by_cases h1:n<l
    ·obtain rfl:=HY.out (by unfold litB;simp;omega)
     clear HYES HNO HY HST hal
     go_wp2_with fail
     go_ret
     exact⟨rfl,rfl⟩
    ·by_cases h2:l< -n
     ·obtain rfl:=HY.out (by unfold litB;simp;omega)
      clear HYES HNO HY HST hal
      go_wp2_with fail
      go_ret
      exact⟨rfl,rfl⟩
     ·have hs:=Lib.hid (HST.out (by unfold litB;simp;omega))
      clear HYES HNO HY HST hal
      go_wp2_with fail
      go_round
      case rel=>exact⟨j+1,by omega,by go_num,hs⟩
      case measure=>simp[intOf];omega
  ·obtain rfl:j=k:=by omega
   obtain rfl:=HNO.out hal.out
   clear HYES HNO hal
   go_wp2_with fail
   go_ret
   exact⟨rfl,rfl⟩
theorem rcheck_any (n:Int)(a:Option Addr)(m cap:Nat)(cs:List (List Int))(w:World)(hm:cs.length=m)(hmm:m≤9223372036854775807)(hl:CLies w.heap.size w a cs)(hk:m≤16384→∀j,j<m→(cs.getD j []).length≤4611686018427387904):
  Calls Tryz.prog 65 #[.int .i64 n,.slice a m cap] w fun e w'=>e= .returned (.int .i64 (chkK n cs))∧w=w':=by
 by_cases h1:n<0∨8192<n
 ·have e:chkK n cs=1:=by unfold chkK;rw[if_pos h1]
  rw[e]
  by_cases h2:n<0
  ·go_enter Tryz.func65,Tryz.ntmps65
   go_wp2_with fail
   go_ret
   exact⟨rfl,rfl⟩
  ·have h3:8192<n:=by omega
   go_enter Tryz.func65,Tryz.ntmps65
   go_wp2_with fail
   go_ret
   exact⟨rfl,rfl⟩
 ·have h2:¬n<0:=by omega
  have h3:¬ 8192<n:=by omega
  by_cases h4:16384<m
  ·have e:chkK n cs=2:=by unfold chkK;rw[if_neg h1,if_pos (by omega)]
   rw[e]
   go_enter Tryz.func65,Tryz.ntmps65
   go_wp2_with fail
   go_ret
   exact⟨rfl,rfl⟩
  ·have hk:=hk (by omega)
   have HE:Hid (chkK n cs=if 131072<sumTo cs m then 2 else if cs.all (litsB n)=true then 0 else 5):=by
    show _=_
    unfold chkK;rw[if_neg h1,if_neg (by omega),hm]
   have HL:=Lib.hid hl
   have HM:=Lib.hid hm
   have HK:=Lib.hid hk
   have HS:=Lib.hid (fun j (hj:j<m) (ta:Option Addr) (tcap:Nat) (hn9:Nums w.heap.size w ta (cs.getD j []))=>lits_any n ⟨by omega,by omega⟩ ta (cs.getD j []).length tcap (cs.getD j []) w rfl (by have:=hk j hj;omega) hn9)
   generalize hr:chkK n cs=r at HE⊢
   clear hl hm hk hr h1
   go_enter Tryz.func65,Tryz.ntmps65
   go_wp2_with fail
   go_loop [5,6] (fun s i=>∃k:Nat,k≤m∧i= .int .i64 k∧s= .int .i64 (131072 - (sumTo cs k:Int))∧Hid (sumTo cs k≤131072)) (fun _ i=>m - (intOf i).toNat)
   case atStart=>exact⟨0,Nat.zero_le _,rfl,rfl,Nat.zero_le _⟩
   case round=>
    obtain⟨k,hk,rfl,rfl,hs⟩:=hrel
    by_cases hlt:k<m
    ·obtain⟨b,off,ta,tcap,rfl,hblt,c1,_⟩:=HL.out k (by rw[HM.out];exact hlt)
     have HN:Hid (sumTo cs (k+1)=sumTo cs k+(cs.getD k []).length):=rfl
     have HMO:Hid (sumTo cs (k+1)≤sumTo cs m):=sumTo_mono cs hlt
     have hkl:=HK.out k hlt
     have hs1:=hs.out
     generalize (cs.getD k []).length=len at c1 HN hkl
     generalize sumTo cs k=sk at HN hs1
     by_cases hgt:131072<sk+len
     ·have hr:=HE.out
      rw[if_pos (by have:=HN.out;have:=HMO.out;omega)]at hr
      subst hr
      clear HE HS HN HMO hs
      have hgt2:131072 - (sk:Int)<(len:Int):=by omega
      go_wp2_with fail
      go_ret
      exact⟨rfl,rfl⟩
     ·have HS1:Hid (sumTo cs (k+1)≤131072):=by show _≤_;rw[HN.out];omega
      have hgt2:¬ 131072 - (sk:Int)<(len:Int):=by omega
      clear HE HS HMO hs
      go_wp2_with fail
      go_round
      case rel=>exact⟨k+1,by omega,by go_num,by rw[HN.out];congr 1;omega,HS1⟩
      case measure=>simp[intOf];omega
    ·obtain rfl:k=m:=by omega
     have HE2:Hid (r=if cs.all (litsB n)=true then 0 else 5):=by
      have:=HE.out
      rwa [if_neg (by have:=hs.out;omega)]at this
     clear HE hs
     go_wp2_with fail
     go_loop [7] (fun i=>∃j:Nat,j≤k∧i= .int .i64 j∧Hid (∀q,q<j→litsB n (cs.getD q [])=true)) (fun i=>k - (intOf i).toNat)
     case atStart=>exact⟨0,Nat.zero_le _,rfl,fun q hq=>absurd hq (Nat.not_lt_zero _)⟩
     case round=>
      obtain⟨j,hj,rfl,hal⟩:=hrel
      by_cases hlt:j<k
      ·obtain⟨b,off,ta,tcap,rfl,hblt,c1,cn⟩:=HL.out j (by rw[HM.out];exact hlt)
       have HC:=Lib.hid (HS.out j hlt ta tcap cn)
       have HY:Hid (litsB n (cs.getD j [])=true→∀q,q<j+1→litsB n (cs.getD q [])=true):=fun h q hq=>by
        by_cases e:q=j
        ·subst e;exact h
        ·exact hal.out q (by omega)
       have HNO:Hid (litsB n (cs.getD j [])=false→r=5):=fun h=>by
        rw[HE2.out,if_neg]
        intro h9
        have:=all_get.1 h9 j (by rw[HM.out];exact hlt)
        rw[h]at this;cases this
       clear cn hal HS HE2
       cases hbb:litsB n (cs.getD j [])
       ·obtain rfl:=HNO.out hbb
        rw[hbb]at HC
        clear HY HNO hbb
        generalize (cs.getD j []).length=len at c1 HC
        go_wp2_with fail
        refine HC.out.mono ?_
        rintro e w' ⟨rfl,rfl⟩
        go_wp2_with fail
        go_ret
        exact⟨rfl,rfl⟩
       ·have HY2:=Lib.hid (HY.out hbb)
        rw[hbb]at HC
        clear HY HNO hbb
        generalize (cs.getD j []).length=len at c1 HC
        go_wp2_with fail
        refine HC.out.mono ?_
        rintro e w' ⟨rfl,rfl⟩
        go_wp2_with fail
        go_round
        case rel=>exact⟨j+1,by omega,by go_num,HY2⟩
        case measure=>simp[intOf];omega
      ·obtain rfl:j=k:=by omega
       have hr:=HE2.out
       rw[if_pos (all_get.2 (by rw[HM.out];exact hal.out))]at hr
       subst hr
       clear HE2 HS hal
       go_wp2_with fail
       go_ret
       exact⟨rfl,rfl⟩
section
variable {P:Program} (w:World)
theorem run_equalIn_iface_int (d:Nat){ti tn:TypeId}{ms:Array (String×TypeId)}{i:TypeInfo}{k:IntKind}(a b:Int)
  (hi:P.underlying ti=some (.interface ms)) (hn:P.underlying tn=some (.int k)) (hinfo:P.info? tn=some i) (hcomp:i.comparable=true):
  (Op.equalIn (d+2) ti (.iface tn (.int k a)) (.iface tn (.int k b))).run P w= .ok (a == b) w:=by
 simp[Op.equalIn,run_underlying hi,run_underlying hn,typeInfo,hinfo,hcomp]
theorem run_eql_iface_int {ti tn:TypeId}{ms:Array (String×TypeId)}{i:TypeInfo}{k:IntKind}(a b:Int)
  (hi:P.underlying ti=some (.interface ms)) (hn:P.underlying tn=some (.int k)) (hinfo:P.info? tn=some i) (hcomp:i.comparable=true):
  (binOp .eql ti (.iface tn (.int k a)) (.iface tn (.int k b))).run P w= .ok (.bool (a == b)) w:=by
 simp only[binOp]
 simp[Op.equal,Op.maxDepth,run_equalIn_iface_int w 9998 a b hi hn hinfo hcomp]
end
theorem Tryz.eqCode (a b:Int)(w:World):(binOp .eql 26 (.iface 60 (.int .i64 a)) (.iface 60 (.int .i64 b))).run Tryz.prog w= .ok (.bool (a == b)) w:=
 run_eql_iface_int (P:=Tryz.prog) w a b Tryz.underlying26 Tryz.underlying60 (i:=Tryz.t60) (by kernel_rfl) (by kernel_rfl)
theorem code_nil (w:World):Calls Tryz.prog 12 #[.nilIface] w fun e w'=>e= .returned (.int .i64 0)∧w=w':=by
 go_enter Tryz.func12,Tryz.ntmps12
 go_wp2
 go_ret
 exact⟨rfl,rfl⟩
theorem code_k (k:Int)(w:World)(h1:1≤k)(h2:k≤16):Calls Tryz.prog 12 #[.iface 60 (.int .i64 k)] w fun e w'=>e= .returned (.int .i64 k)∧w=w':=by
 have heq:=fun(j:Int) W=>Tryz.eqCode k j W
 go_enter Tryz.func12,Tryz.ntmps12
 go_wp2
 go_loop [3] (fun c=>∃j:Int,1≤j∧j≤k∧c= .int .i64 j) (fun c=>(k - intOf c).toNat)
 case atStart=>exact⟨1,by omega,h1,rfl⟩
 case round=>
  obtain⟨j,hj1,hj2,rfl⟩:=hrel
  by_cases e:j=k
  ·subst e
   have hb:(j == j)=true:=by simp
   go_wp2
   go_ret
   exact⟨rfl,rfl⟩
  ·have hb:(k == j)=false:=by simp;omega
   go_wp2
   go_round
   case rel=>exact⟨j+1,by omega,by omega,rfl⟩
   case measure=>simp[intOf];omega
end Prp
namespace Prp
open Go.RowKit
structure GivenC (w:World)(a:Option Addr)(m:Nat)(cs:List (List Int)):Prop where
 hm:cs.length=m
 hmm:m≤9223372036854775807
 hl:CLies w.heap.size w a cs
 hlen:∀j,j<m→(cs.getD j []).length≤9223372036854775807
end Prp
namespace Prp
open Go.RowKit
def scanA (A:Nat→Int)(c:List Int):Nat→Bool×Int×Bool
 | 0=>(false,0,false)
 | k+1=>let s:=scanA A c k;let l:=c.getD k 0
   (s.1 || decide (va A l=1),if va A l=0 then l else s.2.1,if va A l=0 then(s.2.2 || (decide (s.2.1≠0) && decide (s.2.1≠l))) else s.2.2)
structure ScanIs (A:Nat→Int)(c:List Int)(k:Nat)(s:Bool×Int×Bool):Prop where
 t1:s.1=true→∃j,j<k∧va A (c.getD j 0)=1
 t0:s.1=false→∀j,j<k→va A (c.getD j 0)≠1
 o0:s.2.1=0→∀j,j<k→va A (c.getD j 0)≠0
 o1:s.2.1≠0→∃j,j<k∧c.getD j 0=s.2.1∧va A s.2.1=0
 m1:s.2.2=true→∃i j,i<k∧j<k∧va A (c.getD i 0)=0∧va A (c.getD j 0)=0∧c.getD i 0≠c.getD j 0
 m0:s.2.2=false→∀j,j<k→va A (c.getD j 0)=0→c.getD j 0=s.2.1
theorem scan_is (A:Nat→Int)(c:List Int)(hc:∀j,j<c.length→c.getD j 0≠0):∀k,k≤c.length→ScanIs A c k (scanA A c k)
 | 0,_=>⟨(fun h=>by cases h),fun _ j hj=>absurd hj (Nat.not_lt_zero _),fun _ j hj=>absurd hj (Nat.not_lt_zero _),fun h=>absurd rfl h,(fun h=>by cases h),fun _ j hj=>absurd hj (Nat.not_lt_zero _)⟩
 | k+1,hk=>by
   have ih:=scan_is A c hc k (by omega)
   have hl:=hc k (by omega)
   unfold scanA
   generalize scanA A c k=s at ih
   obtain⟨t,o,m⟩:=s
   simp only
   have lt:∀j,j<k+1→j<k∨j=k:=fun j hj=>by omega
   refine⟨fun h=> ?_,fun h j hj=> ?_,fun h j hj=> ?_,fun h=> ?_,fun h=> ?_,fun h j hj hv=> ?_⟩
   ·simp only[Bool.or_eq_true,decide_eq_true_eq]at h
    rcases h with h | h
    ·obtain⟨j,h1,h2⟩:=ih.t1 h;exact⟨j,by omega,h2⟩
    ·exact⟨k,by omega,h⟩
   ·simp only[Bool.or_eq_false_iff,decide_eq_false_iff_not]at h
    rcases lt j hj with hj | rfl
    ·exact ih.t0 h.1 j hj
    ·exact h.2
   ·by_cases hv:va A (c.getD k 0)=0
    ·rw[if_pos hv]at h;exact absurd h hl
    ·rw[if_neg hv]at h
     rcases lt j hj with hj | rfl
     ·exact ih.o0 h j hj
     ·exact hv
   ·by_cases hv:va A (c.getD k 0)=0
    ·rw[if_pos hv];exact⟨k,by omega,rfl,hv⟩
    ·rw[if_neg hv]at h⊢
     obtain⟨j,h1,h2⟩:=ih.o1 h
     exact⟨j,by omega,h2⟩
   ·replace h:(if va A (c.getD k 0)=0 then(m || (decide (o≠0) && decide (o≠c.getD k 0))) else m)=true:=h
    by_cases hv:va A (c.getD k 0)=0
    ·rw[if_pos hv]at h
     simp only[Bool.or_eq_true,Bool.and_eq_true,decide_eq_true_eq]at h
     rcases h with h | ⟨h1,h2⟩
     ·obtain⟨i,j,a,b,r⟩:=ih.m1 h;exact⟨i,j,by omega,by omega,r⟩
     ·obtain⟨j,a,b,d⟩:=ih.o1 h1
      exact⟨j,k,by omega,by omega,by rw[b];exact d,hv,by rw[b];exact h2⟩
    ·rw[if_neg hv]at h
     obtain⟨i,j,a,b,r⟩:=ih.m1 h;exact⟨i,j,by omega,by omega,r⟩
   ·replace h:(if va A (c.getD k 0)=0 then(m || (decide (o≠0) && decide (o≠c.getD k 0))) else m)=false:=h
    show c.getD j 0=if va A (c.getD k 0)=0 then c.getD k 0 else o
    by_cases hv2:va A (c.getD k 0)=0
    ·rw[if_pos hv2]at h⊢
     simp only[Bool.or_eq_false_iff,Bool.and_eq_false_iff,decide_eq_false_iff_not]at h
     rcases lt j hj with hj | rfl
     ·have e:=ih.m0 h.1 j hj hv
      rcases h.2 with h2 | h2
      ·have:o=0:=Classical.byContradiction h2
       exact absurd hv (ih.o0 this j hj)
      ·have:o=c.getD k 0:=Classical.byContradiction h2
       rw[e];exact this
     ·rfl
    ·rw[if_neg hv2]at h⊢
     rcases lt j hj with hj | rfl
     ·exact ih.m0 h j hj hv
     ·exact absurd hv hv2
def Quiet (A:Nat→Int)(c:List Int):Prop:=(∃x,x∈c∧va A x=1)∨∃x y,x∈c∧y∈c∧x≠y∧va A x=0∧va A y=0
section
variable {n:Nat} {cs:List (List Int)} {ls:List Int} {A:Nat→Int}
theorem quiet_ends (hs:Sane n cs ls)(hA:Asg n cs ls A [])(hls:∀l,l∈ls→va A l=1)(hq:∀c,c∈cs→Quiet A c):FollowIs n cs ls false A:=by
 have hcomp:∀l,Der cs ls l→va A l=1:=fun l hd=>by
  induction hd with
  | told h=>exact hls _ h
  | @rule c l hc hl hr ih=>
    have hf:∀x,x∈c→x≠l→va A x= -1:=fun x hx hne=>by
     have:=ih x hx hne
     rw[va_neg (hs.hc c hc x hx).1]at this
     omega
    rcases hq c hc with ⟨x,hx,hv⟩ | ⟨x,y,hx,hy,hne,hv1,hv2⟩
    ·by_cases e:x=l
     ·rw[←e];exact hv
     ·rw[hf x hx e]at hv;omega
    ·by_cases e:x=l
     ·have:=hf y hy (fun e2=>hne (e.trans e2.symm));omega
     ·have:=hf x hx e;omega
 refine .ok hA.tri hA.zero (fun l hl=>⟨fun hv=>hA.snd l hl hv,hcomp l⟩) (fun hcf=> ?_)
 rcases hcf with he | ⟨l,h1,h2⟩
 ·rcases hq [] he with ⟨x,hx,_⟩ | ⟨x,y,hx,_⟩<;>cases hx
 ·have a:=hcomp _ h1
  have b:=hcomp _ h2
  rw[va_neg (h1.inR hs).1,a]at b;omega
theorem scan_quiet {c:List Int}(h:ScanIs A c c.length (scanA A c c.length))(hq:(scanA A c c.length).1=true∨(scanA A c c.length).2.2=true):Quiet A c:=by
 rcases hq with hq | hq
 ·obtain⟨j,hj,hv⟩:=h.t1 hq;exact .inl ⟨_,getD_mem hj,hv⟩
 ·obtain⟨i,j,hi,hj,h1,h2,h3⟩:=h.m1 hq;exact .inr ⟨_,_,getD_mem hi,getD_mem hj,h3,h1,h2⟩
theorem scan_false (hA:Asg n cs ls A []){c:List Int}(h:ScanIs A c c.length (scanA A c c.length))(ht:(scanA A c c.length).1=false)(hm:(scanA A c c.length).2.2=false):∀x,x∈c→x≠(scanA A c c.length).2.1→va A x= -1:=fun x hx hne=>by
 obtain⟨j,hj,rfl⟩:=List.getElem_of_mem hx
 have e:c.getD j 0=c[j]:=by rw[List.getD_eq_getElem?_getD,List.getElem?_eq_getElem hj];rfl
 have h1:=h.t0 ht j hj
 have h2:va A (c.getD j 0)≠0:=fun hv=>hne (by rw[←e];exact h.m0 hm j hj hv)
 rw[e]at h1 h2
 have:=va_tri hA.tri c[j]
 omega
theorem scan_conf (hs:Sane n cs ls)(hA:Asg n cs ls A []){c:List Int}(hc:c∈cs)(h:ScanIs A c c.length (scanA A c c.length))(ht:(scanA A c c.length).1=false)(hm:(scanA A c c.length).2.2=false)(ho:(scanA A c c.length).2.1=0):Conf cs ls:=by
 have hf:∀x,x∈c→va A x= -1:=fun x hx=>scan_false hA h ht hm x hx (by rw[ho];exact(hs.hc c hc x hx).1)
 have hd:∀x,x∈c→Der cs ls (-x):=fun x hx=>hA.snd _ (hs.hc c hc x hx).neg (by rw[va_neg (hs.hc c hc x hx).1,hf x hx];decide)
 cases c with
 | nil=>exact .inl hc
 | cons y r=>exact .inr ⟨y,.rule hc List.mem_cons_self (fun x hx _=>hd x hx),hd y List.mem_cons_self⟩
theorem scan_der (hs:Sane n cs ls)(hA:Asg n cs ls A []){c:List Int}(hc:c∈cs)(h:ScanIs A c c.length (scanA A c c.length))(ht:(scanA A c c.length).1=false)(hm:(scanA A c c.length).2.2=false)(ho:(scanA A c c.length).2.1≠0):Der cs ls (scanA A c c.length).2.1∧va A (scanA A c c.length).2.1=0∧inR n (scanA A c c.length).2.1:=by
 obtain⟨j,hj,e,hv⟩:=h.o1 ho
 have hmem:(scanA A c c.length).2.1∈c:=by rw[←e];exact getD_mem hj
 refine⟨.rule hc hmem (fun x hx hne=>hA.snd _ (hs.hc c hc x hx).neg (by rw[va_neg (hs.hc c hc x hx).1,scan_false hA h ht hm x hx hne];decide)),hv,hs.hc c hc _ hmem⟩
theorem Asg.set (h:Asg n cs ls A []){l:Int}(hl:inR n l)(hv:va A l≠ -1)(hd:Der cs ls l):Asg n cs ls (setL A l) []∧va (setL A l) l=1∧Grow A (setL A l):=by
 by_cases h0:va A l=0
 ·have:=h.make hl h0 hd
  exact⟨⟨this.tri,this.zero,this.snd,(fun x hx=>by cases hx),List.nodup_nil⟩,by rw[va_setL hl.1 hl.1,if_pos rfl],fun x hx hvx=>(va_mono hl.1 hx h0).1 hvx⟩
 ·have h1:va A l=1:=by have:=va_tri h.tri l;omega
  have e:setL A l=A:=by
   unfold va at h1
   unfold setL upd
   split
   ·rw[if_pos (by assumption)]at h1;funext j;split
    ·rename_i e;rw[e,h1]
    ·rfl
   ·rw[if_neg (by assumption)]at h1;funext j;split
    ·rename_i e;rw[e];omega
    ·rfl
  rw[e]
  exact⟨h,h1,Grow.refl _⟩
end
section
variable {b n:Nat} {w:World} {A:Nat→Int}
theorem of_any (h:Arr w b (n+1) A)(htri:∀i,A i= -1∨A i=0∨A i=1){l:Int}(hl:inR n l)(hn:n≤8192):
  Calls Tryz.prog 102 #[.slice (some ⟨b,0,none⟩) (n+1) (n+1),.int .i64 l] w fun e w'=>e= .returned (.int .i64 (va A l))∧w=w':=by
 obtain⟨h1,h2,h3⟩:=hl
 by_cases hp:0<l
 ·obtain⟨k,rfl⟩:=Int.eq_ofNat_of_zero_le (show 0≤l by omega)
  have a1:=h k (by omega)
  have e:va A (k:Int)=A k:=by unfold va;rw[if_pos hp,Int.toNat_natCast]
  rw[e]
  have hk:(k:Int)<(n+1:Nat):=by omega
  clear h htri
  generalize A k=x at a1
  go_enter Tryz.func102,Tryz.ntmps102
  go_wp2_with fail
  go_ret
  exact⟨rfl,rfl⟩
 ·obtain⟨k,hk⟩:=Int.eq_ofNat_of_zero_le (show 0≤ -l by omega)
  have hlk:l= -(k:Int):=by omega
  subst hlk
  have a1:=h k (by omega)
  have hA:=htri k
  have e:va A (-(k:Int))= -A k:=by unfold va;rw[if_neg hp,Int.neg_neg,Int.toNat_natCast]
  rw[e]
  have hk2:(k:Int)<(n+1:Nat):=by omega
  have hk0: -(k:Int)<0:=by omega
  have hw:IntKind.i64.wrap (-(-(k:Int)))=(k:Int):=by rw[Int.neg_neg];exact IntWalk.i64_in _ (by omega)
  clear h htri hk
  generalize A k=x at a1 hA
  have hw2:IntKind.i64.wrap (-x)= -x:=IntWalk.i64_in _ (by omega)
  go_enter Tryz.func102,Tryz.ntmps102
  go_wp2_with fail
  go_ret
  exact⟨rfl,rfl⟩
def SetEnd (b n:Nat)(A:Nat→Int)(l:Int)(w:World)(e:Ending)(w':World):Prop:=
 Below b w w'∧b<w'.heap.size∧(∀o,w'.frozen? ⟨b,o,none⟩=false)∧((va A l= -1∧e= .returned (.bool false)∧Arr w' b (n+1) A)∨(va A l≠ -1∧e= .returned (.bool true)∧Arr w' b (n+1) (setL A l)))
theorem set_any (h:Arr w b (n+1) A)(hfr:∀o,w.frozen? ⟨b,o,none⟩=false)(hb:b<w.heap.size)(htri:∀i,A i= -1∨A i=0∨A i=1){l:Int}(hl:inR n l)(hn:n≤8192):
  Calls Tryz.prog 101 #[.slice (some ⟨b,0,none⟩) (n+1) (n+1),.int .i64 l] w (SetEnd b n A l w):=by
 have HO:=Lib.hid (of_any h htri hl hn)
 by_cases hv:va A l= -1
 ·rw[hv]at HO
  have HA:=Lib.hid h
  have HF:=Lib.hid hfr
  clear h htri hfr
  go_enter Tryz.func101,Tryz.ntmps101
  go_wp2_with fail
  refine HO.out.mono ?_
  rintro e w' ⟨rfl,rfl⟩
  go_wp2_with fail
  go_ret
  exact⟨Below.refl _ _,hb,HF.out,.inl ⟨hv,rfl,HA.out⟩⟩
 ·have hvb:(va A l == -1)=false:=by simp[hv]
  obtain⟨h1,h2,h3⟩:=hl
  have HE:Hid (∀(k:Nat) (x:Int),k<n+1→setL A l=upd A k x→SetEnd b n A l w (.returned (.bool true)) (w.setCell ⟨b,k,none⟩ (.int .i64 x))):=fun k x hk e=>
   ⟨(Below.refl b w).setCell (p:=⟨b,k,none⟩) (Nat.le_refl _) _,by rw[World.size_setCell];exact hb,fun o=>(World.frozen?_setCell _ _ _ _).trans (hfr o),.inr ⟨hv,rfl,by rw[e];exact h.set hk x⟩⟩
  by_cases hp:0<l
  ·obtain⟨k,rfl⟩:=Int.eq_ofNat_of_zero_le (show 0≤l by omega)
   have a1:=h k (by omega)
   have f1:=hfr k
   have hk:(k:Int)<(n+1:Nat):=by omega
   have HE2:=Lib.hid (HE.out k 1 (by omega) (by unfold setL;rw[if_pos hp,Int.toNat_natCast]))
   clear h htri hfr HE hv
   generalize va A (k:Int)=x at HO hvb
   go_enter Tryz.func101,Tryz.ntmps101
   go_wp2_with fail
   refine HO.out.mono ?_
   rintro e w' ⟨rfl,rfl⟩
   go_wp2_with fail
   go_ret
   exact HE2.out
  ·obtain⟨k,hlk⟩:=Int.eq_ofNat_of_zero_le (show 0≤ -l by omega)
   have hlk:l= -(k:Int):=by omega
   subst hlk
   have a1:=h k (by omega)
   have f1:=hfr k
   have hk:(k:Int)<(n+1:Nat):=by omega
   have hk0: -(k:Int)<0:=by omega
   have hw:IntKind.i64.wrap (-(-(k:Int)))=(k:Int):=by rw[Int.neg_neg];exact IntWalk.i64_in _ (by omega)
   have HE2:=Lib.hid (HE.out k (-1) (by omega) (by unfold setL;rw[if_neg hp,Int.neg_neg,Int.toNat_natCast]))
   clear h htri hfr HE hv
   generalize va A (-(k:Int))=x at HO hvb
   go_enter Tryz.func101,Tryz.ntmps101
   go_wp2_with fail
   refine HO.out.mono ?_
   rintro e w' ⟨rfl,rfl⟩
   go_wp2_with fail
   go_ret
   exact HE2.out
end
end Prp
namespace Prp
open Go.RowKit
def ErrIs (B:Nat)(x at':Int)(er:Value)(w:World):Prop:=
 (at'<0→er=codeV x)∧(0≤at'→∃g,er= .iface 76 (.pointer (some ⟨g,0,none⟩))∧B≤g∧g<w.heap.size∧w.cell? ⟨g,0,none⟩=some (.int .i64 at')∧w.cell? ⟨g,1,none⟩=some (codeV x))
end Prp
namespace Prp
open Go.RowKit
def LiesG (S:Nat→Prop)(w:World)(a:Option Addr)(l:List Int):Prop:=
 ∀i,i<l.length→∃b off,a=some ⟨b,off,none⟩∧S b∧w.cell? ⟨b,off+i,none⟩=some (.int .i64 (l.getD i 0))
theorem LiesG.nums {S:Nat→Prop}{w:World}{B:Nat}{a:Option Addr}{l:List Int}(hS:∀b,S b→b<B)(h:LiesG S w a l):Nums B w a l:=fun i hi=>by
 obtain⟨b,off,e,hb,r⟩:=h i hi
 exact⟨b,off,e,hS b hb,r⟩
structure GT where
 a:Option Addr
 cap:Nat
 l:List Int
def gcells (xs:List GT):List Value:=xs.map fun x=> .slice x.a x.l.length x.cap
def gforms (xs:List GT):List (List Int):=xs.map fun x=>x.l
end Prp
namespace Prp
open Go.ChangeShapes Go.WideShapes Go.RowKit Go.Deep
theorem list_ofD {α:Type}(d:α)(n:Nat)(p:Nat→α→Prop)(h:∀i,i<n→∃m,p i m):∃l:List α,l.length=n∧∀i,i<n→p i (l.getD i d):=by
 induction n with
 | zero=>exact⟨[],rfl,fun i hi=>absurd hi (Nat.not_lt_zero i)⟩
 | succ n ih=>
   obtain⟨l,hl,hp⟩:=ih (fun i hi=>h i (by omega))
   obtain⟨m,hm⟩:=h n (by omega)
   refine⟨l ++ [m],by simp[hl],fun i hi=> ?_⟩
   by_cases e:i=n
   ·subst e
    rw[List.getD_eq_getElem?_getD,List.getElem?_append_right (by omega),hl]
    simpa using hm
   ·have:=hp i (by omega)
    rw[List.getD_eq_getElem?_getD]at this⊢
    rwa [List.getElem?_append_left (by omega)]
section
variable {H:Type} {enc:TypeId×Value→H} {P:Program} {w:World} {base:Nat} {spare:Nat→Bool} {held:Bool}
end
section
variable {H:Type} {enc:TypeId×Value→H} {w:World} {base:Nat} {spare:Nat→Bool} {held:Bool}
end
end Prp
namespace Prp
open Go.RowKit
theorem Tryz.infoInts:(Tryz.prog.info? 23).map (fun i=>(i.zero,i.size,i.bytes))=some (some (.slice none 0 0),1,24):=by kernel_rfl
end Prp
namespace Prp
open Go.RowKit
theorem gforms_len (xs:List GT):(gforms xs).length=xs.length:=by simp[gforms]
theorem gforms_append (xs ys:List GT):gforms (xs ++ ys)=gforms xs ++ gforms ys:=by simp[gforms]
theorem gcells_append (xs ys:List GT):gcells (xs ++ ys)=gcells xs ++ gcells ys:=by simp[gcells]
theorem gcells_len (xs:List GT):(gcells xs).length=xs.length:=by simp[gcells]
theorem gforms_get {xs:List GT}{i:Nat}(hi:i<xs.length):(gforms xs).getD i []=xs[i].l:=by simp[gforms,List.getD_eq_getElem?_getD,hi]
theorem CLies.rows {B:Nat}{w:World}{a:Option Addr}:∀ {cs:List (List Int)},CLies B w a cs→∃xs:List GT,gforms xs=cs∧(∀x∈xs,Nums B w x.a x.l)∧(0<cs.length→∃b off,a=some ⟨b,off,none⟩∧b<B∧∀j u,(gcells xs)[j]? =some u→w.cell? ⟨b,off+j,none⟩=some u):=by
 intro cs h
 obtain⟨xs,hxl,hx⟩:=list_ofD ⟨none,0,[]⟩ cs.length (fun i (x:GT)=>x.l=cs.getD i []∧Nums B w x.a x.l∧∃b off,a=some ⟨b,off,none⟩∧b<B∧w.cell? ⟨b,off+i,none⟩=some (.slice x.a x.l.length x.cap)) (fun i hi=>by
  obtain⟨b,off,ta,tcap,ha,hlt,h1,h2⟩:=h i hi
  exact⟨⟨ta,tcap,cs.getD i []⟩,rfl,h2,b,off,ha,hlt,h1⟩)
 have hxi:∀i (hi:i<xs.length),xs.getD i ⟨none,0,[]⟩=xs[i]:=fun i hi=>by simp[List.getD_eq_getElem?_getD,hi]
 refine⟨xs, ?_,fun x hx'=> ?_,fun hpos=> ?_⟩
 ·apply List.ext_getElem (by rw[gforms_len];exact hxl)
  intro i h1 h2
  have h3:=(hx i h2).1
  have h4:i<xs.length:=by rw[gforms_len]at h1;exact h1
  rw[hxi i h4]at h3
  rw[show(gforms xs)[i]=xs[i].l by simp[gforms],h3]
  simp[List.getD_eq_getElem?_getD,h2]
 ·obtain⟨i,hi,rfl⟩:=List.getElem_of_mem hx'
  have h3:=(hx i (by omega)).2.1
  rwa [hxi i hi]at h3
 ·obtain⟨_,_,b,off,ha,hlt,_⟩:=hx 0 hpos
  refine⟨b,off,ha,hlt,fun j u hu=> ?_⟩
  have hj:j<xs.length:=by have:=(List.getElem?_eq_some_iff.1 hu).1;rwa [gcells_len]at this
  obtain⟨_,_,b',off',ha',_,hc⟩:=hx j (by omega)
  rw[hxi j hj]at hc
  rw[ha]at ha'
  obtain⟨rfl,rfl⟩:b=b'∧off=off':=by injection ha' with e;injection e with e1 e2 e3;exact⟨e1,e2⟩
  rw[hc,←hu]
  simp[gcells,hj]
theorem run_append_rows {P:Program}{w:World}(B:Nat)(t ty e:TypeId)(i:TypeInfo)(z:Value)(ht:P.underlying t=some (.slice e))(hi:P.info? e=some i)(hz:i.zero=some z)(hs:i.size=1)(hby:i.bytes=24)(hzs:z.cells.size=1)
  (v:Value) (n:Nat) (xs:List GT) (hn:xs.length=n) (hown:w.ownsRow B e 1 v n (gcells xs)) (hB:B≤w.heap.size) (a:Option Addr) (m cap:Nat) (ys:List GT) (hm:ys.length=m)
  (hl:0<m→∃b off,a=some ⟨b,off,none⟩∧∀j u,(gcells ys)[j]? =some u→w.cell? ⟨b,off+j,none⟩=some u) (hsz:(n+m)*24≤140737488355328):
  ∃v' w',(Builtin.append_ #[t,t] ty #[v,.slice a m cap]).run P w= .ok v' w'∧w'.ownsRow B e 1 v' (n+m) (gcells (xs ++ ys))∧w.grownBy w' v.ownBlock∧Below B w w':=by
 have hvb:=fun k (hk:v.ownBlock=some k)=>(World.ownsRow.lt hown k hk).1
 by_cases h0:m=0
 ·subst h0
  have hy:ys=[]:=List.length_eq_zero_iff.1 hm
  subst hy
  refine⟨v,w, ?_,by simpa using hown,⟨rfl,rfl,rfl,Nat.le_refl _,fun _ _ _=>rfl⟩,Below.refl _ _⟩
  have hf:∀ad:Addr,(Builtin.firstCells 1 0 (.slice (some ad) 0 cap)).run P w= .ok #[] w:=fun ad=>run_firstCells_some w 1 0 ad 0 cap [] (by simp) (fun j u h=>by cases h)
  have hf0:=run_firstCells_none (P:=P) w 1 0 0 cap
  rcases hown.2 with ⟨rfl,rfl⟩ | ⟨g,cap',cur,rfl,_,_,hnc,_⟩
  ·cases a<;>simp[Builtin.append_,run_underlying ht,sizeOf,typeInfo,hi,hs,Builtin.lenOf,hf,hf0]
  ·cases a<;>simp[Builtin.append_,run_underlying ht,sizeOf,typeInfo,hi,hs,Builtin.lenOf,hf,hf0,hnc,storeCells]
 ·obtain⟨b,off,rfl,hc⟩:=hl (by omega)
  obtain⟨g,cap',w',hr,h2,h3,h4,h5⟩:=run_append_lies (P:=P) w t ty B e i z 1 24 ht hi hz hs hby hzs (by decide) v n (gcells xs) hown ⟨b,off,none⟩ m cap (gcells ys) (by rw[gcells_len];omega)
   (fun j u hu=>by rw[show(⟨b,off,none⟩:Addr).add j=⟨b,off+j,none⟩ by unfold Addr.add;split<;>simp_all];exact hc j u hu)
   (fun u hu=>by obtain⟨x,_,rfl⟩:=List.mem_map.1 hu;rfl) (by omega) (by unfold maxLen;omega) hsz hB _ rfl
  exact⟨_,w',hr,by rw[gcells_append];exact h2,h3,(Below.refl B w).grown h3 hB hvb⟩
theorem own_clies {B:Nat}{xs:List GT}{v:Value}{n:Nat}{w:World}(hn:xs.length=n)(hr:w.ownsRow B 23 1 v n (gcells xs))(hx:∀x∈xs,Nums w.heap.size w x.a x.l):∃a cap,v= .slice a n cap∧n≤cap∧cap≤9223372036854775807∧CLies w.heap.size w a (gforms xs):=by
 subst hn
 have hc:=fun g=>World.ownsRow.cells hr (g:=g)
 have hlt:=World.ownsRow.lt hr
 obtain⟨_,h1 | ⟨g,cap,cur,hv,h2⟩⟩:=hr
 ·refine⟨none,0,by rw[h1.1,h1.2],by omega,by omega,fun i hi=> ?_⟩
  rw[gforms_len]at hi;omega
 ·subst hv
  have hcp:=h2.2.2
  have hcm:cap≤9223372036854775807:=hcp.2.1
  refine⟨some ⟨g,0,none⟩,cap,rfl,hcp.1,hcm,fun i hi=> ?_⟩
  have hi:i<xs.length:=by rwa [gforms_len]at hi
  have e2:(gcells xs)[i]? =some (.slice xs[i].a xs[i].l.length xs[i].cap):=by simp[gcells,hi]
  rw[gforms_get hi]
  refine⟨g,0,xs[i].a,xs[i].cap,rfl,(hlt g rfl).2, ?_,hx _ (List.getElem_mem hi)⟩
  have:=hc g rfl i _ e2
  rwa [show(⟨g,0,none⟩:Addr).add i=⟨g,0+i,none⟩ by unfold Addr.add;split<;>simp_all]at this
theorem grow_any (n:Nat)(w:World)(hn:n≤1000000):
  Calls Tryz.prog 90 #[.slice none 0 0,.int .i64 n] w fun e w'=>∃v,e= .returned v∧w'.ownsRow w.heap.size 23 1 v 0 []∧Below w.heap.size w w':=by
 obtain⟨i0,hi,hz0,hz1,hz2⟩:=info_parts Tryz.infoInts
 by_cases h0:n=0
 ·subst h0
  go_enter Tryz.func90,Tryz.ntmps90
  go_wp2_with fail
  go_ret
  exact⟨_,rfl,World.ownsRow_nil _ _ _ _,Below.refl _ _⟩
 ·have hrz:∀ty,(Builtin.append_ #[41,3] ty #[.slice none 0 0,.int .i64 n]).run Tryz.prog w= .ok (.slice (some ⟨w.heap.size,0,none⟩) n (grownCap w n 0 23)) (w.drew.alloc (.cells (Builtin.zeroCells (Value.slice none 0 0).cells n ++ Builtin.zeroCells (Value.slice none 0 0).cells (grownCap w n 0 23 - n)) 23)):=fun ty=>by
   have h:=Lib.run_append_grow_zeros w 41 3 ty 23 i0 _ .i64 .i64 Tryz.underlying41 Tryz.underlying3 hi hz0 none 0 0 [] (run_firstCells_none w.drew i0.size 0 0 0) n (by omega) (by omega) (by omega) (by omega) (by rw[hz2];omega)
    (by have:=nextslicecap_le (need:=0+n) (old:=0) (by omega);rw[hz2];omega)
   simpa using h
  have h1:¬((n:Int)<0):=by omega
  have h4:(n:Int) > 0:=by omega
  have h5:(0:Int)<(n:Int):=by omega
  have HG:Hid (n≤grownCap w n 0 23∧grownCap w n 0 23≤maxLen):=⟨grownCap_ge w _ _ _,grownCap_le_maxLen w n 0 _ (by unfold maxLen;omega)⟩
  generalize grownCap w n 0 23=G at hrz HG
  go_enter Tryz.func90,Tryz.ntmps90
  go_wp2_with (at_builtin;refine Lib.wpList_append_run _ rfl _ _ _ _ rfl _ _ rfl rfl _ _ (hrz _) ?_)
  all_goals
   go_ret
   refine⟨_,rfl,World.ownsRow_made w.drew _ G (Nat.le_refl _) HG.out.2 ?_,(Below.refl _ w).drew.alloc (Nat.le_refl _) _⟩
   have:=HG.out.1
   simp[size_zeroCells,Value.cells]
   omega
theorem concat_any (g:Nat)(a:Option Addr)(m cap:Nat)(cs:List (List Int))(a2:Option Addr)(m2 cap2:Nat)(ss:List (List Int))(w:World)(hm:cs.length=m)(hm2:ss.length=m2)(h1:m≤40000)(h2:m2≤40000)(hl:CLies w.heap.size w a cs)(hl2:CLies w.heap.size w a2 ss)
  (hg:w.cell? ⟨g,0,none⟩=some (.slice a m cap)) (hg2:w.cell? ⟨g,1,none⟩=some (.slice a2 m2 cap2)) (hgb:g<w.heap.size):
  Calls Tryz.prog 58 #[.slice (some ⟨g,0,none⟩) 2 2] w fun e w'=>∃b cap',e= .returned (.slice b (m+m2) cap')∧m+m2≤cap'∧cap'≤9223372036854775807∧CLies w'.heap.size w' b (cs ++ ss)∧Below w.heap.size w w':=by
 obtain⟨i0,hi,hz0,hz1,hz2⟩:=info_parts Tryz.infoInts
 obtain⟨xs,rfl,hx,hxc⟩:=hl.rows
 obtain⟨ys,rfl,hy,hyc⟩:=hl2.rows
 rw[gforms_len]at hm hxc hm2 hyc
 have HX:=Lib.hid hx
 have HY:=Lib.hid hy
 have HXC:=Lib.hid hxc
 have HYC:=Lib.hid hyc
 have HM:=Lib.hid hm
 have HM2:=Lib.hid hm2
 have e1:=hg
 have e2:=hg2
 have hw1:IntKind.i64.wrap (0+(m:Int))=(m:Int):=by rw[Int.zero_add];exact IntWalk.i64_in _ (by omega)
 have hw2:IntKind.i64.wrap ((m:Int)+(m2:Int))=((m+m2:Nat):Int):=by rw[←Int.natCast_add];exact IntWalk.i64_in _ (by omega)
 have hn1:¬((m:Int)<0):=by omega
 have hn2:¬(((m+m2:Nat):Int)<0):=by omega
 have HGR:=Lib.hid (grow_any (m+m2) w (by omega))
 clear hl hl2 hx hy hxc hyc hm hm2
 go_enter Tryz.func58,Tryz.ntmps58
 go_wp2_with fail
 refine wp_loop_rounds 3 ?_
 rw[rounds_succ]
 go_wp2_with fail
 rw[rounds_succ]
 go_wp2_with fail
 rw[rounds_succ]
 go_wp2_with fail
 refine HGR.out.mono ?_
 rintro e w1 ⟨v,rfl,ho1,hb1⟩
 have hg3:=(hb1.cell (p:=⟨g,0,none⟩) hgb).trans hg
 have hg4:=(hb1.cell (p:=⟨g,1,none⟩) hgb).trans hg2
 have B1:=Lib.hid hb1
 have O1:=Lib.hid ho1
 clear hb1 ho1 HGR hg hg2 e1 e2
 go_wp2_with fail
 refine wp_loop_rounds 3 ?_
 rw[rounds_succ]
 obtain⟨v2,w2,hr2,ho2,hgr2,hb2⟩:=run_append_rows (P:=Tryz.prog) (w:=w1) w.heap.size 41 41 23 i0 _ Tryz.underlying41 hi hz0 hz1 hz2 rfl v 0 [] rfl O1.out B1.out.size a m cap xs HM.out (fun h=>by
  obtain⟨b,off,rfl,hlt,h3⟩:=HXC.out (by rw[HM.out];exact h)
  exact⟨b,off,rfl,fun j u hu=>(B1.out.cell (p:=⟨b,off+j,none⟩) hlt).trans (h3 j u hu)⟩) (by omega)
 have B2:=Lib.hid (B1.out.trans hb2)
 have O2:=Lib.hid ho2
 have hg5:=(hb2.cell (p:=⟨g,1,none⟩) hgb).trans hg4
 clear hb2 ho2 hgr2
 go_wp2_with (at_builtin;refine Lib.wpList_append_run _ rfl _ _ _ _ rfl _ _ rfl rfl _ _ hr2 ?_)
 rw[rounds_succ]
 obtain⟨v3,w3,hr3,ho3,hgr3,hb3⟩:=run_append_rows (P:=Tryz.prog) (w:=w2) w.heap.size 41 41 23 i0 _ Tryz.underlying41 hi hz0 hz1 hz2 rfl v2 (0+m) ([] ++ xs) (by rw[List.nil_append,HM.out,Nat.zero_add]) O2.out B2.out.size a2 m2 cap2 ys HM2.out (fun h=>by
  obtain⟨b,off,rfl,hlt,h3⟩:=HYC.out (by rw[HM2.out];exact h)
  exact⟨b,off,rfl,fun j u hu=>(B2.out.cell (p:=⟨b,off+j,none⟩) hlt).trans (h3 j u hu)⟩) (by omega)
 have B3:=Lib.hid (B2.out.trans hb3)
 have O3:=Lib.hid ho3
 clear hb3 ho3 hgr3
 go_wp2_with (at_builtin;refine Lib.wpList_append_run _ rfl _ _ _ _ rfl _ _ rfl rfl _ _ hr3 ?_)
 rw[rounds_succ]
 go_wp2_with fail
 go_ret
 have hk:=own_clies (by rw[List.nil_append,List.length_append,HM.out,HM2.out,Nat.zero_add]) O3.out (fun x hx=>by
  rw[List.nil_append]at hx
  rcases List.mem_append.1 hx with h | h
  ·exact((HX.out x h).below B3.out).mono B3.out.size
  ·exact((HY.out x h).below B3.out).mono B3.out.size)
 obtain⟨b,cap',rfl,hc1,hc2,hc⟩:=hk
 rw[Nat.zero_add]at hc1⊢
 exact⟨b,cap',rfl,hc1,hc2,by rw[←gforms_append];exact hc,B3.out⟩
end Prp
namespace Prp
open Go.RowKit
def IRow (B:Nat)(l:List Int)(v:Value)(w:World):Prop:=w.ownsRow B 3 1 v l.length (l.map (Value.int .i64))
theorem IRow.nil (B:Nat)(w:World):IRow B [] (.slice none 0 0) w:=World.ownsRow_nil _ _ _ _
theorem IRow.below {B:Nat}{l:List Int}{v:Value}{w w':World}(h:IRow B l v w)(hb:Below w.heap.size w w'):IRow B l v w':=
 World.ownsRow.kept (row:=none) h ⟨hb.os,hb.tape,hb.output,hb.size,fun q hq _=>hb.block q hq⟩ (by cases v.ownBlock<;>simp)
theorem IRow.snoc {B:Nat}{l:List Int}{y:Int}{v:Value}{w:World}(h:w.ownsRow B 3 1 v (l.length+1) (l.map (Value.int .i64) ++ [.int .i64 y])):IRow B (l ++ [y]) v w:=by
 unfold IRow;rw[List.length_append,List.map_append];exact h
theorem IRow.lies {B:Nat}{l:List Int}{v:Value}{w:World}(h:IRow B l v w):∃a cap,v= .slice a l.length cap∧LiesG (fun b=>B≤b∧b<w.heap.size) w a l:=by
 have hc:=fun g=>World.ownsRow.cells h (g:=g)
 have hlt:=World.ownsRow.lt h
 obtain⟨_,h1 | ⟨g,cap,cur,hv,h2⟩⟩:=h
 ·exact⟨none,0,by rw[h1.1,h1.2],fun i hi=>by omega⟩
 ·subst hv
  refine⟨some ⟨g,0,none⟩,cap,rfl,fun i hi=>⟨g,0,rfl,hlt g rfl, ?_⟩⟩
  have:=hc g rfl i (.int .i64 (l.getD i 0)) (by simp[List.getD_eq_getElem?_getD,hi])
  rwa [show(⟨g,0,none⟩:Addr).add i=⟨g,0+i,none⟩ by unfold Addr.add;split<;>simp_all]at this
theorem Tryz.eqNil (w:World):(binOp .eql 26 .nilIface .nilIface).run Tryz.prog w= .ok (.bool true) w:=by simp[go_sem]
end Prp
end Go.Proofs.YtipahfcaplbifaaGreatDoor
