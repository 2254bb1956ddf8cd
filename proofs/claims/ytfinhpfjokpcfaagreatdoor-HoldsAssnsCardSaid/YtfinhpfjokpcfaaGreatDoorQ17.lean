/- Parts of a proof. -/
import Derived.Test.YtfinhpfjokpcfaaGreatDoorQ16
set_option linter.unusedVariables false
set_option linter.unusedSimpArgs false
set_option maxHeartbeats 60000000
set_option maxRecDepth 100000
namespace Go.Proofs.YtfinhpfjokpcfaaGreatDoor
section
open Go.RowKit
theorem of_any (s:ByteArray)(a:Option Addr)(m cap:Nat)(xs:List (ByteArray×Int))(w:World)(hm:xs.length=m)(hs:Pak.Sits varSh (Pak.Lo w.heap.size) w a xs):
 Calls Tryz.prog 39 #[.slice a m cap,.string s] w fun r w'=>r= .returned (.int .i64 (varOf s xs))∧Below w.heap.size w w':=by
 have HS:=Lib.hid hs
 have HM:=Lib.hid hm
 have hmm:m≤9223372036854775807:=by rw[←hm];exact hs.1
 have HHIT:=Lib.hid (fun j h h1 h2=>varOf_at (s:=s) (xs:=xs) (j:=j) h h1 h2)
 have HMISS:=Lib.hid (fun h=>varOf_no (s:=s) (xs:=xs) h)
 clear hs hm
 generalize varOf s xs=y at HHIT HMISS
 go_enter Tryz.func39,Tryz.ntmps39
 go_wp2_with fail
 go_loopw [5] (fun i wr=>∃j:Nat,j≤m∧i= .int .i64 j∧Hid (∀q,(hq:q<xs.length)→q<j→xs[q].1≠s)∧w=wr) (fun i _=>m - (intOf i).toNat)
 case atStart=>exact⟨0,Nat.zero_le _,rfl,fun q _ h=>absurd h (Nat.not_lt_zero _),rfl⟩
 case round=>
  obtain⟨j,hj,rfl,hno,rfl⟩:=hrel
  by_cases hlt:j<m
  ·have hlx:j<xs.length:=by rw[HM.out];exact hlt
   obtain⟨b,off,cs,rfl,hbl,hc,rfl,_⟩:=HS.out.2 j hlx
   have c0:=hc 0 _ rfl
   have c1:=hc 1 _ rfl
   rw[show varSh.k=2 from rfl,Nat.add_zero]at c0
   rw[show varSh.k=2 from rfl]at c1
   have HH:=Lib.hid (fun e=>HHIT.out j hlx hno.out e)
   have HN:Hid (¬xs[j].1=s→∀q,(hq:q<xs.length)→q<j+1→xs[q].1≠s):=fun h q hq hlq=>by
    by_cases e:q=j
    ·subst e;exact h
    ·exact hno.out q hq (by omega)
   have hji:(j:Int)<(m:Int):=by omega
   clear hc
   generalize xs[j]=x at*
   obtain⟨xn,xv⟩:=x
   dsimp only at c0 c1 HH HN
   by_cases hx:xn=s
   ·obtain rfl:=HH.out hx
    subst hx
    clear HH HN
    go_wp2_with fail
    go_ret
    exact⟨rfl,Below.refl _ _⟩
   ·have HN2:=Lib.hid (HN.out hx)
    have e1:(xn.toList == s.toList)=false:=bs_ne hx
    clear HH HN
    go_wp2_with fail
    go_roundw
    case rel=>exact⟨j+1,by omega,by go_num,HN2,trivial⟩
    case measure=>simp[intOf];omega
  ·obtain rfl:j=m:=by omega
   obtain rfl:=HMISS.out (fun q hq=>hno.out q hq (by rw[HM.out]at hq;exact hq))
   go_wp2_with fail
   go_ret
   exact⟨rfl,Below.refl _ _⟩
theorem rnear_any (n:Int)(w:World):BoolAll 40 #[.int .i64 n] (nearB n) w:=fun W hW=>by
 clear hW
 by_cases g1: -4294967296≤n
 ·by_cases g2:n≤4294967296
  ·have hr:Hid (nearB n=true):=Lib.hid (by unfold nearB;simp[g1,g2])
   go_enter Tryz.func40,Tryz.ntmps40
   go_wp2_with fail
   go_ret
   exact⟨by rw[hr.out];rfl,Below.refl _ _⟩
  ·have g3:decide (n≤4294967296)=false:=decide_eq_false g2
   have hr:Hid (nearB n=false):=Lib.hid (by unfold nearB;simp[g2])
   go_enter Tryz.func40,Tryz.ntmps40
   go_wp2_with fail
   go_ret
   exact⟨by rw[hr.out];rfl,Below.refl _ _⟩
 ·have g3:decide (-4294967296≤n)=false:=decide_eq_false g1
  have hr:Hid (nearB n=false):=Lib.hid (by unfold nearB;simp[g1])
  go_enter Tryz.func40,Tryz.ntmps40
  go_wp2_with fail
  go_ret
  exact⟨by rw[hr.out];rfl,Below.refl _ _⟩
theorem rvalue_0 (en:Int)(s:ByteArray)(a:Option Addr)(m cap:Nat)(vs:Value)(u:Int)(w:World):
 Calls Tryz.prog 25 #[.agg #[.int .i64 0,.int .i64 en,.string s,.slice a m cap],vs] w (ValIn (en,nearB (en)) w):=by
 have HA:Hid (Below w.heap.size w (w.alloc (.cells #[.int .i64 0,.int .i64 en,.string s,.slice a m cap] 24))):=box_low
 have NE:=Lib.hid (fun W n=>rnear_any n W W (Below.refl _ _))
 go_enter Tryz.func25,Tryz.ntmps25
 go_wp2_with fail
 refine(NE.out _ (en)).mono ?_
 rintro r w9 ⟨rfl,hb9⟩
 have H9:=Lib.hid (HA.out.trans (hb9.mono HA.out.size))
 clear hb9
 go_wp2_with fail
 go_ret2
 exact⟨rfl,H9.out⟩
theorem rvalue_1 (en:Int)(s:ByteArray)(a:Option Addr)(m cap:Nat)(vs:Value)(u:Int)(w:World)(hv:ValAll 39 #[vs,.string s] (.int .i64 u) w):
 Calls Tryz.prog 25 #[.agg #[.int .i64 1,.int .i64 en,.string s,.slice a m cap],vs] w (ValIn (u,nearB (u)) w):=by
 have HA:Hid (Below w.heap.size w (w.alloc (.cells #[.int .i64 1,.int .i64 en,.string s,.slice a m cap] 24))):=box_low
 have NE:=Lib.hid (fun W n=>rnear_any n W W (Below.refl _ _))
 have X:=Lib.hid hv
 have Q0:=Lib.hid (fun W (hb:Below (w.alloc (.cells #[.int .i64 1,.int .i64 en,.string s,.slice a m cap] 24)).heap.size (w.alloc (.cells #[.int .i64 1,.int .i64 en,.string s,.slice a m cap] 24)) W)=>box_at (cs:=[.int .i64 1,.int .i64 en,.string s,.slice a m cap]) (o:=0) rfl hb)
 clear hv
 go_enter Tryz.func25,Tryz.ntmps25
 go_wp2_with fail
 refine(X.out.at HA.out).mono ?_
 rintro r w1 ⟨rfl,hb⟩
 have q0:=Q0.out _ hb
 have H1:=Lib.hid (HA.out.trans (hb.mono HA.out.size))
 clear hb
 go_wp2_with fail
 refine(NE.out _ (u)).mono ?_
 rintro r w9 ⟨rfl,hb9⟩
 have H9:=Lib.hid (H1.out.trans (hb9.mono H1.out.size))
 clear hb9
 go_wp2_with fail
 go_ret2
 exact⟨rfl,H9.out⟩
theorem rvalue_2 (en:Int)(s:ByteArray)(b off cap:Nat)(vs:Value)(cs0 cs1:List Value)(u0 u1:Int)(z0 z1:Bool)(w:World)(R:Int×Bool)(r0:z0=false→R=(0,false))(r1:z0=true→z1=false→R=(0,false))(r2:z0=true→z1=true→R=(u0+u1,nearB (u0+u1)))(hb:b<w.heap.size)(hen:en=0)(hu0:z0=true→ -4294967296≤u0∧u0≤4294967296)(hu1:z1=true→ -4294967296≤u1∧u1≤4294967296)(hl0:cs0.length=4)(hl1:cs1.length=4)
 (hc0:∀i v,cs0[i]? =some v→w.cell? ((⟨b,off,none⟩:Addr).add i)=some v) (hc1:∀i v,cs1[i]? =some v→w.cell? ((⟨b,off+4,none⟩:Addr).add i)=some v)
 (x0:ValAll 25 #[.agg cs0.toArray,vs] (.tuple #[.int .i64 u0,.bool z0]) w) (x1:ValAll 25 #[.agg cs1.toArray,vs] (.tuple #[.int .i64 u1,.bool z1]) w):
 Calls Tryz.prog 25 #[.agg #[.int .i64 2,.int .i64 en,.string s,.slice (some ⟨b,off,none⟩) 2 cap],vs] w (ValIn (R) w):=by
 have HA:Hid (Below w.heap.size w (w.alloc (.cells #[.int .i64 2,.int .i64 en,.string s,.slice (some ⟨b,off,none⟩) 2 cap] 24))):=box_low
 have HB0:Hid (Below (w.alloc (.cells #[.int .i64 2,.int .i64 en,.string s,.slice (some ⟨b,off,none⟩) 2 cap] 24)).heap.size (w.alloc (.cells #[.int .i64 2,.int .i64 en,.string s,.slice (some ⟨b,off,none⟩) 2 cap] 24)) (w.alloc (.cells #[.int .i64 2,.int .i64 en,.string s,.slice (some ⟨b,off,none⟩) 2 cap] 24))):=Below.refl _ _
 have NE:=Lib.hid (fun W n=>rnear_any n W W (Below.refl _ _))
 have HC0:Hid (∀W,Below w.heap.size w W→∀i v,cs0[i]? =some v→W.cell? ((⟨b,off,none⟩:Addr).add i)=some v):=fun W hW i v hv=>by
  have:=hc0 i v hv
  rw[show(⟨b,off,none⟩:Addr).add i=⟨b,off+i,none⟩ by unfold Addr.add;split<;>simp_all]at this⊢
  exact(hW.cell (p:=⟨b,off+i,none⟩) hb).trans this
 have L0:=Lib.hid hl0
 have X0:=Lib.hid x0
 have U0:=Lib.hid hu0
 have HC1:Hid (∀W,Below w.heap.size w W→∀i v,cs1[i]? =some v→W.cell? ((⟨b,off+4,none⟩:Addr).add i)=some v):=fun W hW i v hv=>by
  have:=hc1 i v hv
  rw[show(⟨b,off+4,none⟩:Addr).add i=⟨b,off+4+i,none⟩ by unfold Addr.add;split<;>simp_all]at this⊢
  exact(hW.cell (p:=⟨b,off+4+i,none⟩) hb).trans this
 have L1:=Lib.hid hl1
 have X1:=Lib.hid x1
 have U1:=Lib.hid hu1
 have Q0:=Lib.hid (fun W (hb:Below (w.alloc (.cells #[.int .i64 2,.int .i64 en,.string s,.slice (some ⟨b,off,none⟩) 2 cap] 24)).heap.size (w.alloc (.cells #[.int .i64 2,.int .i64 en,.string s,.slice (some ⟨b,off,none⟩) 2 cap] 24)) W)=>box_at (cs:=[.int .i64 2,.int .i64 en,.string s,.slice (some ⟨b,off,none⟩) 2 cap]) (o:=0) rfl hb)
 have Q1:=Lib.hid (fun W (hb:Below (w.alloc (.cells #[.int .i64 2,.int .i64 en,.string s,.slice (some ⟨b,off,none⟩) 2 cap] 24)).heap.size (w.alloc (.cells #[.int .i64 2,.int .i64 en,.string s,.slice (some ⟨b,off,none⟩) 2 cap] 24)) W)=>box_at (cs:=[.int .i64 2,.int .i64 en,.string s,.slice (some ⟨b,off,none⟩) 2 cap]) (o:=1) rfl hb)
 have Q2:=Lib.hid (fun W (hb:Below (w.alloc (.cells #[.int .i64 2,.int .i64 en,.string s,.slice (some ⟨b,off,none⟩) 2 cap] 24)).heap.size (w.alloc (.cells #[.int .i64 2,.int .i64 en,.string s,.slice (some ⟨b,off,none⟩) 2 cap] 24)) W)=>box_at (cs:=[.int .i64 2,.int .i64 en,.string s,.slice (some ⟨b,off,none⟩) 2 cap]) (o:=2) rfl hb)
 have Q3:=Lib.hid (fun W (hb:Below (w.alloc (.cells #[.int .i64 2,.int .i64 en,.string s,.slice (some ⟨b,off,none⟩) 2 cap] 24)).heap.size (w.alloc (.cells #[.int .i64 2,.int .i64 en,.string s,.slice (some ⟨b,off,none⟩) 2 cap] 24)) W)=>box_at (cs:=[.int .i64 2,.int .i64 en,.string s,.slice (some ⟨b,off,none⟩) 2 cap]) (o:=3) rfl hb)
 have R0:=Lib.hid r0
 have R2:=Lib.hid r2
 have R1:=Lib.hid r1
 clear r0 r2 r1 hb hl0 hc0 x0 hu0 hl1 hc1 x1 hu1
 clear hen
 go_enter Tryz.func25,Tryz.ntmps25
 go_wp2_with (first | go_skip | (refine wpList_load_w (by kernel_rfl) 24 _ rfl ⟨b,off,none⟩ rfl cs0 _ (HC0.out _ HA.out) Tryz.underlying24 rfl (by rw[L0.out];kernel_rfl) ?_))
 refine(X0.out.at HA.out).mono ?_
 rintro r w1 ⟨rfl,hb⟩
 have H1:=Lib.hid (HB0.out.trans (hb.mono HB0.out.size))
 have W1:=Lib.hid (HA.out.trans (hb.mono HA.out.size))
 have q0:=Q0.out _ H1.out
 have q1:=Q1.out _ H1.out
 have q3:=Q3.out _ H1.out
 clear hb
 cases z0 with
 | false=>
   go_wp2_with fail
   go_ret2
   exact⟨by rw[R0.out (by simp)];rfl,W1.out⟩
 | true=>
 have hb0:=U0.out (by simp)
 go_wp2_with (first | go_skip | (refine wpList_load_w (by kernel_rfl) 24 _ rfl ⟨b,off+4,none⟩ rfl cs1 _ (HC1.out _ W1.out) Tryz.underlying24 rfl (by rw[L1.out];kernel_rfl) ?_))
 refine(X1.out.at W1.out).mono ?_
 rintro r w2 ⟨rfl,hb⟩
 have H2:=Lib.hid (H1.out.trans (hb.mono H1.out.size))
 have W2:=Lib.hid (W1.out.trans (hb.mono W1.out.size))
 clear q0 q1 q3
 have q0:=Q0.out _ H2.out
 clear hb
 cases z1 with
 | false=>
   go_wp2_with fail
   go_ret2
   exact⟨by rw[R1.out (by simp) (by simp)];rfl,W2.out⟩
 | true=>
 have hb1:=U1.out (by simp)
 go_wp2_with fail
 refine(NE.out _ (u0+u1)).mono ?_
 rintro r w9 ⟨rfl,hb9⟩
 have H9:=Lib.hid (W2.out.trans (hb9.mono W2.out.size))
 clear hb9
 go_wp2_with fail
 go_ret2
 exact⟨by rw[R2.out (by simp) (by simp)];rfl,H9.out⟩
theorem rvalue_3 (en:Int)(s:ByteArray)(b off cap:Nat)(vs:Value)(cs0 cs1:List Value)(u0 u1:Int)(z0 z1:Bool)(w:World)(R:Int×Bool)(r0:z0=false→R=(0,false))(r1:z0=true→z1=false→R=(0,false))(r2:z0=true→z1=true→R=(u0 - u1,nearB (u0 - u1)))(hb:b<w.heap.size)(hen:en=0)(hu0:z0=true→ -4294967296≤u0∧u0≤4294967296)(hu1:z1=true→ -4294967296≤u1∧u1≤4294967296)(hl0:cs0.length=4)(hl1:cs1.length=4)
 (hc0:∀i v,cs0[i]? =some v→w.cell? ((⟨b,off,none⟩:Addr).add i)=some v) (hc1:∀i v,cs1[i]? =some v→w.cell? ((⟨b,off+4,none⟩:Addr).add i)=some v)
 (x0:ValAll 25 #[.agg cs0.toArray,vs] (.tuple #[.int .i64 u0,.bool z0]) w) (x1:ValAll 25 #[.agg cs1.toArray,vs] (.tuple #[.int .i64 u1,.bool z1]) w):
 Calls Tryz.prog 25 #[.agg #[.int .i64 3,.int .i64 en,.string s,.slice (some ⟨b,off,none⟩) 2 cap],vs] w (ValIn (R) w):=by
 have HA:Hid (Below w.heap.size w (w.alloc (.cells #[.int .i64 3,.int .i64 en,.string s,.slice (some ⟨b,off,none⟩) 2 cap] 24))):=box_low
 have HB0:Hid (Below (w.alloc (.cells #[.int .i64 3,.int .i64 en,.string s,.slice (some ⟨b,off,none⟩) 2 cap] 24)).heap.size (w.alloc (.cells #[.int .i64 3,.int .i64 en,.string s,.slice (some ⟨b,off,none⟩) 2 cap] 24)) (w.alloc (.cells #[.int .i64 3,.int .i64 en,.string s,.slice (some ⟨b,off,none⟩) 2 cap] 24))):=Below.refl _ _
 have NE:=Lib.hid (fun W n=>rnear_any n W W (Below.refl _ _))
 have HC0:Hid (∀W,Below w.heap.size w W→∀i v,cs0[i]? =some v→W.cell? ((⟨b,off,none⟩:Addr).add i)=some v):=fun W hW i v hv=>by
  have:=hc0 i v hv
  rw[show(⟨b,off,none⟩:Addr).add i=⟨b,off+i,none⟩ by unfold Addr.add;split<;>simp_all]at this⊢
  exact(hW.cell (p:=⟨b,off+i,none⟩) hb).trans this
 have L0:=Lib.hid hl0
 have X0:=Lib.hid x0
 have U0:=Lib.hid hu0
 have HC1:Hid (∀W,Below w.heap.size w W→∀i v,cs1[i]? =some v→W.cell? ((⟨b,off+4,none⟩:Addr).add i)=some v):=fun W hW i v hv=>by
  have:=hc1 i v hv
  rw[show(⟨b,off+4,none⟩:Addr).add i=⟨b,off+4+i,none⟩ by unfold Addr.add;split<;>simp_all]at this⊢
  exact(hW.cell (p:=⟨b,off+4+i,none⟩) hb).trans this
 have L1:=Lib.hid hl1
 have X1:=Lib.hid x1
 have U1:=Lib.hid hu1
 have Q0:=Lib.hid (fun W (hb:Below (w.alloc (.cells #[.int .i64 3,.int .i64 en,.string s,.slice (some ⟨b,off,none⟩) 2 cap] 24)).heap.size (w.alloc (.cells #[.int .i64 3,.int .i64 en,.string s,.slice (some ⟨b,off,none⟩) 2 cap] 24)) W)=>box_at (cs:=[.int .i64 3,.int .i64 en,.string s,.slice (some ⟨b,off,none⟩) 2 cap]) (o:=0) rfl hb)
 have Q1:=Lib.hid (fun W (hb:Below (w.alloc (.cells #[.int .i64 3,.int .i64 en,.string s,.slice (some ⟨b,off,none⟩) 2 cap] 24)).heap.size (w.alloc (.cells #[.int .i64 3,.int .i64 en,.string s,.slice (some ⟨b,off,none⟩) 2 cap] 24)) W)=>box_at (cs:=[.int .i64 3,.int .i64 en,.string s,.slice (some ⟨b,off,none⟩) 2 cap]) (o:=1) rfl hb)
 have Q2:=Lib.hid (fun W (hb:Below (w.alloc (.cells #[.int .i64 3,.int .i64 en,.string s,.slice (some ⟨b,off,none⟩) 2 cap] 24)).heap.size (w.alloc (.cells #[.int .i64 3,.int .i64 en,.string s,.slice (some ⟨b,off,none⟩) 2 cap] 24)) W)=>box_at (cs:=[.int .i64 3,.int .i64 en,.string s,.slice (some ⟨b,off,none⟩) 2 cap]) (o:=2) rfl hb)
 have Q3:=Lib.hid (fun W (hb:Below (w.alloc (.cells #[.int .i64 3,.int .i64 en,.string s,.slice (some ⟨b,off,none⟩) 2 cap] 24)).heap.size (w.alloc (.cells #[.int .i64 3,.int .i64 en,.string s,.slice (some ⟨b,off,none⟩) 2 cap] 24)) W)=>box_at (cs:=[.int .i64 3,.int .i64 en,.string s,.slice (some ⟨b,off,none⟩) 2 cap]) (o:=3) rfl hb)
 have R0:=Lib.hid r0
 have R2:=Lib.hid r2
 have R1:=Lib.hid r1
 clear r0 r2 r1 hb hl0 hc0 x0 hu0 hl1 hc1 x1 hu1
 clear hen
 go_enter Tryz.func25,Tryz.ntmps25
 go_wp2_with (first | go_skip | (refine wpList_load_w (by kernel_rfl) 24 _ rfl ⟨b,off,none⟩ rfl cs0 _ (HC0.out _ HA.out) Tryz.underlying24 rfl (by rw[L0.out];kernel_rfl) ?_))
 refine(X0.out.at HA.out).mono ?_
 rintro r w1 ⟨rfl,hb⟩
 have H1:=Lib.hid (HB0.out.trans (hb.mono HB0.out.size))
 have W1:=Lib.hid (HA.out.trans (hb.mono HA.out.size))
 have q0:=Q0.out _ H1.out
 have q1:=Q1.out _ H1.out
 have q3:=Q3.out _ H1.out
 clear hb
 cases z0 with
 | false=>
   go_wp2_with fail
   go_ret2
   exact⟨by rw[R0.out (by simp)];rfl,W1.out⟩
 | true=>
 have hb0:=U0.out (by simp)
 go_wp2_with (first | go_skip | (refine wpList_load_w (by kernel_rfl) 24 _ rfl ⟨b,off+4,none⟩ rfl cs1 _ (HC1.out _ W1.out) Tryz.underlying24 rfl (by rw[L1.out];kernel_rfl) ?_))
 refine(X1.out.at W1.out).mono ?_
 rintro r w2 ⟨rfl,hb⟩
 have H2:=Lib.hid (H1.out.trans (hb.mono H1.out.size))
 have W2:=Lib.hid (W1.out.trans (hb.mono W1.out.size))
 clear q0 q1 q3
 have q0:=Q0.out _ H2.out
 clear hb
 cases z1 with
 | false=>
   go_wp2_with fail
   go_ret2
   exact⟨by rw[R1.out (by simp) (by simp)];rfl,W2.out⟩
 | true=>
 have hb1:=U1.out (by simp)
 go_wp2_with fail
 refine(NE.out _ (u0 - u1)).mono ?_
 rintro r w9 ⟨rfl,hb9⟩
 have H9:=Lib.hid (W2.out.trans (hb9.mono W2.out.size))
 clear hb9
 go_wp2_with fail
 go_ret2
 exact⟨by rw[R2.out (by simp) (by simp)];rfl,H9.out⟩
theorem rvalue_4 (en:Int)(s:ByteArray)(b off cap:Nat)(vs:Value)(cs0:List Value)(u0:Int)(z0:Bool)(w:World)(R:Int×Bool)(r0:z0=false→R=(0,false))(r2:z0=true→R=(en*u0,nearB (en*u0)))(hb:b<w.heap.size)(hen: -1073741824≤en∧en≤1073741824)(hu0:z0=true→ -4294967296≤u0∧u0≤4294967296)(hl0:cs0.length=4)
 (hc0:∀i v,cs0[i]? =some v→w.cell? ((⟨b,off,none⟩:Addr).add i)=some v)
 (x0:ValAll 25 #[.agg cs0.toArray,vs] (.tuple #[.int .i64 u0,.bool z0]) w):
 Calls Tryz.prog 25 #[.agg #[.int .i64 4,.int .i64 en,.string s,.slice (some ⟨b,off,none⟩) 1 cap],vs] w (ValIn (R) w):=by
 have HA:Hid (Below w.heap.size w (w.alloc (.cells #[.int .i64 4,.int .i64 en,.string s,.slice (some ⟨b,off,none⟩) 1 cap] 24))):=box_low
 have HB0:Hid (Below (w.alloc (.cells #[.int .i64 4,.int .i64 en,.string s,.slice (some ⟨b,off,none⟩) 1 cap] 24)).heap.size (w.alloc (.cells #[.int .i64 4,.int .i64 en,.string s,.slice (some ⟨b,off,none⟩) 1 cap] 24)) (w.alloc (.cells #[.int .i64 4,.int .i64 en,.string s,.slice (some ⟨b,off,none⟩) 1 cap] 24))):=Below.refl _ _
 have NE:=Lib.hid (fun W n=>rnear_any n W W (Below.refl _ _))
 have HC0:Hid (∀W,Below w.heap.size w W→∀i v,cs0[i]? =some v→W.cell? ((⟨b,off,none⟩:Addr).add i)=some v):=fun W hW i v hv=>by
  have:=hc0 i v hv
  rw[show(⟨b,off,none⟩:Addr).add i=⟨b,off+i,none⟩ by unfold Addr.add;split<;>simp_all]at this⊢
  exact(hW.cell (p:=⟨b,off+i,none⟩) hb).trans this
 have L0:=Lib.hid hl0
 have X0:=Lib.hid x0
 have U0:=Lib.hid hu0
 have Q0:=Lib.hid (fun W (hb:Below (w.alloc (.cells #[.int .i64 4,.int .i64 en,.string s,.slice (some ⟨b,off,none⟩) 1 cap] 24)).heap.size (w.alloc (.cells #[.int .i64 4,.int .i64 en,.string s,.slice (some ⟨b,off,none⟩) 1 cap] 24)) W)=>box_at (cs:=[.int .i64 4,.int .i64 en,.string s,.slice (some ⟨b,off,none⟩) 1 cap]) (o:=0) rfl hb)
 have Q1:=Lib.hid (fun W (hb:Below (w.alloc (.cells #[.int .i64 4,.int .i64 en,.string s,.slice (some ⟨b,off,none⟩) 1 cap] 24)).heap.size (w.alloc (.cells #[.int .i64 4,.int .i64 en,.string s,.slice (some ⟨b,off,none⟩) 1 cap] 24)) W)=>box_at (cs:=[.int .i64 4,.int .i64 en,.string s,.slice (some ⟨b,off,none⟩) 1 cap]) (o:=1) rfl hb)
 have Q2:=Lib.hid (fun W (hb:Below (w.alloc (.cells #[.int .i64 4,.int .i64 en,.string s,.slice (some ⟨b,off,none⟩) 1 cap] 24)).heap.size (w.alloc (.cells #[.int .i64 4,.int .i64 en,.string s,.slice (some ⟨b,off,none⟩) 1 cap] 24)) W)=>box_at (cs:=[.int .i64 4,.int .i64 en,.string s,.slice (some ⟨b,off,none⟩) 1 cap]) (o:=2) rfl hb)
 have Q3:=Lib.hid (fun W (hb:Below (w.alloc (.cells #[.int .i64 4,.int .i64 en,.string s,.slice (some ⟨b,off,none⟩) 1 cap] 24)).heap.size (w.alloc (.cells #[.int .i64 4,.int .i64 en,.string s,.slice (some ⟨b,off,none⟩) 1 cap] 24)) W)=>box_at (cs:=[.int .i64 4,.int .i64 en,.string s,.slice (some ⟨b,off,none⟩) 1 cap]) (o:=3) rfl hb)
 have R0:=Lib.hid r0
 have R2:=Lib.hid r2
 clear r0 r2 hb hl0 hc0 x0 hu0
 go_enter Tryz.func25,Tryz.ntmps25
 go_wp2_with (first | go_skip | (refine wpList_load_w (by kernel_rfl) 24 _ rfl ⟨b,off,none⟩ rfl cs0 _ (HC0.out _ HA.out) Tryz.underlying24 rfl (by rw[L0.out];kernel_rfl) ?_))
 refine(X0.out.at HA.out).mono ?_
 rintro r w1 ⟨rfl,hb⟩
 have H1:=Lib.hid (HB0.out.trans (hb.mono HB0.out.size))
 have W1:=Lib.hid (HA.out.trans (hb.mono HA.out.size))
 have q0:=Q0.out _ H1.out
 have q1:=Q1.out _ H1.out
 have q3:=Q3.out _ H1.out
 clear hb
 cases z0 with
 | false=>
   go_wp2_with fail
   go_ret2
   exact⟨by rw[R0.out (by simp)];rfl,W1.out⟩
 | true=>
 have hb0:=U0.out (by simp)
 have hmul: -4611686018427387904≤u0*en∧u0*en≤4611686018427387904:=by
  have h1:(u0*en).natAbs≤4294967296*1073741824:=by
   rw[Int.natAbs_mul]
   exact Nat.mul_le_mul (by omega) (by omega)
  omega
 have HWR:Hid (wrap64 (u0*en)=en*u0):=Lib.hid (by rw[IntWalk.wrap64_in _ (by omega)];exact Int.mul_comm _ _)
 have hWR:wrap64 (u0*en)=en*u0:=HWR.out
 generalize en*u0=V at*
 clear hmul hb0 hen
 go_wp2_with fail
 refine(NE.out _ (V)).mono ?_
 rintro r w9 ⟨rfl,hb9⟩
 have H9:=Lib.hid (W1.out.trans (hb9.mono W1.out.size))
 clear hb9
 go_wp2_with fail
 go_ret2
 exact⟨by rw[R2.out (by simp)];rfl,H9.out⟩
theorem snE_zero {nm:ByteArray→Bool}{n:Nat}{e:ET}(h:snE nm (n+1) e=true)(hk:e.kind=2∨e.kind=3):e.n=0:=by
 unfold snE at h
 rw[if_neg (by omega),if_pos (by omega)]at h
 simp only[Bool.and_eq_true,Bool.or_eq_true,beq_iff_eq,decide_eq_true_eq]at h
 rcases h.1.1.1 with h1 | ⟨h1,_⟩
 ·exact h1
 ·omega
theorem rvalue_any (nm:ByteArray→Bool)(xs:List (ByteArray×Int))(av:Option Addr)(cv:Nat):∀(n:Nat) (e:ET) (cs:List Value) (w:World),snE nm n e=true→(exprSh n).rel (Pak.Lo w.heap.size) w cs e→Pak.Sits varSh (Pak.Lo w.heap.size) w av xs→
 Calls Tryz.prog 25 #[.agg cs.toArray,.slice av xs.length cv] w (ValIn (valE (fun s=>varOf s xs) n e) w)
 | 0,_,_,_,_,h,_=>h.elim
 | n+1,e,cs,w,hs,h,hv=>by
   obtain⟨hk,hn,hkid⟩:=snE_parts hs
   have hz:=snE_zero hs
   have IH:=fun x (hx:x∈e.ks) cs W hr (hb:Below w.heap.size w W)=>rvalue_any nm xs av cv n x cs W (hkid x hx) hr (hv.below hb hb.size)
   obtain⟨v,rfl,⟨_,_,hsz⟩,a,cap,rfl,hsit⟩:=h
   rw[valE_succ]
   have two:0<e.ks.length→∃b off,a=some ⟨b,off,none⟩∧b<w.heap.size:=fun hp=>by
    obtain⟨b',off',cs,e,hb,_⟩:=hsit.2 0 hp
    exact⟨b',off',e,hb⟩
   have g:∀q,(h:q<e.ks.length)→e.ks.getD q default=e.ks[q]:=fun q h=>by rw[List.getD_eq_getElem?_getD,List.getElem?_eq_getElem h];rfl
   rcases hk with ⟨h1,h2⟩ | ⟨h1,h2⟩ | ⟨h1,h2⟩ | ⟨h1,h2⟩ | ⟨h1,h2⟩
   ·rw[h1,if_pos rfl]
    exact rvalue_0 e.n e.name a _ cap _ 0 w
   ·rw[h1,if_neg (by decide),if_pos rfl]
    exact rvalue_1 e.n e.name a _ cap _ _ w (fun W hW=>of_any e.name av _ cv xs W rfl (hv.below hW hW.size))
   ·obtain⟨b,off,rfl,hb⟩:=two (by omega)
    obtain⟨cs0,hc0,hr0⟩:=sits_at hsit (i:=0) (by omega)
    obtain⟨cs1,hc1,hr1⟩:=sits_at hsit (i:=1) (by omega)
    rw[exprSh_k]at hc0 hc1
    rw[h1,h2,if_neg (by decide),if_neg (by decide),if_neg (show ¬(2:Int)=4 by decide),if_pos rfl,g 0 (by omega),g 1 (by omega)]
    exact rvalue_2 e.n e.name b off cap _ cs0 cs1 _ _ _ _ w _ (fun h=>if_pos h) (fun h h'=>by rw[if_neg (by rw[h];decide),if_pos h']) (fun h h'=>by rw[if_neg (by rw[h];decide),if_neg (by rw[h'];decide)]) hb (hz (by omega)) (valE_near _ n _) (valE_near _ n _) (((exprSh n).len hr0).trans (exprSh_k n)) (((exprSh n).len hr1).trans (exprSh_k n)) (by simpa using hc0) (by simpa using hc1)
     (fun W hW=>IH _ (List.getElem_mem _) cs0 W (rel_low hr0 hW) hW) (fun W hW=>IH _ (List.getElem_mem _) cs1 W (rel_low hr1 hW) hW)
   ·obtain⟨b,off,rfl,hb⟩:=two (by omega)
    obtain⟨cs0,hc0,hr0⟩:=sits_at hsit (i:=0) (by omega)
    obtain⟨cs1,hc1,hr1⟩:=sits_at hsit (i:=1) (by omega)
    rw[exprSh_k]at hc0 hc1
    rw[h1,h2,if_neg (by decide),if_neg (by decide),if_neg (show ¬(3:Int)=4 by decide),if_neg (show ¬(3:Int)=2 by decide),g 0 (by omega),g 1 (by omega)]
    exact rvalue_3 e.n e.name b off cap _ cs0 cs1 _ _ _ _ w _ (fun h=>if_pos h) (fun h h'=>by rw[if_neg (by rw[h];decide),if_pos h']) (fun h h'=>by rw[if_neg (by rw[h];decide),if_neg (by rw[h'];decide)]) hb (hz (by omega)) (valE_near _ n _) (valE_near _ n _) (((exprSh n).len hr0).trans (exprSh_k n)) (((exprSh n).len hr1).trans (exprSh_k n)) (by simpa using hc0) (by simpa using hc1)
     (fun W hW=>IH _ (List.getElem_mem _) cs0 W (rel_low hr0 hW) hW) (fun W hW=>IH _ (List.getElem_mem _) cs1 W (rel_low hr1 hW) hW)
   ·obtain⟨b,off,rfl,hb⟩:=two (by omega)
    obtain⟨cs0,hc0,hr0⟩:=sits_at hsit (i:=0) (by omega)
    rw[exprSh_k]at hc0
    rw[h1,h2,if_neg (by decide),if_neg (by decide),if_pos rfl,g 0 (by omega)]
    exact rvalue_4 e.n e.name b off cap _ cs0 _ _ w _ (fun h=>if_pos h) (fun h=>by rw[if_neg (by rw[h];decide)]) hb hn (valE_near _ n _) (((exprSh n).len hr0).trans (exprSh_k n)) (by simpa using hc0)
     (fun W hW=>IH _ (List.getElem_mem _) cs0 W (rel_low hr0 hW) hW)
end
section
open Go.RowKit
theorem sizeC_box (n:Nat)(es:List CT)(a:Option Addr)(m cap:Nat)(l dd:Int)(w:World)(hm:es.length=m)(hd0:0≤dd)(hd1:dd≤300)(hl0: -1≤l)(hl1:l≤300)(hs:Pak.Sits (condSh (n+1)) (Pak.Lo w.heap.size) w a es)
 (hk:∀(x:CT) (u:Option Addr) (c:Nat) (q:Int) (W:World),x∈es→1≤dd→ -1≤q→q≤300→Below w.heap.size w W→Pak.Sits (condSh n) (Pak.Lo W.heap.size) W u x.ks→Calls Tryz.prog 33 #[.slice u x.ks.length c,.int .i64 q,.int .i64 (dd - 1)] W (SzEnd x.ks.length q W)):
 Calls Tryz.prog 33 #[.slice a m cap,.int .i64 l,.int .i64 dd] w (SzEnd m l w):=by
 have HS:=Lib.hid hs
 have HM:=Lib.hid hm
 have hmm:m≤9223372036854775807:=by rw[←hm];exact hs.1
 have HK:=Lib.hid hk
 have HD0:=Lib.hid hd0
 have HD1:=Lib.hid hd1
 have HL0:=Lib.hid hl0
 have HL1:=Lib.hid hl1
 clear hs hm hk hd0 hd1 hl0 hl1
 by_cases hz:dd=0
 ·have e0:(dd == 0)=true:=by rw[hz];rfl
  clear hz
  go_enter Tryz.func33,Tryz.ntmps33
  go_wp2_with fail
  go_ret
  exact⟨-1,rfl,by omega,HL0.out,by omega,Below.refl _ _⟩
 ·have e0:(dd == 0)=false:=beq_eq_false_iff_ne.2 hz
  have HD2:Hid (1≤dd):=Lib.hid (by have:=HD0.out;omega)
  have ed:IntKind.i64.wrap (dd - 1)=dd - 1:=IntWalk.i64_in _ (by have:=HD0.out;have:=HD1.out;omega)
  clear hz
  go_enter Tryz.func33,Tryz.ntmps33
  go_wp2_with fail
  go_loopw [1,7] (fun t i wr=>∃(j:Nat) (x:Int),j≤m∧t= .int .i64 x∧i= .int .i64 j∧Hid (-1≤x∧x≤l∧(0≤x→x+j≤l))∧Hid (Below w.heap.size w wr)) (fun _ i _=>m - (intOf i).toNat)
  case atStart=>exact⟨0,l,Nat.zero_le _,rfl,rfl,Lib.hid ⟨HL0.out,Int.le_refl _,fun _=>by omega⟩,Below.refl _ _⟩
  case round=>
   obtain⟨j,x,hj,rfl,rfl,hin,hbr⟩:=hrel
   by_cases hx:0≤x
   ·have g1:decide (x ≥ 0)=true:=decide_eq_true hx
    have g2:decide (0≤x)=true:=decide_eq_true hx
    have ex:IntKind.i64.wrap (x - 1)=x - 1:=IntWalk.i64_in _ (by have:=hin.out;have:=HL1.out;omega)
    have HX:=Lib.hid hx
    clear hx
    by_cases hlt:j<m
    ·have hlx:j<es.length:=by rw[HM.out];exact hlt
     obtain⟨b,off,cs,rfl,hbl,hc,hrl⟩:=HS.out.2 j hlx
     obtain⟨v1,v2,rfl,_,⟨u1,d1,rfl,hs1⟩,⟨u2,d2,rfl,hs2⟩⟩:=hrl
     have HQ1:Hid (∀W,Below w.heap.size w W→W.cell? ⟨b,off+j*3+1,none⟩=some (.slice u1 es[j].es.length d1)):=Lib.hid fun W hW=>by
      have:=(hW.cell (p:=⟨b,_,none⟩) hbl).trans (hc 1 _ rfl)
      rwa [condSh_k]at this
     have HQ2:Hid (∀W,Below w.heap.size w W→W.cell? ⟨b,off+j*3+2,none⟩=some (.slice u2 es[j].ks.length d2)):=Lib.hid fun W hW=>by
      have:=(hW.cell (p:=⟨b,_,none⟩) hbl).trans (hc 2 _ rfl)
      rwa [condSh_k]at this
     have HC1:=Lib.hid (fun q W hq0 hq1 (hW:Below w.heap.size w W)=>sizeE_any n es[j].es u1 d1 q (dd - 1) W (by have:=HD2.out;omega) (by have:=HD1.out;omega) hq0 hq1 (hs1.below hW hW.size))
     have HC2:=Lib.hid (fun q W hq0 hq1 (hW:Below w.heap.size w W)=>HK.out es[j] u2 d2 q W (List.getElem_mem hlx) HD2.out hq0 hq1 hW (hs2.below hW hW.size))
     have hji:(j:Int)<(m:Int):=by omega
     have c1:=HQ1.out _ hbr.out
     clear hc hs1 hs2
     generalize es[j].es.length=n1 at*
     generalize es[j].ks.length=n2 at*
     go_wp2_with fail
     refine(HC1.out (x - 1) _ (by have:=HX.out;omega) (by have:=hin.out;have:=HL1.out;omega) hbr.out).mono ?_
     rintro r w3 ⟨x2,rfl,h1,h2,h3,hb⟩
     have HB3:=Lib.hid (hbr.out.trans (hb.mono hbr.out.size))
     have H12:=Lib.hid (And.intro h1 h2)
     clear h1 h2 h3 hb HC1 c1
     by_cases hx2:0≤x2
     ·have p1:decide (x2 ≥ 0)=true:=decide_eq_true hx2
      have p2:decide (0≤x2)=true:=decide_eq_true hx2
      have HX2:=Lib.hid hx2
      have c2:=HQ2.out _ HB3.out
      clear hx2
      go_wp2_with fail
      refine(HC2.out x2 _ H12.out.1 (by have:=H12.out;have:=hin.out;have:=HL1.out;omega) HB3.out).mono ?_
      rintro r w4 ⟨x3,rfl,h1,h2,h3,hb⟩
      have HB4:=Lib.hid (HB3.out.trans (hb.mono HB3.out.size))
      have HN:Hid (-1≤x3∧x3≤l∧(0≤x3→x3+((j+1:Nat):Int)≤l)):=Lib.hid (by have:=H12.out;have:=hin.out;refine⟨h1,by omega,fun h=> ?_⟩;have:=hin.out.2.2 HX.out;omega)
      clear h1 h2 h3 hb HC2 hin hbr c2
      go_wp2_with fail
      go_roundw
      case rel=>exact⟨j+1,x3,by omega,rfl,by go_num,HN,HB4⟩
      case measure=>simp[intOf];omega
     ·have p1:decide (x2 ≥ 0)=false:=decide_eq_false hx2
      have p2:decide (0≤x2)=false:=decide_eq_false hx2
      have HN:Hid (-1≤x2∧x2≤l∧(0≤x2→x2+((j+1:Nat):Int)≤l)):=Lib.hid (by have:=H12.out;have:=hin.out;exact⟨by omega,by omega,fun h=>absurd h hx2⟩)
      clear hx2 HC2 hin hbr
      go_wp2_with fail
      go_roundw
      case rel=>exact⟨j+1,x2,by omega,rfl,by go_num,HN,HB3⟩
      case measure=>simp[intOf];omega
    ·obtain rfl:j=m:=by omega
     have HE:Hid (SzEnd j l w (.returned (.int .i64 x)) wr):=Lib.hid ⟨x,rfl,hin.out.1,hin.out.2.1,hin.out.2.2,hbr.out⟩
     go_wp2_with fail
     go_ret
     exact HE.out
   ·have g1:decide (x ≥ 0)=false:=decide_eq_false hx
    have g2:decide (0≤x)=false:=decide_eq_false hx
    have HE:Hid (SzEnd m l w (.returned (.int .i64 x)) wr):=Lib.hid ⟨x,rfl,hin.out.1,hin.out.2.1,fun h=>absurd h hx,hbr.out⟩
    clear hx
    by_cases hlt:j<m
    ·have hji:(j:Int)<(m:Int):=by omega
     go_wp2_with fail
     go_ret
     exact HE.out
    ·obtain rfl:j=m:=by omega
     go_wp2_with fail
     go_ret
     exact HE.out
theorem sizeC_any:∀(n:Nat) (es:List CT) (a:Option Addr) (cap:Nat) (l dd:Int) (w:World),0≤dd→dd≤300→ -1≤l→l≤300→Pak.Sits (condSh n) (Pak.Lo w.heap.size) w a es→
 Calls Tryz.prog 33 #[.slice a es.length cap,.int .i64 l,.int .i64 dd] w (SzEnd es.length l w)
 | 0,es,a,cap,l,dd,w,h1,h2,h3,h4,hs=>by
   have he:es=[]:=by
    cases es with
    | nil=>rfl
    | cons x xs=>
      obtain⟨_,_,_,_,_,_,hr⟩:=hs.2 0 (by simp)
      exact hr.elim
   subst he
   exact sizeC_box 0 [] a 0 cap l dd w rfl h1 h2 h3 h4 (Pak.Sits.nil _ _ _ _) fun x u c q W hx _ _ _ _ _=>absurd hx (by simp)
 | n+1,es,a,cap,l,dd,w,h1,h2,h3,h4,hs=>
   sizeC_box n es a es.length cap l dd w rfl h1 h2 h3 h4 hs fun x u c q W _ hd hq0 hq1 hW hsx=>
    sizeC_any n x.ks u c q (dd - 1) W (by omega) (by omega) hq0 hq1 hsx
end
end Go.Proofs.YtfinhpfjokpcfaaGreatDoor
