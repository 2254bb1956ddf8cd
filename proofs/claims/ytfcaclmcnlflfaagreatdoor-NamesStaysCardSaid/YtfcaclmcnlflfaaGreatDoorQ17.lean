/- Parts of a proof. -/
import Derived.Test.YtfcaclmcnlflfaaGreatDoorQ13
set_option linter.unusedVariables false
set_option linter.unusedSimpArgs false
set_option maxHeartbeats 60000000
set_option maxRecDepth 100000
namespace Go.Proofs.YtfcaclmcnlflfaaGreatDoor
section
open Go.RowKit
theorem nat_bne0 (l:Nat):((l:Int) != 0)= !(l == 0):=by rw[bne,nat_eq0]
theorem hasE_any (n:Nat)(e:ET)(cs:List Value)(w:World)(h:(exprSh n).rel (Pak.Lo w.heap.size) w cs e):Calls Tryz.prog 89 #[.agg cs.toArray] w (SoundEnd (!noE e) w):=by
 cases n with
 | zero=>exact h.elim
 | succ n=>
   obtain⟨v,rfl,_,a,cap,rfl,hs⟩:=h
   unfold noE
   generalize e.kind=k at*
   generalize e.n=m at*
   generalize e.name=s at*
   generalize e.ks.length=l at*
   clear hs
   go_enter Tryz.func89,Tryz.ntmps89
   go_wp2_with fail
   all_goals
    go_ret
    refine⟨?_,box_low⟩
    simp_all [nat_eq0,nat_bne0]
theorem hasC_any (n:Nat)(c:CT)(cs:List Value)(w:World)(h:(condSh n).rel (Pak.Lo w.heap.size) w cs c):Calls Tryz.prog 88 #[.agg cs.toArray] w (SoundEnd (!noC c) w):=by
 cases n with
 | zero=>exact h.elim
 | succ n=>
   obtain⟨u,v,rfl,_,⟨a1,c1,rfl,hs1⟩,⟨a2,c2,rfl,hs2⟩⟩:=h
   unfold noC
   generalize c.kind=k at*
   generalize c.es.length=l1 at*
   generalize c.ks.length=l2 at*
   clear hs1 hs2
   go_enter Tryz.func88,Tryz.ntmps88
   go_wp2_with fail
   all_goals
    go_ret
    refine⟨?_,box_low⟩
    simp_all [nat_eq0,nat_bne0]
theorem rexprs_all (n:Nat)(p:ET→Bool)(a:Option Addr)(m cap:Nat)(xs:List ET)(w:World)(hm:xs.length=m)(hs:Pak.Sits (exprSh n) (Pak.Lo w.heap.size) w a xs)
 (hf:∀cs x W,x∈xs→Below w.heap.size w W→(exprSh n).rel (Pak.Lo W.heap.size) W cs x→Calls Tryz.prog 90 #[.agg cs.toArray] W (SoundEnd (p x) W)):
 Calls Tryz.prog 124 #[.slice a m cap] w (SoundEnd (xs.all p) w):=by
 have HS:=Lib.hid hs
 have HF:=Lib.hid hf
 have HM:=Lib.hid hm
 have hmm:m≤9223372036854775807:=by rw[←hm];exact hs.1
 have HHIT:Hid (∀j,(h:j<xs.length)→p xs[j]=false→xs.all p=false):=fun j h e=>all_hit h e
 have HMISS:Hid ((∀j,(h:j<xs.length)→p xs[j]=true)→xs.all p=true):=fun h=>all_miss h
 clear hs hf hm
 generalize xs.all p=r at HHIT HMISS
 go_enter Tryz.func124,Tryz.ntmps124
 go_wp2_with fail
 go_loopw [3] (fun i wr=>∃j:Nat,j≤m∧i= .int .i64 j∧Hid (∀q,(h:q<xs.length)→q<j→p xs[q]=true)∧Hid (Below w.heap.size w wr)) (fun i _=>m - (intOf i).toNat)
 case atStart=>exact⟨0,Nat.zero_le _,rfl,fun q _ h=>absurd h (Nat.not_lt_zero _),Below.refl _ _⟩
 case round=>
  obtain⟨j,hj,rfl,hno,hb⟩:=hrel
  obtain⟨wo,rfl⟩:∃wo:World,wo=wr:=⟨_,rfl⟩
  by_cases hlt:j<m
  ·have hlx:j<xs.length:=by rw[HM.out];exact hlt
   have hji:(j:Int)<(m:Int):=by omega
   obtain⟨b,off,cs,rfl,hbl,hc,hr⟩:=(HS.out.below hb.out hb.out.size).2 j hlx
   have hlen:=(exprSh n).len hr
   rw[exprSh_k n]at hlen hc
   have HC0:Hid (∀i v,cs[i]? =some v→wo.cell? ((⟨b,off+j*4,none⟩:Addr).add i)=some v):=fun i v hv=>by
    rw[show(⟨b,off+j*4,none⟩:Addr).add i=⟨b,off+j*4+i,none⟩ by unfold Addr.add;split<;>simp_all]
    exact hc i v hv
   have HC:=Lib.hid (HF.out _ xs[j] _ (List.getElem_mem hlx) hb.out hr)
   have HL:=Lib.hid hlen
   have HH:=Lib.hid (HHIT.out j hlx)
   have HN:Hid (p xs[j]=true→∀q,(h:q<xs.length)→q<j+1→p xs[q]=true):=fun h q hq hlq=>by
    by_cases e:q=j
    ·subst e;exact h
    ·exact hno.out q hq (by omega)
   clear hc hr hlen
   generalize p xs[j]=z at HC HH HN
   go_wp2_with (refine wpList_load_w rfl 37 _ rfl ⟨b,off+j*4,none⟩ rfl cs _ HC0.out Tryz.underlying37 rfl (by rw[HL.out];kernel_rfl) ?_)
   refine HC.out.mono ?_
   rintro e w2 ⟨rfl,hb2⟩
   have HB2:=Lib.hid (hb.out.trans (hb2.mono hb.out.size))
   clear hb2 HC HC0
   cases z with
   | false=>
     obtain rfl:=HH.out rfl
     clear HH HN
     go_wp2_with fail
     go_ret
     exact⟨rfl,HB2.out⟩
   | true=>
     have HN2:=Lib.hid (HN.out rfl)
     clear HH HN
     go_wp2_with fail
     go_roundw
     case rel=>exact⟨j+1,by omega,by go_num,HN2,HB2⟩
     case measure=>simp[intOf];omega
  ·obtain rfl:j=m:=by omega
   obtain rfl:=HMISS.out (fun q hq=>hno.out q hq (by rw[HM.out]at hq;exact hq))
   go_wp2_with fail
   go_ret
   exact⟨rfl,hb.out⟩
theorem rstmts_all (n:Nat)(p:ST→Bool)(a:Option Addr)(m cap:Nat)(xs:List ST)(w:World)(hm:xs.length=m)(hs:Pak.Sits (stmtSh n) (Pak.Lo w.heap.size) w a xs)
 (hf:∀cs x W,x∈xs→Below w.heap.size w W→(stmtSh n).rel (Pak.Lo W.heap.size) W cs x→Calls Tryz.prog 92 #[.agg cs.toArray] W (SoundEnd (p x) W)):
 Calls Tryz.prog 50 #[.slice a m cap] w (SoundEnd (xs.all p) w):=by
 have HS:=Lib.hid hs
 have HF:=Lib.hid hf
 have HM:=Lib.hid hm
 have hmm:m≤9223372036854775807:=by rw[←hm];exact hs.1
 have HHIT:Hid (∀j,(h:j<xs.length)→p xs[j]=false→xs.all p=false):=fun j h e=>all_hit h e
 have HMISS:Hid ((∀j,(h:j<xs.length)→p xs[j]=true)→xs.all p=true):=fun h=>all_miss h
 clear hs hf hm
 generalize xs.all p=r at HHIT HMISS
 go_enter Tryz.func50,Tryz.ntmps50
 go_wp2_with fail
 go_loopw [3] (fun i wr=>∃j:Nat,j≤m∧i= .int .i64 j∧Hid (∀q,(h:q<xs.length)→q<j→p xs[q]=true)∧Hid (Below w.heap.size w wr)) (fun i _=>m - (intOf i).toNat)
 case atStart=>exact⟨0,Nat.zero_le _,rfl,fun q _ h=>absurd h (Nat.not_lt_zero _),Below.refl _ _⟩
 case round=>
  obtain⟨j,hj,rfl,hno,hb⟩:=hrel
  obtain⟨wo,rfl⟩:∃wo:World,wo=wr:=⟨_,rfl⟩
  by_cases hlt:j<m
  ·have hlx:j<xs.length:=by rw[HM.out];exact hlt
   have hji:(j:Int)<(m:Int):=by omega
   obtain⟨b,off,cs,rfl,hbl,hc,hr⟩:=(HS.out.below hb.out hb.out.size).2 j hlx
   have hlen:=(stmtSh n).len hr
   rw[stmtSh_k n]at hlen hc
   have HC0:Hid (∀i v,cs[i]? =some v→wo.cell? ((⟨b,off+j*35,none⟩:Addr).add i)=some v):=fun i v hv=>by
    rw[show(⟨b,off+j*35,none⟩:Addr).add i=⟨b,off+j*35+i,none⟩ by unfold Addr.add;split<;>simp_all]
    exact hc i v hv
   have HC:=Lib.hid (HF.out _ xs[j] _ (List.getElem_mem hlx) hb.out hr)
   have HL:=Lib.hid hlen
   have HH:=Lib.hid (HHIT.out j hlx)
   have HN:Hid (p xs[j]=true→∀q,(h:q<xs.length)→q<j+1→p xs[q]=true):=fun h q hq hlq=>by
    by_cases e:q=j
    ·subst e;exact h
    ·exact hno.out q hq (by omega)
   clear hc hr hlen
   generalize p xs[j]=z at HC HH HN
   go_wp2_with (refine wpList_load_w rfl 47 _ rfl ⟨b,off+j*35,none⟩ rfl cs _ HC0.out Tryz.underlying47 rfl (by rw[HL.out];kernel_rfl) ?_)
   refine HC.out.mono ?_
   rintro e w2 ⟨rfl,hb2⟩
   have HB2:=Lib.hid (hb.out.trans (hb2.mono hb.out.size))
   clear hb2 HC HC0
   cases z with
   | false=>
     obtain rfl:=HH.out rfl
     clear HH HN
     go_wp2_with fail
     go_ret
     exact⟨rfl,HB2.out⟩
   | true=>
     have HN2:=Lib.hid (HN.out rfl)
     clear HH HN
     go_wp2_with fail
     go_roundw
     case rel=>exact⟨j+1,by omega,by go_num,HN2,HB2⟩
     case measure=>simp[intOf];omega
  ·obtain rfl:j=m:=by omega
   obtain rfl:=HMISS.out (fun q hq=>hno.out q hq (by rw[HM.out]at hq;exact hq))
   go_wp2_with fail
   go_ret
   exact⟨rfl,hb.out⟩
theorem rnames_all (p:ByteArray→Bool)(a:Option Addr)(m cap:Nat)(xs:List ByteArray)(w:World)(hm:xs.length=m)(hs:Pak.Sits (strSh) (Pak.Lo w.heap.size) w a xs)
 (hf:∀x W,x∈xs→x.size≤maxLen→Below w.heap.size w W→Calls Tryz.prog 47 #[.string x] W (SoundEnd (p x) W)):
 Calls Tryz.prog 48 #[.slice a m cap] w (SoundEnd (xs.all p) w):=by
 have HS:=Lib.hid hs
 have HF:=Lib.hid hf
 have HM:=Lib.hid hm
 have hmm:m≤9223372036854775807:=by rw[←hm];exact hs.1
 have HHIT:Hid (∀j,(h:j<xs.length)→p xs[j]=false→xs.all p=false):=fun j h e=>all_hit h e
 have HMISS:Hid ((∀j,(h:j<xs.length)→p xs[j]=true)→xs.all p=true):=fun h=>all_miss h
 clear hs hf hm
 generalize xs.all p=r at HHIT HMISS
 go_enter Tryz.func48,Tryz.ntmps48
 go_wp2_with fail
 go_loopw [3] (fun i wr=>∃j:Nat,j≤m∧i= .int .i64 j∧Hid (∀q,(h:q<xs.length)→q<j→p xs[q]=true)∧Hid (Below w.heap.size w wr)) (fun i _=>m - (intOf i).toNat)
 case atStart=>exact⟨0,Nat.zero_le _,rfl,fun q _ h=>absurd h (Nat.not_lt_zero _),Below.refl _ _⟩
 case round=>
  obtain⟨j,hj,rfl,hno,hb⟩:=hrel
  obtain⟨wo,rfl⟩:∃wo:World,wo=wr:=⟨_,rfl⟩
  by_cases hlt:j<m
  ·have hlx:j<xs.length:=by rw[HM.out];exact hlt
   have hji:(j:Int)<(m:Int):=by omega
   obtain⟨b,off,cs,rfl,hbl,hc,rfl,hsz⟩:=(HS.out.below hb.out hb.out.size).2 j hlx
   have c0:=hc 0 _ rfl
   rw[show strSh.k=1 from rfl,Nat.add_zero,Nat.mul_one]at c0
   have HC:=Lib.hid (HF.out xs[j] _ (List.getElem_mem hlx) hsz hb.out)
   have HH:=Lib.hid (HHIT.out j hlx)
   have HN:Hid (p xs[j]=true→∀q,(h:q<xs.length)→q<j+1→p xs[q]=true):=fun h q hq hlq=>by
    by_cases e:q=j
    ·subst e;exact h
    ·exact hno.out q hq (by omega)
   clear hc hsz
   generalize p xs[j]=z at HC HH HN
   generalize xs[j]=x at*
   go_wp2_with fail
   refine HC.out.mono ?_
   rintro e w2 ⟨rfl,hb2⟩
   have HB2:=Lib.hid (hb.out.trans (hb2.mono hb.out.size))
   clear hb2 HC c0
   cases z with
   | false=>
     obtain rfl:=HH.out rfl
     clear HH HN
     go_wp2_with fail
     go_ret
     exact⟨rfl,HB2.out⟩
   | true=>
     have HN2:=Lib.hid (HN.out rfl)
     clear HH HN
     go_wp2_with fail
     go_roundw
     case rel=>exact⟨j+1,by omega,by go_num,HN2,HB2⟩
     case measure=>simp[intOf];omega
  ·obtain rfl:j=m:=by omega
   obtain rfl:=HMISS.out (fun q hq=>hno.out q hq (by rw[HM.out]at hq;exact hq))
   go_wp2_with fail
   go_ret
   exact⟨rfl,hb.out⟩
theorem rexpr_0 (m:Int)(s:ByteArray)(a:Option Addr)(l cap:Nat)(z:Bool)(w:World)(hx:BoolAll 124 #[.slice a l cap] z w):
 Calls Tryz.prog 90 #[.agg #[.int .i64 0,.int .i64 m,.string s,.slice a l cap]] w (SoundEnd ((inB m && s.toList.isEmpty && l == 0) && z) w):=by
 have HA:Hid (Below w.heap.size w (w.alloc (.cells #[.int .i64 0,.int .i64 m,.string s,.slice a l cap] 37))):=box_low
 have X:=Lib.hid (hx.at HA.out)
 clear hx
 by_cases hl:l=0
 ·have hl2:((l:Int) == 0)=true:=by rw[hl];rfl
  have hl3:(l == 0)=true:=by rw[hl];rfl
  rw[hl3]
  clear hl hl3
  by_cases hs:s.toList=[]
  ·have hse:s.toList.isEmpty=true:=by simp[hs]
   rw[hse]
   clear hse
   by_cases h1: -1073741824≤m
   ·by_cases h2:m≤1073741824
    ·have hin:inB m=true:=by unfold inB;simp[h1,h2]
     rw[hin]
     clear hin
     go_enter Tryz.func90,Tryz.ntmps90
     go_wp2_with fail
     refine X.out.mono ?_
     rintro r w2 ⟨rfl,hb⟩
     have HB:=Lib.hid (HA.out.trans (hb.mono HA.out.size))
     clear hb X
     go_wp2_with fail
     go_ret
     exact⟨by simp,HB.out⟩
    ·have hin:inB m=false:=by unfold inB;simp[h1,h2]
     have h3:decide (m≤1073741824)=false:=decide_eq_false h2
     rw[hin]
     clear hin h2
     go_enter Tryz.func90,Tryz.ntmps90
     go_wp2_with fail
     all_goals (go_ret;exact⟨by simp,box_low⟩)
   ·have hin:inB m=false:=by unfold inB;simp[h1]
    have h3:decide (-1073741824≤m)=false:=decide_eq_false h1
    rw[hin]
    clear hin h1
    go_enter Tryz.func90,Tryz.ntmps90
    go_wp2_with fail
    all_goals (go_ret;exact⟨by simp,box_low⟩)
  ·have hse:s.toList.isEmpty=false:=by simp[hs]
   have hsf:(s.toList == [])=false:=by simp[hs]
   rw[hse]
   rw[show ∀x y:Bool,(x && false && true && y)=false by intro x y;simp]
   by_cases h1: -1073741824≤m
   ·by_cases h2:m≤1073741824
    ·skip
     go_enter Tryz.func90,Tryz.ntmps90
     go_wp2_with fail
     all_goals (go_ret;exact⟨by simp,box_low⟩)
    ·have h3:decide (m≤1073741824)=false:=decide_eq_false h2
     go_enter Tryz.func90,Tryz.ntmps90
     go_wp2_with fail
     all_goals (go_ret;exact⟨by simp,box_low⟩)
   ·have h3:decide (-1073741824≤m)=false:=decide_eq_false h1
    go_enter Tryz.func90,Tryz.ntmps90
    go_wp2_with fail
    all_goals (go_ret;exact⟨by simp,box_low⟩)
 ·have hl2:((l:Int) == 0)=false:=by rw[Bool.eq_false_iff];simp only[ne_eq,beq_iff_eq];omega
  have hl3:(l == 0)=false:=beq_eq_false_iff_ne.2 hl
  rw[hl3]
  rw[show ∀x y w:Bool,(x && w && false && y)=false by intro x y w;simp]
  clear hl hl3
  by_cases hs:s.toList=[]
  ·skip
   by_cases h1: -1073741824≤m
   ·by_cases h2:m≤1073741824
    ·skip
     go_enter Tryz.func90,Tryz.ntmps90
     go_wp2_with fail
     all_goals (go_ret;exact⟨by simp,box_low⟩)
    ·have h3:decide (m≤1073741824)=false:=decide_eq_false h2
     go_enter Tryz.func90,Tryz.ntmps90
     go_wp2_with fail
     all_goals (go_ret;exact⟨by simp,box_low⟩)
   ·have h3:decide (-1073741824≤m)=false:=decide_eq_false h1
    go_enter Tryz.func90,Tryz.ntmps90
    go_wp2_with fail
    all_goals (go_ret;exact⟨by simp,box_low⟩)
  ·have hse:s.toList.isEmpty=false:=by simp[hs]
   have hsf:(s.toList == [])=false:=by simp[hs]
   by_cases h1: -1073741824≤m
   ·by_cases h2:m≤1073741824
    ·skip
     go_enter Tryz.func90,Tryz.ntmps90
     go_wp2_with fail
     all_goals (go_ret;exact⟨by simp,box_low⟩)
    ·have h3:decide (m≤1073741824)=false:=decide_eq_false h2
     go_enter Tryz.func90,Tryz.ntmps90
     go_wp2_with fail
     all_goals (go_ret;exact⟨by simp,box_low⟩)
   ·have h3:decide (-1073741824≤m)=false:=decide_eq_false h1
    go_enter Tryz.func90,Tryz.ntmps90
    go_wp2_with fail
    all_goals (go_ret;exact⟨by simp,box_low⟩)
theorem rexpr_2 (m:Int)(s:ByteArray)(a:Option Addr)(l cap:Nat)(z:Bool)(w:World)(hx:BoolAll 124 #[.slice a l cap] z w):
 Calls Tryz.prog 90 #[.agg #[.int .i64 2,.int .i64 m,.string s,.slice a l cap]] w (SoundEnd ((m == 0 && s.toList.isEmpty && l == 2) && z) w):=by
 have HA:Hid (Below w.heap.size w (w.alloc (.cells #[.int .i64 2,.int .i64 m,.string s,.slice a l cap] 37))):=box_low
 have X:=Lib.hid (hx.at HA.out)
 clear hx
 by_cases hl:l=2
 ·have hl2:((l:Int) == 2)=true:=by rw[hl];rfl
  have hl3:(l == 2)=true:=by rw[hl];rfl
  rw[hl3]
  clear hl hl3
  by_cases hs:s.toList=[]
  ·have hse:s.toList.isEmpty=true:=by simp[hs]
   rw[hse]
   clear hse
   by_cases h1:m=0
   ·subst h1
    go_enter Tryz.func90,Tryz.ntmps90
    go_wp2_with fail
    refine X.out.mono ?_
    rintro r w2 ⟨rfl,hb⟩
    have HB:=Lib.hid (HA.out.trans (hb.mono HA.out.size))
    clear hb X
    go_wp2_with fail
    go_ret
    exact⟨by simp,HB.out⟩
   ·have h2:(m == 0)=false:=by simp[h1]
    rw[h2]
    go_enter Tryz.func90,Tryz.ntmps90
    go_wp2_with fail
    all_goals (go_ret;exact⟨by simp,box_low⟩)
  ·have hse:s.toList.isEmpty=false:=by simp[hs]
   have hsf:(s.toList == [])=false:=by simp[hs]
   rw[hse]
   rw[show ∀x y:Bool,(x && false && true && y)=false by intro x y;simp]
   by_cases h1:m=0
   ·subst h1
    go_enter Tryz.func90,Tryz.ntmps90
    go_wp2_with fail
    all_goals (go_ret;exact⟨by simp,box_low⟩)
   ·have h2:(m == 0)=false:=by simp[h1]
    go_enter Tryz.func90,Tryz.ntmps90
    go_wp2_with fail
    all_goals (go_ret;exact⟨by simp,box_low⟩)
 ·have hl2:((l:Int) == 2)=false:=by rw[Bool.eq_false_iff];simp only[ne_eq,beq_iff_eq];omega
  have hl3:(l == 2)=false:=beq_eq_false_iff_ne.2 hl
  rw[hl3]
  rw[show ∀x y w:Bool,(x && w && false && y)=false by intro x y w;simp]
  clear hl hl3
  by_cases hs:s.toList=[]
  ·skip
   by_cases h1:m=0
   ·subst h1
    go_enter Tryz.func90,Tryz.ntmps90
    go_wp2_with fail
    all_goals (go_ret;exact⟨by simp,box_low⟩)
   ·have h2:(m == 0)=false:=by simp[h1]
    go_enter Tryz.func90,Tryz.ntmps90
    go_wp2_with fail
    all_goals (go_ret;exact⟨by simp,box_low⟩)
  ·have hse:s.toList.isEmpty=false:=by simp[hs]
   have hsf:(s.toList == [])=false:=by simp[hs]
   by_cases h1:m=0
   ·subst h1
    go_enter Tryz.func90,Tryz.ntmps90
    go_wp2_with fail
    all_goals (go_ret;exact⟨by simp,box_low⟩)
   ·have h2:(m == 0)=false:=by simp[h1]
    go_enter Tryz.func90,Tryz.ntmps90
    go_wp2_with fail
    all_goals (go_ret;exact⟨by simp,box_low⟩)
theorem rexpr_3 (m:Int)(s:ByteArray)(a:Option Addr)(l cap:Nat)(z:Bool)(w:World)(hx:BoolAll 124 #[.slice a l cap] z w):
 Calls Tryz.prog 90 #[.agg #[.int .i64 3,.int .i64 m,.string s,.slice a l cap]] w (SoundEnd ((m == 0 && s.toList.isEmpty && l == 2) && z) w):=by
 have HA:Hid (Below w.heap.size w (w.alloc (.cells #[.int .i64 3,.int .i64 m,.string s,.slice a l cap] 37))):=box_low
 have X:=Lib.hid (hx.at HA.out)
 clear hx
 by_cases hl:l=2
 ·have hl2:((l:Int) == 2)=true:=by rw[hl];rfl
  have hl3:(l == 2)=true:=by rw[hl];rfl
  rw[hl3]
  clear hl hl3
  by_cases hs:s.toList=[]
  ·have hse:s.toList.isEmpty=true:=by simp[hs]
   rw[hse]
   clear hse
   by_cases h1:m=0
   ·subst h1
    go_enter Tryz.func90,Tryz.ntmps90
    go_wp2_with fail
    refine X.out.mono ?_
    rintro r w2 ⟨rfl,hb⟩
    have HB:=Lib.hid (HA.out.trans (hb.mono HA.out.size))
    clear hb X
    go_wp2_with fail
    go_ret
    exact⟨by simp,HB.out⟩
   ·have h2:(m == 0)=false:=by simp[h1]
    rw[h2]
    go_enter Tryz.func90,Tryz.ntmps90
    go_wp2_with fail
    all_goals (go_ret;exact⟨by simp,box_low⟩)
  ·have hse:s.toList.isEmpty=false:=by simp[hs]
   have hsf:(s.toList == [])=false:=by simp[hs]
   rw[hse]
   rw[show ∀x y:Bool,(x && false && true && y)=false by intro x y;simp]
   by_cases h1:m=0
   ·subst h1
    go_enter Tryz.func90,Tryz.ntmps90
    go_wp2_with fail
    all_goals (go_ret;exact⟨by simp,box_low⟩)
   ·have h2:(m == 0)=false:=by simp[h1]
    go_enter Tryz.func90,Tryz.ntmps90
    go_wp2_with fail
    all_goals (go_ret;exact⟨by simp,box_low⟩)
 ·have hl2:((l:Int) == 2)=false:=by rw[Bool.eq_false_iff];simp only[ne_eq,beq_iff_eq];omega
  have hl3:(l == 2)=false:=beq_eq_false_iff_ne.2 hl
  rw[hl3]
  rw[show ∀x y w:Bool,(x && w && false && y)=false by intro x y w;simp]
  clear hl hl3
  by_cases hs:s.toList=[]
  ·skip
   by_cases h1:m=0
   ·subst h1
    go_enter Tryz.func90,Tryz.ntmps90
    go_wp2_with fail
    all_goals (go_ret;exact⟨by simp,box_low⟩)
   ·have h2:(m == 0)=false:=by simp[h1]
    go_enter Tryz.func90,Tryz.ntmps90
    go_wp2_with fail
    all_goals (go_ret;exact⟨by simp,box_low⟩)
  ·have hse:s.toList.isEmpty=false:=by simp[hs]
   have hsf:(s.toList == [])=false:=by simp[hs]
   by_cases h1:m=0
   ·subst h1
    go_enter Tryz.func90,Tryz.ntmps90
    go_wp2_with fail
    all_goals (go_ret;exact⟨by simp,box_low⟩)
   ·have h2:(m == 0)=false:=by simp[h1]
    go_enter Tryz.func90,Tryz.ntmps90
    go_wp2_with fail
    all_goals (go_ret;exact⟨by simp,box_low⟩)
theorem rexpr_4 (m:Int)(s:ByteArray)(a:Option Addr)(l cap:Nat)(z:Bool)(w:World)(hx:BoolAll 124 #[.slice a l cap] z w):
 Calls Tryz.prog 90 #[.agg #[.int .i64 4,.int .i64 m,.string s,.slice a l cap]] w (SoundEnd ((inB m && s.toList.isEmpty && l == 1) && z) w):=by
 have HA:Hid (Below w.heap.size w (w.alloc (.cells #[.int .i64 4,.int .i64 m,.string s,.slice a l cap] 37))):=box_low
 have X:=Lib.hid (hx.at HA.out)
 clear hx
 by_cases hl:l=1
 ·have hl2:((l:Int) == 1)=true:=by rw[hl];rfl
  have hl3:(l == 1)=true:=by rw[hl];rfl
  rw[hl3]
  clear hl hl3
  by_cases hs:s.toList=[]
  ·have hse:s.toList.isEmpty=true:=by simp[hs]
   rw[hse]
   clear hse
   by_cases h1: -1073741824≤m
   ·by_cases h2:m≤1073741824
    ·have hin:inB m=true:=by unfold inB;simp[h1,h2]
     rw[hin]
     clear hin
     go_enter Tryz.func90,Tryz.ntmps90
     go_wp2_with fail
     refine X.out.mono ?_
     rintro r w2 ⟨rfl,hb⟩
     have HB:=Lib.hid (HA.out.trans (hb.mono HA.out.size))
     clear hb X
     go_wp2_with fail
     go_ret
     exact⟨by simp,HB.out⟩
    ·have hin:inB m=false:=by unfold inB;simp[h1,h2]
     have h3:decide (m≤1073741824)=false:=decide_eq_false h2
     rw[hin]
     clear hin h2
     go_enter Tryz.func90,Tryz.ntmps90
     go_wp2_with fail
     all_goals (go_ret;exact⟨by simp,box_low⟩)
   ·have hin:inB m=false:=by unfold inB;simp[h1]
    have h3:decide (-1073741824≤m)=false:=decide_eq_false h1
    rw[hin]
    clear hin h1
    go_enter Tryz.func90,Tryz.ntmps90
    go_wp2_with fail
    all_goals (go_ret;exact⟨by simp,box_low⟩)
  ·have hse:s.toList.isEmpty=false:=by simp[hs]
   have hsf:(s.toList == [])=false:=by simp[hs]
   rw[hse]
   rw[show ∀x y:Bool,(x && false && true && y)=false by intro x y;simp]
   by_cases h1: -1073741824≤m
   ·by_cases h2:m≤1073741824
    ·skip
     go_enter Tryz.func90,Tryz.ntmps90
     go_wp2_with fail
     all_goals (go_ret;exact⟨by simp,box_low⟩)
    ·have h3:decide (m≤1073741824)=false:=decide_eq_false h2
     go_enter Tryz.func90,Tryz.ntmps90
     go_wp2_with fail
     all_goals (go_ret;exact⟨by simp,box_low⟩)
   ·have h3:decide (-1073741824≤m)=false:=decide_eq_false h1
    go_enter Tryz.func90,Tryz.ntmps90
    go_wp2_with fail
    all_goals (go_ret;exact⟨by simp,box_low⟩)
 ·have hl2:((l:Int) == 1)=false:=by rw[Bool.eq_false_iff];simp only[ne_eq,beq_iff_eq];omega
  have hl3:(l == 1)=false:=beq_eq_false_iff_ne.2 hl
  rw[hl3]
  rw[show ∀x y w:Bool,(x && w && false && y)=false by intro x y w;simp]
  clear hl hl3
  by_cases hs:s.toList=[]
  ·skip
   by_cases h1: -1073741824≤m
   ·by_cases h2:m≤1073741824
    ·skip
     go_enter Tryz.func90,Tryz.ntmps90
     go_wp2_with fail
     all_goals (go_ret;exact⟨by simp,box_low⟩)
    ·have h3:decide (m≤1073741824)=false:=decide_eq_false h2
     go_enter Tryz.func90,Tryz.ntmps90
     go_wp2_with fail
     all_goals (go_ret;exact⟨by simp,box_low⟩)
   ·have h3:decide (-1073741824≤m)=false:=decide_eq_false h1
    go_enter Tryz.func90,Tryz.ntmps90
    go_wp2_with fail
    all_goals (go_ret;exact⟨by simp,box_low⟩)
  ·have hse:s.toList.isEmpty=false:=by simp[hs]
   have hsf:(s.toList == [])=false:=by simp[hs]
   by_cases h1: -1073741824≤m
   ·by_cases h2:m≤1073741824
    ·skip
     go_enter Tryz.func90,Tryz.ntmps90
     go_wp2_with fail
     all_goals (go_ret;exact⟨by simp,box_low⟩)
    ·have h3:decide (m≤1073741824)=false:=decide_eq_false h2
     go_enter Tryz.func90,Tryz.ntmps90
     go_wp2_with fail
     all_goals (go_ret;exact⟨by simp,box_low⟩)
   ·have h3:decide (-1073741824≤m)=false:=decide_eq_false h1
    go_enter Tryz.func90,Tryz.ntmps90
    go_wp2_with fail
    all_goals (go_ret;exact⟨by simp,box_low⟩)
theorem rexpr_1 (m:Int)(s:ByteArray)(a:Option Addr)(l cap:Nat)(z zn:Bool)(w:World)(hx:BoolAll 124 #[.slice a l cap] z w)(hn:BoolAll 47 #[.string s] zn w)(hz:l=0→z=true):
 Calls Tryz.prog 90 #[.agg #[.int .i64 1,.int .i64 m,.string s,.slice a l cap]] w (SoundEnd (zn && m == 0 && l == 0) w):=by
 have HA:Hid (Below w.heap.size w (w.alloc (.cells #[.int .i64 1,.int .i64 m,.string s,.slice a l cap] 37))):=box_low
 have X:=Lib.hid hx
 have Y:=Lib.hid (hn.at HA.out)
 have HZ:=Lib.hid hz
 have HCL:Hid (∀W,Below (w.alloc (.cells #[.int .i64 1,.int .i64 m,.string s,.slice a l cap] 37)).heap.size (w.alloc (.cells #[.int .i64 1,.int .i64 m,.string s,.slice a l cap] 37)) W→W.cell? ⟨w.heap.size,3,none⟩=some (.slice a l cap)):=fun W hb=>box_at (cs:=[.int .i64 1,.int .i64 m,.string s,.slice a l cap]) rfl hb
 clear hx hn hz
 have small:∀q:Bool,q=q:=fun q=>rfl
 by_cases h1:m=0
 ·subst h1
  by_cases hl:l=0
  ·have hl2:((l:Int) == 0)=true:=by rw[hl];rfl
   have hl3:(l == 0)=true:=by rw[hl];rfl
   obtain rfl:=HZ.out hl
   rw[hl3]
   clear hl hl3 HZ
   go_enter Tryz.func90,Tryz.ntmps90
   go_wp2_with fail
   refine Y.out.mono ?_
   rintro r w1 ⟨rfl,hb⟩
   have k3:=HCL.out _ hb
   have HB:=Lib.hid (HA.out.trans (hb.mono HA.out.size))
   clear hb Y HCL
   cases zn with
   | false=>
     go_wp2_with fail
     go_ret
     exact⟨rfl,HB.out⟩
   | true=>
     go_wp2_with fail
     refine(X.out.at HB.out).mono ?_
     rintro r w2 ⟨rfl,hb⟩
     have HB2:=Lib.hid (HB.out.trans (hb.mono HB.out.size))
     clear hb X
     go_wp2_with fail
     go_ret
     exact⟨rfl,HB2.out⟩
  ·have hl2:((l:Int) == 0)=false:=by rw[Bool.eq_false_iff];simp only[ne_eq,beq_iff_eq];omega
   have hl3:(l == 0)=false:=beq_eq_false_iff_ne.2 hl
   rw[hl3]
   clear hl hl3 HZ
   go_enter Tryz.func90,Tryz.ntmps90
   go_wp2_with fail
   go_ret
   exact⟨by simp,box_low⟩
 ·have h2:(m == 0)=false:=by simp[h1]
  rw[h2]
  by_cases h3: -1073741824≤m
  ·by_cases h4:m≤1073741824
   ·go_enter Tryz.func90,Tryz.ntmps90
    go_wp2_with fail
    go_ret
    exact⟨by simp,box_low⟩
   ·have h5:decide (m≤1073741824)=false:=decide_eq_false h4
    go_enter Tryz.func90,Tryz.ntmps90
    go_wp2_with fail
    go_ret
    exact⟨by simp,box_low⟩
  ·have h5:decide (-1073741824≤m)=false:=decide_eq_false h3
   go_enter Tryz.func90,Tryz.ntmps90
   go_wp2_with fail
   go_ret
   exact⟨by simp,box_low⟩
theorem rexpr_x (k m:Int)(s:ByteArray)(a:Option Addr)(l cap:Nat)(w:World)(h:¬(0≤k∧k≤4)):
 Calls Tryz.prog 90 #[.agg #[.int .i64 k,.int .i64 m,.string s,.slice a l cap]] w (SoundEnd false w):=by
 have h0:(k == 0)=false:=by simp;omega
 have h1:(k == 1)=false:=by simp;omega
 have h2:(k == 2)=false:=by simp;omega
 have h3:(k == 3)=false:=by simp;omega
 have h4:(k == 4)=false:=by simp;omega
 clear h
 by_cases g3: -1073741824≤m
 ·by_cases g4:m≤1073741824
  ·go_enter Tryz.func90,Tryz.ntmps90
   go_wp2_with fail
   go_ret
   exact⟨by simp,box_low⟩
  ·have h5:decide (m≤1073741824)=false:=decide_eq_false g4
   go_enter Tryz.func90,Tryz.ntmps90
   go_wp2_with fail
   go_ret
   exact⟨by simp,box_low⟩
 ·have h5:decide (-1073741824≤m)=false:=decide_eq_false g3
  go_enter Tryz.func90,Tryz.ntmps90
  go_wp2_with fail
  go_ret
  exact⟨by simp,box_low⟩
theorem rexpr_any {nm:ByteArray→Bool}(hN:∀s w,s.size≤maxLen→BoolAll 47 #[.string s] (nm s) w):∀(n:Nat) (e:ET) (cs:List Value) (w:World),(exprSh n).rel (Pak.Lo w.heap.size) w cs e→
 Calls Tryz.prog 90 #[.agg cs.toArray] w (SoundEnd (snE nm n e) w)
 | 0,_,_,_,h=>h.elim
 | n+1,e,cs,w,h=>by
   obtain⟨v,rfl,⟨_,_,hsz⟩,a,cap,rfl,hs⟩:=h
   have hall:BoolAll 124 #[.slice a e.ks.length cap] (e.ks.all (snE nm n)) w:=fun W hW=>rexprs_all n (snE nm n) a e.ks.length cap e.ks W rfl (hs.below hW hW.size) (fun cs x V hx hb hr=>rexpr_any hN n x cs V hr)
   unfold snE
   by_cases h1:e.kind=1
   ·rw[if_pos h1]
    have:=rexpr_1 e.n e.name a e.ks.length cap _ _ w hall (hN e.name w hsz) (fun h=>by rw[List.length_eq_zero_iff.1 h];rfl)
    rw[h1]
    exact this
   ·rw[if_neg h1]
    by_cases h2:0≤e.kind∧e.kind≤4
    ·rw[if_pos h2]
     have hz:∀(b:Bool),(e.n == 0 || (b && inB e.n))=(if b then inB e.n else e.n == 0):=fun b=>by
      cases b with
      | false=>simp
      | true=>
        by_cases h0:e.n=0
        ·rw[h0];decide
        ·simp[h0]
     have hk:e.kind=0∨e.kind=2∨e.kind=3∨e.kind=4:=by omega
     rw[hz]
     rcases hk with hk | hk | hk | hk
     ·rw[hk]
      exact rexpr_0 e.n e.name a e.ks.length cap _ w hall
     ·rw[hk]
      exact rexpr_2 e.n e.name a e.ks.length cap _ w hall
     ·rw[hk]
      exact rexpr_3 e.n e.name a e.ks.length cap _ w hall
     ·rw[hk]
      exact rexpr_4 e.n e.name a e.ks.length cap _ w hall
    ·rw[if_neg h2]
     exact rexpr_x _ _ _ _ _ _ w h2
theorem rexprs_any {nm:ByteArray→Bool}(hN:∀s w,s.size≤maxLen→BoolAll 47 #[.string s] (nm s) w)(n:Nat)(a:Option Addr)(cap:Nat)(xs:List ET)(w:World)(hs:Pak.Sits (exprSh n) (Pak.Lo w.heap.size) w a xs):
 BoolAll 124 #[.slice a xs.length cap] (xs.all (snE nm n)) w:=fun W hW=>
 rexprs_all n (snE nm n) a xs.length cap xs W rfl (hs.below hW hW.size) (fun cs x V hx hb hr=>rexpr_any hN n x cs V hr)
end
section
open Go.RowKit
theorem soundQ_box (cs ca cb:List Value)(s:ByteArray)(a1 a2 a3:Option Addr)(m1 m2 m3 c1 c2 c3:Nat)(z0 z1 z2 z3 z4 z5:Bool)(w:World)
 (q0:cs[0]? =some (.string s)) (q1:cs[1]? =some (.slice a1 m1 c1)) (q2:cs[2]? =some (.slice a2 m2 c2)) (p3:Part cs 3 ca) (p4:Part cs 18 cb) (q5:cs[33]? =some (.slice a3 m3 c3)) (l3:ca.length=15) (l4:cb.length=15)
 (x0:BoolAll 69 #[.string s] z0 w) (x1:BoolAll 70 #[.slice a1 m1 c1,.func (.func 69) #[] #[]] z1 w) (x2:BoolAll 70 #[.slice a2 m2 c2,.func (.func 69) #[] #[]] z2 w)
 (x3:BoolAll 71 #[.agg ca.toArray] z3 w) (x4:BoolAll 71 #[.agg cb.toArray] z4 w) (x5:BoolAll 72 #[.slice a3 m3 c3,.func (.func 73) #[] #[]] z5 w):
 Calls Tryz.prog 35 #[.agg cs.toArray] w (SoundEnd (z0 && z1 && z2 && z3 && z4 && z5) w):=by
 have HA:Hid (Below w.heap.size w (w.alloc (.cells cs.toArray 49))):=box_low
 have HB0:Hid (Below (w.alloc (.cells cs.toArray 49)).heap.size (w.alloc (.cells cs.toArray 49)) (w.alloc (.cells cs.toArray 49))):=Below.refl _ _
 have P0:=Lib.hid (fun W (hb:Below (w.alloc (.cells cs.toArray 49)).heap.size (w.alloc (.cells cs.toArray 49)) W)=>box_at q0 hb)
 have X0:=Lib.hid x0
 have P1:=Lib.hid (fun W (hb:Below (w.alloc (.cells cs.toArray 49)).heap.size (w.alloc (.cells cs.toArray 49)) W)=>box_at q1 hb)
 have X1:=Lib.hid x1
 have P2:=Lib.hid (fun W (hb:Below (w.alloc (.cells cs.toArray 49)).heap.size (w.alloc (.cells cs.toArray 49)) W)=>box_at q2 hb)
 have X2:=Lib.hid x2
 have P3:=Lib.hid (fun W (hb:Below (w.alloc (.cells cs.toArray 49)).heap.size (w.alloc (.cells cs.toArray 49)) W)=>box_part p3 hb)
 have L3:=Lib.hid l3
 have X3:=Lib.hid x3
 have P4:=Lib.hid (fun W (hb:Below (w.alloc (.cells cs.toArray 49)).heap.size (w.alloc (.cells cs.toArray 49)) W)=>box_part p4 hb)
 have L4:=Lib.hid l4
 have X4:=Lib.hid x4
 have P5:=Lib.hid (fun W (hb:Below (w.alloc (.cells cs.toArray 49)).heap.size (w.alloc (.cells cs.toArray 49)) W)=>box_at q5 hb)
 have X5:=Lib.hid x5
 clear x0 x1 x2 x3 x4 x5 q0 q1 q2 p3 p4 q5 l3 l4
 go_enter Tryz.func35,Tryz.ntmps35
 have k0:=P0.out _ HB0.out
 go_wp2_with fail
 refine(X0.out.at HA.out).mono ?_
 rintro r w0 ⟨rfl,hb⟩
 have HB_0:=Lib.hid (HB0.out.trans (hb.mono HB0.out.size))
 have HW0:=Lib.hid (HA.out.trans (hb.mono HA.out.size))
 clear k0
 clear hb X0 P0
 cases z0 with
 | false=>
   clear X1 P1 X2 P2 X3 P3 X4 P4 X5 P5
   go_wp2_with fail
   go_ret
   exact⟨by simp,HW0.out⟩
 | true=>
 skip
 have k1:=P1.out _ HB_0.out
 go_wp2_with fail
 refine(X1.out.at HW0.out).mono ?_
 rintro r w1 ⟨rfl,hb⟩
 have HB_1:=Lib.hid (HB_0.out.trans (hb.mono HB_0.out.size))
 have HW1:=Lib.hid (HW0.out.trans (hb.mono HW0.out.size))
 clear k1
 clear hb X1 P1
 cases z1 with
 | false=>
   clear X2 P2 X3 P3 X4 P4 X5 P5
   go_wp2_with fail
   go_ret
   exact⟨by simp,HW1.out⟩
 | true=>
 skip
 have k2:=P2.out _ HB_1.out
 go_wp2_with fail
 refine(X2.out.at HW1.out).mono ?_
 rintro r w2 ⟨rfl,hb⟩
 have HB_2:=Lib.hid (HB_1.out.trans (hb.mono HB_1.out.size))
 have HW2:=Lib.hid (HW1.out.trans (hb.mono HW1.out.size))
 clear k2
 clear hb X2 P2
 cases z2 with
 | false=>
   clear X3 P3 X4 P4 X5 P5
   go_wp2_with fail
   go_ret
   exact⟨by simp,HW2.out⟩
 | true=>
 skip
 go_wp2_with (refine wpList_load_w rfl 44 _ rfl ⟨w.heap.size,3,none⟩ rfl ca _ (P3.out _ HB_2.out) Tryz.underlying44 rfl (by rw[L3.out];kernel_rfl) ?_)
 refine(X3.out.at HW2.out).mono ?_
 rintro r w3 ⟨rfl,hb⟩
 have HB_3:=Lib.hid (HB_2.out.trans (hb.mono HB_2.out.size))
 have HW3:=Lib.hid (HW2.out.trans (hb.mono HW2.out.size))
 clear hb X3 P3
 cases z3 with
 | false=>
   clear X4 P4 X5 P5
   go_wp2_with fail
   go_ret
   exact⟨by simp,HW3.out⟩
 | true=>
 skip
 go_wp2_with (refine wpList_load_w rfl 44 _ rfl ⟨w.heap.size,18,none⟩ rfl cb _ (P4.out _ HB_3.out) Tryz.underlying44 rfl (by rw[L4.out];kernel_rfl) ?_)
 refine(X4.out.at HW3.out).mono ?_
 rintro r w4 ⟨rfl,hb⟩
 have HB_4:=Lib.hid (HB_3.out.trans (hb.mono HB_3.out.size))
 have HW4:=Lib.hid (HW3.out.trans (hb.mono HW3.out.size))
 clear hb X4 P4
 cases z4 with
 | false=>
   clear X5 P5
   go_wp2_with fail
   go_ret
   exact⟨by simp,HW4.out⟩
 | true=>
 skip
 have k5:=P5.out _ HB_4.out
 go_wp2_with fail
 refine(X5.out.at HW4.out).mono ?_
 rintro r w5 ⟨rfl,hb⟩
 have HB_5:=Lib.hid (HB_4.out.trans (hb.mono HB_4.out.size))
 have HW5:=Lib.hid (HW4.out.trans (hb.mono HW4.out.size))
 clear k5
 clear hb X5 P5
 go_wp2_with fail
 go_ret
 exact⟨by simp,HW5.out⟩
def snQ (nm:ByteArray→Bool)(n:Nat)(q:QT):Bool:=nm q.name && q.params.all nm && q.ghosts.all nm && snA nm n q.pre && snA nm n q.post && q.body.all (snS nm n)
theorem soundQ_any {nm:ByteArray→Bool}(hN:NameLaw nm Laid)(n:Nat)(q:QT)(cs:List Value)(w:World)(h:(procSh n).rel (Pak.Lo w.heap.size) w cs q)(hL:Laid w):Calls Tryz.prog 35 #[.agg cs.toArray] w (SoundEnd (snQ nm n q) w):=by
 obtain⟨ca,cb,a1,a2,a3,c1,c2,c3,H⟩:=proc_is h
 exact soundQ_box cs ca cb q.name a1 a2 a3 _ _ _ c1 c2 c3 _ _ _ _ _ _ w H.name H.params H.ghosts H.pre H.post H.body (((assnSh n).len H.rpre).trans (assnSh_k n)) (((assnSh n).len H.rpost).trans (assnSh_k n))
  (fun W hW=>hN.run _ W H.num (hL.up hW))
  (fun W hW=>allT_any 69 nm a1 _ c1 q.params W (fun args w=>by kernel_rfl) rfl (H.rparams.below hW hW.size) (fun x U hx hz hu=>hN.run x U hz ((hL.up hW).up hu)))
  (fun W hW=>allT_any 69 nm a2 _ c2 q.ghosts W (fun args w=>by kernel_rfl) rfl (H.rghosts.below hW hW.size) (fun x U hx hz hu=>hN.run x U hz ((hL.up hW).up hu)))
  (fun W hW=>soundA_any hN n q.pre ca W (rel_low H.rpre hW) (hL.up hW)) (fun W hW=>soundA_any hN n q.post cb W (rel_low H.rpost hW) (hL.up hW))
  (fun W hW=>allS_any n 73 (snS nm n) a3 _ c3 q.body W (fun args w=>by kernel_rfl) rfl (H.rbody.below hW hW.size) (fun cs x V hx hv hr=>soundS_any hN n x cs V hr ((hL.up hW).up hv)))
def dpQ (q:QT):Bool:=dpA 100 q.pre || dpA 100 q.post || q.body.any (dpS 100)
def chkQ (nm:ByteArray→Bool)(n:Nat)(qs:List QT):Int:=bif qs.any dpQ then 4 else(bif qs.all (snQ nm n) then 0 else 5)
def erV (k:Int):Value:=if k=0 then .nilIface else .iface 51 (.int .i64 k)
def ErrIn (k:Int)(w:World)(r:Ending)(w':World):Prop:=r= .returned (erV k)∧Below w.heap.size w w'
theorem check_box (a:Option Addr)(m cap n:Nat)(qs:List QT)(zS:Bool)(w:World)(hm:qs.length=m)(hs:Pak.Sits (procSh n) (Pak.Lo w.heap.size) w a qs)
 (hS:BoolAll 34 #[.slice a m cap,.func (.func 35) #[] #[]] zS w):
 Calls Tryz.prog 13 #[.agg #[.slice a m cap]] w (ErrIn (bif qs.any dpQ then 4 else(bif zS then 0 else 5)) w):=by
 have HA0:Hid (Below w.heap.size w (w.alloc (.cells #[.slice a m cap] 24))):=box_low
 have HS:=Lib.hid hs
 have HM:=Lib.hid hm
 have HSS:=Lib.hid hS
 have hmm:m≤9223372036854775807:=by rw[←hm];exact hs.1
 have HHIT:Hid (∀j,(h:j<qs.length)→dpQ qs[j]=true→qs.any dpQ=true):=fun j h e=>any_hit h e
 have HMISS:Hid ((∀j,(h:j<qs.length)→dpQ qs[j]=false)→qs.any dpQ=false):=fun h=>any_miss h
 have HCL:Hid (∀W,Below (w.alloc (.cells #[.slice a m cap] 24)).heap.size (w.alloc (.cells #[.slice a m cap] 24)) W→W.cell? ⟨w.heap.size,0,none⟩=some (.slice a m cap)):=fun W hb=>box_at (cs:=[.slice a m cap]) rfl hb
 clear hs hm hS
 generalize qs.any dpQ=zD at HHIT HMISS
 go_enter Tryz.func13,Tryz.ntmps13
 go_wp2_with fail
 go_loopw [8] (fun i wr=>∃j:Nat,j≤m∧i= .int .i64 j∧Hid (∀q,(h:q<qs.length)→q<j→dpQ qs[q]=false)∧Hid (Below (w.alloc (.cells #[.slice a m cap] 24)).heap.size (w.alloc (.cells #[.slice a m cap] 24)) wr)) (fun i _=>m - (intOf i).toNat)
 case atStart=>exact⟨0,Nat.zero_le _,rfl,fun q _ h=>absurd h (Nat.not_lt_zero _),Below.refl _ _⟩
 case round=>
  obtain⟨j,hj,rfl,hno,hb⟩:=hrel
  obtain⟨wo,rfl⟩:∃wo:World,wo=wr:=⟨_,rfl⟩
  have HWO:=Lib.hid (HA0.out.trans (hb.out.mono HA0.out.size))
  by_cases hlt:j<m
  ·have hlx:j<qs.length:=by rw[HM.out];exact hlt
   have hji:(j:Int)<(m:Int):=by omega
   obtain⟨b,off,cs,rfl,hbl,hc,hr⟩:=(HS.out.below HWO.out HWO.out.size).2 j hlx
   have hlen:=(procSh n).len hr
   have hone:=(procSh n).one hr
   rw[procSh_k]at hlen hc
   have HC0:Hid (∀i v,cs[i]? =some v→wo.cell? ((⟨b,off+j*34,none⟩:Addr).add i)=some v):=fun i v hv=>by
    rw[show(⟨b,off+j*34,none⟩:Addr).add i=⟨b,off+j*34+i,none⟩ by unfold Addr.add;split<;>simp_all]
    exact hc i v hv
   have hA:Below wo.heap.size wo (wo.alloc (.cells cs.toArray 49)):=box_low
   obtain⟨ca,cb,a1,a2,a3,c1,c2,c3,H⟩:=proc_is hr
   have P1:=Lib.hid (fun W (hb:Below (wo.alloc (.cells cs.toArray 49)).heap.size (wo.alloc (.cells cs.toArray 49)) W)=>box_part H.pre hb)
   have P2:=Lib.hid (fun W (hb:Below (wo.alloc (.cells cs.toArray 49)).heap.size (wo.alloc (.cells cs.toArray 49)) W)=>box_part H.post hb)
   have P3:=Lib.hid (fun W (hb:Below (wo.alloc (.cells cs.toArray 49)).heap.size (wo.alloc (.cells cs.toArray 49)) W)=>box_at H.body hb)
   have L1:=Lib.hid (((assnSh n).len H.rpre).trans (assnSh_k n))
   have L2:=Lib.hid (((assnSh n).len H.rpost).trans (assnSh_k n))
   have X1:Hid (BoolAll 31 #[.agg ca.toArray,.int .i64 100] (dpA 100 qs[j].pre) (wo.alloc (.cells cs.toArray 49))):=Lib.hid (fun W hW=>deepA_any n 100 qs[j].pre ca W (by decide) (rel_low (rel_low H.rpre hA) hW))
   have X2:Hid (BoolAll 31 #[.agg cb.toArray,.int .i64 100] (dpA 100 qs[j].post) (wo.alloc (.cells cs.toArray 49))):=Lib.hid (fun W hW=>deepA_any n 100 qs[j].post cb W (by decide) (rel_low (rel_low H.rpost hA) hW))
   have X3:Hid (BoolAll 32 #[.slice a3 qs[j].body.length c3,.int .i64 100,.func (.func 33) #[] #[]] (qs[j].body.any (dpS 100)) (wo.alloc (.cells cs.toArray 49))):=Lib.hid (fun W hW=>someS_any n 33 100 (dpS 100) a3 _ c3 qs[j].body W (fun args w=>by kernel_rfl) rfl ((H.rbody.below hA hA.size).below hW hW.size) (fun cs x V hx hv hr=>deepS_any n 100 x cs V (by decide) hr))
   have HL:=Lib.hid hlen
   have HO:=Lib.hid hone
   have HH:Hid ((dpA 100 qs[j].pre || dpA 100 qs[j].post || qs[j].body.any (dpS 100))=true→zD=true):=Lib.hid (HHIT.out j hlx)
   have HN:Hid ((dpA 100 qs[j].pre || dpA 100 qs[j].post || qs[j].body.any (dpS 100))=false→∀q,(h:q<qs.length)→q<j+1→dpQ qs[q]=false):=fun h q hq hlq=>by
    by_cases e:q=j
    ·subst e;exact h
    ·exact hno.out q hq (by omega)
   have HB:=Lib.hid (hb.out.trans (hA.mono hb.out.size))
   have HB0:Hid (Below (wo.alloc (.cells cs.toArray 49)).heap.size (wo.alloc (.cells cs.toArray 49)) (wo.alloc (.cells cs.toArray 49))):=Below.refl _ _
   clear hc hr hlen hone H hA
   generalize dpA 100 qs[j].pre=z1 at X1 HH HN
   generalize dpA 100 qs[j].post=z2 at X2 HH HN
   generalize qs[j].body.any (dpS 100)=z3 at X3 HH HN
   generalize qs[j].body.length=m3 at X3 P3
   go_wp2_with (first | (refine wpList_store_new rfl 49 _ _ rfl _ rfl cs rfl (by rw[HL.out];kernel_rfl) (by rw[HL.out];rfl) HO.out ?_) | (refine wpList_load_w rfl 49 _ rfl ⟨b,off+j*34,none⟩ rfl cs _ HC0.out Tryz.underlying49 rfl (by rw[HL.out];kernel_rfl) ?_) | (refine wpList_load_w rfl 44 _ rfl ⟨wo.heap.size,3,none⟩ rfl ca _ (P1.out _ HB0.out) Tryz.underlying44 rfl (by rw[L1.out];kernel_rfl) ?_))
   refine(X1.out.at HB0.out).mono ?_
   rintro r w1 ⟨rfl,hb1⟩
   have B1:=Lib.hid hb1
   have HB1:=Lib.hid (HB.out.trans (hb1.mono HB.out.size))
   clear hb1 X1 P1 HC0
   cases z1 with
   | true=>
     obtain rfl:=HH.out rfl
     have HZ:=Lib.hid (HA0.out.trans (HB1.out.mono HA0.out.size))
     clear HH HN X2 X3 P2 P3
     go_wp2_with fail
     go_ret
     exact⟨rfl,HZ.out⟩
   | false=>
   go_wp2_with (refine wpList_load_w rfl 44 _ rfl ⟨wo.heap.size,18,none⟩ rfl cb _ (P2.out _ B1.out) Tryz.underlying44 rfl (by rw[L2.out];kernel_rfl) ?_)
   refine(X2.out.at B1.out).mono ?_
   rintro r w2 ⟨rfl,hb1⟩
   have B2:=Lib.hid (B1.out.trans (hb1.mono B1.out.size))
   have HB2:=Lib.hid (HB1.out.trans (hb1.mono HB1.out.size))
   clear hb1 X2 P2
   cases z2 with
   | true=>
     obtain rfl:=HH.out rfl
     have HZ:=Lib.hid (HA0.out.trans (HB2.out.mono HA0.out.size))
     clear HH HN X3 P3
     go_wp2_with fail
     go_ret
     exact⟨rfl,HZ.out⟩
   | false=>
   have k3:=P3.out _ B2.out
   go_wp2_with fail
   refine(X3.out.at B2.out).mono ?_
   rintro r w3 ⟨rfl,hb1⟩
   have HB3:=Lib.hid (HB2.out.trans (hb1.mono HB2.out.size))
   clear hb1 X3 P3 k3
   cases z3 with
   | true=>
     obtain rfl:=HH.out rfl
     have HZ:=Lib.hid (HA0.out.trans (HB3.out.mono HA0.out.size))
     clear HH HN
     go_wp2_with fail
     go_ret
     exact⟨rfl,HZ.out⟩
   | false=>
     have HN2:=Lib.hid (HN.out rfl)
     clear HH HN
     go_wp2_with fail
     go_roundw
     case rel=>exact⟨j+1,by omega,by go_num,HN2,HB3⟩
     case measure=>simp[intOf];omega
  ·obtain rfl:j=m:=by omega
   obtain rfl:=HMISS.out (fun q hq=>hno.out q hq (by rw[HM.out]at hq;exact hq))
   have k0:=HCL.out _ hb.out
   go_wp2_with fail
   refine(HSS.out.at HWO.out).mono ?_
   rintro r w3 ⟨rfl,hb1⟩
   have HZ:=Lib.hid (HWO.out.trans (hb1.mono HWO.out.size))
   clear hb1 HSS k0
   cases zS with
   | true=>
     go_wp2_with fail
     go_ret
     exact⟨rfl,HZ.out⟩
   | false=>
     go_wp2_with fail
     go_ret
     exact⟨rfl,HZ.out⟩
theorem check_prog {nm:ByteArray→Bool}(hN:NameLaw nm Laid)(n:Nat)(qs:List QT)(a:Option Addr)(cap:Nat)(w:World)(hs:Pak.Sits (procSh n) (Pak.Lo w.heap.size) w a qs)(hL:Laid w):
 Calls Tryz.prog 13 #[.agg #[.slice a qs.length cap]] w (ErrIn (chkQ nm n qs) w):=
 check_box a qs.length cap n qs _ w rfl hs (fun W hW=>allQ_any n 35 (snQ nm n) a qs.length cap qs W (fun args w=>by kernel_rfl) rfl (hs.below hW hW.size) (fun cs x V hx hv hr=>soundQ_any hN n x cs V hr ((hL.up hW).up hv)))
end
end Go.Proofs.YtfcaclmcnlflfaaGreatDoor
