/- Parts of a proof. -/
import Derived.Test.YtfcaclmcnlflfaaGreatDoorQ10
import Derived.Maps.Own
import Derived.Maps.OwnOps
import Derived.Maps.Views
import Derived.Maps.OwnSet
import Derived.StringKeys
set_option linter.unusedVariables false
set_option linter.unusedSimpArgs false
set_option maxHeartbeats 60000000
set_option maxRecDepth 100000
namespace Go.Proofs.YtfcaclmcnlflfaaGreatDoor
section
open Go.RowKit Go.Maps
theorem Tryz.lawStr:Keyed Tryz.prog 9:=string_keyed Tryz.underlying9
theorem Tryz.zeroInt (w:World):(zeroValue 3).run Tryz.prog w= .ok (.int .i64 0) w:=by kernel_rfl
structure SMap (F:ByteArray→Option Int)(m mp:Nat)(w:World):Prop where
 ex:∃D:DataW Unit,w.ownsMap Tryz.prog 9 (plainElem Tryz.prog 3) mp m D∧∀(s:ByteArray) z,D.atKey (.string s.data.toList) z=match F s with | none=>z | some v=> .lit (.int .i64 v)
theorem SMap.made (w:World):SMap (fun _=>none) 0 w.heap.size (w.alloc (.map #[] 0)):=⟨.map [],World.ownsMap_made _ _ _ _,fun s z=>rfl⟩
theorem SMap.keep {F:ByteArray→Option Int}{m mp:Nat}{w w':World}(h:SMap F m mp w)(hk:w'.heap[mp]? =w.heap[mp]?):SMap F m mp w':=by
 obtain⟨D,⟨es,clock,hb,G,hs,hD⟩,h2⟩:=h.ex
 exact⟨D,⟨es,clock,hk.trans hb,G,hs,hD⟩,h2⟩
theorem SMap.lt {F:ByteArray→Option Int}{m mp:Nat}{w:World}(h:SMap F m mp w):mp<w.heap.size:=by
 obtain⟨D,h1,_⟩:=h.ex
 exact h1.lt
theorem SMap.below {F:ByteArray→Option Int}{m mp B:Nat}{w w':World}(h:SMap F m mp w)(hb:Below B w w')(hB:mp<B):SMap F m mp w':=h.keep (hb.block mp hB)
theorem SMap.up {F:ByteArray→Option Int}{m mp:Nat}{w w':World}(h:SMap F m mp w)(hb:Below w.heap.size w w'):SMap F m mp w':=h.below hb h.lt
theorem key_str {s:ByteArray}(hs:s.size≤maxLen):keyOf Tryz.prog 9 (.string s)=some (.string s.data.toList):=
 Go.WideMaps.keyOf_string_mk (P:=Tryz.prog) Tryz.underlying9 (s:=s) hs
theorem SMap.look {F:ByteArray→Option Int}{m mp:Nat}{w:World}(h:SMap F m mp w){s:ByteArray}(hs:s.size≤maxLen):
 (Instr.lookup 53 (.map (some mp)) (.string s) false).run Tryz.prog w= .ok (.int .i64 ((F s).getD 0)) w:=by
 obtain⟨D,h1,h2⟩:=h.ex
 obtain⟨x,hr,hx,_⟩:=h1.lookup_int Tryz.lawStr Tryz.underlying53 Tryz.underlying3 (Tryz.zeroInt _) (key_str hs)
 rw[h2]at hx
 rw[hr]
 cases hF:F s with
 | none=>
   rw[hF]at hx
   injection hx with hx
   injection hx with _ hx
   rw[←hx];rfl
 | some v=>
   rw[hF]at hx
   injection hx with hx
   injection hx with _ hx
   rw[←hx];rfl
theorem SMap.look2 {F:ByteArray→Option Int}{m mp:Nat}{w:World}(h:SMap F m mp w){s:ByteArray}(hs:s.size≤maxLen):
 (Instr.lookup 53 (.map (some mp)) (.string s) true).run Tryz.prog w= .ok (.tuple #[.int .i64 ((F s).getD 0),.bool (F s).isSome]) w:=by
 obtain⟨D,⟨es,clock,hb,G,hs2,hD⟩,h2⟩:=h.ex
 subst hD
 rcases Maps.fit_look true Tryz.lawStr Tryz.underlying53 (Tryz.zeroInt w) hb G (key_str hs)with ⟨hrun,_,hat⟩ | ⟨e0,y,_,_,hrun,hRv,hat,_⟩
 ·have h3:=(h2 s .nil).symm.trans (hat .nil)
  cases hF:F s with
  | none=>rw[hrun];rfl
  | some v=>rw[hF]at h3;cases h3
 ·obtain⟨c,hc,rfl,_⟩:=plainElem_int_inv Tryz.underlying3 hRv
  have h3:=(h2 s .nil).symm.trans (hat .nil)
  cases hF:F s with
  | none=>rw[hF]at h3;cases h3
  | some v=>
    rw[hF]at h3
    injection h3 with h3
    injection h3 with _ h3
    rw[hrun,hc,h3];rfl
theorem SMap.put {F:ByteArray→Option Int}{m mp:Nat}{w:World}(h:SMap F m mp w){s:ByteArray}(hs:s.size≤maxLen){v:Int}(hv: -9223372036854775808≤v∧v≤9223372036854775807)(hn:m≤1000000):
 ∃w',(Instr.mapUpdate 53 (.map (some mp)) (.string s) (.int .i64 v)).run Tryz.prog w= .ok () w'∧SMap (fun t=>if t=s then some v else F t) (m+1) mp w'∧w.grownBy w' (some mp):=by
 obtain⟨D,h1,h2⟩:=h.ex
 obtain⟨w',hr,h3,h4⟩:=h1.update Tryz.lawStr Tryz.underlying53 (by unfold maxLen;omega) (key_str hs) (plainElem_int Tryz.underlying3 (a:=v) (WalkArith.wf_i64 hv))
 refine⟨w',hr,⟨_,h3,fun t z=> ?_⟩,h4⟩
 by_cases e:t=s
 ·subst e
  rw[if_pos rfl]
  exact atKey_put_same h1.isMap (by exact trivial) _ _
 ·rw[if_neg e,←h2]
  exact atKey_put_other (fun h=>e (by
   injection h with h
   cases t;cases s
   simp only[ByteArray.mk.injEq]
   exact Array.toList_inj.1 h)) _ _
theorem grown_map {w w':World}{mp B:Nat}(h:w.grownBy w' (some mp))(hB:B≤mp)(hB2:B≤w.heap.size):Below B w w':=
 (Below.refl B w).grown h hB2 (fun g e=>by injection e with e;omega)
def setF (l:List ByteArray)(s:ByteArray):Option Int:=if hasW s l=true then some 1 else none
theorem setF_snoc {l:List ByteArray}{j:Nat}(h:j<l.length):(fun t=>if t=l[j] then some 1 else setF (l.take j) t)=setF (l.take (j+1)):=by
 funext t
 unfold setF hasW
 rw[List.take_succ_eq_append_getElem h,List.any_append]
 by_cases e:t=l[j]
 ·subst e;simp
 ·have e2:¬l[j]=t:=fun h=>e h.symm
  rw[if_neg e,List.any_cons,List.any_nil,decide_eq_false e2,Bool.or_false,Bool.or_false]
def MpEnd (F:ByteArray→Option Int)(w:World)(r:Ending)(w':World):Prop:=∃mp k,r= .returned (.map (some mp))∧SMap F k mp w'∧w.heap.size≤mp∧Below w.heap.size w w'
theorem set_any (a:Option Addr)(m cap:Nat)(xs:List ByteArray)(w:World)(hm:xs.length=m)(hsz:xs.length≤1000000)(hs:Pak.Sits strSh (Pak.Lo w.heap.size) w a xs):
 Calls Tryz.prog 76 #[.slice a m cap] w (MpEnd (setF xs) w):=by
 have HS:=Lib.hid hs
 have HM:=Lib.hid hm
 have HZ:=Lib.hid hsz
 have hmm:m≤9223372036854775807:=by rw[←hm];exact hs.1
 have hmk:= @run_makeMap Tryz.prog
 have HS0:Hid (SMap (setF (xs.take 0)) 0 w.heap.size (w.alloc (.map #[] 0))):=Lib.hid (SMap.made w)
 have HB0:Hid (Below w.heap.size w (w.alloc (.map #[] 0))):=Lib.hid ((Below.refl _ _).alloc (Nat.le_refl _) _)
 clear hs hm hsz
 go_enter Tryz.func76,Tryz.ntmps76
 go_wp2_with fail
 go_loopw [9] (fun i wr=>∃j:Nat,j≤m∧i= .int .i64 j∧Hid (SMap (setF (xs.take j)) j w.heap.size wr)∧Hid (Below w.heap.size w wr)) (fun i _=>m - (intOf i).toNat)
 case atStart=>exact⟨0,Nat.zero_le _,rfl,HS0,HB0⟩
 case round=>
  obtain⟨j,hj,rfl,hsm,hb⟩:=hrel
  obtain⟨wo,rfl⟩:∃wo:World,wo=wr:=⟨_,rfl⟩
  by_cases hlt:j<m
  ·have hlx:j<xs.length:=by rw[HM.out];exact hlt
   have hji:(j:Int)<(m:Int):=by omega
   obtain⟨b,off,cs,rfl,hbl,hc,rfl,hsl⟩:=(HS.out.below hb.out hb.out.size).2 j hlx
   have c0:=hc 0 _ rfl
   rw[show strSh.k=1 from rfl,Nat.mul_one,Nat.add_zero]at c0
   obtain⟨w2,hput,hsm2,hg⟩:=hsm.out.put hsl (v:=1) (by decide) (by have:=HZ.out;omega)
   have HN:Hid (SMap (setF (xs.take (j+1))) (j+1) w.heap.size w2):=Lib.hid (by rw[←setF_snoc hlx];exact hsm2)
   have HB:=Lib.hid (hb.out.trans (grown_map hg (Nat.le_refl _) hb.out.size))
   clear hc hsm hsm2 hg hb
   generalize xs[j]=xn at*
   go_wp2_with fail
   go_roundw
   case rel=>exact⟨j+1,by omega,by go_num,HN,HB⟩
   case measure=>simp[intOf];omega
  ·obtain rfl:j=m:=by omega
   have hji:¬(j:Int)<(j:Int):=by omega
   have HF:Hid (SMap (setF xs) j w.heap.size wo):=Lib.hid (by have h:=hsm.out;rwa [←HM.out,List.take_length,HM.out]at h)
   have HB:=Lib.hid hb.out
   clear hsm hb
   go_wp2_with fail
   go_ret
   exact⟨_,_,rfl,HF.out,Nat.le_refl _,HB.out⟩
def cntN (s:ByteArray)(l:List ByteArray):Nat:=l.foldl (fun k x=>if x=s then k+1 else k) 0
theorem cntN_snoc {s:ByteArray}{l:List ByteArray}{j:Nat}(h:j<l.length):cntN s (l.take (j+1))=if l[j]=s then cntN s (l.take j)+1 else cntN s (l.take j):=by
 unfold cntN
 rw[List.take_succ_eq_append_getElem h,List.foldl_append]
 rfl
def cntF (l:List ByteArray)(s:ByteArray):Option Int:=if cntN s l=0 then none else some (cntN s l:Int)
theorem cntF_getD (l:List ByteArray)(s:ByteArray):(cntF l s).getD 0=(cntN s l:Int):=by
 unfold cntF
 split
 ·next h=>rw[h];rfl
 ·rfl
theorem cntF_snoc {l:List ByteArray}{j:Nat}(h:j<l.length):(fun t=>if t=l[j] then some ((cntN l[j] (l.take j):Int)+1) else cntF (l.take j) t)=cntF (l.take (j+1)):=by
 funext t
 unfold cntF
 rw[cntN_snoc h]
 by_cases e:t=l[j]
 ·subst e
  rw[if_pos rfl,if_pos rfl,if_neg (by omega)]
  simp
 ·have e2:¬l[j]=t:=fun h=>e h.symm
  simp only[if_neg e,if_neg e2]
def twiB:List ByteArray→Bool
 | []=>false
 | x :: r=>hasW x r || twiB r
theorem cntN_cons (s x:ByteArray)(l:List ByteArray):cntN s (x :: l)=(if x=s then 1 else 0)+cntN s l:=by
 have key:∀(l:List ByteArray) (k:Nat),l.foldl (fun k x=>if x=s then k+1 else k) k=k+l.foldl (fun k x=>if x=s then k+1 else k) 0:=fun l=>by
  induction l with
  | nil=>intro k;rfl
  | cons y r ih=>
    intro k
    rw[List.foldl_cons,List.foldl_cons,ih,ih (if y=s then 0+1 else 0)]
    split<;>omega
 unfold cntN
 rw[List.foldl_cons,key]
theorem cntN_has (s:ByteArray):∀l:List ByteArray,hasW s l=true↔0<cntN s l
 | []=>by simp[hasW,cntN]
 | x :: r=>by
   have ih:=cntN_has s r
   rw[cntN_cons]
   unfold hasW at*
   rw[List.any_cons]
   by_cases e:x=s
   ·simp[e];omega
   ·simp[e];simpa using ih
theorem twiB_iff:∀l:List ByteArray,twiB l=true↔∃s,2≤cntN s l
 | []=>by simp[twiB,cntN]
 | x :: r=>by
   unfold twiB
   rw[Bool.or_eq_true,cntN_has,twiB_iff r]
   constructor
   ·rintro(h | ⟨s,h⟩)
    ·exact⟨x,by rw[cntN_cons,if_pos rfl];omega⟩
    ·exact⟨s,by rw[cntN_cons];omega⟩
   ·rintro⟨s,h⟩
    rw[cntN_cons]at h
    by_cases e:x=s
    ·subst e;rw[if_pos rfl]at h;exact .inl (by omega)
    ·rw[if_neg e]at h;exact .inr ⟨s,by omega⟩
theorem cntN_take {s:ByteArray}{l:List ByteArray}{j:Nat}:cntN s (l.take j)≤cntN s l:=by
 have key:∀(l:List ByteArray) (j:Nat),cntN s (l.take j)≤cntN s l:=fun l=>by
  induction l with
  | nil=>intro j;simp
  | cons x r ih=>
    intro j
    cases j with
    | zero=>simp[cntN]
    | succ j=>rw[List.take_succ_cons,cntN_cons,cntN_cons];have:=ih j;omega
 exact key l j
theorem twiB_hit {l:List ByteArray}{j:Nat}(h:j<l.length)(h2:0<cntN l[j] (l.take j)):twiB l=true:=
 (twiB_iff l).2 ⟨l[j],by
   have h3:=cntN_snoc (s:=l[j]) h
   rw[if_pos rfl]at h3
   have h4:=cntN_take (s:=l[j]) (l:=l) (j:=j+1)
   omega⟩
theorem twiB_miss {l:List ByteArray}(h:∀j (hj:j<l.length),cntN l[j] (l.take j)=0):twiB l=false:=by
 cases ht:twiB l with
 | false=>rfl
 | true=>
   obtain⟨s,h2⟩:=(twiB_iff l).1 ht
   have key:∀j,j≤l.length→cntN s (l.take j)≤1:=fun j=>by
    induction j with
    | zero=>intro _;simp[cntN]
    | succ j ih=>
      intro hj
      have h3:=cntN_snoc (s:=s) (l:=l) (j:=j) (by omega)
      have h4:=h j (by omega)
      have h5:=ih (by omega)
      rw[h3]
      split
      ·next e=>rw[←e,h4];omega
      ·exact h5
   have:=key l.length (Nat.le_refl _)
   rw[List.take_length]at this
   omega
theorem twice_any (a:Option Addr)(m cap:Nat)(xs:List ByteArray)(w:World)(hm:xs.length=m)(hsz:xs.length≤1000000)(hs:Pak.Sits strSh (Pak.Lo w.heap.size) w a xs):
 Calls Tryz.prog 37 #[.slice a m cap] w fun r w'=>r= .returned (.bool (twiB xs))∧Below w.heap.size w w':=by
 have HS:=Lib.hid hs
 have HM:=Lib.hid hm
 have HZ:=Lib.hid hsz
 have hmm:m≤9223372036854775807:=by rw[←hm];exact hs.1
 have hmk:= @run_makeMap Tryz.prog
 have HS0:Hid (SMap (cntF (xs.take 0)) 0 w.heap.size (w.alloc (.map #[] 0))):=Lib.hid (SMap.made w)
 have HB0:Hid (Below w.heap.size w (w.alloc (.map #[] 0))):=Lib.hid ((Below.refl _ _).alloc (Nat.le_refl _) _)
 have HHIT:Hid (∀j (h:j<xs.length),0<cntN xs[j] (xs.take j)→twiB xs=true):=Lib.hid fun j h h2=>twiB_hit h h2
 have HMISS:Hid ((∀j (h:j<xs.length),cntN xs[j] (xs.take j)=0)→twiB xs=false):=Lib.hid fun h=>twiB_miss h
 clear hs hm hsz
 generalize twiB xs=y at HHIT HMISS
 go_enter Tryz.func37,Tryz.ntmps37
 go_wp2_with fail
 go_loopw [9] (fun i wr=>∃j:Nat,j≤m∧i= .int .i64 j∧Hid (∀q (h:q<xs.length),q<j→cntN xs[q] (xs.take q)=0)∧Hid (SMap (cntF (xs.take j)) j w.heap.size wr)∧Hid (Below w.heap.size w wr)) (fun i _=>m - (intOf i).toNat)
 case atStart=>exact⟨0,Nat.zero_le _,rfl,fun q _ h=>absurd h (Nat.not_lt_zero _),HS0,HB0⟩
 case round=>
  obtain⟨j,hj,rfl,hno,hsm,hb⟩:=hrel
  obtain⟨wo,rfl⟩:∃wo:World,wo=wr:=⟨_,rfl⟩
  by_cases hlt:j<m
  ·have hlx:j<xs.length:=by rw[HM.out];exact hlt
   have hji:(j:Int)<(m:Int):=by omega
   obtain⟨b,off,cs,rfl,hbl,hc,rfl,hsl⟩:=(HS.out.below hb.out hb.out.size).2 j hlx
   have c0:=hc 0 _ rfl
   rw[show strSh.k=1 from rfl,Nat.mul_one,Nat.add_zero]at c0
   have hcl:cntN xs[j] (xs.take j)≤j:=by
    have key:∀(l:List ByteArray),cntN xs[j] l≤l.length:=fun l=>by
     induction l with
     | nil=>simp[cntN]
     | cons x r ih=>rw[cntN_cons,List.length_cons];split<;>omega
    have:=key (xs.take j)
    rw[List.length_take]at this
    omega
   have hl1:=hsm.out.look hsl
   rw[cntF_getD]at hl1
   obtain⟨w2,hput,hsm2,hg⟩:=hsm.out.put hsl (v:=(cntN xs[j] (xs.take j):Int)+1) (by have:=HZ.out;omega) (by have:=HZ.out;omega)
   have hl2:=hsm2.look hsl
   rw[if_pos rfl,Option.getD_some]at hl2
   have HN:Hid (SMap (cntF (xs.take (j+1))) (j+1) w.heap.size w2):=Lib.hid (by rw[←cntF_snoc hlx];exact hsm2)
   have HB:=Lib.hid (hb.out.trans (grown_map hg (Nat.le_refl _) hb.out.size))
   have HH:=Lib.hid (HHIT.out j hlx)
   have HNO:Hid (cntN xs[j] (xs.take j)=0→∀q (h:q<xs.length),q<j+1→cntN xs[q] (xs.take q)=0):=Lib.hid fun h q hq hlq=>by
    by_cases e:q=j
    ·subst e;exact h
    ·exact hno.out q hq (by omega)
   have HJ:=Lib.hid hcl
   have hwr:IntKind.i64.wrap ((cntN xs[j] (xs.take j):Int)+1)=(cntN xs[j] (xs.take j):Int)+1:=IntWalk.i64_in _ (by have:=HZ.out;omega)
   clear hc hsm hsm2 hg hb hno hcl
   generalize cntN xs[j] (xs.take j)=cn at*
   generalize xs[j]=xn at*
   by_cases h0:cn=0
   ·have HN2:=Lib.hid (HNO.out h0)
    subst h0
    rw[show((0:Nat):Int)+1=1 from rfl]at hput hl2 hwr
    rw[show((0:Nat):Int)=0 from rfl]at hl1
    clear HNO HH HJ
    go_wp2_with fail
    go_roundw
    case rel=>exact⟨j+1,by omega,by go_num,HN2,HN,HB⟩
    case measure=>simp[intOf];omega
   ·have HY:=Lib.hid (HH.out (by omega))
    obtain rfl:=HY.out
    have e1:decide ((cn:Int)+1 > 1)=true:=by simp;omega
    have e2:decide ((1:Int)<(cn:Int)+1)=true:=by simp;omega
    clear HNO HH HJ h0
    go_wp2_with fail
    go_ret
    exact⟨rfl,HB.out⟩
  ·obtain rfl:j=m:=by omega
   have hji:¬(j:Int)<(j:Int):=by omega
   have HY:Hid (y=false):=Lib.hid (HMISS.out fun q hq=>hno.out q hq (by rw[←HM.out];exact hq))
   have HB:=Lib.hid hb.out
   obtain rfl:=HY.out
   clear hsm hb hno
   go_wp2_with fail
   go_ret
   exact⟨rfl,HB.out⟩
end
end Go.Proofs.YtfcaclmcnlflfaaGreatDoor
