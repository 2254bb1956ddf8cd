/- Parts of a proof. -/
import Derived.Test.YtfinhpfjokpcfaaGreatDoorQ02
import Derived.Test.YtfinhpfjokpcfaaGreatDoorQ03
import Derived.Test.YtfinhpfjokpcfaaGreatDoorQ08
import Derived.Test.YtfinhpfjokpcfaaGreatDoorQ31
import Derived.Test.YtfinhpfjokpcfaaGreatDoorQ33
import Derived.Deep.Slices
import Derived.Deep.Fields
import Derived.Lib.SmallJoins
import Derived.Test.YtfinhpfjokpcfaaGreatDoorRows
import Derived.BigQuiet
set_option linter.unusedVariables false
set_option linter.unusedSimpArgs false
set_option maxHeartbeats 60000000
set_option maxRecDepth 100000
namespace Go.Proofs.YtfinhpfjokpcfaaGreatDoor
section
open Go.RowKit
def RFtEnd (x:List HC×Int)(w:World)(r:Ending)(w':World):Prop:=∃v,r= .returned (.tuple #[v,.int .i64 x.2])∧SRow w.heap.size x.1 v w'∧Below w.heap.size w w'
def RHdEnd (x:Bool×Int)(w:World)(r:Ending)(w':World):Prop:=r= .returned (.tuple #[.bool x.1,.int .i64 x.2])∧Below w.heap.size w w'
theorem rfoot_box (av:Option Addr)(nv c1:Nat)(ca:List Value)(k:Int)(sh:List HC)(tr nr:Bool)(w:World)(hlen:ca.length=15)(hr:Calls Tryz.prog 24 #[.slice none 0 0,.agg ca.toArray] (w.alloc (.cells ca.toArray 33)) (SoundEnd (k == 0) (w.alloc (.cells ca.toArray 33))))(ht:k=0→∀W,Below w.heap.size w W→Calls Tryz.prog 31 #[.agg ca.toArray,.slice av nv c1,.slice none 0 0] W (RTk (joinD sh) tr nr W)):
 Calls Tryz.prog 16 #[.agg ca.toArray,.slice av nv c1] w (RFtEnd (ftR k (sh,tr,nr)) w):=by
 have HA:Hid (Below w.heap.size w (w.alloc (.cells ca.toArray 33))):=box_low
 have HB0:Hid (Below (w.alloc (.cells ca.toArray 33)).heap.size (w.alloc (.cells ca.toArray 33)) (w.alloc (.cells ca.toArray 33))):=Below.refl _ _
 have P0:=Lib.hid (fun W (hb:Below (w.alloc (.cells ca.toArray 33)).heap.size (w.alloc (.cells ca.toArray 33)) W)=>box_part (cs:=ca) (l:=ca) (o:=0) (fun i v h=>by rw[Nat.zero_add];exact h) hb)
 have L0:=Lib.hid hlen
 have HR:=Lib.hid hr
 have HTK:=Lib.hid ht
 clear hr ht hlen
 go_enter Tryz.func16,Tryz.ntmps16
 go_wp2_with (first | go_skip | (refine wpList_load_w (by kernel_rfl) 33 _ rfl ⟨w.heap.size,0,none⟩ rfl ca _ (P0.out _ (HB0.out)) Tryz.underlying33 rfl (by rw[L0.out];kernel_rfl) ?_))
 refine HR.out.mono ?_
 rintro r w2 ⟨rfl,hb⟩
 have HB2:=Lib.hid (HB0.out.trans hb)
 have HW2:=Lib.hid (HA.out.trans (HB2.out.mono HA.out.size))
 clear hb HR
 by_cases hk:k=0
 ·have HT:=Lib.hid (HTK.out hk _ HW2.out)
  have hz:(k == 0)=true:=by rw[hk];rfl
  have HRR:Hid (ftR k (sh,tr,nr)=if nr=true then(joinD sh,0) else([],3)):=Lib.hid (if_pos hk)
  rw[hz]
  clear hz hk HTK
  go_wp2_with (first | go_skip | (refine wpList_load_w (by kernel_rfl) 33 _ rfl ⟨w.heap.size,0,none⟩ rfl ca _ (P0.out _ (HB2.out)) Tryz.underlying33 rfl (by rw[L0.out];kernel_rfl) ?_))
  refine HT.out.mono ?_
  rintro r w3 ⟨v,b,rfl,hs,hbt,hb⟩
  have HE:Hid (SRow w.heap.size (joinD sh) v w3∧Below w.heap.size w w3):=Lib.hid ⟨hs.mono HW2.out.size,HW2.out.trans (hb.mono HW2.out.size)⟩
  clear hs hbt hb HT
  cases nr with
  | false=>
    go_wp2_with fail
    go_ret2
    exact⟨_,by rw[HRR.out];rfl,by rw[HRR.out];exact SRow.nil _ _,HE.out.2⟩
  | true=>
    go_wp2_with fail
    go_ret2
    exact⟨_,by rw[HRR.out];rfl,by rw[HRR.out];exact HE.out.1,HE.out.2⟩
 ·have hz:(k == 0)=false:=beq_eq_false_iff_ne.2 hk
  have HRR:Hid (ftR k (sh,tr,nr)=([],5)):=Lib.hid (if_neg hk)
  rw[hz]
  clear hz hk HTK
  go_wp2_with fail
  go_ret2
  exact⟨_,by rw[HRR.out];rfl,by rw[HRR.out];exact SRow.nil _ _,HW2.out⟩
theorem rholds_box (av:Option Addr)(nv c1:Nat)(ah:Option Addr)(nh c2:Nat)(ca:List Value)(k:Int)(sh hs:List HC)(tr nr zS:Bool)(w:World)(hlen:ca.length=15)(hr:Calls Tryz.prog 24 #[.slice none 0 0,.agg ca.toArray] (w.alloc (.cells ca.toArray 33)) (SoundEnd (k == 0) (w.alloc (.cells ca.toArray 33))))(hz:Sound hs↔zS=true)(hck:∀W,Below w.heap.size w W→Calls Tryz.prog 32 #[.slice ah nh c2] W (BoolEnd (Sound hs) W))
 (ht:k=0→zS=true→∀W,Below w.heap.size w W→Calls Tryz.prog 31 #[.agg ca.toArray,.slice av nv c1,.slice ah nh c2] W (RTk (joinD sh) tr nr W)):
 Calls Tryz.prog 17 #[.agg ca.toArray,.slice av nv c1,.slice ah nh c2] w (RHdEnd (hdR k zS (sh,tr,nr)) w):=by
 have HA:Hid (Below w.heap.size w (w.alloc (.cells ca.toArray 33))):=box_low
 have HB0:Hid (Below (w.alloc (.cells ca.toArray 33)).heap.size (w.alloc (.cells ca.toArray 33)) (w.alloc (.cells ca.toArray 33))):=Below.refl _ _
 have P0:=Lib.hid (fun W (hb:Below (w.alloc (.cells ca.toArray 33)).heap.size (w.alloc (.cells ca.toArray 33)) W)=>box_part (cs:=ca) (l:=ca) (o:=0) (fun i v h=>by rw[Nat.zero_add];exact h) hb)
 have L0:=Lib.hid hlen
 have HR:=Lib.hid hr
 have HTK:=Lib.hid ht
 have HCK:=Lib.hid hck
 have HZS:=Lib.hid hz
 clear hr ht hlen hck hz
 go_enter Tryz.func17,Tryz.ntmps17
 go_wp2_with (first | go_skip | (refine wpList_load_w (by kernel_rfl) 33 _ rfl ⟨w.heap.size,0,none⟩ rfl ca _ (P0.out _ (HB0.out)) Tryz.underlying33 rfl (by rw[L0.out];kernel_rfl) ?_))
 refine HR.out.mono ?_
 rintro r w1 ⟨rfl,hb⟩
 have HB1:=Lib.hid (HB0.out.trans hb)
 have HW1:=Lib.hid (HA.out.trans (HB1.out.mono HA.out.size))
 have HC:=Lib.hid (HCK.out _ HW1.out)
 clear hb HR HCK
 generalize hkz:(k == 0)=kz
 have HKZ:=Lib.hid hkz
 clear hkz
 go_wp2_with fail
 refine HC.out.mono ?_
 rintro r w2 ⟨z2,rfl,hz2,hb⟩
 have HB2:=Lib.hid (HB1.out.trans (hb.mono HB1.out.size))
 have HW2:=Lib.hid (HA.out.trans (HB2.out.mono HA.out.size))
 have HZ2:Hid (z2=zS):=Lib.hid (by rw[Bool.eq_iff_iff,←HZS.out];exact hz2)
 clear hb hz2 HC HB1 HW1
 obtain rfl:=HZ2.out
 cases kz with
 | false=>
   have HRR:Hid (hdR k z2 (sh,tr,nr)=(false,5)):=Lib.hid (if_neg (fun h=>by have:=beq_eq_false_iff_ne.1 HKZ.out;exact this h.1))
   clear HKZ HTK HZ2 HZS
   go_wp2_with fail
   go_ret2
   exact⟨by rw[HRR.out];rfl,HW2.out⟩
 | true=>
 have hk:k=0:=by simpa using HKZ.out
 cases z2 with
 | false=>
   have HRR:Hid (hdR k false (sh,tr,nr)=(false,5)):=Lib.hid (if_neg (fun h=>by cases h.2))
   clear HKZ HTK HZ2 HZS hk
   go_wp2_with fail
   go_ret2
   exact⟨by rw[HRR.out];rfl,HW2.out⟩
 | true=>
 have HT:=Lib.hid (HTK.out hk rfl _ HW2.out)
 have HRR:Hid (hdR k true (sh,tr,nr)=if nr=true then(lowB (joinD sh) && tr,0) else(false,3)):=Lib.hid (if_pos ⟨hk,rfl⟩)
 clear HKZ HTK HZ2 HZS hk
 go_wp2_with (first | go_skip | (refine wpList_load_w (by kernel_rfl) 33 _ rfl ⟨w.heap.size,0,none⟩ rfl ca _ (P0.out _ (HB2.out)) Tryz.underlying33 rfl (by rw[L0.out];kernel_rfl) ?_))
 refine HT.out.mono ?_
 rintro r w5 ⟨v,b,rfl,hs5,hbt,hb⟩
 have HB5:=Lib.hid (HW2.out.trans (hb.mono HW2.out.size))
 have HBT:=Lib.hid hbt
 clear hbt HT hb
 cases nr with
 | false=>
   go_wp2_with fail
   go_ret2
   exact⟨by rw[HRR.out];rfl,HB5.out⟩
 | true=>
 obtain rfl:=HBT.out rfl
 have HRR3:Hid (hdR k true (sh,b,true)=(lowB (joinD sh) && b,0)):=Lib.hid (HRR.out.trans (by simp))
 clear HRR HBT
 generalize joinD sh=js at hs5 HRR3
 obtain⟨a5,cap5,rfl,hc5,hc5b,hl5⟩:=hs5.lies
 generalize hjl:js.length=m at hc5
 have HL5:=Lib.hid hl5
 have HJL:=Lib.hid hjl
 have hmm:m≤9223372036854775807:=by omega
 clear hs5 hl5 hjl
 have HHIT:=Lib.hid (fun j (h1:j<js.length) h2=>lowB_no (l:=js) (j:=j) h1 h2)
 have HMISS:=Lib.hid (fun h=>lowB_yes (l:=js) h)
 go_wp2_with fail
 go_loopw [11,13] (fun t i wr=>∃(j:Nat) (x:Bool),j≤m∧t= .bool x∧i= .int .i64 j∧Hid ((x=b∧∀q,q<j→(js.getD q hc0).v≤64)∨(x=false∧lowB js=false))∧Hid (Below w5.heap.size w5 wr)) (fun _ i _=>m - (intOf i).toNat)
 case atStart=>exact⟨0,b,Nat.zero_le _,rfl,rfl,.inl ⟨rfl,fun q h=>absurd h (Nat.not_lt_zero _)⟩,Below.refl _ _⟩
 case round=>
  obtain⟨j,x,hj,rfl,rfl,hno,hbr⟩:=hrel
  by_cases hlt:j<m
  ·obtain⟨b3,off3,rfl,hb3,e1,e2,e3⟩:=HL5.out j (by rw[HJL.out];exact hlt)
   have q3:=(hbr.out.cell (p:=⟨b3,_,none⟩) hb3).trans e3
   have hji:(j:Int)<(m:Int):=by omega
   have HH:=Lib.hid (HHIT.out j (by rw[HJL.out];exact hlt))
   clear e1 e2 e3
   generalize hxx:(js.getD j hc0).v=xv at q3 HH
   have HXV:=Lib.hid hxx
   clear hxx
   by_cases hx:xv≤64
   ·have hd:decide (xv > 64)=false:=decide_eq_false (by omega)
    have hd2:decide (64<xv)=false:=decide_eq_false (by omega)
    have HN:Hid ((x=b∧∀q,q<j+1→(js.getD q hc0).v≤64)∨(x=false∧lowB js=false)):=Lib.hid (hno.out.elim (fun h=> .inl ⟨h.1,fun q hq=>by
     by_cases e:q=j
     ·rw[e,HXV.out];exact hx
     ·exact h.2 q (by omega)⟩) .inr)
    clear hx HH hno HXV
    go_wp2_with fail
    go_roundw
    case rel=>exact⟨j+1,x,by omega,rfl,by go_num,HN,hbr⟩
    case measure=>simp[intOf];omega
   ·have hd:decide (xv > 64)=true:=decide_eq_true (by omega)
    have hd2:decide (64<xv)=true:=decide_eq_true (by omega)
    have HN:Hid ((false=b∧∀q,q<j+1→(js.getD q hc0).v≤64)∨(false=false∧lowB js=false)):=Lib.hid (.inr ⟨rfl,HH.out (by omega)⟩)
    clear hx HH hno HXV
    go_wp2_with fail
    go_roundw
    case rel=>exact⟨j+1,false,by omega,rfl,by go_num,HN,hbr⟩
    case measure=>simp[intOf];omega
  ·obtain rfl:j=m:=by omega
   have HLO:Hid (x=(lowB js && b)):=Lib.hid (hno.out.elim (fun h=>by rw[HMISS.out (fun q hq=>h.2 q (by rw[HJL.out]at hq;exact hq)),h.1,Bool.true_and]) (fun h=>by rw[h.1,h.2,Bool.false_and]))
   clear hno
   go_wp2_with fail
   go_ret2
   exact⟨by rw[HRR3.out,←HLO.out];rfl,HB5.out.trans (hbr.out.mono HB5.out.size)⟩
theorem rFoot_any (n:Nat)(a:AT)(ca:List Value)(xs:List (ByteArray×Int))(av:Option Addr)(cv:Nat)(w:World)(h:(assnSh (n+3)).rel (Pak.Lo w.heap.size) w ca a)(hx:Pak.Sits varSh (Pak.Lo w.heap.size) w av xs)
 (hsz:akA n a=0→(takA (fun s=>varOf s xs) [] (n+3) a).1.length≤100):
 Calls Tryz.prog 16 #[.agg ca.toArray,.slice av xs.length cv] w (RFtEnd (ftR (akA n a) (takA (fun s=>varOf s xs) [] (n+3) a)) w):=by
 have hlen:=((assnSh (n+3)).len h).trans (assnSh_k _)
 have hA:Below w.heap.size w (w.alloc (.cells ca.toArray 33)):=box_low
 have hr:=shown_any n a ca (.slice none 0 0) [] (w.alloc (.cells ca.toArray 33)) (rel_low h hA) (slot_nil _ _ _)
 exact rfoot_box av xs.length cv ca (akA n a) _ _ _ w hlen hr fun hk W hW=>
  rtake_any nmB xs av cv [] none 0 (Nat.zero_le _) (n+3) a ca W (chk_pre hk) (rel_low h hW) (hx.below hW hW.size) (fun i hi=>absurd hi (Nat.not_lt_zero _)) (hsz hk)
theorem rHolds_any (n:Nat)(a:AT)(ca:List Value)(xs:List (ByteArray×Int))(av:Option Addr)(cv:Nat)(hs:List HC)(ah:Option Addr)(ch:Nat)(zS:Bool)(w:World)(h:(assnSh (n+3)).rel (Pak.Lo w.heap.size) w ca a)(hx:Pak.Sits varSh (Pak.Lo w.heap.size) w av xs)(hh:HLies w.heap.size w ah hs)(hhl:hs.length≤1000000)(hz:Sound hs↔zS=true)
 (hsz:akA n a=0→(takA (fun s=>varOf s xs) hs (n+3) a).1.length≤100):
 Calls Tryz.prog 17 #[.agg ca.toArray,.slice av xs.length cv,.slice ah hs.length ch] w (RHdEnd (hdR (akA n a) zS (takA (fun s=>varOf s xs) hs (n+3) a)) w):=by
 have hlen:=((assnSh (n+3)).len h).trans (assnSh_k _)
 have hA:Below w.heap.size w (w.alloc (.cells ca.toArray 33)):=box_low
 have hr:=shown_any n a ca (.slice none 0 0) [] (w.alloc (.cells ca.toArray 33)) (rel_low h hA) (slot_nil _ _ _)
 exact rholds_box av xs.length cv ah hs.length ch ca (akA n a) _ hs _ _ zS w hlen hr hz (fun W hW=>rcheck_any hs ah hs.length ch W rfl (by omega) ((hh.below hW).mono hW.size)) fun hk _ W hW=>
  rtake_any nmB xs av cv hs ah ch (by omega) (n+3) a ca W (chk_pre hk) (rel_low h hW) (hx.below hW hW.size) ((hh.below hW).mono hW.size) (hsz hk)
end
section
open Go.RowKit
def UpSaid18:Prop:=∀w:World,Laid w→Calls Tryz.prog 6 #[] w fun e w'=>e= .returned (.bool true)∧Below w.heap.size w w'
theorem code_er (k:Int)(w:World)(h1:0≤k)(h2:k≤16):Calls Tryz.prog 12 #[erV k] w fun e w'=>e= .returned (.int .i64 k)∧Below w.heap.size w w':=by
 by_cases hk:k=0
 ·subst hk
  refine(code_nil w).mono ?_
  rintro e w' ⟨rfl,rfl⟩
  exact⟨rfl,Below.refl _ _⟩
 ·rw[show erV k= .iface 72 (.int .i64 k) from if_neg hk]
  refine(code_k k w (by omega) h2).mono ?_
  rintro e w' ⟨rfl,rfl⟩
  exact⟨rfl,Below.refl _ _⟩
theorem ftR_code (k:Int)(t:List HC×Bool×Bool):0≤(ftR k t).2∧(ftR k t).2≤16:=by
 unfold ftR
 split
 ·split<;>simp
 ·simp
theorem hdR_code (k:Int)(z:Bool)(t:List HC×Bool×Bool):0≤(hdR k z t).2∧(hdR k z t).2≤16:=by
 unfold hdR
 split
 ·split<;>simp
 ·simp
theorem ftR_len {k:Int}{t:List HC×Bool×Bool}{b:Nat}(h:k=0→t.1.length≤b):(ftR k t).1.length≤b:=by
 unfold ftR
 split
 ·rename_i hk
  split
  ·exact Nat.le_trans (joinD_len _) (h hk)
  ·simp
 ·simp
theorem akA_nd {n:Nat}{a:AT}{ρ:ByteArray→Int}{hs:List HC}(h:4*ndA (n+3) a≤300):akA n a=0→(takA ρ hs (n+3) a).1.length≤100:=fun hk=>by
 have:=takA_nd (ρ:=ρ) (hs:=hs) (chk_pre hk)
 omega
theorem holdsAssns_any (hup:UpSaid18)(n:Nat)(a:AT)(ca:List Value)(xs:List (ByteArray×Int))(av:Option Addr)(cv m:Nat)(hs:List HC)(ah:Option Addr)(ch mh:Nat)(w:World)(hm:xs.length=m)(hmh:hs.length=mh)(h:(assnSh (n+3)).rel (Pak.Lo w.heap.size) w ca a)(hx:Pak.Sits varSh (Pak.Lo w.heap.size) w av xs)(hh:HLies w.heap.size w ah hs)(hL:Laid w):
 Calls Tryz.prog 4 #[.agg ca.toArray,.slice av m cv,.slice ah mh ch] w fun e w'=>e= .returned (.bool true)∧Below w.heap.size w w':=by
 have hlen:=((assnSh (n+3)).len h).trans (assnSh_k _)
 have HA:Hid (Below w.heap.size w (w.alloc (.cells ca.toArray 33))):=box_low
 have HB0:Hid (Below (w.alloc (.cells ca.toArray 33)).heap.size (w.alloc (.cells ca.toArray 33)) (w.alloc (.cells ca.toArray 33))):=Below.refl _ _
 have P0:=Lib.hid (fun W (hb:Below (w.alloc (.cells ca.toArray 33)).heap.size (w.alloc (.cells ca.toArray 33)) W)=>box_part (cs:=ca) (l:=ca) (o:=0) (fun i v h=>by rw[Nat.zero_add];exact h) hb)
 have L0:=Lib.hid hlen
 have HUP:=Lib.hid (hup (w.alloc (.cells ca.toArray 33)) (hL.up HA.out))
 have HSM:=Lib.hid (fun W (hW:Below w.heap.size w W)=>smallA_any (n+3) a ca W (rel_low h hW))
 obtain⟨zS,hz⟩:∃z:Bool,Sound hs↔z=true:=by
  classical
  exact⟨decide (Sound hs),by simp⟩
 have HF:=Lib.hid (fun W (hW:Below w.heap.size w W) hsz=>hFoot_any n a ca xs av cv W (rel_low h hW) (hx.below hW hW.size) (hL.up hW) hsz)
 have HH:=Lib.hid (fun W (hW:Below w.heap.size w W) hle hsz=>hHolds_any n a ca xs av cv hs ah ch zS W (rel_low h hW) (hx.below hW hW.size) ((hh.below hW).mono hW.size) hle hz (hL.up hW) hsz)
 have RF:=Lib.hid (fun W (hW:Below w.heap.size w W) hsz=>rFoot_any n a ca xs av cv W (rel_low h hW) (hx.below hW hW.size) hsz)
 have RH:=Lib.hid (fun W (hW:Below w.heap.size w W) hle hsz=>rHolds_any n a ca xs av cv hs ah ch zS W (rel_low h hW) (hx.below hW hW.size) ((hh.below hW).mono hW.size) hle hz hsz)
 rw[hm,hmh]at HH RH
 rw[hm]at HF RF
 have hmm:m≤9223372036854775807:=by rw[←hm];exact hx.1
 have HMH:=Lib.hid hmh
 clear h hx hh hL hup hlen hz hm hmh
 go_enter Tryz.func4,Tryz.ntmps4
 go_wp2_with fail
 refine HUP.out.mono ?_
 rintro r w1 ⟨rfl,hb⟩
 have H1:=Lib.hid (HB0.out.trans hb)
 have W1:=Lib.hid (HA.out.trans (H1.out.mono HA.out.size))
 clear hb HUP
 go_wp2_with (first | go_skip | (refine wpList_load_w (by kernel_rfl) 33 _ rfl ⟨w.heap.size,0,none⟩ rfl ca _ (P0.out _ H1.out) Tryz.underlying33 rfl (by rw[L0.out];kernel_rfl) ?_))
 refine(HSM.out _ W1.out).mono ?_
 rintro r w2 ⟨b,rfl,hbn,hb⟩
 have H2:=Lib.hid (H1.out.trans (hb.mono H1.out.size))
 have W2:=Lib.hid (HA.out.trans (H2.out.mono HA.out.size))
 have HBN:=Lib.hid hbn
 clear hb hbn HSM
 cases b with
 | false=>
   go_wp2_with fail
   go_ret
   exact⟨rfl,W2.out⟩
 | true=>
 have HND:=Lib.hid (HBN.out rfl)
 clear HBN
 by_cases g1:(200:Int)<(m:Int)
 ·have d1:decide ((m:Int) > 200)=true:=decide_eq_true g1
  have d2:decide ((200:Int)<(m:Int))=true:=decide_eq_true g1
  have d3:200<m:=by omega
  clear g1
  go_wp2_with fail
  go_ret
  exact⟨rfl,W2.out⟩
 have d1:decide ((m:Int) > 200)=false:=decide_eq_false g1
 have d2:decide ((200:Int)<(m:Int))=false:=decide_eq_false g1
 have d3:¬ 200<m:=by omega
 clear g1
 by_cases g2:(200:Int)<(mh:Int)
 ·have d4:decide ((mh:Int) > 200)=true:=decide_eq_true g2
  have d5:decide ((200:Int)<(mh:Int))=true:=decide_eq_true g2
  have d6:200<mh:=by omega
  clear g2
  go_wp2_with fail
  go_ret
  exact⟨rfl,W2.out⟩
 have d4:decide ((mh:Int) > 200)=false:=decide_eq_false g2
 have d5:decide ((200:Int)<(mh:Int))=false:=decide_eq_false g2
 have d6:¬ 200<mh:=by omega
 have HHL:Hid (mh≤1000000):=Lib.hid (by omega)
 clear g2
 have SZ0:=Lib.hid (akA_nd (ρ:=fun s=>varOf s xs) (hs:=[]) HND.out)
 have SZ1:=Lib.hid (akA_nd (ρ:=fun s=>varOf s xs) (hs:=hs) HND.out)
 have FC:=Lib.hid (ftR_code (akA n a) (takA (fun s=>varOf s xs) [] (n+3) a))
 have HC:=Lib.hid (hdR_code (akA n a) zS (takA (fun s=>varOf s xs) hs (n+3) a))
 have FL:=Lib.hid (ftR_len SZ0.out)
 have F1:=Lib.hid (fun W hW=>HF.out W hW SZ0.out)
 have F2:=Lib.hid (fun W hW=>HH.out W hW HHL.out SZ1.out)
 have F3:=Lib.hid (fun W hW=>RF.out W hW SZ0.out)
 have F4:=Lib.hid (fun W hW=>RH.out W hW HHL.out SZ1.out)
 clear HF HH RF RH SZ0 SZ1 HHL HMH HND
 generalize ftR (akA n a) (takA (fun s=>varOf s xs) [] (n+3) a)=ft at*
 generalize hdR (akA n a) zS (takA (fun s=>varOf s xs) hs (n+3) a)=hd at*
 obtain⟨fl,fk⟩:=ft
 obtain⟨hl,hk⟩:=hd
 dsimp only at FC HC FL
 go_wp2_with (first | go_skip | (refine wpList_load_w (by kernel_rfl) 33 _ rfl ⟨w.heap.size,0,none⟩ rfl ca _ (P0.out _ H2.out) Tryz.underlying33 rfl (by rw[L0.out];kernel_rfl) ?_))
 refine(F1.out _ W2.out).mono ?_
 rintro r w3 ⟨v1,rfl,hs1,hb⟩
 obtain⟨a1,cap1,rfl,_,_,hl1⟩:=hs1.lies
 have H3:=Lib.hid (H2.out.trans (hb.mono H2.out.size))
 have W3:=Lib.hid (HA.out.trans (H3.out.mono HA.out.size))
 have HL1:=Lib.hid hl1
 clear hb hs1 hl1 F1
 go_wp2_with (first | go_skip | (refine wpList_load_w (by kernel_rfl) 33 _ rfl ⟨w.heap.size,0,none⟩ rfl ca _ (P0.out _ H3.out) Tryz.underlying33 rfl (by rw[L0.out];kernel_rfl) ?_))
 refine(F2.out _ W3.out).mono ?_
 rintro r w4 ⟨rfl,hb⟩
 have H4:=Lib.hid (H3.out.trans (hb.mono H3.out.size))
 have W4:=Lib.hid (HA.out.trans (H4.out.mono HA.out.size))
 have HL2:=Lib.hid (HL1.out.up hb)
 clear hb F2 HL1
 go_wp2_with (first | go_skip | (refine wpList_load_w (by kernel_rfl) 33 _ rfl ⟨w.heap.size,0,none⟩ rfl ca _ (P0.out _ H4.out) Tryz.underlying33 rfl (by rw[L0.out];kernel_rfl) ?_))
 refine(F3.out _ W4.out).mono ?_
 rintro r w5 ⟨v2,rfl,hs2,hb⟩
 obtain⟨a2,cap2,rfl,_,_,hl2⟩:=hs2.lies
 have H5:=Lib.hid (H4.out.trans (hb.mono H4.out.size))
 have W5:=Lib.hid (HA.out.trans (H5.out.mono HA.out.size))
 have HL3:=Lib.hid (HL2.out.up hb)
 have HM3:=Lib.hid hl2
 clear hb hs2 hl2 F3 HL2
 go_wp2_with (first | go_skip | (refine wpList_load_w (by kernel_rfl) 33 _ rfl ⟨w.heap.size,0,none⟩ rfl ca _ (P0.out _ H5.out) Tryz.underlying33 rfl (by rw[L0.out];kernel_rfl) ?_))
 refine(F4.out _ W5.out).mono ?_
 rintro r w6 ⟨rfl,hb⟩
 have H6:=Lib.hid (H5.out.trans (hb.mono H5.out.size))
 have W6:=Lib.hid (HA.out.trans (H6.out.mono HA.out.size))
 have HS:=Lib.hid (sames_any fl fl a1 _ cap1 a2 _ cap2 w6 rfl rfl (by have:=FL.out;omega) (by have:=FL.out;omega) (HL3.out.up hb) (HM3.out.up hb))
 clear hb F4 HL3 HM3
 go_wp2_with fail
 refine HS.out.mono ?_
 rintro r w7 ⟨bs,rfl,hbs,hb⟩
 obtain rfl:bs=true:=hbs.2 (by trivial)
 have W7:=Lib.hid (W6.out.trans (hb.mono W6.out.size))
 clear hb hbs HS
 go_wp2_with fail
 refine(code_er fk _ FC.out.1 FC.out.2).mono ?_
 rintro r w8 ⟨rfl,hb⟩
 have W8:=Lib.hid (W7.out.trans (hb.mono W7.out.size))
 clear hb
 go_wp2_with fail
 refine(code_er hk _ HC.out.1 HC.out.2).mono ?_
 rintro r w9 ⟨rfl,hb⟩
 have W9:=Lib.hid (W8.out.trans (hb.mono W8.out.size))
 clear hb
 go_wp2_with fail
 go_ret
 exact⟨by simp,W9.out⟩
end
section
open Go.RowKit
def exX:ET:= .mk 1 0 ⟨#[120]⟩ []
def exE:ET:= .mk 3 0 ⟨#[]⟩ [.mk 4 2 ⟨#[]⟩ [exX],.mk 0 1 ⟨#[]⟩ []]
def exA:AT:= .mk 3 zC exX (.mk 0 7 ⟨#[]⟩ []) ⟨#[102]⟩ 32 []
def exV:List (ByteArray×Int):=[(⟨#[120]⟩,3)]
def exH:List HC:=[⟨3,⟨#[102]⟩,7⟩]
theorem exE_ck:ekE 1 exE=0:=by kernel_rfl
theorem exE_val:valE (fun s=>varOf s exV) 3 exE=(5,true):=by kernel_rfl
theorem exA_ck:akA 0 exA=0:=by kernel_rfl
theorem exA_ft:takA (fun s=>varOf s exV) [] 3 exA=([⟨3,⟨#[102]⟩,32⟩],false,true):=by kernel_rfl
theorem exA_hd:takA (fun s=>varOf s exV) exH 3 exA=([⟨3,⟨#[102]⟩,32⟩],true,true):=by kernel_rfl
theorem exH_sound:Sound exH:=⟨fun i hi=>by simp[exH]at hi,fun i hi=>by
 have h0:i=0:=by simp[exH]at hi;omega
 subst h0
 show okC ⟨3,⟨#[102]⟩,7⟩
 unfold okC
 decide⟩
end
section
open Go.RowKit
structure Five (w W:World)(o1 o2 o3 o4:Obj):Prop where
 low:Below w.heap.size w W
 n:W.heap.size=w.heap.size+1+1+1+1+1
 h1:W.heap[w.heap.size+1]? =some o1
 h2:W.heap[w.heap.size+1+1]? =some o2
 h3:W.heap[w.heap.size+1+1+1]? =some o3
 h4:W.heap[w.heap.size+1+1+1+1]? =some o4
theorem five (w:World)(o0 o1 o2 o3 o4:Obj):Five w (((((w.alloc o0).alloc o1).alloc o2).alloc o3).alloc o4) o1 o2 o3 o4:=by
 have s1:(w.alloc o0).heap.size=w.heap.size+1:=by simp
 have s2:((w.alloc o0).alloc o1).heap.size=w.heap.size+1+1:=by simp
 have s3:(((w.alloc o0).alloc o1).alloc o2).heap.size=w.heap.size+1+1+1:=by simp
 have s4:((((w.alloc o0).alloc o1).alloc o2).alloc o3).heap.size=w.heap.size+1+1+1+1:=by simp
 refine⟨((((((Below.refl _ w).alloc (Nat.le_refl _) o0).alloc (by simp) o1).alloc (by simp;omega) o2).alloc (by simp;omega) o3).alloc (by simp;omega) o4),by simp, ?_, ?_, ?_, ?_⟩
 ·rw[heap_alloc_old _ o4 (by rw[s4];omega),heap_alloc_old _ o3 (by rw[s3];omega),heap_alloc_old _ o2 (by rw[s2];omega),←s1]
  exact heap_alloc_new _ _
 ·rw[heap_alloc_old _ o4 (by rw[s4];omega),heap_alloc_old _ o3 (by rw[s3];omega),←s2]
  exact heap_alloc_new _ _
 ·rw[heap_alloc_old _ o4 (by rw[s4];omega),←s3]
  exact heap_alloc_new _ _
 ·rw[←s4]
  exact heap_alloc_new _ _
theorem exX_rel (n:Nat)(S:Nat→Prop)(w:World):(exprSh (n+1)).rel S w [.int .i64 1,.int .i64 0,.string ⟨#[120]⟩,.slice none 0 0] exX:=⟨_,rfl,⟨⟨by decide,by decide⟩,⟨by decide,by decide⟩,by decide⟩,slot_nil _ _ _⟩
theorem num_rel (n:Nat)(k:Int)(hk:i64 k)(S:Nat→Prop)(w:World):(exprSh (n+1)).rel S w [.int .i64 0,.int .i64 k,.string ⟨#[]⟩,.slice none 0 0] (.mk 0 k ⟨#[]⟩ []):=⟨_,rfl,⟨i64_0,hk,Nat.zero_le _⟩,slot_nil _ _ _⟩
def exAc:List Value:=[.int .i64 3,.int .i64 0,.slice none 0 0,.slice none 0 0,.int .i64 1,.int .i64 0,.string ⟨#[120]⟩,.slice none 0 0,.int .i64 0,.int .i64 7,.string ⟨#[]⟩,.slice none 0 0,.string ⟨#[102]⟩,.int .i64 32,.slice none 0 0]
theorem exA_rel (S:Nat→Prop)(w:World):(assnSh 3).rel S w exAc exA:=⟨zCc,[.int .i64 1,.int .i64 0,.string ⟨#[120]⟩,.slice none 0 0],[.int .i64 0,.int .i64 7,.string ⟨#[]⟩,.slice none 0 0],_,rfl,⟨⟨by decide,by decide⟩,⟨by decide,by decide⟩,by decide⟩,zC_rel 1 S w,exX_rel 1 S w,num_rel 1 7 ⟨by decide,by decide⟩ S w,slot_nil _ _ _⟩
theorem exV_sits {W:World}{g:Nat}(h:W.heap[g]? =some (.cells #[.string ⟨#[120]⟩,.int .i64 3] 64 (0,0))):Pak.Sits varSh (Pak.Lo W.heap.size) W (some ⟨g,0,none⟩) exV:=
 sits_block (cs:=[.string ⟨#[120]⟩,.int .i64 3]) h (Array.getElem?_eq_some_iff.1 h).1 ⟨rfl,by decide,⟨by decide,by decide⟩⟩
theorem exE_rel {W:World}{g3 g4:Nat}(h3:W.heap[g3]? =some (.cells #[.int .i64 1,.int .i64 0,.string ⟨#[120]⟩,.slice none 0 0] 24 (0,0)))(h4:W.heap[g4]? =some (.cells #[.int .i64 4,.int .i64 2,.string ⟨#[]⟩,.slice (some ⟨g3,0,none⟩) 1 1,.int .i64 0,.int .i64 1,.string ⟨#[]⟩,.slice none 0 0] 24 (0,0))):
 (exprSh 3).rel (Pak.Lo W.heap.size) W [.int .i64 3,.int .i64 0,.string ⟨#[]⟩,.slice (some ⟨g4,0,none⟩) 2 2] exE:=
 ⟨_,rfl,⟨⟨by decide,by decide⟩,⟨by decide,by decide⟩,by decide⟩,some ⟨g4,0,none⟩,2,rfl,
   sits_two (cs:=[.int .i64 4,.int .i64 2,.string ⟨#[]⟩,.slice (some ⟨g3,0,none⟩) 1 1]) (ds:=[.int .i64 0,.int .i64 1,.string ⟨#[]⟩,.slice none 0 0]) h4 (Array.getElem?_eq_some_iff.1 h4).1 rfl
    ⟨_,rfl,⟨⟨by decide,by decide⟩,⟨by decide,by decide⟩,by decide⟩,some ⟨g3,0,none⟩,1,rfl,sits_block (cs:=[.int .i64 1,.int .i64 0,.string ⟨#[120]⟩,.slice none 0 0]) h3 (Array.getElem?_eq_some_iff.1 h3).1 (exX_rel 0 _ _)⟩
    (num_rel 1 1 ⟨by decide,by decide⟩ _ _)⟩
theorem up_said18:UpSaid18:=fun w hL=>by
 have HLL:=Lib.hid hL
 have n2:=fun W=>Tryz.eqNil W
 have F:=Lib.hid (five w (.cells #[.int .i64 1,.int .i64 0,.string ⟨#[120]⟩,.slice none 0 0] 24) (.cells #[.string ⟨#[120]⟩,.int .i64 3] 64) (.cells exAc.toArray 33) (.cells #[.int .i64 1,.int .i64 0,.string ⟨#[120]⟩,.slice none 0 0] 24) (.cells #[.int .i64 4,.int .i64 2,.string ⟨#[]⟩,.slice (some ⟨w.heap.size+1+1+1,0,none⟩) 1 1,.int .i64 0,.int .i64 1,.string ⟨#[]⟩,.slice none 0 0] 24))
 have he:=hExpr_any 1 exE _ exV _ 1 _ (exE_rel F.out.h3 F.out.h4) (exV_sits F.out.h1) (hL.up F.out.low)
 rw[exE_ck,exE_val]at he
 have HEE:=Lib.hid he
 clear hL he
 go_enter Tryz.func6,Tryz.ntmps6
 go_wp2_with fail
 refine HEE.out.mono ?_
 rintro r w6 ⟨rfl,hb⟩
 have HW6:=Lib.hid (F.out.low.trans (hb.mono F.out.low.size))
 have hm:∀k o,(((((w.alloc (.cells #[.int .i64 1,.int .i64 0,.string ⟨#[120]⟩,.slice none 0 0] 24)).alloc (.cells #[.string ⟨#[120]⟩,.int .i64 3] 64)).alloc (.cells exAc.toArray 33)).alloc (.cells #[.int .i64 1,.int .i64 0,.string ⟨#[120]⟩,.slice none 0 0] 24)).alloc (.cells #[.int .i64 4,.int .i64 2,.string ⟨#[]⟩,.slice (some ⟨w.heap.size+1+1+1,0,none⟩) 1 1,.int .i64 0,.int .i64 1,.string ⟨#[]⟩,.slice none 0 0] 24)).heap[k]? =some o→w6.heap[k]? =some o:=fun k o h=>(hb.block k (Array.getElem?_eq_some_iff.1 h).1).trans h
 have HV6:=Lib.hid (hm _ _ F.out.h1)
 have HA6:=Lib.hid (hm _ _ F.out.h2)
 have hv:exR 0 (5,true)=(5,0):=rfl
 rw[hv]
 dsimp only
 rw[show erV 0= .nilIface from rfl]
 clear HEE hb hm hv F
 have HP:Hid (∀W,Below w6.heap.size w6 W→∀i v,exAc[i]? =some v→W.cell? ((⟨w.heap.size+1+1,0,none⟩:Addr).add i)=some v):=Lib.hid fun W hW i v hv=>by
  rw[show(⟨w.heap.size+1+1,0,none⟩:Addr).add i=⟨w.heap.size+1+1,0+i,none⟩ by unfold Addr.add;split<;>simp_all,Nat.zero_add]
  have hl:=(Array.getElem?_eq_some_iff.1 HA6.out).1
  exact(hW.cell (p:=⟨w.heap.size+1+1,i,none⟩) hl).trans ((cell_of_row _ _ _ _ _ _ HA6.out).trans (by rw[List.getElem?_toArray];exact hv))
 have HB7:Hid (Below w6.heap.size w6 (w6.alloc (.cells #[.int .i64 3,.string ⟨#[102]⟩,.int .i64 7] 67))):=box_low
 have hv7:(w6.alloc (.cells #[.int .i64 3,.string ⟨#[102]⟩,.int .i64 7] 67)).heap[w.heap.size+1]? =some (.cells #[.string ⟨#[120]⟩,.int .i64 3] 64 (0,0)):=(HB7.out.block _ (Array.getElem?_eq_some_iff.1 HV6.out).1).trans HV6.out
 have hh:=hHolds_any 0 exA exAc exV _ 1 exH (some ⟨w6.heap.size,0,none⟩) 1 true _ (exA_rel _ _) (exV_sits hv7) ((hlies_new w6 exH 67).mono (by simp)) (by decide) ⟨fun _=>rfl,fun _=>exH_sound⟩ (HLL.out.up (HW6.out.trans (HB7.out.mono HW6.out.size))) (fun _=>by rw[exA_hd];decide)
 rw[exA_ck,exA_hd]at hh
 have HHH:=Lib.hid hh
 clear hh hv7
 go_wp2_with (first | go_skip | (refine wpList_load_w (by kernel_rfl) 33 _ rfl ⟨w.heap.size+1+1,0,none⟩ rfl exAc _ (HP.out _ (Below.refl _ _)) Tryz.underlying33 rfl (by kernel_rfl) ?_))
 refine HHH.out.mono ?_
 rintro r w8 ⟨rfl,hb⟩
 have HB8:=Lib.hid (HB7.out.trans (hb.mono HB7.out.size))
 have hv8:=(HB8.out.block _ (Array.getElem?_eq_some_iff.1 HV6.out).1).trans HV6.out
 rw[show hdR 0 true ([⟨3,⟨#[102]⟩,32⟩],true,true)=(true,0) by kernel_rfl]
 dsimp only
 rw[show erV 0= .nilIface from rfl]
 have hf:=hFoot_any 0 exA exAc exV _ 1 w8 (exA_rel _ _) (exV_sits hv8) (HLL.out.up (HW6.out.trans (HB8.out.mono HW6.out.size))) (fun _=>by rw[exA_ft];decide)
 rw[exA_ck,exA_ft,show ftR 0 ([⟨3,⟨#[102]⟩,32⟩],false,true)=([⟨3,⟨#[102]⟩,32⟩],0) by kernel_rfl]at hf
 have HFF:=Lib.hid hf
 clear hb hv8 hf HHH HB7
 go_wp2_with (first | go_skip | (refine wpList_load_w (by kernel_rfl) 33 _ rfl ⟨w.heap.size+1+1,0,none⟩ rfl exAc _ (HP.out _ HB8.out) Tryz.underlying33 rfl (by kernel_rfl) ?_))
 refine HFF.out.mono ?_
 rintro r w9 ⟨v9,rfl,hs9,hb⟩
 obtain⟨a9,cap9,rfl,_,_,hl9⟩:=hs9.lies
 obtain⟨b9,off9,rfl,_,e1,e2,e3⟩:=hl9 0 (by decide)
 have HE:=Lib.hid (HW6.out.trans ((HB8.out.trans (hb.mono HB8.out.size)).mono HW6.out.size))
 have q3:w9.cell? ⟨b9,off9+2,none⟩=some (.int .i64 32):=by
  have:=e3
  rwa [show off9+0*3+2=off9+2 by omega]at this
 dsimp only
 rw[show erV 0= .nilIface from rfl]
 clear hb hs9 hl9 e1 e2 e3 HFF
 go_wp2_with fail
 go_ret
 exact⟨rfl,HE.out⟩
end
section
open Go.ChangeShapes Go.WideShapes Go.RowKit Go.Deep
theorem list_ofC {α:Type}(n:Nat)(p:Nat→α→Prop)(h:∀i,i<n→∃m,p i m):∃l:List α,l.length=n∧∀i (hi:i<l.length),p i l[i]:=by
 induction n with
 | zero=>exact⟨[],rfl,fun i hi=>absurd hi (Nat.not_lt_zero i)⟩
 | succ n ih=>
   obtain⟨l,hl,hp⟩:=ih (fun i hi=>h i (by omega))
   obtain⟨m,hm⟩:=h n (by omega)
   refine⟨l ++ [m],by simp[hl],fun i hi=> ?_⟩
   by_cases e:i<l.length
   ·rw[List.getElem_append_left e];exact hp i e
   ·have e2:i=l.length:=by simp at hi;omega
    subst e2
    simp only[List.getElem_concat_length]
    rw[hl];exact hm
section
variable {H:Type} {enc:TypeId×Value→H} {w:World} {base:Nat} {spare:Nat→Bool} {held:Bool}
variable (enc w base spare held) in
def OpnAt (n:Nat){T:Type}(sh:Pak.Sh T)(e:TypeId):Prop:=∀ {cs:List Value} {x:DataW H×List MemPlace},DataW.trod enc Tryz.prog w base spare held n e cs=some x→∃y:T,sh.rel (Pak.Lo w.heap.size) w cs y
theorem open_row_at {T:Type}{sh:Pak.Sh T}{t e:TypeId}{fuel:Nat}(ht:Tryz.prog.underlying t=some (.slice e))(hk:Tryz.prog.cellsOf e=sh.k)(hpos:0<sh.k)(ho:∀n,n+1=fuel→OpnAt enc w base spare held n sh e){c:Value}{x:DataW H×List MemPlace}(h:DataW.trod enc Tryz.prog w base spare held fuel t [c]=some x):
 ∃xs,Pak.Slot sh (Pak.Lo w.heap.size) w c xs:=by
 have hf:∃n,fuel=n+1:=by
  cases fuel with
  | zero=>simp[DataW.trod]at h
  | succ n=>exact⟨n,rfl⟩
 obtain⟨n0,rfl⟩:=hf
 rcases DataW.trod_slice ht h with ⟨h0,_⟩ | ⟨a,len,cap,elems,rest,n,hn,hx,hcs,hb,hl,hm,hlen,hel,hrest⟩
 ·injection h0 with h0
  exact⟨[],none,0,h0,Pak.Sits.nil _ _ _ _⟩
 ·injection hx with hx
  obtain rfl:n0=n:=by omega
  have hp:∀i,i<len→∃y:T,∃cs',(∀j u,cs'[j]? =some u→w.cell? (a.add (i*sh.k+j))=some u)∧sh.rel (Pak.Lo w.heap.size) w cs' y:=fun i hil=>by
   have he:=hel i hil
   rw[List.getElem?_eq_getElem (by omega)]at he
   obtain⟨cs',hc,ht'⟩:=Option.bind_eq_some_iff.1 he
   obtain⟨y,hy⟩:=ho _ rfl ht'
   rw[hk]at hc
   obtain⟨_,hcl,hat⟩:=World.cells?_some hc
   refine⟨y,cs',fun j u hu=> ?_,hy⟩
   obtain⟨hj,rfl⟩:=List.getElem?_eq_some_iff.1 hu
   have:=hat j (by omega)
   rw[←Go.Deep.add_add]
   simpa [List.getElem?_eq_getElem hj]using this
  obtain⟨l,hll,hlp⟩:=list_ofC len _ hp
  obtain⟨b,off,sp⟩:=a
  have h63:maxLen=9223372036854775807:=rfl
  refine⟨l,some ⟨b,off,sp⟩,cap,by rw[hll];exact hx,⟨by omega,fun i hil=> ?_⟩⟩
  obtain⟨cs',h1,h2⟩:=hlp i hil
  have hlen:=sh.len h2
  have hc0:=h1 0 _ (List.getElem?_eq_getElem (by omega))
  have hsp:sp=none:=by
   obtain⟨cs0,h10,h20⟩:=hlp 0 (by omega)
   have hc00:=h10 0 _ (List.getElem?_eq_getElem (by have:=sh.len h20;omega))
   have:=World.cell?_spot hc00
   simpa [Addr.add]using this
  subst hsp
  rw[Go.WideShapes.add_plain]at hc0
  refine⟨b,off,cs',rfl,by simpa using block_lt_of_cell hc0,fun j u hu=> ?_,h2⟩
  have:=h1 j u hu
  rw[Go.WideShapes.add_plain]at this
  rwa [Nat.add_assoc]
end
end
section
open Go.ChangeShapes Go.WideShapes Go.RowKit Go.Deep
theorem i64_wf {x:Int}(h:(Lit.int .i64 x).wf=true):i64 x:=by
 have h2:=h
 unfold Lit.wf at h2
 rw[Bool.and_eq_true,decide_eq_true_eq,decide_eq_true_eq]at h2
 exact h2
section
variable {H:Type} {enc:TypeId×Value→H} {w:World} {base:Nat} {spare:Nat→Bool} {held:Bool}
theorem opnE:∀f,OpnAt enc w base spare held f (exprSh f) 24:=fun f=>by
 induction f using Nat.strongRecOn with
 | ind f IH=>
   intro cs x h
   obtain⟨ys,n,rfl,_,hl,hyl,hf⟩:=DataW.trod_struct Tryz.underlying24 h
   have hk:Tryz.prog.cellsOf 24=4:=by kernel_rfl
   rw[hk]at hl
   match cs,hl with
   | [c0,c1,c2,c3],_=>
     have hy:ys.length=4:=hyl
     have a0:DataW.trod enc Tryz.prog w base spare held n 3 [c0]=ys[0]? :=hf 0 _ rfl
     have a1:DataW.trod enc Tryz.prog w base spare held n 3 [c1]=ys[1]? :=hf 1 _ rfl
     have a2:DataW.trod enc Tryz.prog w base spare held n 9 [c2]=ys[2]? :=hf 2 _ rfl
     have a3:DataW.trod enc Tryz.prog w base spare held n 22 [c3]=ys[3]? :=hf 3 _ rfl
     rw[List.getElem?_eq_getElem (by omega)]at a0 a1 a2 a3
     obtain⟨z0,e0,_,w0⟩:=DataW.trod_int Tryz.underlying3 a0
     obtain⟨z1,e1,_,w1⟩:=DataW.trod_int Tryz.underlying3 a1
     obtain⟨s2,e2,_,w2⟩:=DataW.trod_string Tryz.underlying9 a2
     injection e0 with e0
     injection e1 with e1
     injection e2 with e2
     subst e0 e1 e2
     obtain⟨ks,hks⟩:=open_row_at (sh:=exprSh n) Tryz.underlying22 (by rw[exprSh_k];kernel_rfl) (by rw[exprSh_k];decide) (fun m hm=>by
      intro cs' x' h'
      obtain⟨y,hy'⟩:=IH m (by omega) h'
      rw[←hm]
      exact⟨y,exprSh_up m hy'⟩) a3
     exact⟨.mk z0 z1 s2 ks,_,rfl,⟨i64_wf w0,i64_wf w1,w2⟩,hks⟩
theorem slotE {n:Nat}{c:Value}{x:DataW H×List MemPlace}(h:DataW.trod enc Tryz.prog w base spare held n 22 [c]=some x):∃ks,Pak.Slot (exprSh n) (Pak.Lo w.heap.size) w c ks:=
 open_row_at (sh:=exprSh n) Tryz.underlying22 (by rw[exprSh_k];kernel_rfl) (by rw[exprSh_k];decide) (fun m hm=>by
  intro cs' x' h'
  obtain⟨y,hy'⟩:=opnE m h'
  rw[←hm]
  exact⟨y,exprSh_up m hy'⟩) h
theorem opnC:∀f,OpnAt enc w base spare held f (condSh f) 27:=fun f=>by
 induction f using Nat.strongRecOn with
 | ind f IH=>
   intro cs x h
   obtain⟨ys,n,rfl,_,hl,hyl,hf⟩:=DataW.trod_struct Tryz.underlying27 h
   have hk:Tryz.prog.cellsOf 27=3:=by kernel_rfl
   rw[hk]at hl
   match cs,hl with
   | [c0,c1,c2],_=>
     have hy:ys.length=3:=hyl
     have a0:DataW.trod enc Tryz.prog w base spare held n 3 [c0]=ys[0]? :=hf 0 _ rfl
     have a1:DataW.trod enc Tryz.prog w base spare held n 22 [c1]=ys[1]? :=hf 1 _ rfl
     have a2:DataW.trod enc Tryz.prog w base spare held n 25 [c2]=ys[2]? :=hf 2 _ rfl
     rw[List.getElem?_eq_getElem (by omega)]at a0 a1 a2
     obtain⟨z0,e0,_,w0⟩:=DataW.trod_int Tryz.underlying3 a0
     injection e0 with e0
     subst e0
     obtain⟨es,hes⟩:=slotE a1
     obtain⟨ks,hks⟩:=open_row_at (sh:=condSh n) Tryz.underlying25 (by rw[condSh_k];kernel_rfl) (by rw[condSh_k];decide) (fun m hm=>by
      intro cs' x' h'
      obtain⟨y,hy'⟩:=IH m (by omega) h'
      rw[←hm]
      exact⟨y,condSh_up m hy'⟩) a2
     exact⟨.mk z0 es ks,_,_,rfl,i64_wf w0,hes,hks⟩
theorem opnA:∀f,OpnAt enc w base spare held f (assnSh f) 33:=fun f=>by
 induction f using Nat.strongRecOn with
 | ind f IH=>
   intro cs x h
   obtain⟨ys,n,rfl,_,hl,hyl,hf⟩:=DataW.trod_struct Tryz.underlying33 h
   have hk:Tryz.prog.cellsOf 33=15:=by kernel_rfl
   rw[hk]at hl
   match cs,hl with
   | [c0,c1,c2,c3,c4,c5,c6,c7,c8,c9,c10,c11,c12,c13,c14],_=>
     have hy:ys.length=7:=hyl
     have a0:DataW.trod enc Tryz.prog w base spare held n 3 [c0]=ys[0]? :=hf 0 _ rfl
     have a1:DataW.trod enc Tryz.prog w base spare held n 27 [c1,c2,c3]=ys[1]? :=hf 1 _ rfl
     have a2:DataW.trod enc Tryz.prog w base spare held n 24 [c4,c5,c6,c7]=ys[2]? :=hf 2 _ rfl
     have a3:DataW.trod enc Tryz.prog w base spare held n 24 [c8,c9,c10,c11]=ys[3]? :=hf 3 _ rfl
     have a4:DataW.trod enc Tryz.prog w base spare held n 9 [c12]=ys[4]? :=hf 4 _ rfl
     have a5:DataW.trod enc Tryz.prog w base spare held n 3 [c13]=ys[5]? :=hf 5 _ rfl
     have a6:DataW.trod enc Tryz.prog w base spare held n 31 [c14]=ys[6]? :=hf 6 _ rfl
     rw[List.getElem?_eq_getElem (by omega)]at a0 a1 a2 a3 a4 a5 a6
     obtain⟨z0,e0,_,w0⟩:=DataW.trod_int Tryz.underlying3 a0
     obtain⟨z5,e5,_,w5⟩:=DataW.trod_int Tryz.underlying3 a5
     obtain⟨s4,e4,_,w4⟩:=DataW.trod_string Tryz.underlying9 a4
     injection e0 with e0
     injection e4 with e4
     injection e5 with e5
     subst e0 e4 e5
     obtain⟨yc,hc⟩:=opnC n a1
     obtain⟨ye,he⟩:=opnE n a2
     obtain⟨yv,hv⟩:=opnE n a3
     obtain⟨ks,hks⟩:=open_row_at (sh:=assnSh n) Tryz.underlying31 (by rw[assnSh_k];kernel_rfl) (by rw[assnSh_k];decide) (fun m hm=>by
      intro cs' x' h'
      obtain⟨y,hy'⟩:=IH m (by omega) h'
      rw[←hm]
      exact⟨y,assnSh_up m hy'⟩) a6
     exact⟨.mk z0 yc ye yv s4 z5 ks,_,_,_,_,rfl,⟨i64_wf w0,i64_wf w5,w4⟩,hc,he,hv,hks⟩
theorem opnVar (f:Nat):OpnAt enc w base spare held f varSh 64:=by
 intro cs x h
 obtain⟨ys,n,rfl,_,hl,hyl,hf⟩:=DataW.trod_struct Tryz.underlying64 h
 have hk:Tryz.prog.cellsOf 64=2:=by kernel_rfl
 rw[hk]at hl
 match cs,hl with
 | [c0,c1],_=>
   have hy:ys.length=2:=hyl
   have a0:DataW.trod enc Tryz.prog w base spare held n 9 [c0]=ys[0]? :=hf 0 _ rfl
   have a1:DataW.trod enc Tryz.prog w base spare held n 3 [c1]=ys[1]? :=hf 1 _ rfl
   rw[List.getElem?_eq_getElem (by omega)]at a0 a1
   obtain⟨s0,e0,_,w0⟩:=DataW.trod_string Tryz.underlying9 a0
   obtain⟨z1,e1,_,w1⟩:=DataW.trod_int Tryz.underlying3 a1
   injection e0 with e0
   injection e1 with e1
   subst e0 e1
   exact⟨(s0,z1),rfl,w0,i64_wf w1⟩
theorem slotVar {n:Nat}{c:Value}{x:DataW H×List MemPlace}(h:DataW.trod enc Tryz.prog w base spare held n 28 [c]=some x):∃xs,Pak.Slot varSh (Pak.Lo w.heap.size) w c xs:=
 open_row_at (sh:=varSh) Tryz.underlying28 (by kernel_rfl) (by decide) (fun m _=>opnVar m) h
end
end
section
open Go.ChangeShapes Go.WideShapes Go.RowKit Go.Deep
def cellSh:Pak.Sh HC where
 k:=3
 rel:=fun _ _ cs x=>cs=[.int .i64 x.a,.string x.f,.int .i64 x.v]
 len:=fun h=>by rw[h];rfl
 one:=fun h u hu=>by rw[h]at hu;simp at hu;rcases hu with rfl | rfl | rfl<;>rfl
 keep:=fun _ _ h=>h
theorem hlies_of {B:Nat}{w:World}{a:Option Addr}{xs:List HC}(h:Pak.Sits cellSh (Pak.Lo B) w a xs):HLies B w a xs:=fun i hi=>by
 obtain⟨b,off,cs,e,hb,hc,hr⟩:=h.2 i hi
 obtain rfl:cs=_:=hr
 have e0:xs.getD i hc0=xs[i]:=by rw[List.getD_eq_getElem?_getD,List.getElem?_eq_getElem hi];rfl
 rw[e0]
 exact⟨b,off,e,hb,hc 0 _ rfl,hc 1 _ rfl,hc 2 _ rfl⟩
section
variable {H:Type} {enc:TypeId×Value→H} {w:World} {base:Nat} {spare:Nat→Bool} {held:Bool}
theorem opnCell (f:Nat):OpnAt enc w base spare held f cellSh 67:=by
 intro cs x h
 obtain⟨ys,n,rfl,_,hl,hyl,hf⟩:=DataW.trod_struct Tryz.underlying67 h
 have hk:Tryz.prog.cellsOf 67=3:=by kernel_rfl
 rw[hk]at hl
 match cs,hl with
 | [c0,c1,c2],_=>
   have hy:ys.length=3:=hyl
   have a0:DataW.trod enc Tryz.prog w base spare held n 3 [c0]=ys[0]? :=hf 0 _ rfl
   have a1:DataW.trod enc Tryz.prog w base spare held n 9 [c1]=ys[1]? :=hf 1 _ rfl
   have a2:DataW.trod enc Tryz.prog w base spare held n 3 [c2]=ys[2]? :=hf 2 _ rfl
   rw[List.getElem?_eq_getElem (by omega)]at a0 a1 a2
   obtain⟨z0,e0,_,w0⟩:=DataW.trod_int Tryz.underlying3 a0
   obtain⟨s1,e1,_,w1⟩:=DataW.trod_string Tryz.underlying9 a1
   obtain⟨z2,e2,_,w2⟩:=DataW.trod_int Tryz.underlying3 a2
   injection e0 with e0
   injection e1 with e1
   injection e2 with e2
   subst e0 e1 e2
   exact⟨⟨z0,s1,z2⟩,rfl⟩
theorem open_assn {r:Reach}{b0:Nat}{v:Value}{d:DataW H}{p:List MemPlace}(hv:Value.okWide Tryz.prog w r b0 33 v)(h:DataW.Trod enc Tryz.prog w base spare held 33 v d p):
 ∃n ca y,v= .agg ca.toArray∧(assnSh (n+3)).rel (Pak.Lo w.heap.size) w ca y:=by
 obtain⟨cs,rfl,hsz⟩:=okWide_struct Tryz.underlying33 hv
 obtain⟨fuel,hf⟩:=h
 obtain⟨y,hy⟩:=opnA fuel hf
 exact⟨fuel,cs.toList,y,by simp,assnSh_up _ (assnSh_up _ (assnSh_up _ hy))⟩
theorem open_vars {r:Reach}{b0:Nat}{v:Value}{d:DataW H}{p:List MemPlace}(hv:Value.okWide Tryz.prog w r b0 28 v)(h:DataW.Trod enc Tryz.prog w base spare held 28 v d p):
 ∃a m cap xs,v= .slice a m cap∧xs.length=m∧Pak.Sits varSh (Pak.Lo w.heap.size) w a xs:=by
 obtain⟨a,len,cap,rfl⟩:=okWide_slice Tryz.underlying28 hv
 obtain⟨fuel,hf⟩:=h
 obtain⟨xs,a2,cap2,e,hs⟩:=slotVar (c:= .slice a len cap) hf
 injection e with e1 e2 e3
 subst e1 e2 e3
 exact⟨a,_,cap,xs,rfl,rfl,hs⟩
theorem open_cells {r:Reach}{b0:Nat}{v:Value}{d:DataW H}{p:List MemPlace}(hv:Value.okWide Tryz.prog w r b0 50 v)(h:DataW.Trod enc Tryz.prog w base spare held 50 v d p):
 ∃a m cap xs,v= .slice a m cap∧xs.length=m∧HLies w.heap.size w a xs:=by
 obtain⟨a,len,cap,rfl⟩:=okWide_slice Tryz.underlying50 hv
 obtain⟨fuel,hf⟩:=h
 obtain⟨xs,a2,cap2,e,hs⟩:=open_row_at (sh:=cellSh) (c:= .slice a len cap) Tryz.underlying50 (by kernel_rfl) (by decide) (fun m _=>opnCell m) hf
 injection e with e1 e2 e3
 subst e1 e2 e3
 exact⟨a,_,cap,xs,rfl,rfl,hlies_of hs⟩
end
end
section
open Go.ChangeShapes Go.WideShapes Go.ChangeAt Go.RowKit
theorem holdsAssns_lifted (hup:UpSaid18)(os:Os)(started:os.Started)(H:Type)(enc:TypeId×Value→H):
 ReturnsInHanded {} Tryz.checked os 4 .any (fun w args=>(Rows.holdsAssnsSpec.pre enc Tryz.prog Tryz.f4 [] false w args∧laidMetH Tryz.prog laidL w)∧sizedMet enc Tryz.prog Tryz.f4 (OpenSpec.ofChange Rows.holdsAssnsSpec) false w args)
  (Rows.holdsAssnsSpec.post enc Tryz.prog Tryz.f4 false true false false):=by
 refine returnsInHanded_of_change_and (C:=Tryz.checked) (X:=fun w _=>laidMetH Tryz.prog laidL w) (fun _ _ _ hh h=>h.of_heap hh) Tryz.own started (by kernel_rfl) Tryz.func4
  (ChangeSpec.witness_at (enc:=enc) (C:=Tryz.checked) (os:=os) (X:=fun w _=>laidMetH Tryz.prog laidL w) false (laidWorld os) #[.agg #[.int .i64 0,.int .i64 0,.slice none 0 0,.slice none 0 0,.int .i64 0,.int .i64 0,.string ⟨#[]⟩,.slice none 0 0,.int .i64 0,.int .i64 0,.string ⟨#[]⟩,.slice none 0 0,.string ⟨#[]⟩,.int .i64 0,.slice none 0 0],.slice none 0 0,.slice none 0 0] 8 rfl (by kernel_rfl) (by kernel_rfl) (by kernel_rfl) (by kernel_rfl) (by kernel_rfl) (laidWorld_met os _)) ?_
 intro W base args ds gs before hval0 hW _ _ hL _
 have hval:∀(j:Nat) t v,Tryz.f4.params[j]? =some t→args[j]? =some v→Value.okWide Tryz.prog W .any base t v:=hval0
 have hW':=hW
 obtain⟨p,q,hA0,hV,rfl,hfz,hnd⟩:=hW
 have hA:DataW.TrodAll enc Tryz.prog W 0 (fun _=>true) true Tryz.f4.params.toList args.toList ds p:=hA0
 rw[Tryz.params4]at hA hval
 obtain⟨v0,vs0,d0,ds0,p0,q0,hargs,rfl,rfl,h0,r0⟩:=trodAll_cons hA
 obtain⟨v1,vs1,d1,ds1,p1,q1,rfl,rfl,rfl,h1,r1⟩:=trodAll_cons r0
 obtain⟨v2,vs2,d2,ds2,p2,q2,rfl,rfl,rfl,h2,r2⟩:=trodAll_cons r1
 obtain⟨rfl,rfl,rfl⟩:=trodAll_nil r2
 obtain rfl:args= #[v0,v1,v2]:=by cases args;simp_all
 obtain⟨rfl,rfl⟩:=trodVars_none hV
 have k0:=h0
 have lt0:∀x∈p0,x.block<W.heap.size:=by obtain⟨m,hm⟩:=k0;exact DataW.trod_lt m _ _ _ hm
 have k1:=h1
 have lt1:∀x∈p1,x.block<W.heap.size:=by obtain⟨m,hm⟩:=k1;exact DataW.trod_lt m _ _ _ hm
 have k2:=h2
 have lt2:∀x∈p2,x.block<W.heap.size:=by obtain⟨m,hm⟩:=k2;exact DataW.trod_lt m _ _ _ hm
 obtain⟨na,ca,ya,rfl,ra⟩:=open_assn (hval 0 33 v0 rfl rfl) h0
 obtain⟨av,mv,cv,xs,rfl,lv,sv⟩:=open_vars (hval 1 28 v1 rfl rfl) h1
 obtain⟨ah,mh,ch,hs,rfl,lh,sh⟩:=open_cells (hval 2 50 v2 rfl rfl) h2
 have hg:=handle_of_laid hL
 clear hA0 hval0
 refine(holdsAssns_any hup na ya ca xs av cv mv hs ah ch mh W lv lh ra sv sh hg).mono fun e W' ⟨he,bel⟩=> ?_
 subst he
 exact⟨_,rfl,_,_,_,[],_,[],hW',trodAll_mk1 (shut_bool Tryz.underlying4 _),(trodAll_cons_mk (Below.trod Tryz.laidOut (by kernel_rfl) (of_decide_eq_true (by kernel_rfl)) k0 bel lt0) (trodAll_cons_mk (Below.trod Tryz.laidOut (by kernel_rfl) (of_decide_eq_true (by kernel_rfl)) k1 bel lt1) (trodAll_cons_mk (Below.trod Tryz.laidOut (by kernel_rfl) (of_decide_eq_true (by kernel_rfl)) k2 bel lt2) trodAll_mk0))),rfl,bel.frame _,fun h=>by cases h⟩
theorem holdsAssns_over (hup:UpSaid18):Rows.HoldsAssnsSaid:=
 OpenClaim.holds_of_wide 4 Tryz.f4 rfl rfl rfl rfl rfl rfl rfl ⟨rfl,rfl,rfl,rfl,rfl⟩ rfl rfl rfl rfl rfl (by kernel_rfl) Tryz.func4 (by kernel_rfl)
  (of_decide_eq_true (by kernel_rfl)) (by unfold Func.isWrapper;first | (rw[if_pos (by decide+kernel)];kernel_rfl) | (rw[if_neg (by decide+kernel)];exact⟨rfl,rfl⟩))
  (fun os started H enc _=>holdsAssns_lifted hup os started H enc)
end
end Go.Proofs.YtfinhpfjokpcfaaGreatDoor
