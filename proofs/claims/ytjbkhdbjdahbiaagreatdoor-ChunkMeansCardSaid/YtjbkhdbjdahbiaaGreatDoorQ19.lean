/- Parts of a proof. -/
import Derived.Test.YtjbkhdbjdahbiaaGreatDoorQ02
import Derived.Test.YtjbkhdbjdahbiaaGreatDoorQ13
import Derived.Test.YtjbkhdbjdahbiaaGreatDoorQ15
import Derived.Test.YtjbkhdbjdahbiaaGreatDoorQ16
set_option linter.unusedVariables false
set_option linter.unusedSimpArgs false
set_option maxHeartbeats 60000000
set_option maxRecDepth 100000
namespace Go.Proofs.YtjbkhdbjdahbiaaGreatDoor
section
open Go.RowKit
theorem cexpr_0 (n:Nat)(σ:ByteArray→Option LT)(en:Int)(nm:ByteArray)(a:Option Addr)(cap:Nat)(lv:Value)(w:World):
 Calls Tryz.prog 40 #[.agg #[.int .i64 0,.int .i64 en,.string nm,.slice a 0 cap],lv] w (LnEnd (some (en,[])) w):=by
 have HW:Hid (Below w.heap.size w ((w.alloc (.cells #[.int .i64 0,.int .i64 en,.string nm,.slice a 0 cap] 49)).alloc (.cells #[.int .i64 0,.slice none 0 0] 25))):=below_two
 have HQ:=Lib.hid (fun W (hb:Below ((w.alloc (.cells #[.int .i64 0,.int .i64 en,.string nm,.slice a 0 cap] 49)).alloc (.cells #[.int .i64 0,.slice none 0 0] 25)).heap.size ((w.alloc (.cells #[.int .i64 0,.int .i64 en,.string nm,.slice a 0 cap] 49)).alloc (.cells #[.int .i64 0,.slice none 0 0] 25)) W)=>kind_at hb)
 go_enter Tryz.func40,Tryz.ntmps40
 go_wp2_with fail
 go_loopw [6,18] (fun t i wr=>t= .slice none 0 0∧i= .int .i64 0∧Hid (Below ((w.alloc (.cells #[.int .i64 0,.int .i64 en,.string nm,.slice a 0 cap] 49)).alloc (.cells #[.int .i64 0,.slice none 0 0] 25)).heap.size ((w.alloc (.cells #[.int .i64 0,.int .i64 en,.string nm,.slice a 0 cap] 49)).alloc (.cells #[.int .i64 0,.slice none 0 0] 25)) wr)) (fun _ _ _=>0)
 case atStart=>exact⟨rfl,rfl,Below.refl _ _⟩
 case round=>
  obtain⟨rfl,rfl,hb⟩:=hrel
  obtain⟨wo,rfl⟩:∃wo:World,wo=wr:=⟨_,rfl⟩
  obtain⟨q0,q1⟩:=HQ.out _ hb.out
  obtain⟨r0,r1,rf0,rf1,rlt⟩:=box22_at hb.out
  have HB:=Lib.hid (HW.out.trans (hb.out.mono HW.out.size))
  obtain⟨e0,e1,HBF⟩:=store2 (x:= .int .i64 en) (y:= .slice none 0 0) HB.out (show w.heap.size≤w.heap.size+1 by omega) r0 r1
  have E01:=Lib.hid (And.intro e0 e1)
  have HBG:=Lib.hid HBF
  clear e0 e1 HBF hb HB
  go_wp2_with fail
  obtain⟨e0,e1⟩:=E01.out
  refine bodyPost_ret (v:= .tuple #[.agg #[.int .i64 en,.slice none 0 0],.bool true]) ?_ rfl (.inl ⟨(en,[]),_,rfl,rfl,World.ownsRow_nil _ _ _ _,HBG.out⟩)
  simp[results,Tryz.results40,go_sem,e0,e1]
theorem name_at {w W:World}{x y z u:Value}{b:Array Value}{t s:TypeId}(hb:Below ((w.alloc (.cells #[x,y,z,u] t)).alloc (.cells b s)).heap.size ((w.alloc (.cells #[x,y,z,u] t)).alloc (.cells b s)) W):W.cell? ⟨w.heap.size,2,none⟩=some z:=by
 have h1:Below (w.alloc (.cells #[x,y,z,u] t)).heap.size (w.alloc (.cells #[x,y,z,u] t)) ((w.alloc (.cells #[x,y,z,u] t)).alloc (.cells b s)):=box_low
 exact box_at (cs:=[x,y,z,u]) (o:=2) rfl (h1.trans (hb.mono h1.size))
theorem cexpr_1 (n:Nat)(en:Int)(nm:ByteArray)(a:Option Addr)(cap:Nat)(la:Option Addr)(ln lcap:Nat)(xs:List (ByteArray×LT))(w:World)(hm:xs.length=ln)(hs:Pak.Sits symSh (Pak.Lo w.heap.size) w la xs)(hsd:∀x∈xs,Sd x.2):
 Calls Tryz.prog 40 #[.agg #[.int .i64 1,.int .i64 en,.string nm,.slice a 0 cap],.slice la ln lcap] w (LnEnd (some ((symOf nm xs).getD (en,[]))) w):=by
 have HW:Hid (Below w.heap.size w ((w.alloc (.cells #[.int .i64 1,.int .i64 en,.string nm,.slice a 0 cap] 49)).alloc (.cells #[.int .i64 0,.slice none 0 0] 25))):=below_two
 have HQ:=Lib.hid (fun W (hb:Below ((w.alloc (.cells #[.int .i64 1,.int .i64 en,.string nm,.slice a 0 cap] 49)).alloc (.cells #[.int .i64 0,.slice none 0 0] 25)).heap.size ((w.alloc (.cells #[.int .i64 1,.int .i64 en,.string nm,.slice a 0 cap] 49)).alloc (.cells #[.int .i64 0,.slice none 0 0] 25)) W)=>And.intro (kind_at hb) (name_at hb))
 have HS:=Lib.hid hs
 have HM:=Lib.hid hm
 have hmm:ln≤9223372036854775807:=by rw[←hm];exact hs.1
 have HSD:=Lib.hid hsd
 clear hs hm hsd
 go_enter Tryz.func40,Tryz.ntmps40
 go_wp2_with fail
 go_loopw [6,18] (fun t i wr=>t= .slice none 0 0∧i= .int .i64 0∧Hid (Below ((w.alloc (.cells #[.int .i64 1,.int .i64 en,.string nm,.slice a 0 cap] 49)).alloc (.cells #[.int .i64 0,.slice none 0 0] 25)).heap.size ((w.alloc (.cells #[.int .i64 1,.int .i64 en,.string nm,.slice a 0 cap] 49)).alloc (.cells #[.int .i64 0,.slice none 0 0] 25)) wr)) (fun _ _ _=>0)
 case atStart=>exact⟨rfl,rfl,Below.refl _ _⟩
 case round=>
  obtain⟨rfl,rfl,hb⟩:=hrel
  obtain⟨w0,rfl⟩:∃w0:World,w0=wr:=⟨_,rfl⟩
  have HB0:=Lib.hid hb.out
  obtain⟨⟨q0,q1⟩,q2⟩:=HQ.out _ hb.out
  clear hb
  go_wp2_with fail
  go_loopw [42] (fun i wr=>∃j:Nat,i= .int .i64 j∧j≤ln∧Hid (∀q,(hq:q<xs.length)→q<j→xs[q].1≠nm)∧Hid (Below ((w.alloc (.cells #[.int .i64 1,.int .i64 en,.string nm,.slice a 0 cap] 49)).alloc (.cells #[.int .i64 0,.slice none 0 0] 25)).heap.size ((w.alloc (.cells #[.int .i64 1,.int .i64 en,.string nm,.slice a 0 cap] 49)).alloc (.cells #[.int .i64 0,.slice none 0 0] 25)) wr)) (fun i _=>ln - (intOf i).toNat)
  case atStart=>exact⟨0,rfl,Nat.zero_le _,fun q _ h=>absurd h (Nat.not_lt_zero _),HB0.out⟩
  case round=>
   obtain⟨j,rfl,hj,hno,hb⟩:=hrel
   obtain⟨wo,rfl⟩:∃wo:World,wo=wr:=⟨_,rfl⟩
   have HB:=Lib.hid (HW.out.trans (hb.out.mono HW.out.size))
   obtain⟨⟨t0,t1⟩,t2⟩:=HQ.out _ hb.out
   obtain⟨r0,r1,rf0,rf1,rlt⟩:=box22_at hb.out
   by_cases hlt:j<ln
   ·have hji:(j:Int)<(ln:Int):=by omega
    have hjx:j<xs.length:=by rw[HM.out];exact hlt
    obtain⟨b,off,cs,rfl,hbl,hc,c,v,rfl,hnl,hr⟩:=(HS.out.below HB.out HB.out.size).2 j hjx
    have HSJ:=Lib.hid (HSD.out _ (List.getElem_mem hjx))
    have HHIT:=Lib.hid (fun e=>symOf_hit (s:=nm) hjx hno.out e)
    have HNX:Hid (xs[j].1≠nm→∀q,(hq:q<xs.length)→q<j+1→xs[q].1≠nm):=fun h q hq hlq=>by
     by_cases e:q=j
     ·subst e;exact h
     ·exact hno.out q hq (by omega)
    obtain⟨ta,tcap,rfl,rfl,hlen,hla,hnil⟩:=hr.form
    have c0:wo.cell? ⟨b,off+j*3,none⟩=some (.string xs[j].1):=hc 0 _ rfl
    have c1:wo.cell? ⟨b,off+j*3+1,none⟩=some (.int .i64 xs[j].2.1):=hc 1 _ rfl
    have c2:wo.cell? ⟨b,off+j*3+2,none⟩=some (.slice ta xs[j].2.2.length tcap):=hc 2 _ rfl
    have hbx:Below wo.heap.size wo (wo.alloc (.cells #[.string xs[j].1,.int .i64 xs[j].2.1,.slice ta xs[j].2.2.length tcap] 86)):=box_low
    have HOWN:=Lib.hid (own_any xs[j].2.1 ta _ tcap xs[j].2.2 (wo.alloc (.cells #[.string xs[j].1,.int .i64 xs[j].2.1,.slice ta xs[j].2.2.length tcap] 86)) rfl (by have:=HSJ.out.len;omega) ((hla.below hbx).mono hbx.size) hnil)
    have HBX:=Lib.hid (hb.out.trans (hbx.mono hb.out.size))
    have HLT:=Lib.hid (show w.heap.size≤wo.heap.size from HB.out.size)
    have hblw:b<wo.heap.size:=hbl
    have htl:w.heap.size<wo.heap.size:=by omega
    clear hc hr hla hnil hno hb hbx hlen HSJ
    generalize xs[j]=y at*
    obtain⟨yn,yc,yl⟩:=y
    dsimp only at c0 c1 c2 HOWN HHIT HNX HBX
    by_cases e:yn=nm
    ·subst e
     have HR:=Lib.hid (HHIT.out rfl)
     clear HHIT HNX
     go_wp2_with fail
     refine HOWN.out.mono ?_
     rintro e w4 ⟨v4,rfl,hrow4,hb4⟩
     have H4:=Lib.hid (HBX.out.trans (hb4.mono HBX.out.size))
     obtain⟨s0,s1,sf0,sf1,slt⟩:=box22_at H4.out
     have HB4:=Lib.hid (HW.out.trans (H4.out.mono HW.out.size))
     obtain⟨a3,cap3,rfl,_,_⟩:=hrow4.lies
     obtain⟨e0,e1,HBF⟩:=store2 (x:= .int .i64 yc) (y:= .slice a3 yl.length cap3) HB4.out (show w.heap.size≤w.heap.size+1 by omega) s0 s1
     have HRF:=Lib.hid (row_store2 (x:= .int .i64 yc) (y:= .slice a3 yl.length cap3) hrow4 (show w.heap.size+1<(wo.alloc _).heap.size by simp;omega))
     have E01:=Lib.hid (And.intro e0 e1)
     have HBG:=Lib.hid HBF
     clear e0 e1 HBF hrow4 hb4 HOWN HBX H4 c0 c1 c2 t0 t1 t2 r0 r1 rf0 rf1
     go_wp2_with fail
     obtain⟨e0,e1⟩:=E01.out
     refine bodyPost_ret (v:= .tuple #[.agg #[.int .i64 yc,.slice a3 yl.length cap3],.bool true]) ?_ rfl (.inl ⟨(yc,yl),_,by rw[HR.out];rfl,rfl,HRF.out.mono (by simp;omega),HBG.out⟩)
     simp[results,Tryz.results40,go_sem,e0,e1]
    ·have HN2:=Lib.hid (HNX.out e)
     have e5:(yn.toList == nm.toList)=false:=bs_ne e
     clear HHIT HNX HOWN e r0 r1 rf0 rf1
     go_wp2_with fail
     go_roundw
     case rel=>exact⟨j+1,by go_num,by omega,HN2,HBX⟩
     case measure=>simp[intOf];omega
   ·obtain rfl:j=ln:=by omega
    have hlti:¬(j:Int)<(j:Int):=by omega
    have HR:Hid (symOf nm xs=none):=Lib.hid (symOf_none fun q hq=>hno.out q hq (by rw[←HM.out];exact hq))
    obtain⟨e0,e1,HBF⟩:=store2 (x:= .int .i64 en) (y:= .slice none 0 0) HB.out (show w.heap.size≤w.heap.size+1 by omega) r0 r1
    have E01:=Lib.hid (And.intro e0 e1)
    have HBG:=Lib.hid HBF
    clear e0 e1 HBF hb HB hno
    go_wp2_with fail
    obtain⟨e0,e1⟩:=E01.out
    refine bodyPost_ret (v:= .tuple #[.agg #[.int .i64 en,.slice none 0 0],.bool true]) ?_ rfl (.inl ⟨(en,[]),_,by rw[HR.out];rfl,rfl,World.ownsRow_nil _ _ _ _,HBG.out⟩)
    simp[results,Tryz.results40,go_sem,e0,e1]
theorem linE_kind0 {σ:ByteArray→Option LT}{n:Nat}{en:Int}{nm:ByteArray}{ks:List ET}:linE σ (n+1) (.mk 0 en nm ks)=some (en,[]):=by
 unfold linE
 show(if(0:Int)=1 then _ else if(0:Int)=2 then _ else if(0:Int)=3 then _ else if(0:Int)=4 then _ else _)=_
 rw[if_neg (by decide),if_neg (by decide),if_neg (by decide),if_neg (by decide)]
 rfl
theorem linE_kind1 {σ:ByteArray→Option LT}{n:Nat}{en:Int}{nm:ByteArray}{ks:List ET}:linE σ (n+1) (.mk 1 en nm ks)=some ((σ nm).getD (en,[])):=by
 unfold linE
 show(if(1:Int)=1 then _ else if(1:Int)=2 then _ else if(1:Int)=3 then _ else if(1:Int)=4 then _ else _)=_
 rw[if_pos (by decide)]
 rfl
theorem symOf_sd {s:ByteArray}{xs:List (ByteArray×LT)}{a:LT}(hsd:∀x∈xs,Sd x.2)(h:symOf s xs=some a):Sd a:=by
 unfold symOf at h
 obtain⟨x,hx,rfl⟩:=Option.map_eq_some_iff.1 h
 exact hsd x (List.mem_of_find?_eq_some hx)
theorem cexpr_any {nm:ByteArray→Bool}(la:Option Addr)(lcap:Nat)(xs:List (ByteArray×LT))(hsd:∀x∈xs,Sd x.2):∀(n:Nat) (e:ET) (cs:List Value) (w:World),snE nm n e=true→(exprSh n).rel (Pak.Lo w.heap.size) w cs e→Pak.Sits symSh (Pak.Lo w.heap.size) w la xs→
 Calls Tryz.prog 40 #[.agg cs.toArray,.slice la xs.length lcap] w (LnEnd (linE (fun s=>symOf s xs) n e) w)
 | 0,_,_,_,h,_,_=>by simp[snE]at h
 | n+1,.mk k en s ks,cs,w,h,hr,hx=>by
   obtain⟨v,rfl,_,a,cap,rfl,hs⟩:=hr
   have hσ:∀s a,(fun s=>symOf s xs) s=some a→Sd a:=fun s a h=>symOf_sd hsd h
   have h0:=h
   unfold snE at h
   have hall:∀x∈ks,snE nm n x=true:=by
    split at h
    ·simp only[Bool.and_eq_true,beq_iff_eq]at h
     have:ks=[]:=List.eq_nil_of_length_eq_zero h.2
     intro x hx
     rw[this]at hx
     cases hx
    ·split at h
     ·simp only[Bool.and_eq_true]at h
      exact fun x hx=>List.all_eq_true.1 h.2 x hx
     ·cases h
   have hf:∀cs x W,x∈ks→Below w.heap.size w W→(exprSh n).rel (Pak.Lo W.heap.size) W cs x→Calls Tryz.prog 40 #[.agg cs.toArray,.slice la xs.length lcap] W (LnEnd (linE (fun s=>symOf s xs) n x) W):=fun cs x W hx2 hW hrx=>cexpr_any la lcap xs hsd n x cs W (hall x hx2) hrx (hx.below hW hW.size)
   have hsy:∀x y,x∈ks→linE (fun s=>symOf s xs) n x=some y→Sd y:=fun x y hx2 hy=>linE_sd hσ (hall x hx2) hy
   by_cases h1:k=1
   ·rw[if_pos (show(ET.mk k en s ks).kind=1 from h1)]at h
    simp only[Bool.and_eq_true,beq_iff_eq]at h
    subst h1
    have hks:ks=[]:=List.eq_nil_of_length_eq_zero h.2
    subst hks
    rw[linE_kind1]
    exact cexpr_1 n en s a cap la _ lcap xs w rfl hx hsd
   ·rw[if_neg (show ¬(ET.mk k en s ks).kind=1 from h1)]at h
    split at h
    ·rename_i hk
     have hk:0≤k∧k≤4:=hk
     simp only[Bool.and_eq_true,Bool.or_eq_true,beq_iff_eq]at h
     have hen: -1073741824≤en∧en≤1073741824:=by
      rcases h.1.1.1 with h2 | ⟨_,h2⟩
      ·have h2:en=0:=h2
       omega
      ·unfold inB at h2
       simp only[Bool.and_eq_true,decide_eq_true_eq]at h2
       have h2:_≤en∧en≤_:=h2
       omega
     have hkl:ks.length=kidsE k:=h.1.2
     have hkk:k=0∨k=2∨k=3∨k=4:=by omega
     rcases hkk with rfl | rfl | rfl | rfl
     ·have hks:ks=[]:=List.eq_nil_of_length_eq_zero hkl
      subst hks
      rw[linE_kind0]
      exact cexpr_0 n (fun s=>symOf s xs) en s a cap _ w
     ·have hkl:ks.length=2:=hkl
      have:=cexpr_2 n (fun s=>symOf s xs) ks en s a cap (.slice la xs.length lcap) w hkl hs hen hsy hf
      show Calls _ _ #[.agg #[_,_,_,.slice a ks.length cap],_] _ _
      rw[hkl];exact this
     ·have hkl:ks.length=2:=hkl
      have:=cexpr_3 n (fun s=>symOf s xs) ks en s a cap (.slice la xs.length lcap) w hkl hs hen hsy hf
      show Calls _ _ #[.agg #[_,_,_,.slice a ks.length cap],_] _ _
      rw[hkl];exact this
     ·have hkl:ks.length=1:=hkl
      have:=cexpr_4 n (fun s=>symOf s xs) ks en s a cap (.slice la xs.length lcap) w hkl hs hen hsy hf
      show Calls _ _ #[.agg #[_,_,_,.slice a ks.length cap],_] _ _
      rw[hkl];exact this
    ·cases h
end
section
open Go.RowKit
def zSt:List Value:=[.int .i64 0,.string ⟨#[]⟩,.string ⟨#[]⟩,.string ⟨#[]⟩,.int .i64 0,.int .i64 0,.string ⟨#[]⟩,.slice none 0 0,.int .i64 0,.int .i64 0,.string ⟨#[]⟩,.slice none 0 0,.int .i64 0,.slice none 0 0,.slice none 0 0,.int .i64 0,.int .i64 0,.slice none 0 0,.slice none 0 0,.int .i64 0,.int .i64 0,.string ⟨#[]⟩,.slice none 0 0,.int .i64 0,.int .i64 0,.string ⟨#[]⟩,.slice none 0 0,.string ⟨#[]⟩,.int .i64 0,.slice none 0 0,.slice none 0 0,.slice none 0 0,.slice none 0 0,.slice none 0 0,.slice none 0 0]
theorem crefused_box (cs:List Value)(k:Int)(w:World)(hlen:cs.length=35)(hone:∀u∈cs,u.oneCell'=true)
 (hck:∀W g,Below w.heap.size w W→W.heap[g]? =some (.cells #[.string ⟨#[112]⟩,.slice none 0 0,.slice none 0 0,.int .i64 0,.int .i64 0,.slice none 0 0,.slice none 0 0,.int .i64 0,.int .i64 0,.string ⟨#[]⟩,.slice none 0 0,.int .i64 0,.int .i64 0,.string ⟨#[]⟩,.slice none 0 0,.string ⟨#[]⟩,.int .i64 0,.slice none 0 0,.int .i64 0,.int .i64 0,.slice none 0 0,.slice none 0 0,.int .i64 0,.int .i64 0,.string ⟨#[]⟩,.slice none 0 0,.int .i64 0,.int .i64 0,.string ⟨#[]⟩,.slice none 0 0,.string ⟨#[]⟩,.int .i64 0,.slice none 0 0,.slice (some ⟨w.heap.size+1,0,none⟩) 1 1] 112 (0,0))→W.heap[w.heap.size+1]? =some (.cells cs.toArray 104 (0,0))→Calls Tryz.prog 65 #[.agg #[.slice (some ⟨g,0,none⟩) 1 1]] W (ErrIn k W)):
 Calls Tryz.prog 38 #[.agg cs.toArray] w (SoundEnd (!(k == 0)) w):=by
 have HA1:Hid (Below w.heap.size w (w.alloc (.cells cs.toArray 104))):=box_low
 have HX:Hid (∀i v,cs[i]? =some v→(w.alloc (.cells cs.toArray 104)).cell? ((⟨w.heap.size,0,none⟩:Addr).add i)=some v):=box_part (o:=0) (fun i v h=>by rw[Nat.zero_add];exact h) (Below.refl _ _)
 have HA2:Hid (Below w.heap.size w ((w.alloc (.cells cs.toArray 104)).alloc (.cells cs.toArray 104))):=Lib.hid (HA1.out.alloc HA1.out.size _)
 have HA3:Hid (Below w.heap.size w (((w.alloc (.cells cs.toArray 104)).alloc (.cells cs.toArray 104)).alloc (.cells #[.string ⟨#[112]⟩,.slice none 0 0,.slice none 0 0,.int .i64 0,.int .i64 0,.slice none 0 0,.slice none 0 0,.int .i64 0,.int .i64 0,.string ⟨#[]⟩,.slice none 0 0,.int .i64 0,.int .i64 0,.string ⟨#[]⟩,.slice none 0 0,.string ⟨#[]⟩,.int .i64 0,.slice none 0 0,.int .i64 0,.int .i64 0,.slice none 0 0,.slice none 0 0,.int .i64 0,.int .i64 0,.string ⟨#[]⟩,.slice none 0 0,.int .i64 0,.int .i64 0,.string ⟨#[]⟩,.slice none 0 0,.string ⟨#[]⟩,.int .i64 0,.slice none 0 0,.slice (some ⟨w.heap.size+1,0,none⟩) 1 1] 112))):=Lib.hid (HA2.out.alloc HA2.out.size _)
 have HC:=Lib.hid (hck (((w.alloc (.cells cs.toArray 104)).alloc (.cells cs.toArray 104)).alloc (.cells #[.string ⟨#[112]⟩,.slice none 0 0,.slice none 0 0,.int .i64 0,.int .i64 0,.slice none 0 0,.slice none 0 0,.int .i64 0,.int .i64 0,.string ⟨#[]⟩,.slice none 0 0,.int .i64 0,.int .i64 0,.string ⟨#[]⟩,.slice none 0 0,.string ⟨#[]⟩,.int .i64 0,.slice none 0 0,.int .i64 0,.int .i64 0,.slice none 0 0,.slice none 0 0,.int .i64 0,.int .i64 0,.string ⟨#[]⟩,.slice none 0 0,.int .i64 0,.int .i64 0,.string ⟨#[]⟩,.slice none 0 0,.string ⟨#[]⟩,.int .i64 0,.slice none 0 0,.slice (some ⟨w.heap.size+1,0,none⟩) 1 1] 112)) (w.heap.size+2) HA3.out
  (by have:=heap_alloc_new ((w.alloc (.cells cs.toArray 104)).alloc (.cells cs.toArray 104)) (.cells #[.string ⟨#[112]⟩,.slice none 0 0,.slice none 0 0,.int .i64 0,.int .i64 0,.slice none 0 0,.slice none 0 0,.int .i64 0,.int .i64 0,.string ⟨#[]⟩,.slice none 0 0,.int .i64 0,.int .i64 0,.string ⟨#[]⟩,.slice none 0 0,.string ⟨#[]⟩,.int .i64 0,.slice none 0 0,.int .i64 0,.int .i64 0,.slice none 0 0,.slice none 0 0,.int .i64 0,.int .i64 0,.string ⟨#[]⟩,.slice none 0 0,.int .i64 0,.int .i64 0,.string ⟨#[]⟩,.slice none 0 0,.string ⟨#[]⟩,.int .i64 0,.slice none 0 0,.slice (some ⟨w.heap.size+1,0,none⟩) 1 1] 112);rwa [show((w.alloc (.cells cs.toArray 104)).alloc (.cells cs.toArray 104)).heap.size=w.heap.size+2 by simp]at this)
  (by
    have h1:=heap_alloc_new (w.alloc (.cells cs.toArray 104)) (.cells cs.toArray 104)
    rw[show(w.alloc (.cells cs.toArray 104)).heap.size=w.heap.size+1 by simp]at h1
    rw[heap_alloc_old _ _ (by simp)]
    exact h1))
 have HL:=Lib.hid hlen
 have n1:=fun W=>Tryz.neNil W
 have n2:=fun t v W=>Tryz.neIface t v W
 have hfold:List.foldl (fun(xs:Array Value) (x:Value×Nat)=>xs.setIfInBounds x.2 x.1) #[.int .i64 0,.string ⟨#[]⟩,.string ⟨#[]⟩,.string ⟨#[]⟩,.int .i64 0,.int .i64 0,.string ⟨#[]⟩,.slice none 0 0,.int .i64 0,.int .i64 0,.string ⟨#[]⟩,.slice none 0 0,.int .i64 0,.slice none 0 0,.slice none 0 0,.int .i64 0,.int .i64 0,.slice none 0 0,.slice none 0 0,.int .i64 0,.int .i64 0,.string ⟨#[]⟩,.slice none 0 0,.int .i64 0,.int .i64 0,.string ⟨#[]⟩,.slice none 0 0,.string ⟨#[]⟩,.int .i64 0,.slice none 0 0,.slice none 0 0,.slice none 0 0,.slice none 0 0,.slice none 0 0,.slice none 0 0] cs.zipIdx=cs.toArray:=by
  have h:=fold_put cs [] zSt (by rw[hlen];rfl)
  exact h
 clear hck
 go_enter Tryz.func38,Tryz.ntmps38
 go_wp2_with (first | go_skip | (refine wpList_load_w (by kernel_rfl) 104 _ rfl ⟨w.heap.size,0,none⟩ rfl cs _ HX.out Tryz.underlying104 rfl (by rw[HL.out];kernel_rfl) ?_))
 refine HC.out.mono ?_
 rintro r2 w2 ⟨rfl,hb⟩
 have HB:=Lib.hid (HA3.out.trans (hb.mono HA3.out.size))
 clear hb HC hfold hlen
 by_cases hk:k=0
 ·have hv:erV k= .nilIface:=if_pos hk
  have hz:(k == 0)=true:=by rw[hk];rfl
  have HZ:=Lib.hid hz
  rw[hv]
  clear hv hz hk
  go_wp2_with fail
  go_ret
  exact⟨by rw[HZ.out];rfl,HB.out⟩
 ·have hv:erV k= .iface 89 (.int .i64 k):=if_neg hk
  have hz:(k == 0)=false:=beq_eq_false_iff_ne.2 hk
  have HZ:=Lib.hid hz
  rw[hv]
  clear hv hz hk
  go_wp2_with fail
  go_ret
  exact⟨by rw[HZ.out];rfl,HB.out⟩
theorem crefused_any (n:Nat)(s:ST)(cs:List Value)(w:World)(h:(stmtSh (n+3)).rel (Pak.Lo w.heap.size) w cs s)(hL:Laid w):
 Calls Tryz.prog 38 #[.agg cs.toArray] w (SoundEnd (!(chkQ nmB (n+3) [pOf zA [s]] == 0)) w):=by
 have hlen:=((stmtSh (n+3)).len h).trans (stmtSh_k _)
 refine crefused_box cs _ w hlen ((stmtSh (n+3)).one h) (fun W g hW hg h1=> ?_)
 have hgl:g<W.heap.size:=(Array.getElem?_eq_some_iff.1 hg).1
 have hp:(procSh (n+3)).rel (Pak.Lo W.heap.size) W (.string ⟨#[112]⟩ :: .slice none 0 0 :: .slice none 0 0 :: (zAc ++ (zAc ++ [.slice (some ⟨w.heap.size+1,0,none⟩) 1 1]))) (pOf zA [s]):=
  proc_rel ⟨#[112]⟩ (by decide) (zA_rel (n+1) _ _) ⟨_,_,rfl,sits_block h1 (Array.getElem?_eq_some_iff.1 h1).1 (rel_low h hW)⟩
 exact check_prog nmLaw (n+3) [pOf zA [s]] (some ⟨g,0,none⟩) 1 W (sits_block hg hgl hp) (hL.up hW)
theorem all4_at {w W:World}{x y z u:Value}{b:Array Value}{t s:TypeId}(hb:Below ((w.alloc (.cells #[x,y,z,u] t)).alloc (.cells b s)).heap.size ((w.alloc (.cells #[x,y,z,u] t)).alloc (.cells b s)) W):W.cell? ⟨w.heap.size,0,none⟩=some x∧W.cell? ⟨w.heap.size,1,none⟩=some y∧W.cell? ⟨w.heap.size,2,none⟩=some z∧W.cell? ⟨w.heap.size,3,none⟩=some u:=by
 have h1:Below (w.alloc (.cells #[x,y,z,u] t)).heap.size (w.alloc (.cells #[x,y,z,u] t)) ((w.alloc (.cells #[x,y,z,u] t)).alloc (.cells b s)):=box_low
 have h2:=h1.trans (hb.mono h1.size)
 exact⟨box_at (cs:=[x,y,z,u]) (o:=0) rfl h2,box_at (cs:=[x,y,z,u]) (o:=1) rfl h2,box_at (cs:=[x,y,z,u]) (o:=2) rfl h2,box_at (cs:=[x,y,z,u]) (o:=3) rfl h2⟩
def sdB (xs:List (ByteArray×LT)):Bool:=xs.all fun x=>Lf.snd x.2.1 x.2.2
theorem csound_any (la:Option Addr)(lcap m:Nat)(xs:List (ByteArray×LT))(w:World)(hm:xs.length=m)(hs:Pak.Sits symSh (Pak.Lo w.heap.size) w la xs):
 Calls Tryz.prog 39 #[.slice la m lcap] w (SoundEnd (sdB xs) w):=by
 have n1:=fun W=>Tryz.neNil W
 have n2:=fun t v W=>Tryz.neIface t v W
 have HS:=Lib.hid hs
 have HM:=Lib.hid hm
 have hmm:m≤9223372036854775807:=by rw[←hm];exact hs.1
 have HHIT:Hid (∀j,(h:j<xs.length)→Lf.snd xs[j].2.1 xs[j].2.2=false→sdB xs=false):=fun j h e=>all_hit h e
 have HMISS:Hid ((∀j,(h:j<xs.length)→Lf.snd xs[j].2.1 xs[j].2.2=true)→sdB xs=true):=fun h=>all_miss h
 clear hs hm
 generalize sdB xs=r at HHIT HMISS
 go_enter Tryz.func39,Tryz.ntmps39
 go_wp2_with fail
 go_loopw [7] (fun i wr=>∃j:Nat,i= .int .i64 j∧j≤m∧Hid (∀q,(hq:q<xs.length)→q<j→Lf.snd xs[q].2.1 xs[q].2.2=true)∧Hid (Below w.heap.size w wr)) (fun i _=>m - (intOf i).toNat)
 case atStart=>exact⟨0,rfl,Nat.zero_le _,fun q _ h=>absurd h (Nat.not_lt_zero _),Below.refl _ _⟩
 case round=>
  obtain⟨j,rfl,hj,hno,hb⟩:=hrel
  obtain⟨wo,rfl⟩:∃wo:World,wo=wr:=⟨_,rfl⟩
  by_cases hlt:j<m
  ·have hji:(j:Int)<(m:Int):=by omega
   have hjx:j<xs.length:=by rw[HM.out];exact hlt
   obtain⟨b,off,cs,rfl,hbl,hc,c,v,rfl,hnl,hr⟩:=(HS.out.below hb.out hb.out.size).2 j hjx
   have HH:=Lib.hid (HHIT.out j hjx)
   have HNX:Hid (Lf.snd xs[j].2.1 xs[j].2.2=true→∀q,(hq:q<xs.length)→q<j+1→Lf.snd xs[q].2.1 xs[q].2.2=true):=fun h q hq hlq=>by
    by_cases e:q=j
    ·subst e;exact h
    ·exact hno.out q hq (by omega)
   obtain⟨ta,tcap,rfl,rfl,hlen,hla,hnil⟩:=hr.form
   have c0:wo.cell? ⟨b,off+j*3,none⟩=some (.string xs[j].1):=hc 0 _ rfl
   have c1:wo.cell? ⟨b,off+j*3+1,none⟩=some (.int .i64 xs[j].2.1):=hc 1 _ rfl
   have c2:wo.cell? ⟨b,off+j*3+2,none⟩=some (.slice ta xs[j].2.2.length tcap):=hc 2 _ rfl
   have hbx:Below wo.heap.size wo (wo.alloc (.cells #[.string xs[j].1,.int .i64 xs[j].2.1,.slice ta xs[j].2.2.length tcap] 86)):=box_low
   have HBX:=Lib.hid (hb.out.trans (hbx.mono hb.out.size))
   have hblw:b<wo.heap.size:=hbl
   by_cases hs:Lf.snd xs[j].2.1 xs[j].2.2=true
   ·have HCK:=Lib.hid (Lf.check_yes xs[j].2.1 ta _ tcap xs[j].2.2 (wo.alloc (.cells #[.string xs[j].1,.int .i64 xs[j].2.1,.slice ta xs[j].2.2.length tcap] 86)) rfl ((hla.below hbx).mono hbx.size) hs)
    have HN2:=Lib.hid (HNX.out hs)
    clear hc hr hla hnil hno hb hbx hlen hs HNX HH
    generalize xs[j]=y at*
    go_wp2_with fail
    refine HCK.out.mono ?_
    rintro e w4 ⟨rfl,hb4⟩
    have HB4:=Lib.hid (HBX.out.trans (hb4.mono HBX.out.size))
    clear hb4 HCK
    go_wp2_with fail
    go_roundw
    case rel=>exact⟨j+1,by go_num,by omega,HN2,HB4⟩
    case measure=>simp[intOf];omega
   ·have hs':Lf.snd xs[j].2.1 xs[j].2.2=false:=by simpa using hs
    have HCK:=Lib.hid (Lf.check_no xs[j].2.1 ta _ tcap xs[j].2.2 (wo.alloc (.cells #[.string xs[j].1,.int .i64 xs[j].2.1,.slice ta xs[j].2.2.length tcap] 86)) rfl hlen ((hla.below hbx).mono hbx.size) hs')
    have HR:=Lib.hid (HH.out hs')
    clear hc hr hla hnil hno hb hbx hlen hs hs' HNX HH
    generalize xs[j]=y at*
    go_wp2_with fail
    refine HCK.out.mono ?_
    rintro e w4 ⟨rfl,hb4⟩
    have HB4:=Lib.hid (HBX.out.trans (hb4.mono HBX.out.size))
    clear hb4 HCK
    go_wp2_with fail
    go_ret
    exact⟨by rw[HR.out];rfl,HB4.out⟩
  ·obtain rfl:j=m:=by omega
   have hlti:¬(j:Int)<(j:Int):=by omega
   have HR:=Lib.hid (HMISS.out (fun q hq=>hno.out q hq (by rw[←HM.out];exact hq)))
   go_wp2_with fail
   go_ret
   exact⟨by rw[HR.out];rfl,hb.out⟩
end
section
open Go.RowKit
def cxR (k:Int)(sd:Bool)(x:Option LT):LT×Int:=if k=0∧sd=true then(match x with | some y=>(y,0) | none=>((0,[]),3)) else((0,[]),5)
def CxEnd (r:LT×Int)(w:World)(e:Ending)(w':World):Prop:=∃v,e= .returned (.tuple #[.agg #[.int .i64 r.1.1,v],erV r.2])∧Lf.Row w.heap.size r.1.2 v w'∧Below w.heap.size w w'
theorem cx_err {k:Int}{w W:World}{b:Nat}{r0 r1:Value}(hk:k≠0)(hb:Below w.heap.size w W)(hB:w.heap.size≤b)(h0:W.cell? ⟨b,0,none⟩=some r0)(h1:W.cell? ⟨b,1,none⟩=some r1):
 CxEnd ((0,[]),k) w (.returned (.tuple #[.agg #[.int .i64 0,.slice none 0 0],.iface 89 (.int .i64 k)])) ((W.setCell ⟨b,0,none⟩ (.int .i64 0)).setCell ⟨b,1,none⟩ (.slice none 0 0)):=
 ⟨_,by rw[show erV k= .iface 89 (.int .i64 k) from if_neg hk],World.ownsRow_nil _ _ _ _,(store2 hb hB h0 h1).2.2⟩
theorem cExpr_box (k0 m0:Int)(s0:ByteArray)(a0:Option Addr)(l0 c0:Nat)(la:Option Addr)(ln lcap:Nat)(k:Int)(sd:Bool)(x:Option LT)(w:World)
 (hr:Calls Tryz.prog 38 #[.agg #[.int .i64 1,.string ⟨#[120]⟩,.string ⟨#[]⟩,.string ⟨#[]⟩,.int .i64 k0,.int .i64 m0,.string s0,.slice a0 l0 c0,.int .i64 0,.int .i64 0,.string ⟨#[]⟩,.slice none 0 0,.int .i64 0,.slice none 0 0,.slice none 0 0,.int .i64 0,.int .i64 0,.slice none 0 0,.slice none 0 0,.int .i64 0,.int .i64 0,.string ⟨#[]⟩,.slice none 0 0,.int .i64 0,.int .i64 0,.string ⟨#[]⟩,.slice none 0 0,.string ⟨#[]⟩,.int .i64 0,.slice none 0 0,.slice none 0 0,.slice none 0 0,.slice none 0 0,.slice none 0 0,.slice none 0 0]] ((w.alloc (.cells #[.int .i64 k0,.int .i64 m0,.string s0,.slice a0 l0 c0] 49)).alloc (.cells #[.int .i64 0,.slice none 0 0] 25)) (SoundEnd (!(k == 0)) ((w.alloc (.cells #[.int .i64 k0,.int .i64 m0,.string s0,.slice a0 l0 c0] 49)).alloc (.cells #[.int .i64 0,.slice none 0 0] 25))))
 (hs:∀W,Below w.heap.size w W→Calls Tryz.prog 39 #[.slice la ln lcap] W (SoundEnd sd W))
 (hx:k=0→sd=true→∀W,Below w.heap.size w W→Calls Tryz.prog 40 #[.agg #[.int .i64 k0,.int .i64 m0,.string s0,.slice a0 l0 c0],.slice la ln lcap] W (LnEnd x W)):
 Calls Tryz.prog 18 #[.agg #[.int .i64 k0,.int .i64 m0,.string s0,.slice a0 l0 c0],.slice la ln lcap] w (CxEnd (cxR k sd x) w):=by
 have HW:Hid (Below w.heap.size w ((w.alloc (.cells #[.int .i64 k0,.int .i64 m0,.string s0,.slice a0 l0 c0] 49)).alloc (.cells #[.int .i64 0,.slice none 0 0] 25))):=below_two
 have HB0:Hid (Below ((w.alloc (.cells #[.int .i64 k0,.int .i64 m0,.string s0,.slice a0 l0 c0] 49)).alloc (.cells #[.int .i64 0,.slice none 0 0] 25)).heap.size ((w.alloc (.cells #[.int .i64 k0,.int .i64 m0,.string s0,.slice a0 l0 c0] 49)).alloc (.cells #[.int .i64 0,.slice none 0 0] 25)) ((w.alloc (.cells #[.int .i64 k0,.int .i64 m0,.string s0,.slice a0 l0 c0] 49)).alloc (.cells #[.int .i64 0,.slice none 0 0] 25))):=Below.refl _ _
 have HQ:=Lib.hid (fun W (hb:Below ((w.alloc (.cells #[.int .i64 k0,.int .i64 m0,.string s0,.slice a0 l0 c0] 49)).alloc (.cells #[.int .i64 0,.slice none 0 0] 25)).heap.size ((w.alloc (.cells #[.int .i64 k0,.int .i64 m0,.string s0,.slice a0 l0 c0] 49)).alloc (.cells #[.int .i64 0,.slice none 0 0] 25)) W)=>And.intro (all4_at hb) (box22_at hb))
 have HR:=Lib.hid hr
 have HS:=Lib.hid hs
 have HX:=Lib.hid hx
 clear hr hs hx
 go_enter Tryz.func18,Tryz.ntmps18
 go_wp2_with fail
 refine HR.out.mono ?_
 rintro r w2 ⟨rfl,hb⟩
 have H2:=Lib.hid (HB0.out.trans hb)
 have B2:=Lib.hid (HW.out.trans (H2.out.mono HW.out.size))
 clear hb HR
 obtain⟨⟨q0,q1,q2,q3⟩,r0,r1,rf0,rf1,rlt⟩:=HQ.out _ H2.out
 by_cases hk:k=0
 ·have hz:(!(k == 0))=false:=by rw[hk];rfl
  rw[hz]
  have HK:=Lib.hid hk
  clear hz hk
  have HS2:=Lib.hid (HS.out _ B2.out)
  go_wp2_with fail
  refine HS2.out.mono ?_
  rintro r w3 ⟨rfl,hb⟩
  have H3:=Lib.hid (H2.out.trans (hb.mono H2.out.size))
  have B3:=Lib.hid (HW.out.trans (H3.out.mono HW.out.size))
  clear hb HS HS2 q0 q1 q2 q3 r0 r1 rf0 rf1 rlt
  obtain⟨⟨q0,q1,q2,q3⟩,r0,r1,rf0,rf1,rlt⟩:=HQ.out _ H3.out
  cases sd with
  | false=>
    have HE:=Lib.hid (cx_err (k:=5) (by decide) B3.out (show w.heap.size≤w.heap.size+1 by omega) r0 r1)
    obtain⟨e0,e1,_⟩:=store2 (x:= .int .i64 0) (y:= .slice none 0 0) B3.out (show w.heap.size≤w.heap.size+1 by omega) r0 r1
    have E01:=Lib.hid (And.intro e0 e1)
    have HRS:Hid (cxR k false x=((0,[]),5)):=Lib.hid (by unfold cxR;rw[if_neg (by simp)])
    clear e0 e1 HX
    go_wp2_with fail
    obtain⟨e0,e1⟩:=E01.out
    refine bodyPost_ret (v:= .tuple #[.agg #[.int .i64 0,.slice none 0 0],.iface 89 (.int .i64 5)]) ?_ rfl (by rw[HRS.out];exact HE.out)
    simp[results,Tryz.results18,go_sem,e0,e1]
  | true=>
    have HX2:=Lib.hid (HX.out HK.out rfl _ B3.out)
    clear HX
    cases x with
    | some y=>
      have HRS2:Hid (cxR k true (some y)=(y,0)):=Lib.hid (by unfold cxR;rw[if_pos ⟨HK.out,rfl⟩])
      obtain⟨yc,yl⟩:=y
      go_wp2_with fail
      refine HX2.out.mono ?_
      rintro r w4 h4
      obtain⟨v4,rfl,hrow4,hb4⟩:=h4.some_form
      have H4:=Lib.hid (H3.out.trans (hb4.mono H3.out.size))
      have B4:=Lib.hid (HW.out.trans (H4.out.mono HW.out.size))
      obtain⟨a3,cap3,rfl,_,_⟩:=hrow4.lies
      have hzw:w.heap.size+1<w3.heap.size:=rlt
      clear q0 q1 q2 q3 r0 r1 rf0 rf1 rlt HX2
      obtain⟨_,r0,r1,rf0,rf1,rlt⟩:=HQ.out _ H4.out
      obtain⟨e0,e1,HBF⟩:=stored_a (x:= .int .i64 yc) (y:= .slice a3 yl.length cap3) (c:= #[.int .i64 yc,.slice a3 yl.length cap3]) (t:=25) B4.out (by omega) (show w.heap.size≤w.heap.size+1 by omega) rlt r0 r1
      have HRF:=Lib.hid (Lf.Row.alloc (row_store2 (x:= .int .i64 yc) (y:= .slice a3 yl.length cap3) hrow4 hzw) (.cells #[.int .i64 yc,.slice a3 yl.length cap3] 25))
      have E01:=Lib.hid (And.intro e0 e1)
      have HBG:=Lib.hid HBF
      clear e0 e1 HBF hrow4 hb4
      go_wp2_with fail
      obtain⟨e0,e1⟩:=E01.out
      refine bodyPost_ret (v:= .tuple #[.agg #[.int .i64 yc,.slice a3 yl.length cap3],.nilIface]) ?_ rfl (by rw[HRS2.out];exact⟨_,by rw[show erV (0:Int)= .nilIface from if_pos rfl],HRF.out.mono (by omega),HBG.out⟩)
      simp[results,Tryz.results18,go_sem,e0,e1]
    | none=>
      have HRS2:Hid (cxR k true none=((0,[]),3)):=Lib.hid (by unfold cxR;rw[if_pos ⟨HK.out,rfl⟩])
      go_wp2_with fail
      refine HX2.out.mono ?_
      rintro r w4 h4
      obtain⟨rfl,hb4⟩:=h4.none_form
      have H4:=Lib.hid (H3.out.trans (hb4.mono H3.out.size))
      have B4:=Lib.hid (HW.out.trans (H4.out.mono HW.out.size))
      clear q0 q1 q2 q3 r0 r1 rf0 rf1 rlt HX2 hb4
      obtain⟨_,r0,r1,rf0,rf1,rlt⟩:=HQ.out _ H4.out
      obtain⟨e0,e1,HBF⟩:=stored_a (x:= .int .i64 0) (y:= .slice none 0 0) (c:= #[.int .i64 0,.slice none 0 0]) (t:=25) B4.out (by omega) (show w.heap.size≤w.heap.size+1 by omega) rlt r0 r1
      have E01:=Lib.hid (And.intro e0 e1)
      have HBG:=Lib.hid HBF
      clear e0 e1 HBF
      go_wp2_with fail
      obtain⟨e0,e1⟩:=E01.out
      refine bodyPost_ret (v:= .tuple #[.agg #[.int .i64 0,.slice none 0 0],.iface 89 (.int .i64 3)]) ?_ rfl (by rw[HRS2.out];exact⟨_,by rw[show erV (3:Int)= .iface 89 (.int .i64 3) from if_neg (by decide)],World.ownsRow_nil _ _ _ _,HBG.out⟩)
      simp[results,Tryz.results18,go_sem,e0,e1]
 ·have hz:(!(k == 0))=true:=by rw[beq_eq_false_iff_ne.2 hk];rfl
  rw[hz]
  have HE:=Lib.hid (cx_err (k:=5) (by decide) B2.out (show w.heap.size≤w.heap.size+1 by omega) r0 r1)
  obtain⟨e0,e1,_⟩:=store2 (x:= .int .i64 0) (y:= .slice none 0 0) B2.out (show w.heap.size≤w.heap.size+1 by omega) r0 r1
  have E01:=Lib.hid (And.intro e0 e1)
  have HRS:Hid (cxR k sd x=((0,[]),5)):=Lib.hid (by unfold cxR;rw[if_neg (fun h=>hk h.1)])
  clear e0 e1 HX HS hz hk
  go_wp2_with fail
  obtain⟨e0,e1⟩:=E01.out
  refine bodyPost_ret (v:= .tuple #[.agg #[.int .i64 0,.slice none 0 0],.iface 89 (.int .i64 5)]) ?_ rfl (by rw[HRS.out];exact HE.out)
  simp[results,Tryz.results18,go_sem,e0,e1]
theorem expr_form2 {n:Nat}{S:Nat→Prop}{w:World}{cs:List Value}{e:ET}(h:(exprSh (n+1)).rel S w cs e):∃u d,cs=[.int .i64 e.kind,.int .i64 e.n,.string e.name,.slice u e.ks.length d]:=by
 obtain⟨v,rfl,_,u,d,rfl,_⟩:=h
 exact⟨u,d,rfl⟩
theorem cExpr_any (n:Nat)(e:ET)(ce:List Value)(xs:List (ByteArray×LT))(la:Option Addr)(lcap:Nat)(w:World)(h:(exprSh (n+2)).rel (Pak.Lo w.heap.size) w ce e)(hx:Pak.Sits symSh (Pak.Lo w.heap.size) w la xs)(hL:Laid w):
 Calls Tryz.prog 18 #[.agg ce.toArray,.slice la xs.length lcap] w (CxEnd (cxR (ekE n e) (sdB xs) (linE (fun s=>symOf s xs) (n+2) e)) w):=by
 have h0:=h
 obtain⟨a0,c0,rfl⟩:=expr_form2 h
 have hW:Below w.heap.size w ((w.alloc (.cells #[.int .i64 e.kind,.int .i64 e.n,.string e.name,.slice a0 e.ks.length c0] 49)).alloc (.cells #[.int .i64 0,.slice none 0 0] 25)):=below_two
 refine cExpr_box _ _ _ a0 _ c0 la _ lcap (ekE n e) (sdB xs) _ w ?_ (fun W hb=>csound_any la lcap _ xs W rfl (hx.below hb hb.size)) (fun hk hsd W hb=> ?_)
 ·exact crefused_any n (sSet e) _ _ (sSet_rel (rel_low h0 hW)) (hL.up hW)
 ·exact cexpr_any (nm:=nmB) la lcap xs (fun x hx2=>by have:=List.all_eq_true.1 hsd x hx2;exact this) (n+2) e _ W (chk_set hk) (rel_low h0 hb) (hx.below hb hb.size)
end
section
open Go.RowKit
def upX:ET:= .mk 1 0 ⟨#[120]⟩ []
def upM:ET:= .mk 4 2 ⟨#[]⟩ [upX]
def upN:ET:= .mk 0 1 ⟨#[]⟩ []
def upE:ET:= .mk 3 0 ⟨#[]⟩ [upM,upN]
def upL:List (ByteArray×LT):=[(⟨#[120]⟩,(3,[(0,1)]))]
theorem upE_ck:ekE 1 upE=0:=by kernel_rfl
theorem upL_sd:sdB upL=true:=by kernel_rfl
theorem one_sum (k:Int)(hk:k≠0):Lf.IsSum [(0,k)] [(0,k)]:=⟨List.pairwise_singleton _ _,fun m hm=>by obtain rfl:=List.mem_singleton.1 hm;exact hk,fun v=>rfl⟩
theorem up_times:timesS 2 (3,[(0,1)])=some (6,[(0,2)]):=by
 unfold timesS
 have h:sumC (Lf.scale 2 [(0,1)])=[(0,2)]:=sumC_eq (one_sum 2 (by decide))
 show(if Lf.snd (2*3) (sumC (Lf.scale 2 [(0,1)]))=true then some ((2:Int)*3,sumC (Lf.scale 2 [(0,1)])) else none)=_
 rw[h]
 kernel_rfl
theorem up_add:addS 1 (-1) (6,[(0,2)]) (1,[])=some (5,[(0,2)]):=by
 unfold addS
 have h:sumC (Lf.scale 1 [(0,2)] ++ Lf.scale (-1) [])=[(0,2)]:=sumC_eq (one_sum 2 (by decide))
 show(if Lf.snd (1*6+ -1*1) (sumC (Lf.scale 1 [(0,2)] ++ Lf.scale (-1) []))=true then some ((1:Int)*6+ -1*1,sumC (Lf.scale 1 [(0,2)] ++ Lf.scale (-1) [])) else none)=_
 rw[h]
 kernel_rfl
theorem upE_lin:linE (fun s=>symOf s upL) 3 upE=some (5,[(0,2)]):=by
 have h1:linE (fun s=>symOf s upL) 1 upX=some (3,[(0,1)]):=by
  unfold upX
  rw[linE_kind1]
  kernel_rfl
 have h2:linE (fun s=>symOf s upL) 2 upM=some (6,[(0,2)]):=by
  unfold upM linE
  show(if(4:Int)=1 then _ else if(4:Int)=2 then _ else if(4:Int)=3 then _ else if(4:Int)=4 then _ else _)=_
  rw[if_neg (by decide),if_neg (by decide),if_neg (by decide),if_pos (by decide)]
  show((linE (fun s=>symOf s upL) 1 upX).bind fun a=>timesS 2 a)=_
  rw[h1]
  exact up_times
 have h3:linE (fun s=>symOf s upL) 2 upN=some (1,[]):=by
  unfold upN
  rw[linE_kind0]
 unfold upE linE
 show(if(3:Int)=1 then _ else if(3:Int)=2 then _ else if(3:Int)=3 then _ else if(3:Int)=4 then _ else _)=_
 rw[if_neg (by decide),if_neg (by decide),if_pos (by decide)]
 show((linE (fun s=>symOf s upL) 2 upM).bind fun a=>(linE (fun s=>symOf s upL) 2 upN).bind fun b=>addS 1 (-1) a b)=_
 rw[h2,h3]
 exact up_add
structure Four (w W:World)(o0 o1 o2 o3:Obj):Prop where
 low:Below w.heap.size w W
 h0:W.heap[w.heap.size]? =some o0
 h1:W.heap[w.heap.size+1]? =some o1
 h2:W.heap[w.heap.size+1+1]? =some o2
 h3:W.heap[w.heap.size+1+1+1]? =some o3
theorem four (w:World)(o0 o1 o2 o3:Obj):Four w ((((w.alloc o0).alloc o1).alloc o2).alloc o3) o0 o1 o2 o3:=by
 have s1:(w.alloc o0).heap.size=w.heap.size+1:=by simp
 have s2:((w.alloc o0).alloc o1).heap.size=w.heap.size+1+1:=by simp
 have s3:(((w.alloc o0).alloc o1).alloc o2).heap.size=w.heap.size+1+1+1:=by simp
 refine⟨(((((Below.refl _ w).alloc (Nat.le_refl _) o0).alloc (by simp) o1).alloc (by simp;omega) o2).alloc (by simp;omega) o3), ?_, ?_, ?_, ?_⟩
 ·rw[heap_alloc_old _ o3 (by rw[s3];omega),heap_alloc_old _ o2 (by rw[s2];omega),heap_alloc_old _ o1 (by rw[s1];omega)]
  exact heap_alloc_new _ _
 ·rw[heap_alloc_old _ o3 (by rw[s3];omega),heap_alloc_old _ o2 (by rw[s2];omega),←s1]
  exact heap_alloc_new _ _
 ·rw[heap_alloc_old _ o3 (by rw[s3];omega),←s2]
  exact heap_alloc_new _ _
 ·rw[←s3]
  exact heap_alloc_new _ _
theorem sits_two2 {T:Type}{sh:Pak.Sh T}{W:World}{g:Nat}{cs ds:List Value}{x y:T}{t:TypeId}(hg:W.heap[g]? =some (.cells (cs ++ ds).toArray t (0,0)))(hlt:g<W.heap.size)(hl:cs.length=sh.k)(h1:sh.rel (Pak.Lo W.heap.size) W cs x)(h2:sh.rel (Pak.Lo W.heap.size) W ds y):Pak.Sits sh (Pak.Lo W.heap.size) W (some ⟨g,0,none⟩) [x,y]:=by
 refine⟨by simp,fun i hi=> ?_⟩
 have hc:∀(o:Nat) v,(cs ++ ds)[o]? =some v→W.cell? ⟨g,o,none⟩=some v:=fun o v hv=>(cell_of_row _ _ _ _ _ _ hg).trans (by rw[List.getElem?_toArray];exact hv)
 have hi2:i=0∨i=1:=by simp at hi;omega
 rcases hi2 with rfl | rfl
 ·refine⟨g,0,cs,rfl,hlt,fun j u hu=>hc _ _ ?_,h1⟩
  rw[show 0+0*sh.k+j=j by omega,List.getElem?_append_left (List.getElem?_eq_some_iff.1 hu).1]
  exact hu
 ·refine⟨g,0,ds,rfl,hlt,fun j u hu=>hc _ _ ?_,h2⟩
  rw[show 0+1*sh.k+j=cs.length+j by omega,List.getElem?_append_right (Nat.le_add_right _ _),Nat.add_sub_cancel_left]
  exact hu
theorem upE_rel {W:World}{g3 g4:Nat}(h3:W.heap[g3]? =some (.cells #[.int .i64 1,.int .i64 0,.string ⟨#[120]⟩,.slice none 0 0] 49 (0,0)))(h4:W.heap[g4]? =some (.cells #[.int .i64 4,.int .i64 2,.string ⟨#[]⟩,.slice (some ⟨g3,0,none⟩) 1 1,.int .i64 0,.int .i64 1,.string ⟨#[]⟩,.slice none 0 0] 49 (0,0))):
 (exprSh 3).rel (Pak.Lo W.heap.size) W [.int .i64 3,.int .i64 0,.string ⟨#[]⟩,.slice (some ⟨g4,0,none⟩) 2 2] upE:=
 ⟨_,rfl,⟨⟨by decide,by decide⟩,⟨by decide,by decide⟩,by decide⟩,some ⟨g4,0,none⟩,2,rfl,
   sits_two2 (cs:=[.int .i64 4,.int .i64 2,.string ⟨#[]⟩,.slice (some ⟨g3,0,none⟩) 1 1]) (ds:=[.int .i64 0,.int .i64 1,.string ⟨#[]⟩,.slice none 0 0]) h4 (Array.getElem?_eq_some_iff.1 h4).1 rfl
    ⟨_,rfl,⟨⟨by decide,by decide⟩,⟨by decide,by decide⟩,by decide⟩,some ⟨g3,0,none⟩,1,rfl,sits_block (cs:=[.int .i64 1,.int .i64 0,.string ⟨#[120]⟩,.slice none 0 0]) h3 (Array.getElem?_eq_some_iff.1 h3).1 ⟨_,rfl,⟨⟨by decide,by decide⟩,⟨by decide,by decide⟩,by decide⟩,slot_nil _ _ _⟩⟩
    ⟨_,rfl,⟨i64_0,⟨by decide,by decide⟩,Nat.zero_le _⟩,slot_nil _ _ _⟩⟩
theorem upL_sits {W:World}{g0 g1:Nat}(h0:W.heap[g0]? =some (.cells #[.int .i64 0,.int .i64 1] 84 (0,0)))(h1:W.heap[g1]? =some (.cells #[.string ⟨#[120]⟩,.int .i64 3,.slice (some ⟨g0,0,none⟩) 1 1] 86 (0,0))):Pak.Sits symSh (Pak.Lo W.heap.size) W (some ⟨g1,0,none⟩) upL:=
 sits_block (cs:=[.string ⟨#[120]⟩,.int .i64 3,.slice (some ⟨g0,0,none⟩) 1 1]) h1 (Array.getElem?_eq_some_iff.1 h1).1 ⟨_,_,rfl,by decide,rfl,_,_,rfl,(fun e=>by cases e),sits_block (cs:=[.int .i64 0,.int .i64 1]) h0 (Array.getElem?_eq_some_iff.1 h0).1 rfl⟩
def UpSaid20:Prop:=∀w:World,Laid w→Calls Tryz.prog 7 #[] w fun e w'=>e= .returned (.bool true)∧Below w.heap.size w w'
theorem up_said20:UpSaid20:=fun w hL=>by
 have n2:=fun W=>Tryz.eqNil W
 have F:=Lib.hid (four w (.cells #[.int .i64 0,.int .i64 1] 84) (.cells #[.string ⟨#[120]⟩,.int .i64 3,.slice (some ⟨w.heap.size,0,none⟩) 1 1] 86) (.cells #[.int .i64 1,.int .i64 0,.string ⟨#[120]⟩,.slice none 0 0] 49) (.cells #[.int .i64 4,.int .i64 2,.string ⟨#[]⟩,.slice (some ⟨w.heap.size+1+1,0,none⟩) 1 1,.int .i64 0,.int .i64 1,.string ⟨#[]⟩,.slice none 0 0] 49))
 have he:=cExpr_any 1 upE _ upL _ 1 _ (upE_rel F.out.h2 F.out.h3) (upL_sits F.out.h0 F.out.h1) (hL.up F.out.low)
 rw[upE_ck,upL_sd,upE_lin]at he
 have hv:cxR 0 true (some (5,[(0,2)]))=((5,[(0,2)]),0):=rfl
 rw[hv]at he
 have HEE:=Lib.hid he
 have HLOW:=Lib.hid F.out.low
 clear hL he hv F
 go_enter Tryz.func7,Tryz.ntmps7
 go_wp2_with fail
 refine HEE.out.mono ?_
 rintro r w6 ⟨v,rfl,hrow,hb⟩
 dsimp only
 rw[show erV (0:Int)= .nilIface from rfl]
 have HW6:=Lib.hid (HLOW.out.trans (hb.mono HLOW.out.size))
 obtain⟨a3,cap3,rfl,hl,_⟩:=hrow.lies
 obtain⟨b,off,rfl,hbl,_,k1⟩:=hl 0 (by decide)
 have k1:w6.cell? ⟨b,off+1,none⟩=some (.int .i64 2):=by have:=k1;simpa using this
 clear hrow hb hl HEE
 go_wp2_with fail
 go_ret
 exact⟨rfl,HW6.out.alloc HW6.out.size _⟩
end
end Go.Proofs.YtjbkhdbjdahbiaaGreatDoor
