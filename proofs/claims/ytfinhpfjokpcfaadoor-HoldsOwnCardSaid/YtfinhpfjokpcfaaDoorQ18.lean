/- Parts of a proof. -/
import Derived.Test.YtfinhpfjokpcfaaDoorQ01
import Derived.Test.YtfinhpfjokpcfaaDoorQ02
import Derived.Test.YtfinhpfjokpcfaaDoorQ03
import Derived.Test.YtfinhpfjokpcfaaDoorQ04
import Derived.Test.YtfinhpfjokpcfaaDoorQ08
import Derived.Test.YtfinhpfjokpcfaaDoorQ11
import Derived.Test.YtfinhpfjokpcfaaDoorQ16
import Derived.Test.YtfinhpfjokpcfaaDoorQ17
import Derived.Deep.Slices
import Derived.Deep.Fields
import Derived.Lib.SmallJoins
set_option linter.unusedVariables false
set_option linter.unusedSimpArgs false
set_option maxHeartbeats 60000000
set_option maxRecDepth 100000
namespace Go.Proofs.YtfinhpfjokpcfaaDoor
section
open Go.RowKit
theorem fold_at (o:Nat):∀(l:List Value) (k:Nat) (P R T:List Value),P.length=o+k→R.length=l.length→List.foldl (fun(cs:Array Value) (x:Value×Nat)=>cs.setIfInBounds (o+x.2) x.1) (P ++ (R ++ T)).toArray (l.zipIdx k)=(P ++ (l ++ T)).toArray
 | [],k,P,R,T,hp,h=>by rw[List.eq_nil_of_length_eq_zero h];rfl
 | x :: l,k,P,[],T,hp,h=>by cases h
 | x :: l,k,P,y :: R,T,hp,h=>by
   rw[List.zipIdx_cons,List.foldl_cons]
   have e:((P ++ (y :: R ++ T)).toArray).setIfInBounds (o+k) x=((P ++ [x]) ++ (R ++ T)).toArray:=by
    rw[List.setIfInBounds_toArray]
    congr 1
    rw[←hp,List.set_append_right _ _ (Nat.le_refl _),Nat.sub_self,List.cons_append,List.set_cons_zero]
    simp
   rw[e,fold_at o l (k+1) (P ++ [x]) R T (by rw[List.length_append,hp];simp;omega) (by simpa using h)]
   simp
theorem SRow.mono {B B':Nat}{xs:List HC}{v:Value}{w:World}(h:SRow B xs v w)(hB:B'≤B):SRow B' xs v w:=by
 refine⟨h.1, ?_⟩
 rcases h.2 with h0 | ⟨g,cap,cur,e,hb,hr⟩
 ·exact .inl h0
 ·exact .inr ⟨g,cap,cur,e,Nat.le_trans hB hb,hr⟩
def ftR (k:Int)(t:List HC×Bool×Bool):List HC×Int:=if k=0 then(if t.2.2=true then(joinD t.1,0) else([],3)) else([],5)
def FtEnd (x:List HC×Int)(w:World)(r:Ending)(w':World):Prop:=∃v,r= .returned (.tuple #[v,erV x.2])∧SRow w.heap.size x.1 v w'∧Below w.heap.size w w'
theorem taker_new {W:World}{g:Nat}{vv cv:Value}(h:W.heap[g]? =some (.cells #[vv,cv,.slice none 0 0,.bool true] 59 (0,0))):TkO g vv cv [] true none W:=
 ⟨(cell_of_row _ _ _ _ _ _ h).trans rfl,(cell_of_row _ _ _ _ _ _ h).trans rfl,⟨_,(cell_of_row _ _ _ _ _ _ h).trans rfl,SRow.nil _ _,rfl⟩,(cell_of_row _ _ _ _ _ _ h).trans rfl,fun o=>by
   unfold World.frozen?;rw[h];simp⟩
theorem foot_box (av:Option Addr)(nv c1:Nat)(ca:List Value)(k:Int)(sh:List HC)(tr nr:Bool)(w:World)(hlen:ca.length=15)(hsh:sh.length≤100)(hbd:BoundV sh 1099511627776)
 (hr:Calls Tryd.prog 10 #[.agg (([.string ⟨#[]⟩,.slice none 0 0,.slice none 0 0]:List Value) ++ (ca ++ (zAc ++ ([.slice none 0 0]:List Value)))).toArray] (w.alloc (.cells ca.toArray 30)) (SoundEnd (!(k == 0)) (w.alloc (.cells ca.toArray 30))))
 (ht:k=0→∀W g,Below w.heap.size w W→w.heap.size≤g→TkO g (.slice av nv c1) (.slice none 0 0) [] true none W→Calls Tryd.prog 11 #[.pointer (some ⟨g,0,none⟩),.agg ca.toArray] W (TkEnd g (.slice av nv c1) (.slice none 0 0) sh tr none nr W)):
 Calls Tryd.prog 6 #[.agg ca.toArray,.slice av nv c1] w (FtEnd (ftR k (sh,tr,nr)) w):=by
 have HA:Hid (Below w.heap.size w (w.alloc (.cells ca.toArray 30))):=box_low
 have HB0:Hid (Below (w.alloc (.cells ca.toArray 30)).heap.size (w.alloc (.cells ca.toArray 30)) (w.alloc (.cells ca.toArray 30))):=Below.refl _ _
 have P0:=Lib.hid (fun W (hb:Below (w.alloc (.cells ca.toArray 30)).heap.size (w.alloc (.cells ca.toArray 30)) W)=>box_part (cs:=ca) (l:=ca) (o:=0) (fun i v h=>by rw[Nat.zero_add];exact h) hb)
 have L0:=Lib.hid hlen
 have HR:=Lib.hid hr
 have HTK:=Lib.hid ht
 have hfold:List.foldl (fun(cs:Array Value) (x:Value×Nat)=>cs.setIfInBounds (3+x.2) x.1) #[.string ⟨#[]⟩,.slice none 0 0,.slice none 0 0,.int .i64 0,.int .i64 0,.slice none 0 0,.slice none 0 0,.int .i64 0,.int .i64 0,.string ⟨#[]⟩,.slice none 0 0,.int .i64 0,.int .i64 0,.string ⟨#[]⟩,.slice none 0 0,.string ⟨#[]⟩,.int .i64 0,.slice none 0 0,.int .i64 0,.int .i64 0,.slice none 0 0,.slice none 0 0,.int .i64 0,.int .i64 0,.string ⟨#[]⟩,.slice none 0 0,.int .i64 0,.int .i64 0,.string ⟨#[]⟩,.slice none 0 0,.string ⟨#[]⟩,.int .i64 0,.slice none 0 0,.slice none 0 0] ca.zipIdx=(([.string ⟨#[]⟩,.slice none 0 0,.slice none 0 0]:List Value) ++ (ca ++ (zAc ++ ([.slice none 0 0]:List Value)))).toArray:=fold_at 3 ca 0 [.string ⟨#[]⟩,.slice none 0 0,.slice none 0 0] zAc (zAc ++ ([.slice none 0 0]:List Value)) rfl (by rw[hlen];rfl)
 clear hr ht
 go_enter Tryd.func6,Tryd.ntmps6
 go_wp2_with (first | go_skip | (refine wpList_load_w (by kernel_rfl) 30 _ rfl ⟨w.heap.size,0,none⟩ rfl ca _ (P0.out _ HB0.out) Tryd.underlying30 rfl (by rw[L0.out];kernel_rfl) ?_))
 refine HR.out.mono ?_
 rintro r w2 ⟨rfl,hb⟩
 have HB2:=Lib.hid (HB0.out.trans hb)
 clear hb hfold hlen
 by_cases hk:k=0
 ·have HT:=Lib.hid (HTK.out hk)
  have hz:(!(k == 0))=false:=by rw[hk];rfl
  have HRR:Hid (ftR k (sh,tr,nr)=if nr=true then(joinD sh,0) else([],3)):=Lib.hid (if_pos hk)
  rw[hz]
  clear hz hk
  have HW3:Hid (Below (w.alloc (.cells ca.toArray 30)).heap.size (w.alloc (.cells ca.toArray 30)) (w2.alloc (.cells #[.slice av nv c1,.slice none 0 0,.slice none 0 0,.bool true] 59))):=Lib.hid (HB2.out.alloc HB2.out.size _)
  have HWW:=Lib.hid (HA.out.trans (HW3.out.mono HA.out.size))
  have HWG:Hid (w.heap.size≤w2.heap.size):=Lib.hid (Nat.le_trans HA.out.size HB2.out.size)
  have HC:=Lib.hid (HT.out _ w2.heap.size HWW.out HWG.out (taker_new (heap_alloc_new w2 _)))
  clear HT HTK HR
  go_wp2_with (first | go_skip | (refine wpList_load_w (by kernel_rfl) 30 _ rfl ⟨w.heap.size,0,none⟩ rfl ca _ (P0.out _ HW3.out) Tryd.underlying30 rfl (by rw[L0.out];kernel_rfl) ?_))
  refine HC.out.mono ?_
  rintro r w4 ⟨rfl,hk4,ob4,ht4,hn4⟩
  have HB4:=Lib.hid (HWW.out.trans (hk4.low.mono HWG.out))
  obtain⟨v4,h2,hrow,_⟩:=ht4.row
  obtain⟨a4,cap4,rfl,_,_,hl4,_⟩:=own_hlies rfl hrow
  have HJ:=Lib.hid (join_any sh [] (sort_said _ (by rw[List.append_nil];omega)) a4 _ cap4 none 0 0 w4 rfl rfl hsh (Nat.zero_le _) (by rw[List.append_nil];exact hbd) hl4 (fun i hi=>absurd hi (Nat.not_lt_zero _)))
  clear hk4 ht4 hn4 hrow hl4 HC hsh hbd
  cases nr with
  | false=>
    go_wp2_with fail
    go_ret2
    exact⟨_,by rw[HRR.out];rfl,by rw[HRR.out];exact SRow.nil _ _,HB4.out⟩
  | true=>
    go_wp2_with fail
    refine HJ.out.mono ?_
    rintro r w5 ⟨v5,zs,rfl,hs5,hr5,hb5⟩
    have HE:Hid (SRow w.heap.size (joinD sh) v5 w5∧Below w.heap.size w w5):=Lib.hid ⟨by
     have:=join_is hs5
     rw[List.append_nil]at this
     rw[←this]
     exact hr5.mono HB4.out.size,HB4.out.trans (hb5.mono HB4.out.size)⟩
    clear hs5 hr5 hb5 HJ
    go_wp2_with fail
    go_ret2
    exact⟨_,by rw[HRR.out];rfl,by rw[HRR.out];exact HE.out.1,HE.out.2⟩
 ·have hz:(!(k == 0))=true:=by rw[beq_eq_false_iff_ne.2 hk];rfl
  have HRR:Hid (ftR k (sh,tr,nr)=([],5)):=Lib.hid (if_neg hk)
  rw[hz]
  clear hz hk
  go_wp2_with fail
  go_ret2
  exact⟨_,by rw[HRR.out];rfl,by rw[HRR.out];exact SRow.nil _ _,HA.out.trans (HB2.out.mono HA.out.size)⟩
end
section
open Go.RowKit
def lowB (l:List HC):Bool:=l.all fun c=>decide (c.v≤64)
theorem lowB_yes {l:List HC}(h:∀j,j<l.length→(l.getD j hc0).v≤64):lowB l=true:=by
 unfold lowB
 rw[List.all_eq_true]
 intro c hc
 obtain⟨i,hi,rfl⟩:=List.getElem_of_mem hc
 have:=h i hi
 rw[List.getD_eq_getElem?_getD,List.getElem?_eq_getElem hi]at this
 exact decide_eq_true this
theorem lowB_no {l:List HC}{j:Nat}(hj:j<l.length)(h:¬(l.getD j hc0).v≤64):lowB l=false:=by
 unfold lowB
 rw[List.all_eq_false]
 exact⟨_,getD_memH hj,by simpa using h⟩
def hdR (k:Int)(z:Bool)(t:List HC×Bool×Bool):Bool×Int:=if k=0∧z=true then(if t.2.2=true then(lowB (joinD t.1) && t.2.1,0) else(false,3)) else(false,5)
def HdEnd (x:Bool×Int)(w:World)(r:Ending)(w':World):Prop:=r= .returned (.tuple #[.bool x.1,erV x.2])∧Below w.heap.size w w'
theorem holds_box (av:Option Addr)(nv c1:Nat)(ah:Option Addr)(nh c2:Nat)(ca:List Value)(k:Int)(sh hs:List HC)(tr nr zS:Bool)(w:World)(hlen:ca.length=15)(hsh:sh.length≤100)(hbd:BoundV sh 1099511627776)(hz:Sound hs↔zS=true)
 (hr:Calls Tryd.prog 10 #[.agg (([.string ⟨#[]⟩,.slice none 0 0,.slice none 0 0]:List Value) ++ (ca ++ (zAc ++ ([.slice none 0 0]:List Value)))).toArray] (w.alloc (.cells ca.toArray 30)) (SoundEnd (!(k == 0)) (w.alloc (.cells ca.toArray 30))))
 (hck:∀W,Below w.heap.size w W→Calls Tryd.prog 13 #[.slice ah nh c2] W (ErrEnd (Sound hs) W))
 (ht:k=0→zS=true→∀W g,Below w.heap.size w W→w.heap.size≤g→TkO g (.slice av nv c1) (.slice ah nh c2) [] true none W→Calls Tryd.prog 11 #[.pointer (some ⟨g,0,none⟩),.agg ca.toArray] W (TkEnd g (.slice av nv c1) (.slice ah nh c2) sh tr none nr W)):
 Calls Tryd.prog 7 #[.agg ca.toArray,.slice av nv c1,.slice ah nh c2] w (HdEnd (hdR k zS (sh,tr,nr)) w):=by
 have HA:Hid (Below w.heap.size w (w.alloc (.cells ca.toArray 30))):=box_low
 have HB0:Hid (Below (w.alloc (.cells ca.toArray 30)).heap.size (w.alloc (.cells ca.toArray 30)) (w.alloc (.cells ca.toArray 30))):=Below.refl _ _
 have P0:=Lib.hid (fun W (hb:Below (w.alloc (.cells ca.toArray 30)).heap.size (w.alloc (.cells ca.toArray 30)) W)=>box_part (cs:=ca) (l:=ca) (o:=0) (fun i v h=>by rw[Nat.zero_add];exact h) hb)
 have L0:=Lib.hid hlen
 have HR:=Lib.hid hr
 have HTK:=Lib.hid ht
 have HCK:=Lib.hid hck
 have HZS:=Lib.hid hz
 have hfold:List.foldl (fun(cs:Array Value) (x:Value×Nat)=>cs.setIfInBounds (3+x.2) x.1) #[.string ⟨#[]⟩,.slice none 0 0,.slice none 0 0,.int .i64 0,.int .i64 0,.slice none 0 0,.slice none 0 0,.int .i64 0,.int .i64 0,.string ⟨#[]⟩,.slice none 0 0,.int .i64 0,.int .i64 0,.string ⟨#[]⟩,.slice none 0 0,.string ⟨#[]⟩,.int .i64 0,.slice none 0 0,.int .i64 0,.int .i64 0,.slice none 0 0,.slice none 0 0,.int .i64 0,.int .i64 0,.string ⟨#[]⟩,.slice none 0 0,.int .i64 0,.int .i64 0,.string ⟨#[]⟩,.slice none 0 0,.string ⟨#[]⟩,.int .i64 0,.slice none 0 0,.slice none 0 0] ca.zipIdx=(([.string ⟨#[]⟩,.slice none 0 0,.slice none 0 0]:List Value) ++ (ca ++ (zAc ++ ([.slice none 0 0]:List Value)))).toArray:=fold_at 3 ca 0 [.string ⟨#[]⟩,.slice none 0 0,.slice none 0 0] zAc (zAc ++ ([.slice none 0 0]:List Value)) rfl (by rw[hlen];rfl)
 clear hr ht hck hz
 have n1:=fun W=>Tryd.neNil W
 have n2:=fun t v W=>Tryd.neIface t v W
 go_enter Tryd.func7,Tryd.ntmps7
 go_wp2_with (first | go_skip | (refine wpList_load_w (by kernel_rfl) 30 _ rfl ⟨w.heap.size,0,none⟩ rfl ca _ (P0.out _ HB0.out) Tryd.underlying30 rfl (by rw[L0.out];kernel_rfl) ?_))
 refine HR.out.mono ?_
 rintro r w1 ⟨rfl,hb⟩
 have HB1:=Lib.hid (HB0.out.trans hb)
 have HW1:=Lib.hid (HA.out.trans (HB1.out.mono HA.out.size))
 clear hb hfold hlen
 by_cases hk:k=0
 ·have hzk:(!(k == 0))=false:=by rw[hk];rfl
  have HT:=Lib.hid (HTK.out hk)
  have HRR:Hid (hdR k zS (sh,tr,nr)=if zS=true then(if nr=true then(lowB (joinD sh) && tr,0) else(false,3)) else(false,5)):=Lib.hid (by unfold hdR;simp only[hk,true_and])
  have HC:=Lib.hid (HCK.out _ HW1.out)
  rw[hzk]
  clear hzk hk HTK HCK
  go_wp2_with fail
  refine HC.out.mono ?_
  rintro r w2 ⟨hE,hb⟩
  have HB2:=Lib.hid (HB1.out.trans (hb.mono HB1.out.size))
  have HW2:=Lib.hid (HA.out.trans (HB2.out.mono HA.out.size))
  clear hb HC HB1 HW1
  rcases hE with ⟨hS,rfl⟩ | ⟨hS,rfl⟩
  ·have ez:zS=true:=HZS.out.1 hS
   have HRR2:Hid (hdR k zS (sh,tr,nr)=if nr=true then(lowB (joinD sh) && tr,0) else(false,3)):=Lib.hid (HRR.out.trans (if_pos ez))
   have HT2:=Lib.hid (HT.out ez)
   have HW3:Hid (Below (w.alloc (.cells ca.toArray 30)).heap.size (w.alloc (.cells ca.toArray 30)) (w2.alloc (.cells #[.slice av nv c1,.slice ah nh c2,.slice none 0 0,.bool true] 59))):=Lib.hid (HB2.out.alloc HB2.out.size _)
   have HWW:=Lib.hid (HA.out.trans (HW3.out.mono HA.out.size))
   have HWG:Hid (w.heap.size≤w2.heap.size):=Lib.hid (Nat.le_trans HA.out.size HB2.out.size)
   have HC:=Lib.hid (HT2.out _ w2.heap.size HWW.out HWG.out (taker_new (heap_alloc_new w2 _)))
   clear HT HT2 HR hS ez HRR HZS
   go_wp2_with (first | go_skip | (refine wpList_load_w (by kernel_rfl) 30 _ rfl ⟨w.heap.size,0,none⟩ rfl ca _ (P0.out _ HW3.out) Tryd.underlying30 rfl (by rw[L0.out];kernel_rfl) ?_))
   refine HC.out.mono ?_
   rintro r w4 ⟨rfl,hk4,ob4,ht4,hn4⟩
   have HB4:=Lib.hid (HWW.out.trans (hk4.low.mono HWG.out))
   obtain⟨v4,h2,hrow,_⟩:=ht4.row
   obtain⟨a4,cap4,rfl,_,_,hl4,_⟩:=own_hlies rfl hrow
   have HJ:=Lib.hid (join_any sh [] (sort_said _ (by rw[List.append_nil];omega)) a4 _ cap4 none 0 0 w4 rfl rfl hsh (Nat.zero_le _) (by rw[List.append_nil];exact hbd) hl4 (fun i hi=>absurd hi (Nat.not_lt_zero _)))
   have HT4:=Lib.hid ht4
   clear hk4 ht4 hn4 hrow hl4 HC hsh hbd HW3 HWW
   cases nr with
   | false=>
     go_wp2_with fail
     go_ret2
     exact⟨by rw[HRR2.out];rfl,HB4.out⟩
   | true=>
     go_wp2_with fail
     refine HJ.out.mono ?_
     rintro r w5 ⟨v5,zs,rfl,hs5,hr5,hb5⟩
     have hjd:joinTo zs zs.length=joinD sh:=by
      have:=join_is hs5
      rwa [List.append_nil]at this
     rw[hjd]at hr5
     have HRR3:Hid (hdR k zS (sh,tr,true)=(lowB (joinD sh) && tr,0)):=Lib.hid (HRR2.out.trans (by simp))
     have HT5:=Lib.hid (HT4.out.below hb5)
     have HB5:=Lib.hid (HB4.out.trans (hb5.mono HB4.out.size))
     clear hs5 hb5 HJ hjd HRR2 HT4 h2
     generalize joinD sh=js at hr5 HRR3
     obtain⟨a5,cap5,rfl,hc5,hc5b,hl5,_⟩:=own_hlies rfl hr5
     generalize hjl:js.length=m at hc5
     have HL5:=Lib.hid hl5
     have HJL:=Lib.hid hjl
     have hmm:m≤9223372036854775807:=by omega
     have HHIT:=Lib.hid (fun j (h1:j<js.length) h2=>lowB_no (l:=js) (j:=j) h1 h2)
     have HMISS:=Lib.hid (fun h=>lowB_yes (l:=js) h)
     clear hr5 hl5 hjl
     generalize lowB js=lo at HRR3 HHIT HMISS
     go_wp2_with fail
     go_loopw [31] (fun i wr=>∃j:Nat,j≤m∧i= .int .i64 j∧Hid (∀q,q<j→(js.getD q hc0).v≤64)∧Hid (Below w5.heap.size w5 wr)) (fun i _=>m - (intOf i).toNat)
     case atStart=>exact⟨0,Nat.zero_le _,rfl,fun q h=>absurd h (Nat.not_lt_zero _),Below.refl _ _⟩
     case round=>
      obtain⟨j,hj,rfl,hno,hbr⟩:=hrel
      by_cases hlt:j<m
      ·obtain⟨b3,off3,rfl,hb3,e1,e2,e3⟩:=HL5.out j (by rw[HJL.out];exact hlt)
       have q1:=(hbr.out.cell (p:=⟨b3,_,none⟩) hb3).trans e1
       have q2:=(hbr.out.cell (p:=⟨b3,_,none⟩) hb3).trans e2
       have q3:=(hbr.out.cell (p:=⟨b3,_,none⟩) hb3).trans e3
       have HH:=Lib.hid (HHIT.out j (by rw[HJL.out];exact hlt))
       have HN:Hid ((js.getD j hc0).v≤64→∀q,q<j+1→(js.getD q hc0).v≤64):=Lib.hid fun h q hq=>by
        by_cases e:q=j
        ·rw[e];exact h
        ·exact hno.out q (by omega)
       have hji:(j:Int)<(m:Int):=by omega
       clear e1 e2 e3 hno
       generalize hxx:js.getD j hc0=x at q1 q2 q3 HH
       obtain⟨xa,xf,xv⟩:=x
       dsimp only at q1 q2 q3 HH
       have HXV:Hid ((js.getD j hc0).v=xv):=Lib.hid (by rw[hxx])
       clear hxx
       by_cases hx:xv≤64
       ·have hd:decide (xv > 64)=false:=decide_eq_false (by omega)
        have hd2:decide (64<xv)=false:=decide_eq_false (by omega)
        have HN2:=Lib.hid (HN.out (by rw[HXV.out];exact hx))
        clear hx HN HH HXV
        go_wp2_with fail
        go_roundw
        case rel=>exact⟨j+1,by omega,by go_num,HN2,Lib.hid (hbr.out.alloc hbr.out.size _)⟩
        case measure=>simp[intOf];omega
       ·have hd:decide (xv > 64)=true:=decide_eq_true (by omega)
        have hd2:decide (64<xv)=true:=decide_eq_true (by omega)
        have HLO:=Lib.hid (HH.out (by omega))
        clear hx HN HH HXV
        go_wp2_with fail
        go_ret2
        exact⟨by rw[HRR3.out,HLO.out];rfl,HB5.out.trans ((hbr.out.alloc hbr.out.size _).mono HB5.out.size)⟩
      ·obtain rfl:j=m:=by omega
       have HLO:=Lib.hid (HMISS.out (fun q hq=>hno.out q (by rw[HJL.out]at hq;exact hq)))
       have q3:=(HT5.out.below hbr.out).c3
       clear hno
       go_wp2_with fail
       go_ret2
       exact⟨by rw[HRR3.out,HLO.out];rfl,HB5.out.trans (hbr.out.mono HB5.out.size)⟩
  ·have ez:¬zS=true:=fun h=>hS (HZS.out.2 h)
   have HRR2:Hid (hdR k zS (sh,tr,nr)=(false,5)):=Lib.hid (HRR.out.trans (if_neg ez))
   clear HT HR hS ez HRR HZS
   go_wp2_with fail
   go_ret2
   exact⟨by rw[HRR2.out];rfl,HW2.out⟩
 ·have hzk:(!(k == 0))=true:=by rw[beq_eq_false_iff_ne.2 hk];rfl
  have HRR:Hid (hdR k zS (sh,tr,nr)=(false,5)):=Lib.hid (if_neg (fun h=>hk h.1))
  rw[hzk]
  clear hzk hk
  go_wp2_with fail
  go_ret2
  exact⟨by rw[HRR.out];rfl,HW1.out⟩
end
section
open Go.RowKit
theorem takA_bound {nm:ByteArray→Bool}{ρ:ByteArray→Int}{hs:List HC}:∀ {n:Nat} {a:AT},snA nm n a=true→BoundV (takA ρ hs n a).1 1099511627776
 | 0,_,h=>absurd h (by simp[snA])
 | n+1,a,h=>by
   obtain⟨hk,hkl,hkids,hsh,_⟩:=snA_parts h
   unfold takA
   have hkk:a.kind=0∨a.kind=1∨a.kind=2∨a.kind=3∨a.kind=4∨a.kind=5:=by omega
   have h0:BoundV [] 1099511627776:=fun c hc=>by cases hc
   have h2:a.kind=4∨a.kind=5→BoundV (takA ρ hs n (a.ks.getD 0 default)).1 1099511627776∧BoundV (takA ρ hs n (a.ks.getD 1 default)).1 1099511627776:=fun e=>by
    have hl2:a.ks.length=2:=by rw[hkl];unfold ksA;rw[if_pos e]
    exact⟨takA_bound (hkids _ (getD_in (by omega))),takA_bound (hkids _ (getD_in (by omega)))⟩
   rcases hkk with e | e | e | e | e | e
   ·rw[if_neg (by omega),if_neg (by omega),if_neg (by omega),if_neg (by omega)];exact h0
   ·rw[if_pos e];exact h0
   ·rw[if_neg (by omega),if_pos (.inl e)]
    unfold shA at hsh
    rw[if_pos e]at hsh
    simp only[Bool.and_eq_true,decide_eq_true_eq]at hsh
    intro c hc
    obtain rfl:=List.mem_singleton.1 hc
    show -1099511627776≤a.n∧a.n≤1099511627776
    omega
   ·rw[if_neg (by omega),if_pos (.inr e)]
    unfold shA at hsh
    rw[if_neg (by omega),if_pos e]at hsh
    simp only[Bool.and_eq_true,decide_eq_true_eq]at hsh
    intro c hc
    obtain rfl:=List.mem_singleton.1 hc
    show -1099511627776≤a.n∧a.n≤1099511627776
    omega
   ·rw[if_neg (by omega),if_neg (by omega),if_pos e]
    intro c hc
    rcases List.mem_append.1 hc with h' | h'
    ·exact(h2 (.inl e)).1 c h'
    ·exact(h2 (.inl e)).2 c h'
   ·rw[if_neg (by omega),if_neg (by omega),if_neg (by omega),if_pos e]
    split
    ·split
     ·exact(h2 (.inr e)).1
     ·exact(h2 (.inr e)).2
    ·exact h0
theorem hFoot_any (n:Nat)(a:AT)(ca:List Value)(xs:List (ByteArray×Int))(av:Option Addr)(cv:Nat)(w:World)(h:(assnSh (n+3)).rel (Pak.Lo w.heap.size) w ca a)(hx:Pak.Sits varSh (Pak.Lo w.heap.size) w av xs)(hL:Laid w)
 (hsz:akA n a=0→(takA (fun s=>varOf s xs) [] (n+3) a).1.length≤100):
 Calls Tryd.prog 6 #[.agg ca.toArray,.slice av xs.length cv] w (FtEnd (ftR (akA n a) (takA (fun s=>varOf s xs) [] (n+3) a)) w):=by
 have hlen:=((assnSh (n+3)).len h).trans (assnSh_k _)
 have hA:Below w.heap.size w (w.alloc (.cells ca.toArray 30)):=box_low
 have hr:=refused_any n a ca (.slice none 0 0) [] (.string ⟨#[]⟩) (w.alloc (.cells ca.toArray 30)) (rel_low h hA) (slot_nil _ _ _) (hL.up hA)
 by_cases hk:akA n a=0
 ·have hsn:=chk_pre hk
  exact foot_box av xs.length cv ca (akA n a) _ _ _ w hlen (hsz hk) (takA_bound hsn) hr fun _ W g hW hg hT=>
   take_any nmB xs av cv [] none 0 g (fun i hi=>absurd hi (by simp)) (by simp) (n+3) a ca [] true none W hsn
    ((assnSh (n+3)).keep (fun b (hb:b<w.heap.size)=>Nat.lt_of_lt_of_le hb hg) (fun b o (hb:b<w.heap.size)=>hW.cell (p:=⟨b,o,none⟩) hb) h) (hx.below hW hg) (fun i hi=>absurd hi (Nat.not_lt_zero _)) hT (by have:=hsz hk;rw[List.length_nil];omega)
 ·have:=foot_box av xs.length cv ca (akA n a) [] true true w hlen (Nat.zero_le _) (fun c hc=>by cases hc) hr fun h0=>absurd h0 hk
  rw[show ftR (akA n a) (takA (fun s=>varOf s xs) [] (n+3) a)=ftR (akA n a) ([],true,true) by unfold ftR;rw[if_neg hk,if_neg hk]]
  exact this
theorem hHolds_any (n:Nat)(a:AT)(ca:List Value)(xs:List (ByteArray×Int))(av:Option Addr)(cv:Nat)(hs:List HC)(ah:Option Addr)(ch:Nat)(zS:Bool)(w:World)(h:(assnSh (n+3)).rel (Pak.Lo w.heap.size) w ca a)(hx:Pak.Sits varSh (Pak.Lo w.heap.size) w av xs)(hh:HLies w.heap.size w ah hs)(hhl:hs.length≤1000000)(hz:Sound hs↔zS=true)(hL:Laid w)
 (hsz:akA n a=0→(takA (fun s=>varOf s xs) hs (n+3) a).1.length≤100):
 Calls Tryd.prog 7 #[.agg ca.toArray,.slice av xs.length cv,.slice ah hs.length ch] w (HdEnd (hdR (akA n a) zS (takA (fun s=>varOf s xs) hs (n+3) a)) w):=by
 have hlen:=((assnSh (n+3)).len h).trans (assnSh_k _)
 have hA:Below w.heap.size w (w.alloc (.cells ca.toArray 30)):=box_low
 have hr:=refused_any n a ca (.slice none 0 0) [] (.string ⟨#[]⟩) (w.alloc (.cells ca.toArray 30)) (rel_low h hA) (slot_nil _ _ _) (hL.up hA)
 have hc:=fun W (hW:Below w.heap.size w W)=>check_any hs ah hs.length ch W rfl (by omega) ((hh.below hW).mono hW.size)
 by_cases hk:akA n a=0
 ·have hsn:=chk_pre hk
  exact holds_box av xs.length cv ah hs.length ch ca (akA n a) _ hs _ _ zS w hlen (hsz hk) (takA_bound hsn) hz hr hc fun _ hzt W g hW hg hT=>
   take_any nmB xs av cv hs ah ch g (hz.2 hzt).1 hhl (n+3) a ca [] true none W hsn
    ((assnSh (n+3)).keep (fun b (hb:b<w.heap.size)=>Nat.lt_of_lt_of_le hb hg) (fun b o (hb:b<w.heap.size)=>hW.cell (p:=⟨b,o,none⟩) hb) h) (hx.below hW hg) ((hh.below hW).mono hg) hT (by have:=hsz hk;rw[List.length_nil];omega)
 ·have:=holds_box av xs.length cv ah hs.length ch ca (akA n a) [] hs true true zS w hlen (Nat.zero_le _) (fun c hc=>by cases hc) hz hr hc fun h0=>absurd h0 hk
  rw[show hdR (akA n a) zS (takA (fun s=>varOf s xs) hs (n+3) a)=hdR (akA n a) zS ([],true,true) by unfold hdR;rw[if_neg (fun h=>hk h.1),if_neg (fun h=>hk h.1)]]
  exact this
end
section
open Go.RowKit
def UpSaid18:Prop:=∀w:World,Laid w→Calls Tryd.prog 4 #[] w fun e w'=>e= .returned (.bool true)∧Below w.heap.size w w'
theorem ftR_len {k:Int}{t:List HC×Bool×Bool}{b:Nat}(h:k=0→t.1.length≤b):(ftR k t).1.length≤b:=by
 unfold ftR
 split
 ·rename_i hk
  split
  ·exact Nat.le_trans (joinD_len _) (h hk)
  ·simp
 ·simp
theorem akA_nd {n:Nat}{a:AT}{ρ:ByteArray→Int}{hs:List HC}(h:4*ndA (n+3) a≤300):akA n a=0→(takA ρ hs (n+3) a).1.length≤100:=fun hk=>by
 have:=takA_nd (ρ:=ρ) (hs:=hs) (chk_pre hk)
 omega
end
section
open Go.RowKit
def exX:ET:= .mk 1 0 ⟨#[120]⟩ []
def exE:ET:= .mk 3 0 ⟨#[]⟩ [.mk 4 2 ⟨#[]⟩ [exX],.mk 0 1 ⟨#[]⟩ []]
def exA:AT:= .mk 3 zC exX (.mk 0 7 ⟨#[]⟩ []) ⟨#[102]⟩ 32 []
def exV:List (ByteArray×Int):=[(⟨#[120]⟩,3)]
def exH:List HC:=[⟨3,⟨#[102]⟩,7⟩]
theorem exE_ck:ekE 1 exE=0:=by kernel_rfl
theorem exE_val:valE (fun s=>varOf s exV) 3 exE=(5,true):=by kernel_rfl
theorem exA_ck:akA 0 exA=0:=by kernel_rfl
theorem exA_ft:takA (fun s=>varOf s exV) [] 3 exA=([⟨3,⟨#[102]⟩,32⟩],false,true):=by kernel_rfl
theorem exA_hd:takA (fun s=>varOf s exV) exH 3 exA=([⟨3,⟨#[102]⟩,32⟩],true,true):=by kernel_rfl
theorem exH_sound:Sound exH:=⟨fun i hi=>by simp[exH]at hi,fun i hi=>by
 have h0:i=0:=by simp[exH]at hi;omega
 subst h0
 show okC ⟨3,⟨#[102]⟩,7⟩
 unfold okC
 decide⟩
end
section
open Go.RowKit
structure Five (w W:World)(o1 o2 o3 o4:Obj):Prop where
 low:Below w.heap.size w W
 n:W.heap.size=w.heap.size+1+1+1+1+1
 h1:W.heap[w.heap.size+1]? =some o1
 h2:W.heap[w.heap.size+1+1]? =some o2
 h3:W.heap[w.heap.size+1+1+1]? =some o3
 h4:W.heap[w.heap.size+1+1+1+1]? =some o4
theorem five (w:World)(o0 o1 o2 o3 o4:Obj):Five w (((((w.alloc o0).alloc o1).alloc o2).alloc o3).alloc o4) o1 o2 o3 o4:=by
 have s1:(w.alloc o0).heap.size=w.heap.size+1:=by simp
 have s2:((w.alloc o0).alloc o1).heap.size=w.heap.size+1+1:=by simp
 have s3:(((w.alloc o0).alloc o1).alloc o2).heap.size=w.heap.size+1+1+1:=by simp
 have s4:((((w.alloc o0).alloc o1).alloc o2).alloc o3).heap.size=w.heap.size+1+1+1+1:=by simp
 refine⟨((((((Below.refl _ w).alloc (Nat.le_refl _) o0).alloc (by simp) o1).alloc (by simp;omega) o2).alloc (by simp;omega) o3).alloc (by simp;omega) o4),by simp, ?_, ?_, ?_, ?_⟩
 ·rw[heap_alloc_old _ o4 (by rw[s4];omega),heap_alloc_old _ o3 (by rw[s3];omega),heap_alloc_old _ o2 (by rw[s2];omega),←s1]
  exact heap_alloc_new _ _
 ·rw[heap_alloc_old _ o4 (by rw[s4];omega),heap_alloc_old _ o3 (by rw[s3];omega),←s2]
  exact heap_alloc_new _ _
 ·rw[heap_alloc_old _ o4 (by rw[s4];omega),←s3]
  exact heap_alloc_new _ _
 ·rw[←s4]
  exact heap_alloc_new _ _
theorem exX_rel (n:Nat)(S:Nat→Prop)(w:World):(exprSh (n+1)).rel S w [.int .i64 1,.int .i64 0,.string ⟨#[120]⟩,.slice none 0 0] exX:=⟨_,rfl,⟨⟨by decide,by decide⟩,⟨by decide,by decide⟩,by decide⟩,slot_nil _ _ _⟩
theorem num_rel (n:Nat)(k:Int)(hk:i64 k)(S:Nat→Prop)(w:World):(exprSh (n+1)).rel S w [.int .i64 0,.int .i64 k,.string ⟨#[]⟩,.slice none 0 0] (.mk 0 k ⟨#[]⟩ []):=⟨_,rfl,⟨i64_0,hk,Nat.zero_le _⟩,slot_nil _ _ _⟩
def exAc:List Value:=[.int .i64 3,.int .i64 0,.slice none 0 0,.slice none 0 0,.int .i64 1,.int .i64 0,.string ⟨#[120]⟩,.slice none 0 0,.int .i64 0,.int .i64 7,.string ⟨#[]⟩,.slice none 0 0,.string ⟨#[102]⟩,.int .i64 32,.slice none 0 0]
theorem exA_rel (S:Nat→Prop)(w:World):(assnSh 3).rel S w exAc exA:=⟨zCc,[.int .i64 1,.int .i64 0,.string ⟨#[120]⟩,.slice none 0 0],[.int .i64 0,.int .i64 7,.string ⟨#[]⟩,.slice none 0 0],_,rfl,⟨⟨by decide,by decide⟩,⟨by decide,by decide⟩,by decide⟩,zC_rel 1 S w,exX_rel 1 S w,num_rel 1 7 ⟨by decide,by decide⟩ S w,slot_nil _ _ _⟩
theorem exV_sits {W:World}{g:Nat}(h:W.heap[g]? =some (.cells #[.string ⟨#[120]⟩,.int .i64 3] 48 (0,0))):Pak.Sits varSh (Pak.Lo W.heap.size) W (some ⟨g,0,none⟩) exV:=
 sits_block (cs:=[.string ⟨#[120]⟩,.int .i64 3]) h (Array.getElem?_eq_some_iff.1 h).1 ⟨rfl,by decide,⟨by decide,by decide⟩⟩
theorem exE_rel {W:World}{g3 g4:Nat}(h3:W.heap[g3]? =some (.cells #[.int .i64 1,.int .i64 0,.string ⟨#[120]⟩,.slice none 0 0] 27 (0,0)))(h4:W.heap[g4]? =some (.cells #[.int .i64 4,.int .i64 2,.string ⟨#[]⟩,.slice (some ⟨g3,0,none⟩) 1 1,.int .i64 0,.int .i64 1,.string ⟨#[]⟩,.slice none 0 0] 27 (0,0))):
 (exprSh 3).rel (Pak.Lo W.heap.size) W [.int .i64 3,.int .i64 0,.string ⟨#[]⟩,.slice (some ⟨g4,0,none⟩) 2 2] exE:=
 ⟨_,rfl,⟨⟨by decide,by decide⟩,⟨by decide,by decide⟩,by decide⟩,some ⟨g4,0,none⟩,2,rfl,
   sits_two (cs:=[.int .i64 4,.int .i64 2,.string ⟨#[]⟩,.slice (some ⟨g3,0,none⟩) 1 1]) (ds:=[.int .i64 0,.int .i64 1,.string ⟨#[]⟩,.slice none 0 0]) h4 (Array.getElem?_eq_some_iff.1 h4).1 rfl
    ⟨_,rfl,⟨⟨by decide,by decide⟩,⟨by decide,by decide⟩,by decide⟩,some ⟨g3,0,none⟩,1,rfl,sits_block (cs:=[.int .i64 1,.int .i64 0,.string ⟨#[120]⟩,.slice none 0 0]) h3 (Array.getElem?_eq_some_iff.1 h3).1 (exX_rel 0 _ _)⟩
    (num_rel 1 1 ⟨by decide,by decide⟩ _ _)⟩
theorem up_said18:UpSaid18:=fun w hL=>by
 have HLL:=Lib.hid hL
 have n2:=fun W=>Tryd.eqNil W
 have F:=Lib.hid (five w (.cells #[.int .i64 1,.int .i64 0,.string ⟨#[120]⟩,.slice none 0 0] 27) (.cells #[.string ⟨#[120]⟩,.int .i64 3] 48) (.cells exAc.toArray 30) (.cells #[.int .i64 1,.int .i64 0,.string ⟨#[120]⟩,.slice none 0 0] 27) (.cells #[.int .i64 4,.int .i64 2,.string ⟨#[]⟩,.slice (some ⟨w.heap.size+1+1+1,0,none⟩) 1 1,.int .i64 0,.int .i64 1,.string ⟨#[]⟩,.slice none 0 0] 27))
 have he:=hExpr_any 1 exE _ exV _ 1 _ (exE_rel F.out.h3 F.out.h4) (exV_sits F.out.h1) (hL.up F.out.low)
 rw[exE_ck,exE_val]at he
 have HEE:=Lib.hid he
 clear hL he
 go_enter Tryd.func4,Tryd.ntmps4
 go_wp2_with fail
 refine HEE.out.mono ?_
 rintro r w6 ⟨rfl,hb⟩
 have HW6:=Lib.hid (F.out.low.trans (hb.mono F.out.low.size))
 have hm:∀k o,(((((w.alloc (.cells #[.int .i64 1,.int .i64 0,.string ⟨#[120]⟩,.slice none 0 0] 27)).alloc (.cells #[.string ⟨#[120]⟩,.int .i64 3] 48)).alloc (.cells exAc.toArray 30)).alloc (.cells #[.int .i64 1,.int .i64 0,.string ⟨#[120]⟩,.slice none 0 0] 27)).alloc (.cells #[.int .i64 4,.int .i64 2,.string ⟨#[]⟩,.slice (some ⟨w.heap.size+1+1+1,0,none⟩) 1 1,.int .i64 0,.int .i64 1,.string ⟨#[]⟩,.slice none 0 0] 27)).heap[k]? =some o→w6.heap[k]? =some o:=fun k o h=>(hb.block k (Array.getElem?_eq_some_iff.1 h).1).trans h
 have HV6:=Lib.hid (hm _ _ F.out.h1)
 have HA6:=Lib.hid (hm _ _ F.out.h2)
 have hv:exR 0 (5,true)=(5,0):=rfl
 rw[hv]
 dsimp only
 rw[show erV 0= .nilIface from rfl]
 clear HEE hb hm hv F
 have HP:Hid (∀W,Below w6.heap.size w6 W→∀i v,exAc[i]? =some v→W.cell? ((⟨w.heap.size+1+1,0,none⟩:Addr).add i)=some v):=Lib.hid fun W hW i v hv=>by
  rw[show(⟨w.heap.size+1+1,0,none⟩:Addr).add i=⟨w.heap.size+1+1,0+i,none⟩ by unfold Addr.add;split<;>simp_all,Nat.zero_add]
  have hl:=(Array.getElem?_eq_some_iff.1 HA6.out).1
  exact(hW.cell (p:=⟨w.heap.size+1+1,i,none⟩) hl).trans ((cell_of_row _ _ _ _ _ _ HA6.out).trans (by rw[List.getElem?_toArray];exact hv))
 have HB7:Hid (Below w6.heap.size w6 (w6.alloc (.cells #[.int .i64 3,.string ⟨#[102]⟩,.int .i64 7] 45))):=box_low
 have hv7:(w6.alloc (.cells #[.int .i64 3,.string ⟨#[102]⟩,.int .i64 7] 45)).heap[w.heap.size+1]? =some (.cells #[.string ⟨#[120]⟩,.int .i64 3] 48 (0,0)):=(HB7.out.block _ (Array.getElem?_eq_some_iff.1 HV6.out).1).trans HV6.out
 have hh:=hHolds_any 0 exA exAc exV _ 1 exH (some ⟨w6.heap.size,0,none⟩) 1 true _ (exA_rel _ _) (exV_sits hv7) ((hlies_new w6 exH 45).mono (by simp)) (by decide) ⟨fun _=>rfl,fun _=>exH_sound⟩ (HLL.out.up (HW6.out.trans (HB7.out.mono HW6.out.size))) (fun _=>by rw[exA_hd];decide)
 rw[exA_ck,exA_hd]at hh
 have HHH:=Lib.hid hh
 clear hh hv7
 go_wp2_with (first | go_skip | (refine wpList_load_w (by kernel_rfl) 30 _ rfl ⟨w.heap.size+1+1,0,none⟩ rfl exAc _ (HP.out _ (Below.refl _ _)) Tryd.underlying30 rfl (by kernel_rfl) ?_))
 refine HHH.out.mono ?_
 rintro r w8 ⟨rfl,hb⟩
 have HB8:=Lib.hid (HB7.out.trans (hb.mono HB7.out.size))
 have hv8:=(HB8.out.block _ (Array.getElem?_eq_some_iff.1 HV6.out).1).trans HV6.out
 rw[show hdR 0 true ([⟨3,⟨#[102]⟩,32⟩],true,true)=(true,0) by kernel_rfl]
 dsimp only
 rw[show erV 0= .nilIface from rfl]
 have hf:=hFoot_any 0 exA exAc exV _ 1 w8 (exA_rel _ _) (exV_sits hv8) (HLL.out.up (HW6.out.trans (HB8.out.mono HW6.out.size))) (fun _=>by rw[exA_ft];decide)
 rw[exA_ck,exA_ft,show ftR 0 ([⟨3,⟨#[102]⟩,32⟩],false,true)=([⟨3,⟨#[102]⟩,32⟩],0) by kernel_rfl]at hf
 have HFF:=Lib.hid hf
 clear hb hv8 hf HHH HB7
 go_wp2_with (first | go_skip | (refine wpList_load_w (by kernel_rfl) 30 _ rfl ⟨w.heap.size+1+1,0,none⟩ rfl exAc _ (HP.out _ HB8.out) Tryd.underlying30 rfl (by kernel_rfl) ?_))
 refine HFF.out.mono ?_
 rintro r w9 ⟨v9,rfl,hs9,hb⟩
 obtain⟨a9,cap9,rfl,_,_,hl9⟩:=hs9.lies
 obtain⟨b9,off9,rfl,_,e1,e2,e3⟩:=hl9 0 (by decide)
 have HE:=Lib.hid (HW6.out.trans ((HB8.out.trans (hb.mono HB8.out.size)).mono HW6.out.size))
 have q3:w9.cell? ⟨b9,off9+2,none⟩=some (.int .i64 32):=by
  have:=e3
  rwa [show off9+0*3+2=off9+2 by omega]at this
 dsimp only
 rw[show erV 0= .nilIface from rfl]
 clear hb hs9 hl9 e1 e2 e3 HFF
 go_wp2_with fail
 go_ret
 exact⟨rfl,HE.out⟩
end
section
open Go.RowKit
def ownF (ss:List HC)(c:HC):List HC:=(ss.filter fun s=>decide (hkey s=hkey c)).map fun _=>c
def ownL (hs ss:List HC):List HC:=hs.flatMap (ownF ss)
def inS (ss:List HC)(c:HC):Bool:=ss.any fun s=>decide (hkey s=hkey c)
theorem ownF_one {ss:List HC}(c:HC)(h:Str ss):ownF ss c=if inS ss c=true then[c] else[]:=by
 induction ss with
 | nil=>rfl
 | cons s l ih=>
   obtain⟨h1,h2⟩:=List.pairwise_cons.1 h
   unfold ownF inS
   by_cases e:hkey s=hkey c
   ·have:l.filter (fun s=>decide (hkey s=hkey c))=[]:=List.filter_eq_nil_iff.2 fun x hx=>by
     have:=kl_ne (h1 x hx)
     simp
     intro e2
     exact this (e.trans e2.symm)
    simp[e,this]
   ·have hi:=ih h2
    unfold ownF inS at hi
    simp only[List.filter_cons,e,decide_false,List.any_cons,Bool.false_or]
    exact hi
theorem ownL_is {ss:List HC}(h:Str ss):∀hs:List HC,ownL hs ss=hs.filter (inS ss)
 | []=>rfl
 | c :: hs=>by
   have ih:=ownL_is h hs
   unfold ownL at ih⊢
   rw[List.flatMap_cons,ih,ownF_one c h,List.filter_cons]
   split
   ·rfl
   ·rfl
theorem ownF_len (ss:List HC)(c:HC):(ownF ss c).length≤ss.length:=by
 unfold ownF
 rw[List.length_map]
 exact List.length_filter_le _ _
theorem ownL_len (ss:List HC):∀hs:List HC,(ownL hs ss).length≤hs.length*ss.length
 | []=>by simp[ownL]
 | c :: hs=>by
   have ih:=ownL_len ss hs
   unfold ownL at ih⊢
   rw[List.flatMap_cons,List.length_append,List.length_cons,Nat.succ_mul]
   have:=ownF_len ss c
   omega
theorem stand_str {hs:List HC}:Stand hs↔Str hs:=by
 constructor
 ·intro h
  refine List.pairwise_iff_getElem.2 fun i j hi hj hij=> ?_
  have:=h.lt hij hj
  rw[List.getD_eq_getElem?_getD,List.getD_eq_getElem?_getD,List.getElem?_eq_getElem hi,List.getElem?_eq_getElem hj]at this
  exact this
 ·intro h i hi
  have:=(List.pairwise_iff_getElem.1 h) i (i+1) (by omega) hi (by omega)
  rw[List.getD_eq_getElem?_getD,List.getD_eq_getElem?_getD,List.getElem?_eq_getElem (by omega),List.getElem?_eq_getElem hi]
  exact this
theorem sound_mem {hs:List HC}:Sound hs↔Str hs∧∀c∈hs,okC c:=by
 unfold Sound
 rw[stand_str]
 refine and_congr_right fun _=>⟨fun h c hc=> ?_,fun h i hi=> ?_⟩
 ·obtain⟨i,hi,rfl⟩:=List.getElem_of_mem hc
  have:=h i hi
  rwa [List.getD_eq_getElem?_getD,List.getElem?_eq_getElem hi]at this
 ·rw[List.getD_eq_getElem?_getD,List.getElem?_eq_getElem hi]
  exact h _ (List.getElem_mem hi)
theorem sound_filter {hs:List HC}(p:HC→Bool)(h:Sound hs):Sound (hs.filter p):=by
 rw[sound_mem]at h⊢
 exact⟨h.1.filter p,fun c hc=>h.2 c (List.mem_filter.1 hc).1⟩
theorem getR_filter (p:HC→Bool)(k:Key)(hp:∀c,hkey c=k→p c=true):∀hs:List HC,getR (hs.filter p) k=getR hs k
 | []=>rfl
 | c :: hs=>by
   have ih:=getR_filter p k hp hs
   by_cases e:hkey c=k
   ·rw[List.filter_cons,if_pos (hp c e)]
    unfold getR
    rw[List.find?_cons_of_pos (by simp[e]),List.find?_cons_of_pos (by simp[e])]
   ·rw[List.filter_cons]
    split
    ·unfold getR at ih⊢
     rw[List.find?_cons_of_neg (by simp[e]),List.find?_cons_of_neg (by simp[e])]
     exact ih
    ·unfold getR at ih⊢
     rw[List.find?_cons_of_neg (l:=hs) (by simp[e])]
     exact ih
theorem takA_sh (ρ:ByteArray→Int)(hs ys:List HC):∀(n:Nat) (a:AT),(takA ρ hs n a).1=(takA ρ ys n a).1∧(takA ρ hs n a).2.2=(takA ρ ys n a).2.2
 | 0,_=>⟨rfl,rfl⟩
 | n+1,a=>by
   have i0:=takA_sh ρ hs ys n (a.ks.getD 0 default)
   have i1:=takA_sh ρ hs ys n (a.ks.getD 1 default)
   unfold takA
   split
   ·exact⟨rfl,rfl⟩
   ·split
    ·exact⟨rfl,rfl⟩
    ·split
     ·exact⟨by rw[i0.1,i1.1],by rw[i0.2,i1.2]⟩
     ·split
      ·split
       ·split
        ·exact i0
        ·exact i1
       ·exact⟨rfl,rfl⟩
      ·exact⟨rfl,rfl⟩
theorem takA_tr (ρ:ByteArray→Int)(hs ys:List HC):∀(n:Nat) (a:AT),(∀c∈(takA ρ hs n a).1,getR ys (hkey c)=getR hs (hkey c))→(takA ρ ys n a).2.1=(takA ρ hs n a).2.1
 | 0,_,_=>rfl
 | n+1,a,h=>by
   have i0:=takA_tr ρ hs ys n (a.ks.getD 0 default)
   have i1:=takA_tr ρ hs ys n (a.ks.getD 1 default)
   unfold takA at h⊢
   split
   ·rfl
   ·rename_i h1
    rw[if_neg h1]at h
    split
    ·rename_i h2
     rw[if_pos h2]at h
     have:=h _ (List.mem_singleton.2 rfl)
     have e:hkey (⟨(valE ρ n a.e).1,a.field,a.n⟩:HC)=((valE ρ n a.e).1,a.field.toList):=rfl
     rw[e]at this
     simp only[this]
    ·rename_i h2
     rw[if_neg h2]at h
     split
     ·rename_i h3
      rw[if_pos h3]at h
      show(_ && _)=(_ && _)
      rw[i0 (fun c hc=>h c (List.mem_append_left _ hc)),i1 (fun c hc=>h c (List.mem_append_right _ hc))]
     ·rename_i h3
      rw[if_neg h3]at h
      split
      ·rename_i h4
       rw[if_pos h4]at h
       split
       ·rename_i h5
        rw[if_pos h5]at h
        split
        ·rename_i h6
         rw[if_pos h6]at h
         exact i0 h
        ·rename_i h6
         rw[if_neg h6]at h
         exact i1 h
       ·rfl
      ·rfl
theorem hold_own {k:Int}{z z2:Bool}{ρ:ByteArray→Int}{hs:List HC}{n:Nat}{a:AT}(h0:(ftR k (takA ρ [] n a)).2=0)(h1:(hdR k z (takA ρ hs n a)).2=0)(hz:Sound hs↔z=true)(hz2:Sound (ownL hs (ftR k (takA ρ [] n a)).1)↔z2=true):
 hdR k z2 (takA ρ (ownL hs (ftR k (takA ρ [] n a)).1) n a)=hdR k z (takA ρ hs n a):=by
 have hk:k=0∧(takA ρ [] n a).2.2=true:=by
  unfold ftR at h0
  split at h0
  ·split at h0
   ·exact⟨by assumption,by assumption⟩
   ·simp at h0
  ·simp at h0
 have hzt:z=true:=by
  unfold hdR at h1
  split at h1
  ·rename_i h;exact h.2
  ·simp at h1
 have hsd:=hz.2 hzt
 have hf:(ftR k (takA ρ [] n a)).1=joinD (takA ρ [] n a).1:=by
  unfold ftR
  rw[if_pos hk.1,if_pos hk.2]
 rw[hf]at hz2⊢
 have hj:=fold_is (takA ρ [] n a).1 (l:=[]) List.Pairwise.nil
 have hst:Str (joinD (takA ρ [] n a).1):=hj.1
 have hhs:∀k,Hs (joinD (takA ρ [] n a).1) k↔Hs [] k∨Hs (takA ρ [] n a).1 k:=hj.2.1
 rw[ownL_is hst]at hz2⊢
 have hz2t:z2=true:=hz2.1 (sound_filter _ hsd)
 have hg:∀c∈(takA ρ hs n a).1,getR (hs.filter (inS (joinD (takA ρ [] n a).1))) (hkey c)=getR hs (hkey c):=fun c hc=>by
  refine getR_filter _ _ (fun d hd=> ?_) hs
  rw[(takA_sh ρ hs [] n a).1]at hc
  obtain⟨s,hs1,hs2⟩:=(hhs (hkey c)).2 (.inr ⟨c,hc,rfl⟩)
  exact List.any_eq_true.2 ⟨s,hs1,by simp[hs2,hd]⟩
 have ht:=takA_tr ρ hs (hs.filter (inS (joinD (takA ρ [] n a).1))) n a hg
 have hsh:=takA_sh ρ (hs.filter (inS (joinD (takA ρ [] n a).1))) hs n a
 unfold hdR
 rw[hzt,hz2t,hsh.1,hsh.2,ht]
end
section
open Go.ChangeShapes Go.WideShapes Go.RowKit Go.Deep
theorem list_ofC {α:Type}(n:Nat)(p:Nat→α→Prop)(h:∀i,i<n→∃m,p i m):∃l:List α,l.length=n∧∀i (hi:i<l.length),p i l[i]:=by
 induction n with
 | zero=>exact⟨[],rfl,fun i hi=>absurd hi (Nat.not_lt_zero i)⟩
 | succ n ih=>
   obtain⟨l,hl,hp⟩:=ih (fun i hi=>h i (by omega))
   obtain⟨m,hm⟩:=h n (by omega)
   refine⟨l ++ [m],by simp[hl],fun i hi=> ?_⟩
   by_cases e:i<l.length
   ·rw[List.getElem_append_left e];exact hp i e
   ·have e2:i=l.length:=by simp at hi;omega
    subst e2
    simp only[List.getElem_concat_length]
    rw[hl];exact hm
section
variable {H:Type} {enc:TypeId×Value→H} {w:World} {base:Nat} {spare:Nat→Bool} {held:Bool}
variable (enc w base spare held) in
def OpnAt (n:Nat){T:Type}(sh:Pak.Sh T)(e:TypeId):Prop:=∀ {cs:List Value} {x:DataW H×List MemPlace},DataW.trod enc Tryd.prog w base spare held n e cs=some x→∃y:T,sh.rel (Pak.Lo w.heap.size) w cs y
theorem open_row_at {T:Type}{sh:Pak.Sh T}{t e:TypeId}{fuel:Nat}(ht:Tryd.prog.underlying t=some (.slice e))(hk:Tryd.prog.cellsOf e=sh.k)(hpos:0<sh.k)(ho:∀n,n+1=fuel→OpnAt enc w base spare held n sh e){c:Value}{x:DataW H×List MemPlace}(h:DataW.trod enc Tryd.prog w base spare held fuel t [c]=some x):
 ∃xs,Pak.Slot sh (Pak.Lo w.heap.size) w c xs:=by
 have hf:∃n,fuel=n+1:=by
  cases fuel with
  | zero=>simp[DataW.trod]at h
  | succ n=>exact⟨n,rfl⟩
 obtain⟨n0,rfl⟩:=hf
 rcases DataW.trod_slice ht h with ⟨h0,_⟩ | ⟨a,len,cap,elems,rest,n,hn,hx,hcs,hb,hl,hm,hlen,hel,hrest⟩
 ·injection h0 with h0
  exact⟨[],none,0,h0,Pak.Sits.nil _ _ _ _⟩
 ·injection hx with hx
  obtain rfl:n0=n:=by omega
  have hp:∀i,i<len→∃y:T,∃cs',(∀j u,cs'[j]? =some u→w.cell? (a.add (i*sh.k+j))=some u)∧sh.rel (Pak.Lo w.heap.size) w cs' y:=fun i hil=>by
   have he:=hel i hil
   rw[List.getElem?_eq_getElem (by omega)]at he
   obtain⟨cs',hc,ht'⟩:=Option.bind_eq_some_iff.1 he
   obtain⟨y,hy⟩:=ho _ rfl ht'
   rw[hk]at hc
   obtain⟨_,hcl,hat⟩:=World.cells?_some hc
   refine⟨y,cs',fun j u hu=> ?_,hy⟩
   obtain⟨hj,rfl⟩:=List.getElem?_eq_some_iff.1 hu
   have:=hat j (by omega)
   rw[←Go.Deep.add_add]
   simpa [List.getElem?_eq_getElem hj]using this
  obtain⟨l,hll,hlp⟩:=list_ofC len _ hp
  obtain⟨b,off,sp⟩:=a
  have h63:maxLen=9223372036854775807:=rfl
  refine⟨l,some ⟨b,off,sp⟩,cap,by rw[hll];exact hx,⟨by omega,fun i hil=> ?_⟩⟩
  obtain⟨cs',h1,h2⟩:=hlp i hil
  have hlen:=sh.len h2
  have hc0:=h1 0 _ (List.getElem?_eq_getElem (by omega))
  have hsp:sp=none:=by
   obtain⟨cs0,h10,h20⟩:=hlp 0 (by omega)
   have hc00:=h10 0 _ (List.getElem?_eq_getElem (by have:=sh.len h20;omega))
   have:=World.cell?_spot hc00
   simpa [Addr.add]using this
  subst hsp
  rw[Go.WideShapes.add_plain]at hc0
  refine⟨b,off,cs',rfl,by simpa using block_lt_of_cell hc0,fun j u hu=> ?_,h2⟩
  have:=h1 j u hu
  rw[Go.WideShapes.add_plain]at this
  rwa [Nat.add_assoc]
end
end
section
open Go.ChangeShapes Go.WideShapes Go.RowKit Go.Deep
theorem i64_wf {x:Int}(h:(Lit.int .i64 x).wf=true):i64 x:=by
 have h2:=h
 unfold Lit.wf at h2
 rw[Bool.and_eq_true,decide_eq_true_eq,decide_eq_true_eq]at h2
 exact h2
section
variable {H:Type} {enc:TypeId×Value→H} {w:World} {base:Nat} {spare:Nat→Bool} {held:Bool}
theorem opnE:∀f,OpnAt enc w base spare held f (exprSh f) 27:=fun f=>by
 induction f using Nat.strongRecOn with
 | ind f IH=>
   intro cs x h
   obtain⟨ys,n,rfl,_,hl,hyl,hf⟩:=DataW.trod_struct Tryd.underlying27 h
   have hk:Tryd.prog.cellsOf 27=4:=by kernel_rfl
   rw[hk]at hl
   match cs,hl with
   | [c0,c1,c2,c3],_=>
     have hy:ys.length=4:=hyl
     have a0:DataW.trod enc Tryd.prog w base spare held n 3 [c0]=ys[0]? :=hf 0 _ rfl
     have a1:DataW.trod enc Tryd.prog w base spare held n 3 [c1]=ys[1]? :=hf 1 _ rfl
     have a2:DataW.trod enc Tryd.prog w base spare held n 9 [c2]=ys[2]? :=hf 2 _ rfl
     have a3:DataW.trod enc Tryd.prog w base spare held n 22 [c3]=ys[3]? :=hf 3 _ rfl
     rw[List.getElem?_eq_getElem (by omega)]at a0 a1 a2 a3
     obtain⟨z0,e0,_,w0⟩:=DataW.trod_int Tryd.underlying3 a0
     obtain⟨z1,e1,_,w1⟩:=DataW.trod_int Tryd.underlying3 a1
     obtain⟨s2,e2,_,w2⟩:=DataW.trod_string Tryd.underlying9 a2
     injection e0 with e0
     injection e1 with e1
     injection e2 with e2
     subst e0 e1 e2
     obtain⟨ks,hks⟩:=open_row_at (sh:=exprSh n) Tryd.underlying22 (by rw[exprSh_k];kernel_rfl) (by rw[exprSh_k];decide) (fun m hm=>by
      intro cs' x' h'
      obtain⟨y,hy'⟩:=IH m (by omega) h'
      rw[←hm]
      exact⟨y,exprSh_up m hy'⟩) a3
     exact⟨.mk z0 z1 s2 ks,_,rfl,⟨i64_wf w0,i64_wf w1,w2⟩,hks⟩
theorem slotE {n:Nat}{c:Value}{x:DataW H×List MemPlace}(h:DataW.trod enc Tryd.prog w base spare held n 22 [c]=some x):∃ks,Pak.Slot (exprSh n) (Pak.Lo w.heap.size) w c ks:=
 open_row_at (sh:=exprSh n) Tryd.underlying22 (by rw[exprSh_k];kernel_rfl) (by rw[exprSh_k];decide) (fun m hm=>by
  intro cs' x' h'
  obtain⟨y,hy'⟩:=opnE m h'
  rw[←hm]
  exact⟨y,exprSh_up m hy'⟩) h
theorem opnC:∀f,OpnAt enc w base spare held f (condSh f) 25:=fun f=>by
 induction f using Nat.strongRecOn with
 | ind f IH=>
   intro cs x h
   obtain⟨ys,n,rfl,_,hl,hyl,hf⟩:=DataW.trod_struct Tryd.underlying25 h
   have hk:Tryd.prog.cellsOf 25=3:=by kernel_rfl
   rw[hk]at hl
   match cs,hl with
   | [c0,c1,c2],_=>
     have hy:ys.length=3:=hyl
     have a0:DataW.trod enc Tryd.prog w base spare held n 3 [c0]=ys[0]? :=hf 0 _ rfl
     have a1:DataW.trod enc Tryd.prog w base spare held n 22 [c1]=ys[1]? :=hf 1 _ rfl
     have a2:DataW.trod enc Tryd.prog w base spare held n 23 [c2]=ys[2]? :=hf 2 _ rfl
     rw[List.getElem?_eq_getElem (by omega)]at a0 a1 a2
     obtain⟨z0,e0,_,w0⟩:=DataW.trod_int Tryd.underlying3 a0
     injection e0 with e0
     subst e0
     obtain⟨es,hes⟩:=slotE a1
     obtain⟨ks,hks⟩:=open_row_at (sh:=condSh n) Tryd.underlying23 (by rw[condSh_k];kernel_rfl) (by rw[condSh_k];decide) (fun m hm=>by
      intro cs' x' h'
      obtain⟨y,hy'⟩:=IH m (by omega) h'
      rw[←hm]
      exact⟨y,condSh_up m hy'⟩) a2
     exact⟨.mk z0 es ks,_,_,rfl,i64_wf w0,hes,hks⟩
theorem opnA:∀f,OpnAt enc w base spare held f (assnSh f) 30:=fun f=>by
 induction f using Nat.strongRecOn with
 | ind f IH=>
   intro cs x h
   obtain⟨ys,n,rfl,_,hl,hyl,hf⟩:=DataW.trod_struct Tryd.underlying30 h
   have hk:Tryd.prog.cellsOf 30=15:=by kernel_rfl
   rw[hk]at hl
   match cs,hl with
   | [c0,c1,c2,c3,c4,c5,c6,c7,c8,c9,c10,c11,c12,c13,c14],_=>
     have hy:ys.length=7:=hyl
     have a0:DataW.trod enc Tryd.prog w base spare held n 3 [c0]=ys[0]? :=hf 0 _ rfl
     have a1:DataW.trod enc Tryd.prog w base spare held n 25 [c1,c2,c3]=ys[1]? :=hf 1 _ rfl
     have a2:DataW.trod enc Tryd.prog w base spare held n 27 [c4,c5,c6,c7]=ys[2]? :=hf 2 _ rfl
     have a3:DataW.trod enc Tryd.prog w base spare held n 27 [c8,c9,c10,c11]=ys[3]? :=hf 3 _ rfl
     have a4:DataW.trod enc Tryd.prog w base spare held n 9 [c12]=ys[4]? :=hf 4 _ rfl
     have a5:DataW.trod enc Tryd.prog w base spare held n 3 [c13]=ys[5]? :=hf 5 _ rfl
     have a6:DataW.trod enc Tryd.prog w base spare held n 28 [c14]=ys[6]? :=hf 6 _ rfl
     rw[List.getElem?_eq_getElem (by omega)]at a0 a1 a2 a3 a4 a5 a6
     obtain⟨z0,e0,_,w0⟩:=DataW.trod_int Tryd.underlying3 a0
     obtain⟨z5,e5,_,w5⟩:=DataW.trod_int Tryd.underlying3 a5
     obtain⟨s4,e4,_,w4⟩:=DataW.trod_string Tryd.underlying9 a4
     injection e0 with e0
     injection e4 with e4
     injection e5 with e5
     subst e0 e4 e5
     obtain⟨yc,hc⟩:=opnC n a1
     obtain⟨ye,he⟩:=opnE n a2
     obtain⟨yv,hv⟩:=opnE n a3
     obtain⟨ks,hks⟩:=open_row_at (sh:=assnSh n) Tryd.underlying28 (by rw[assnSh_k];kernel_rfl) (by rw[assnSh_k];decide) (fun m hm=>by
      intro cs' x' h'
      obtain⟨y,hy'⟩:=IH m (by omega) h'
      rw[←hm]
      exact⟨y,assnSh_up m hy'⟩) a6
     exact⟨.mk z0 yc ye yv s4 z5 ks,_,_,_,_,rfl,⟨i64_wf w0,i64_wf w5,w4⟩,hc,he,hv,hks⟩
theorem opnVar (f:Nat):OpnAt enc w base spare held f varSh 48:=by
 intro cs x h
 obtain⟨ys,n,rfl,_,hl,hyl,hf⟩:=DataW.trod_struct Tryd.underlying48 h
 have hk:Tryd.prog.cellsOf 48=2:=by kernel_rfl
 rw[hk]at hl
 match cs,hl with
 | [c0,c1],_=>
   have hy:ys.length=2:=hyl
   have a0:DataW.trod enc Tryd.prog w base spare held n 9 [c0]=ys[0]? :=hf 0 _ rfl
   have a1:DataW.trod enc Tryd.prog w base spare held n 3 [c1]=ys[1]? :=hf 1 _ rfl
   rw[List.getElem?_eq_getElem (by omega)]at a0 a1
   obtain⟨s0,e0,_,w0⟩:=DataW.trod_string Tryd.underlying9 a0
   obtain⟨z1,e1,_,w1⟩:=DataW.trod_int Tryd.underlying3 a1
   injection e0 with e0
   injection e1 with e1
   subst e0 e1
   exact⟨(s0,z1),rfl,w0,i64_wf w1⟩
theorem slotVar {n:Nat}{c:Value}{x:DataW H×List MemPlace}(h:DataW.trod enc Tryd.prog w base spare held n 31 [c]=some x):∃xs,Pak.Slot varSh (Pak.Lo w.heap.size) w c xs:=
 open_row_at (sh:=varSh) Tryd.underlying31 (by kernel_rfl) (by decide) (fun m _=>opnVar m) h
end
end
section
open Go.ChangeShapes Go.WideShapes Go.RowKit Go.Deep
def cellSh:Pak.Sh HC where
 k:=3
 rel:=fun _ _ cs x=>cs=[.int .i64 x.a,.string x.f,.int .i64 x.v]
 len:=fun h=>by rw[h];rfl
 one:=fun h u hu=>by rw[h]at hu;simp at hu;rcases hu with rfl | rfl | rfl<;>rfl
 keep:=fun _ _ h=>h
theorem hlies_of {B:Nat}{w:World}{a:Option Addr}{xs:List HC}(h:Pak.Sits cellSh (Pak.Lo B) w a xs):HLies B w a xs:=fun i hi=>by
 obtain⟨b,off,cs,e,hb,hc,hr⟩:=h.2 i hi
 obtain rfl:cs=_:=hr
 have e0:xs.getD i hc0=xs[i]:=by rw[List.getD_eq_getElem?_getD,List.getElem?_eq_getElem hi];rfl
 rw[e0]
 exact⟨b,off,e,hb,hc 0 _ rfl,hc 1 _ rfl,hc 2 _ rfl⟩
section
variable {H:Type} {enc:TypeId×Value→H} {w:World} {base:Nat} {spare:Nat→Bool} {held:Bool}
theorem opnCell (f:Nat):OpnAt enc w base spare held f cellSh 45:=by
 intro cs x h
 obtain⟨ys,n,rfl,_,hl,hyl,hf⟩:=DataW.trod_struct Tryd.underlying45 h
 have hk:Tryd.prog.cellsOf 45=3:=by kernel_rfl
 rw[hk]at hl
 match cs,hl with
 | [c0,c1,c2],_=>
   have hy:ys.length=3:=hyl
   have a0:DataW.trod enc Tryd.prog w base spare held n 3 [c0]=ys[0]? :=hf 0 _ rfl
   have a1:DataW.trod enc Tryd.prog w base spare held n 9 [c1]=ys[1]? :=hf 1 _ rfl
   have a2:DataW.trod enc Tryd.prog w base spare held n 3 [c2]=ys[2]? :=hf 2 _ rfl
   rw[List.getElem?_eq_getElem (by omega)]at a0 a1 a2
   obtain⟨z0,e0,_,w0⟩:=DataW.trod_int Tryd.underlying3 a0
   obtain⟨s1,e1,_,w1⟩:=DataW.trod_string Tryd.underlying9 a1
   obtain⟨z2,e2,_,w2⟩:=DataW.trod_int Tryd.underlying3 a2
   injection e0 with e0
   injection e1 with e1
   injection e2 with e2
   subst e0 e1 e2
   exact⟨⟨z0,s1,z2⟩,rfl⟩
theorem open_assn {r:Reach}{b0:Nat}{v:Value}{d:DataW H}{p:List MemPlace}(hv:Value.okWide Tryd.prog w r b0 30 v)(h:DataW.Trod enc Tryd.prog w base spare held 30 v d p):
 ∃n ca y,v= .agg ca.toArray∧(assnSh (n+3)).rel (Pak.Lo w.heap.size) w ca y:=by
 obtain⟨cs,rfl,hsz⟩:=okWide_struct Tryd.underlying30 hv
 obtain⟨fuel,hf⟩:=h
 obtain⟨y,hy⟩:=opnA fuel hf
 exact⟨fuel,cs.toList,y,by simp,assnSh_up _ (assnSh_up _ (assnSh_up _ hy))⟩
theorem open_vars {r:Reach}{b0:Nat}{v:Value}{d:DataW H}{p:List MemPlace}(hv:Value.okWide Tryd.prog w r b0 31 v)(h:DataW.Trod enc Tryd.prog w base spare held 31 v d p):
 ∃a m cap xs,v= .slice a m cap∧xs.length=m∧Pak.Sits varSh (Pak.Lo w.heap.size) w a xs:=by
 obtain⟨a,len,cap,rfl⟩:=okWide_slice Tryd.underlying31 hv
 obtain⟨fuel,hf⟩:=h
 obtain⟨xs,a2,cap2,e,hs⟩:=slotVar (c:= .slice a len cap) hf
 injection e with e1 e2 e3
 subst e1 e2 e3
 exact⟨a,_,cap,xs,rfl,rfl,hs⟩
theorem open_cells {r:Reach}{b0:Nat}{v:Value}{d:DataW H}{p:List MemPlace}(hv:Value.okWide Tryd.prog w r b0 32 v)(h:DataW.Trod enc Tryd.prog w base spare held 32 v d p):
 ∃a m cap xs,v= .slice a m cap∧xs.length=m∧HLies w.heap.size w a xs:=by
 obtain⟨a,len,cap,rfl⟩:=okWide_slice Tryd.underlying32 hv
 obtain⟨fuel,hf⟩:=h
 obtain⟨xs,a2,cap2,e,hs⟩:=open_row_at (sh:=cellSh) (c:= .slice a len cap) Tryd.underlying32 (by kernel_rfl) (by decide) (fun m _=>opnCell m) hf
 injection e with e1 e2 e3
 subst e1 e2 e3
 exact⟨a,_,cap,xs,rfl,rfl,hlies_of hs⟩
end
end
end Go.Proofs.YtfinhpfjokpcfaaDoor
