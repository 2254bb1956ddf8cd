/- Parts of a proof. -/
import Derived.Test.YtfinhpfjokpcfaaGreatDoorQ02
import Derived.Test.YtfinhpfjokpcfaaGreatDoorQ03
import Derived.Test.YtfinhpfjokpcfaaGreatDoorQ04
import Derived.Test.YtfinhpfjokpcfaaGreatDoorQ06
import Derived.Test.YtfinhpfjokpcfaaGreatDoorQ14
import Derived.Test.YtfinhpfjokpcfaaGreatDoorQ30
import Derived.Test.YtfinhpfjokpcfaaGreatDoorQ31
import Derived.Test.YtfinhpfjokpcfaaGreatDoorQ32
set_option linter.unusedVariables false
set_option linter.unusedSimpArgs false
set_option maxHeartbeats 60000000
set_option maxRecDepth 100000
namespace Go.Proofs.YtfinhpfjokpcfaaGreatDoor
section
open Go.RowKit
theorem fold_at (o:Nat):∀(l:List Value) (k:Nat) (P R T:List Value),P.length=o+k→R.length=l.length→List.foldl (fun(cs:Array Value) (x:Value×Nat)=>cs.setIfInBounds (o+x.2) x.1) (P ++ (R ++ T)).toArray (l.zipIdx k)=(P ++ (l ++ T)).toArray
 | [],k,P,R,T,hp,h=>by rw[List.eq_nil_of_length_eq_zero h];rfl
 | x :: l,k,P,[],T,hp,h=>by cases h
 | x :: l,k,P,y :: R,T,hp,h=>by
   rw[List.zipIdx_cons,List.foldl_cons]
   have e:((P ++ (y :: R ++ T)).toArray).setIfInBounds (o+k) x=((P ++ [x]) ++ (R ++ T)).toArray:=by
    rw[List.setIfInBounds_toArray]
    congr 1
    rw[←hp,List.set_append_right _ _ (Nat.le_refl _),Nat.sub_self,List.cons_append,List.set_cons_zero]
    simp
   rw[e,fold_at o l (k+1) (P ++ [x]) R T (by rw[List.length_append,hp];simp;omega) (by simpa using h)]
   simp
theorem SRow.mono {B B':Nat}{xs:List HC}{v:Value}{w:World}(h:SRow B xs v w)(hB:B'≤B):SRow B' xs v w:=by
 refine⟨h.1, ?_⟩
 rcases h.2 with h0 | ⟨g,cap,cur,e,hb,hr⟩
 ·exact .inl h0
 ·exact .inr ⟨g,cap,cur,e,Nat.le_trans hB hb,hr⟩
def ftR (k:Int)(t:List HC×Bool×Bool):List HC×Int:=if k=0 then(if t.2.2=true then(joinD t.1,0) else([],3)) else([],5)
def FtEnd (x:List HC×Int)(w:World)(r:Ending)(w':World):Prop:=∃v,r= .returned (.tuple #[v,erV x.2])∧SRow w.heap.size x.1 v w'∧Below w.heap.size w w'
theorem taker_new {W:World}{g:Nat}{vv cv:Value}(h:W.heap[g]? =some (.cells #[vv,cv,.slice none 0 0,.bool true] 80 (0,0))):TkO g vv cv [] true none W:=
 ⟨(cell_of_row _ _ _ _ _ _ h).trans rfl,(cell_of_row _ _ _ _ _ _ h).trans rfl,⟨_,(cell_of_row _ _ _ _ _ _ h).trans rfl,SRow.nil _ _,rfl⟩,(cell_of_row _ _ _ _ _ _ h).trans rfl,fun o=>by
   unfold World.frozen?;rw[h];simp⟩
theorem foot_box (av:Option Addr)(nv c1:Nat)(ca:List Value)(k:Int)(sh:List HC)(tr nr:Bool)(w:World)(hlen:ca.length=15)(hsh:sh.length≤100)(hbd:BoundV sh 1099511627776)
 (hr:Calls Tryz.prog 21 #[.agg (([.string ⟨#[]⟩,.slice none 0 0,.slice none 0 0]:List Value) ++ (ca ++ (zAc ++ ([.slice none 0 0]:List Value)))).toArray] (w.alloc (.cells ca.toArray 33)) (SoundEnd (!(k == 0)) (w.alloc (.cells ca.toArray 33))))
 (ht:k=0→∀W g,Below w.heap.size w W→w.heap.size≤g→TkO g (.slice av nv c1) (.slice none 0 0) [] true none W→Calls Tryz.prog 28 #[.pointer (some ⟨g,0,none⟩),.agg ca.toArray] W (TkEnd g (.slice av nv c1) (.slice none 0 0) sh tr none nr W)):
 Calls Tryz.prog 14 #[.agg ca.toArray,.slice av nv c1] w (FtEnd (ftR k (sh,tr,nr)) w):=by
 have HA:Hid (Below w.heap.size w (w.alloc (.cells ca.toArray 33))):=box_low
 have HB0:Hid (Below (w.alloc (.cells ca.toArray 33)).heap.size (w.alloc (.cells ca.toArray 33)) (w.alloc (.cells ca.toArray 33))):=Below.refl _ _
 have P0:=Lib.hid (fun W (hb:Below (w.alloc (.cells ca.toArray 33)).heap.size (w.alloc (.cells ca.toArray 33)) W)=>box_part (cs:=ca) (l:=ca) (o:=0) (fun i v h=>by rw[Nat.zero_add];exact h) hb)
 have L0:=Lib.hid hlen
 have HR:=Lib.hid hr
 have HTK:=Lib.hid ht
 have hfold:List.foldl (fun(cs:Array Value) (x:Value×Nat)=>cs.setIfInBounds (3+x.2) x.1) #[.string ⟨#[]⟩,.slice none 0 0,.slice none 0 0,.int .i64 0,.int .i64 0,.slice none 0 0,.slice none 0 0,.int .i64 0,.int .i64 0,.string ⟨#[]⟩,.slice none 0 0,.int .i64 0,.int .i64 0,.string ⟨#[]⟩,.slice none 0 0,.string ⟨#[]⟩,.int .i64 0,.slice none 0 0,.int .i64 0,.int .i64 0,.slice none 0 0,.slice none 0 0,.int .i64 0,.int .i64 0,.string ⟨#[]⟩,.slice none 0 0,.int .i64 0,.int .i64 0,.string ⟨#[]⟩,.slice none 0 0,.string ⟨#[]⟩,.int .i64 0,.slice none 0 0,.slice none 0 0] ca.zipIdx=(([.string ⟨#[]⟩,.slice none 0 0,.slice none 0 0]:List Value) ++ (ca ++ (zAc ++ ([.slice none 0 0]:List Value)))).toArray:=fold_at 3 ca 0 [.string ⟨#[]⟩,.slice none 0 0,.slice none 0 0] zAc (zAc ++ ([.slice none 0 0]:List Value)) rfl (by rw[hlen];rfl)
 clear hr ht
 go_enter Tryz.func14,Tryz.ntmps14
 go_wp2_with (first | go_skip | (refine wpList_load_w (by kernel_rfl) 33 _ rfl ⟨w.heap.size,0,none⟩ rfl ca _ (P0.out _ HB0.out) Tryz.underlying33 rfl (by rw[L0.out];kernel_rfl) ?_))
 refine HR.out.mono ?_
 rintro r w2 ⟨rfl,hb⟩
 have HB2:=Lib.hid (HB0.out.trans hb)
 clear hb hfold hlen
 by_cases hk:k=0
 ·have HT:=Lib.hid (HTK.out hk)
  have hz:(!(k == 0))=false:=by rw[hk];rfl
  have HRR:Hid (ftR k (sh,tr,nr)=if nr=true then(joinD sh,0) else([],3)):=Lib.hid (if_pos hk)
  rw[hz]
  clear hz hk
  have HW3:Hid (Below (w.alloc (.cells ca.toArray 33)).heap.size (w.alloc (.cells ca.toArray 33)) (w2.alloc (.cells #[.slice av nv c1,.slice none 0 0,.slice none 0 0,.bool true] 80))):=Lib.hid (HB2.out.alloc HB2.out.size _)
  have HWW:=Lib.hid (HA.out.trans (HW3.out.mono HA.out.size))
  have HWG:Hid (w.heap.size≤w2.heap.size):=Lib.hid (Nat.le_trans HA.out.size HB2.out.size)
  have HC:=Lib.hid (HT.out _ w2.heap.size HWW.out HWG.out (taker_new (heap_alloc_new w2 _)))
  clear HT HTK HR
  go_wp2_with (first | go_skip | (refine wpList_load_w (by kernel_rfl) 33 _ rfl ⟨w.heap.size,0,none⟩ rfl ca _ (P0.out _ HW3.out) Tryz.underlying33 rfl (by rw[L0.out];kernel_rfl) ?_))
  refine HC.out.mono ?_
  rintro r w4 ⟨rfl,hk4,ob4,ht4,hn4⟩
  have HB4:=Lib.hid (HWW.out.trans (hk4.low.mono HWG.out))
  obtain⟨v4,h2,hrow,_⟩:=ht4.row
  obtain⟨a4,cap4,rfl,_,_,hl4,_⟩:=own_hlies rfl hrow
  have HJ:=Lib.hid (join_any sh [] (sort_said _ (by rw[List.append_nil];omega)) a4 _ cap4 none 0 0 w4 rfl rfl hsh (Nat.zero_le _) (by rw[List.append_nil];exact hbd) hl4 (fun i hi=>absurd hi (Nat.not_lt_zero _)))
  clear hk4 ht4 hn4 hrow hl4 HC hsh hbd
  cases nr with
  | false=>
    go_wp2_with fail
    go_ret2
    exact⟨_,by rw[HRR.out];rfl,by rw[HRR.out];exact SRow.nil _ _,HB4.out⟩
  | true=>
    go_wp2_with fail
    refine HJ.out.mono ?_
    rintro r w5 ⟨v5,zs,rfl,hs5,hr5,hb5⟩
    have HE:Hid (SRow w.heap.size (joinD sh) v5 w5∧Below w.heap.size w w5):=Lib.hid ⟨by
     have:=join_is hs5
     rw[List.append_nil]at this
     rw[←this]
     exact hr5.mono HB4.out.size,HB4.out.trans (hb5.mono HB4.out.size)⟩
    clear hs5 hr5 hb5 HJ
    go_wp2_with fail
    go_ret2
    exact⟨_,by rw[HRR.out];rfl,by rw[HRR.out];exact HE.out.1,HE.out.2⟩
 ·have hz:(!(k == 0))=true:=by rw[beq_eq_false_iff_ne.2 hk];rfl
  have HRR:Hid (ftR k (sh,tr,nr)=([],5)):=Lib.hid (if_neg hk)
  rw[hz]
  clear hz hk
  go_wp2_with fail
  go_ret2
  exact⟨_,by rw[HRR.out];rfl,by rw[HRR.out];exact SRow.nil _ _,HA.out.trans (HB2.out.mono HA.out.size)⟩
end
section
open Go.RowKit
def lowB (l:List HC):Bool:=l.all fun c=>decide (c.v≤64)
theorem lowB_yes {l:List HC}(h:∀j,j<l.length→(l.getD j hc0).v≤64):lowB l=true:=by
 unfold lowB
 rw[List.all_eq_true]
 intro c hc
 obtain⟨i,hi,rfl⟩:=List.getElem_of_mem hc
 have:=h i hi
 rw[List.getD_eq_getElem?_getD,List.getElem?_eq_getElem hi]at this
 exact decide_eq_true this
theorem lowB_no {l:List HC}{j:Nat}(hj:j<l.length)(h:¬(l.getD j hc0).v≤64):lowB l=false:=by
 unfold lowB
 rw[List.all_eq_false]
 exact⟨_,getD_memH hj,by simpa using h⟩
def hdR (k:Int)(z:Bool)(t:List HC×Bool×Bool):Bool×Int:=if k=0∧z=true then(if t.2.2=true then(lowB (joinD t.1) && t.2.1,0) else(false,3)) else(false,5)
def HdEnd (x:Bool×Int)(w:World)(r:Ending)(w':World):Prop:=r= .returned (.tuple #[.bool x.1,erV x.2])∧Below w.heap.size w w'
theorem holds_box (av:Option Addr)(nv c1:Nat)(ah:Option Addr)(nh c2:Nat)(ca:List Value)(k:Int)(sh hs:List HC)(tr nr zS:Bool)(w:World)(hlen:ca.length=15)(hsh:sh.length≤100)(hbd:BoundV sh 1099511627776)(hz:Sound hs↔zS=true)
 (hr:Calls Tryz.prog 21 #[.agg (([.string ⟨#[]⟩,.slice none 0 0,.slice none 0 0]:List Value) ++ (ca ++ (zAc ++ ([.slice none 0 0]:List Value)))).toArray] (w.alloc (.cells ca.toArray 33)) (SoundEnd (!(k == 0)) (w.alloc (.cells ca.toArray 33))))
 (hck:∀W,Below w.heap.size w W→Calls Tryz.prog 30 #[.slice ah nh c2] W (ErrEnd (Sound hs) W))
 (ht:k=0→zS=true→∀W g,Below w.heap.size w W→w.heap.size≤g→TkO g (.slice av nv c1) (.slice ah nh c2) [] true none W→Calls Tryz.prog 28 #[.pointer (some ⟨g,0,none⟩),.agg ca.toArray] W (TkEnd g (.slice av nv c1) (.slice ah nh c2) sh tr none nr W)):
 Calls Tryz.prog 15 #[.agg ca.toArray,.slice av nv c1,.slice ah nh c2] w (HdEnd (hdR k zS (sh,tr,nr)) w):=by
 have HA:Hid (Below w.heap.size w (w.alloc (.cells ca.toArray 33))):=box_low
 have HB0:Hid (Below (w.alloc (.cells ca.toArray 33)).heap.size (w.alloc (.cells ca.toArray 33)) (w.alloc (.cells ca.toArray 33))):=Below.refl _ _
 have P0:=Lib.hid (fun W (hb:Below (w.alloc (.cells ca.toArray 33)).heap.size (w.alloc (.cells ca.toArray 33)) W)=>box_part (cs:=ca) (l:=ca) (o:=0) (fun i v h=>by rw[Nat.zero_add];exact h) hb)
 have L0:=Lib.hid hlen
 have HR:=Lib.hid hr
 have HTK:=Lib.hid ht
 have HCK:=Lib.hid hck
 have HZS:=Lib.hid hz
 have hfold:List.foldl (fun(cs:Array Value) (x:Value×Nat)=>cs.setIfInBounds (3+x.2) x.1) #[.string ⟨#[]⟩,.slice none 0 0,.slice none 0 0,.int .i64 0,.int .i64 0,.slice none 0 0,.slice none 0 0,.int .i64 0,.int .i64 0,.string ⟨#[]⟩,.slice none 0 0,.int .i64 0,.int .i64 0,.string ⟨#[]⟩,.slice none 0 0,.string ⟨#[]⟩,.int .i64 0,.slice none 0 0,.int .i64 0,.int .i64 0,.slice none 0 0,.slice none 0 0,.int .i64 0,.int .i64 0,.string ⟨#[]⟩,.slice none 0 0,.int .i64 0,.int .i64 0,.string ⟨#[]⟩,.slice none 0 0,.string ⟨#[]⟩,.int .i64 0,.slice none 0 0,.slice none 0 0] ca.zipIdx=(([.string ⟨#[]⟩,.slice none 0 0,.slice none 0 0]:List Value) ++ (ca ++ (zAc ++ ([.slice none 0 0]:List Value)))).toArray:=fold_at 3 ca 0 [.string ⟨#[]⟩,.slice none 0 0,.slice none 0 0] zAc (zAc ++ ([.slice none 0 0]:List Value)) rfl (by rw[hlen];rfl)
 clear hr ht hck hz
 have n1:=fun W=>Tryz.neNil W
 have n2:=fun t v W=>Tryz.neIface t v W
 go_enter Tryz.func15,Tryz.ntmps15
 go_wp2_with (first | go_skip | (refine wpList_load_w (by kernel_rfl) 33 _ rfl ⟨w.heap.size,0,none⟩ rfl ca _ (P0.out _ HB0.out) Tryz.underlying33 rfl (by rw[L0.out];kernel_rfl) ?_))
 refine HR.out.mono ?_
 rintro r w1 ⟨rfl,hb⟩
 have HB1:=Lib.hid (HB0.out.trans hb)
 have HW1:=Lib.hid (HA.out.trans (HB1.out.mono HA.out.size))
 clear hb hfold hlen
 by_cases hk:k=0
 ·have hzk:(!(k == 0))=false:=by rw[hk];rfl
  have HT:=Lib.hid (HTK.out hk)
  have HRR:Hid (hdR k zS (sh,tr,nr)=if zS=true then(if nr=true then(lowB (joinD sh) && tr,0) else(false,3)) else(false,5)):=Lib.hid (by unfold hdR;simp only[hk,true_and])
  have HC:=Lib.hid (HCK.out _ HW1.out)
  rw[hzk]
  clear hzk hk HTK HCK
  go_wp2_with fail
  refine HC.out.mono ?_
  rintro r w2 ⟨hE,hb⟩
  have HB2:=Lib.hid (HB1.out.trans (hb.mono HB1.out.size))
  have HW2:=Lib.hid (HA.out.trans (HB2.out.mono HA.out.size))
  clear hb HC HB1 HW1
  rcases hE with ⟨hS,rfl⟩ | ⟨hS,rfl⟩
  ·have ez:zS=true:=HZS.out.1 hS
   have HRR2:Hid (hdR k zS (sh,tr,nr)=if nr=true then(lowB (joinD sh) && tr,0) else(false,3)):=Lib.hid (HRR.out.trans (if_pos ez))
   have HT2:=Lib.hid (HT.out ez)
   have HW3:Hid (Below (w.alloc (.cells ca.toArray 33)).heap.size (w.alloc (.cells ca.toArray 33)) (w2.alloc (.cells #[.slice av nv c1,.slice ah nh c2,.slice none 0 0,.bool true] 80))):=Lib.hid (HB2.out.alloc HB2.out.size _)
   have HWW:=Lib.hid (HA.out.trans (HW3.out.mono HA.out.size))
   have HWG:Hid (w.heap.size≤w2.heap.size):=Lib.hid (Nat.le_trans HA.out.size HB2.out.size)
   have HC:=Lib.hid (HT2.out _ w2.heap.size HWW.out HWG.out (taker_new (heap_alloc_new w2 _)))
   clear HT HT2 HR hS ez HRR HZS
   go_wp2_with (first | go_skip | (refine wpList_load_w (by kernel_rfl) 33 _ rfl ⟨w.heap.size,0,none⟩ rfl ca _ (P0.out _ HW3.out) Tryz.underlying33 rfl (by rw[L0.out];kernel_rfl) ?_))
   refine HC.out.mono ?_
   rintro r w4 ⟨rfl,hk4,ob4,ht4,hn4⟩
   have HB4:=Lib.hid (HWW.out.trans (hk4.low.mono HWG.out))
   obtain⟨v4,h2,hrow,_⟩:=ht4.row
   obtain⟨a4,cap4,rfl,_,_,hl4,_⟩:=own_hlies rfl hrow
   have HJ:=Lib.hid (join_any sh [] (sort_said _ (by rw[List.append_nil];omega)) a4 _ cap4 none 0 0 w4 rfl rfl hsh (Nat.zero_le _) (by rw[List.append_nil];exact hbd) hl4 (fun i hi=>absurd hi (Nat.not_lt_zero _)))
   have HT4:=Lib.hid ht4
   clear hk4 ht4 hn4 hrow hl4 HC hsh hbd HW3 HWW
   cases nr with
   | false=>
     go_wp2_with fail
     go_ret2
     exact⟨by rw[HRR2.out];rfl,HB4.out⟩
   | true=>
     go_wp2_with fail
     refine HJ.out.mono ?_
     rintro r w5 ⟨v5,zs,rfl,hs5,hr5,hb5⟩
     have hjd:joinTo zs zs.length=joinD sh:=by
      have:=join_is hs5
      rwa [List.append_nil]at this
     rw[hjd]at hr5
     have HRR3:Hid (hdR k zS (sh,tr,true)=(lowB (joinD sh) && tr,0)):=Lib.hid (HRR2.out.trans (by simp))
     have HT5:=Lib.hid (HT4.out.below hb5)
     have HB5:=Lib.hid (HB4.out.trans (hb5.mono HB4.out.size))
     clear hs5 hb5 HJ hjd HRR2 HT4 h2
     generalize joinD sh=js at hr5 HRR3
     obtain⟨a5,cap5,rfl,hc5,hc5b,hl5,_⟩:=own_hlies rfl hr5
     generalize hjl:js.length=m at hc5
     have HL5:=Lib.hid hl5
     have HJL:=Lib.hid hjl
     have hmm:m≤9223372036854775807:=by omega
     have HHIT:=Lib.hid (fun j (h1:j<js.length) h2=>lowB_no (l:=js) (j:=j) h1 h2)
     have HMISS:=Lib.hid (fun h=>lowB_yes (l:=js) h)
     clear hr5 hl5 hjl
     generalize lowB js=lo at HRR3 HHIT HMISS
     go_wp2_with fail
     go_loopw [31] (fun i wr=>∃j:Nat,j≤m∧i= .int .i64 j∧Hid (∀q,q<j→(js.getD q hc0).v≤64)∧Hid (Below w5.heap.size w5 wr)) (fun i _=>m - (intOf i).toNat)
     case atStart=>exact⟨0,Nat.zero_le _,rfl,fun q h=>absurd h (Nat.not_lt_zero _),Below.refl _ _⟩
     case round=>
      obtain⟨j,hj,rfl,hno,hbr⟩:=hrel
      by_cases hlt:j<m
      ·obtain⟨b3,off3,rfl,hb3,e1,e2,e3⟩:=HL5.out j (by rw[HJL.out];exact hlt)
       have q1:=(hbr.out.cell (p:=⟨b3,_,none⟩) hb3).trans e1
       have q2:=(hbr.out.cell (p:=⟨b3,_,none⟩) hb3).trans e2
       have q3:=(hbr.out.cell (p:=⟨b3,_,none⟩) hb3).trans e3
       have HH:=Lib.hid (HHIT.out j (by rw[HJL.out];exact hlt))
       have HN:Hid ((js.getD j hc0).v≤64→∀q,q<j+1→(js.getD q hc0).v≤64):=Lib.hid fun h q hq=>by
        by_cases e:q=j
        ·rw[e];exact h
        ·exact hno.out q (by omega)
       have hji:(j:Int)<(m:Int):=by omega
       clear e1 e2 e3 hno
       generalize hxx:js.getD j hc0=x at q1 q2 q3 HH
       obtain⟨xa,xf,xv⟩:=x
       dsimp only at q1 q2 q3 HH
       have HXV:Hid ((js.getD j hc0).v=xv):=Lib.hid (by rw[hxx])
       clear hxx
       by_cases hx:xv≤64
       ·have hd:decide (xv > 64)=false:=decide_eq_false (by omega)
        have hd2:decide (64<xv)=false:=decide_eq_false (by omega)
        have HN2:=Lib.hid (HN.out (by rw[HXV.out];exact hx))
        clear hx HN HH HXV
        go_wp2_with fail
        go_roundw
        case rel=>exact⟨j+1,by omega,by go_num,HN2,Lib.hid (hbr.out.alloc hbr.out.size _)⟩
        case measure=>simp[intOf];omega
       ·have hd:decide (xv > 64)=true:=decide_eq_true (by omega)
        have hd2:decide (64<xv)=true:=decide_eq_true (by omega)
        have HLO:=Lib.hid (HH.out (by omega))
        clear hx HN HH HXV
        go_wp2_with fail
        go_ret2
        exact⟨by rw[HRR3.out,HLO.out];rfl,HB5.out.trans ((hbr.out.alloc hbr.out.size _).mono HB5.out.size)⟩
      ·obtain rfl:j=m:=by omega
       have HLO:=Lib.hid (HMISS.out (fun q hq=>hno.out q (by rw[HJL.out]at hq;exact hq)))
       have q3:=(HT5.out.below hbr.out).c3
       clear hno
       go_wp2_with fail
       go_ret2
       exact⟨by rw[HRR3.out,HLO.out];rfl,HB5.out.trans (hbr.out.mono HB5.out.size)⟩
  ·have ez:¬zS=true:=fun h=>hS (HZS.out.2 h)
   have HRR2:Hid (hdR k zS (sh,tr,nr)=(false,5)):=Lib.hid (HRR.out.trans (if_neg ez))
   clear HT HR hS ez HRR HZS
   go_wp2_with fail
   go_ret2
   exact⟨by rw[HRR2.out];rfl,HW2.out⟩
 ·have hzk:(!(k == 0))=true:=by rw[beq_eq_false_iff_ne.2 hk];rfl
  have HRR:Hid (hdR k zS (sh,tr,nr)=(false,5)):=Lib.hid (if_neg (fun h=>hk h.1))
  rw[hzk]
  clear hzk hk
  go_wp2_with fail
  go_ret2
  exact⟨by rw[HRR.out];rfl,HW1.out⟩
end
section
open Go.RowKit
theorem takA_bound {nm:ByteArray→Bool}{ρ:ByteArray→Int}{hs:List HC}:∀ {n:Nat} {a:AT},snA nm n a=true→BoundV (takA ρ hs n a).1 1099511627776
 | 0,_,h=>absurd h (by simp[snA])
 | n+1,a,h=>by
   obtain⟨hk,hkl,hkids,hsh,_⟩:=snA_parts h
   unfold takA
   have hkk:a.kind=0∨a.kind=1∨a.kind=2∨a.kind=3∨a.kind=4∨a.kind=5:=by omega
   have h0:BoundV [] 1099511627776:=fun c hc=>by cases hc
   have h2:a.kind=4∨a.kind=5→BoundV (takA ρ hs n (a.ks.getD 0 default)).1 1099511627776∧BoundV (takA ρ hs n (a.ks.getD 1 default)).1 1099511627776:=fun e=>by
    have hl2:a.ks.length=2:=by rw[hkl];unfold ksA;rw[if_pos e]
    exact⟨takA_bound (hkids _ (getD_in (by omega))),takA_bound (hkids _ (getD_in (by omega)))⟩
   rcases hkk with e | e | e | e | e | e
   ·rw[if_neg (by omega),if_neg (by omega),if_neg (by omega),if_neg (by omega)];exact h0
   ·rw[if_pos e];exact h0
   ·rw[if_neg (by omega),if_pos (.inl e)]
    unfold shA at hsh
    rw[if_pos e]at hsh
    simp only[Bool.and_eq_true,decide_eq_true_eq]at hsh
    intro c hc
    obtain rfl:=List.mem_singleton.1 hc
    show -1099511627776≤a.n∧a.n≤1099511627776
    omega
   ·rw[if_neg (by omega),if_pos (.inr e)]
    unfold shA at hsh
    rw[if_neg (by omega),if_pos e]at hsh
    simp only[Bool.and_eq_true,decide_eq_true_eq]at hsh
    intro c hc
    obtain rfl:=List.mem_singleton.1 hc
    show -1099511627776≤a.n∧a.n≤1099511627776
    omega
   ·rw[if_neg (by omega),if_neg (by omega),if_pos e]
    intro c hc
    rcases List.mem_append.1 hc with h' | h'
    ·exact(h2 (.inl e)).1 c h'
    ·exact(h2 (.inl e)).2 c h'
   ·rw[if_neg (by omega),if_neg (by omega),if_neg (by omega),if_pos e]
    split
    ·split
     ·exact(h2 (.inr e)).1
     ·exact(h2 (.inr e)).2
    ·exact h0
theorem hFoot_any (n:Nat)(a:AT)(ca:List Value)(xs:List (ByteArray×Int))(av:Option Addr)(cv:Nat)(w:World)(h:(assnSh (n+3)).rel (Pak.Lo w.heap.size) w ca a)(hx:Pak.Sits varSh (Pak.Lo w.heap.size) w av xs)(hL:Laid w)
 (hsz:akA n a=0→(takA (fun s=>varOf s xs) [] (n+3) a).1.length≤100):
 Calls Tryz.prog 14 #[.agg ca.toArray,.slice av xs.length cv] w (FtEnd (ftR (akA n a) (takA (fun s=>varOf s xs) [] (n+3) a)) w):=by
 have hlen:=((assnSh (n+3)).len h).trans (assnSh_k _)
 have hA:Below w.heap.size w (w.alloc (.cells ca.toArray 33)):=box_low
 have hr:=refused_any n a ca (.slice none 0 0) [] (.string ⟨#[]⟩) (w.alloc (.cells ca.toArray 33)) (rel_low h hA) (slot_nil _ _ _) (hL.up hA)
 by_cases hk:akA n a=0
 ·have hsn:=chk_pre hk
  exact foot_box av xs.length cv ca (akA n a) _ _ _ w hlen (hsz hk) (takA_bound hsn) hr fun _ W g hW hg hT=>
   take_any nmB xs av cv [] none 0 g (fun i hi=>absurd hi (by simp)) (by simp) (n+3) a ca [] true none W hsn
    ((assnSh (n+3)).keep (fun b (hb:b<w.heap.size)=>Nat.lt_of_lt_of_le hb hg) (fun b o (hb:b<w.heap.size)=>hW.cell (p:=⟨b,o,none⟩) hb) h) (hx.below hW hg) (fun i hi=>absurd hi (Nat.not_lt_zero _)) hT (by have:=hsz hk;rw[List.length_nil];omega)
 ·have:=foot_box av xs.length cv ca (akA n a) [] true true w hlen (Nat.zero_le _) (fun c hc=>by cases hc) hr fun h0=>absurd h0 hk
  rw[show ftR (akA n a) (takA (fun s=>varOf s xs) [] (n+3) a)=ftR (akA n a) ([],true,true) by unfold ftR;rw[if_neg hk,if_neg hk]]
  exact this
theorem hHolds_any (n:Nat)(a:AT)(ca:List Value)(xs:List (ByteArray×Int))(av:Option Addr)(cv:Nat)(hs:List HC)(ah:Option Addr)(ch:Nat)(zS:Bool)(w:World)(h:(assnSh (n+3)).rel (Pak.Lo w.heap.size) w ca a)(hx:Pak.Sits varSh (Pak.Lo w.heap.size) w av xs)(hh:HLies w.heap.size w ah hs)(hhl:hs.length≤1000000)(hz:Sound hs↔zS=true)(hL:Laid w)
 (hsz:akA n a=0→(takA (fun s=>varOf s xs) hs (n+3) a).1.length≤100):
 Calls Tryz.prog 15 #[.agg ca.toArray,.slice av xs.length cv,.slice ah hs.length ch] w (HdEnd (hdR (akA n a) zS (takA (fun s=>varOf s xs) hs (n+3) a)) w):=by
 have hlen:=((assnSh (n+3)).len h).trans (assnSh_k _)
 have hA:Below w.heap.size w (w.alloc (.cells ca.toArray 33)):=box_low
 have hr:=refused_any n a ca (.slice none 0 0) [] (.string ⟨#[]⟩) (w.alloc (.cells ca.toArray 33)) (rel_low h hA) (slot_nil _ _ _) (hL.up hA)
 have hc:=fun W (hW:Below w.heap.size w W)=>check_any hs ah hs.length ch W rfl (by omega) ((hh.below hW).mono hW.size)
 by_cases hk:akA n a=0
 ·have hsn:=chk_pre hk
  exact holds_box av xs.length cv ah hs.length ch ca (akA n a) _ hs _ _ zS w hlen (hsz hk) (takA_bound hsn) hz hr hc fun _ hzt W g hW hg hT=>
   take_any nmB xs av cv hs ah ch g (hz.2 hzt).1 hhl (n+3) a ca [] true none W hsn
    ((assnSh (n+3)).keep (fun b (hb:b<w.heap.size)=>Nat.lt_of_lt_of_le hb hg) (fun b o (hb:b<w.heap.size)=>hW.cell (p:=⟨b,o,none⟩) hb) h) (hx.below hW hg) ((hh.below hW).mono hg) hT (by have:=hsz hk;rw[List.length_nil];omega)
 ·have:=holds_box av xs.length cv ah hs.length ch ca (akA n a) [] hs true true zS w hlen (Nat.zero_le _) (fun c hc=>by cases hc) hz hr hc fun h0=>absurd h0 hk
  rw[show hdR (akA n a) zS (takA (fun s=>varOf s xs) hs (n+3) a)=hdR (akA n a) zS ([],true,true) by unfold hdR;rw[if_neg (fun h=>hk h.1),if_neg (fun h=>hk h.1)]]
  exact this
end
section
open Go.RowKit
theorem joinD_is (xs:List HC):Str (joinD xs)∧(∀k,Hs (joinD xs) k↔Hs xs k)∧(∀k,tot (joinD xs) k=tot xs k):=by
 obtain⟨h1,h2,h3⟩:=fold_is xs (l:=[]) List.Pairwise.nil
 refine⟨h1,fun k=> ?_,fun k=> ?_⟩
 ·rw[show joinD xs=xs.foldl (fun l s=>addD s false l) [] from rfl,h2 k]
  exact⟨fun h=>h.elim (fun h=>absurd h hs_nil) id,.inr⟩
 ·rw[show joinD xs=xs.foldl (fun l s=>addD s false l) [] from rfl,h3 k]
  simp[tot]
theorem hs_append {l m:List HC}{k:Key}:Hs (l ++ m) k↔Hs l k∨Hs m k:=
 ⟨fun⟨c,h1,h2⟩=>(List.mem_append.1 h1).elim (fun h=> .inl ⟨c,h,h2⟩) (fun h=> .inr ⟨c,h,h2⟩),fun h=>h.elim (fun⟨c,h1,h2⟩=>⟨c,List.mem_append.2 (.inl h1),h2⟩) (fun⟨c,h1,h2⟩=>⟨c,List.mem_append.2 (.inr h1),h2⟩)⟩
theorem joinD_join (xs ys:List HC):joinD (joinD xs ++ joinD ys)=joinD (xs ++ ys):=by
 obtain⟨a1,a2,a3⟩:=joinD_is (joinD xs ++ joinD ys)
 obtain⟨b1,b2,b3⟩:=joinD_is (xs ++ ys)
 refine str_unique a1 b1 (fun k=> ?_) (fun k=> ?_)
 ·rw[a2 k,b2 k,hs_append,hs_append,(joinD_is xs).2.1 k,(joinD_is ys).2.1 k]
 ·rw[a3 k,b3 k,tot_append,tot_append,(joinD_is xs).2.2 k,(joinD_is ys).2.2 k]
theorem rget_is {hs:List HC}{k:Key}{x:Int}{b:Bool}(h:RGetIs hs k x b):(x,b)=getR hs k:=by
 unfold getR
 cases h with
 | yes i hi hk hno=>
   have e:hs.find? (fun c=>decide (hkey c=k))=some (hs.getD i hc0):=by
    rw[List.find?_eq_some_iff_getElem]
    refine⟨by simpa using hk,i,hi,by rw[List.getD_eq_getElem?_getD,List.getElem?_eq_getElem hi];rfl,fun j hj=> ?_⟩
    have hj2:j<hs.length:=by omega
    have h2:=hno j hj
    rw[List.getD_eq_getElem?_getD,List.getElem?_eq_getElem hj2]at h2
    simpa using h2
   rw[e]
 | no hno=>
   have e:hs.find? (fun c=>decide (hkey c=k))=none:=List.find?_eq_none.2 fun c hc=>by
    obtain⟨i,hi,rfl⟩:=List.getElem_of_mem hc
    have:=hno i hi
    rw[List.getD_eq_getElem?_getD,List.getElem?_eq_getElem hi]at this
    simpa using this
   rw[e]
def RTk (sh:List HC)(b z:Bool)(w:World)(r:Ending)(w':World):Prop:=∃v b',r= .returned (.tuple #[v,.bool b',.bool z])∧SRow w.heap.size sh v w'∧(z=true→b'=b)∧Below w.heap.size w w'
theorem srow_one {B:Nat}{w:World}(c:HC)(hB:B≤w.heap.size):SRow B [c] (.slice (some ⟨w.heap.size,0,none⟩) 1 1) (w.alloc (.cells #[.int .i64 c.a,.string c.f,.int .i64 c.v] 62)):=
 ⟨rfl,.inr ⟨w.heap.size,1,_,rfl,hB,heap_alloc_new w _,Nat.le_refl _,by unfold maxLen;omega,rfl,rfl⟩⟩
theorem rtake_0 (av ah:Option Addr)(nv nh c1 c2:Nat)(ca:List Value)(w:World)(hlen:ca.length=15)(q0:ca[0]? =some (.int .i64 0)):
 Calls Tryz.prog 31 #[.agg ca.toArray,.slice av nv c1,.slice ah nh c2] w ( RTk [] true true w):=by
 have HA:Hid (Below w.heap.size w (w.alloc (.cells ca.toArray 33))):=box_low
 have HB0:Hid (Below (w.alloc (.cells ca.toArray 33)).heap.size (w.alloc (.cells ca.toArray 33)) (w.alloc (.cells ca.toArray 33))):=Below.refl _ _
 have L0:=Lib.hid hlen
 have Q0:=Lib.hid (fun W (hb:Below (w.alloc (.cells ca.toArray 33)).heap.size (w.alloc (.cells ca.toArray 33)) W)=>box_at q0 hb)
 have k0:=Q0.out _ HB0.out
 clear hlen q0
 go_enter Tryz.func31,Tryz.ntmps31
 go_wp2_with fail
 go_ret3
 exact⟨_,_,rfl,SRow.nil _ _,fun _=>rfl,HA.out⟩
theorem rtake_1 (av ah:Option Addr)(nv nh c1 c2:Nat)(ca:List Value)(w:World)(hlen:ca.length=15)(q0:ca[0]? =some (.int .i64 1))(cc:List Value)(l1:cc.length=3)(p1:Part ca 1 cc)(t z:Bool)(x:∀W,Below w.heap.size w W→Calls Tryz.prog 26 #[.agg cc.toArray,.slice av nv c1] W (RTru (t,z) W)):
 Calls Tryz.prog 31 #[.agg ca.toArray,.slice av nv c1,.slice ah nh c2] w (RTk [] t z w):=by
 have HA:Hid (Below w.heap.size w (w.alloc (.cells ca.toArray 33))):=box_low
 have HB0:Hid (Below (w.alloc (.cells ca.toArray 33)).heap.size (w.alloc (.cells ca.toArray 33)) (w.alloc (.cells ca.toArray 33))):=Below.refl _ _
 have L0:=Lib.hid hlen
 have Q0:=Lib.hid (fun W (hb:Below (w.alloc (.cells ca.toArray 33)).heap.size (w.alloc (.cells ca.toArray 33)) W)=>box_at q0 hb)
 have k0:=Q0.out _ HB0.out
 have P1:=Lib.hid (fun W (hb:Below (w.alloc (.cells ca.toArray 33)).heap.size (w.alloc (.cells ca.toArray 33)) W)=>box_part p1 hb)
 have L1:=Lib.hid l1
 have X:=Lib.hid x
 clear hlen q0 x p1 l1
 go_enter Tryz.func31,Tryz.ntmps31
 go_wp2_with (first | go_skip | (refine wpList_load_w (by kernel_rfl) 27 _ rfl ⟨w.heap.size,1,none⟩ rfl cc _ (P1.out _ HB0.out) Tryz.underlying27 rfl (by rw[L1.out];kernel_rfl) ?_))
 refine(X.out _ HA.out).mono ?_
 rintro r w1 ⟨b1,rfl,hbt,hb⟩
 have H1:=Lib.hid (HB0.out.trans hb)
 have W1:=Lib.hid (HA.out.trans (H1.out.mono HA.out.size))
 have HBT:=Lib.hid hbt
 clear hb hbt k0 X
 go_wp2_with fail
 go_ret3
 exact⟨_,_,rfl,SRow.nil _ _,HBT.out,W1.out⟩
theorem rtake_2 (av ah:Option Addr)(nv nh c1 c2:Nat)(ca:List Value)(w:World)(hlen:ca.length=15)(q0:ca[0]? =some (.int .i64 2))(hs:List HC)(N addr val:Int)(f:ByteArray)(z0 z1:Bool)(ce cx:List Value)(p1:Part ca 4 ce)(p2:Part ca 8 cx)(q12:ca[12]? =some (.string f))(q13:ca[13]? =some (.int .i64 N))(l1:ce.length=4)(l2:cx.length=4)(x0:ValAll 25 #[.agg ce.toArray,.slice av nv c1] (.tuple #[.int .i64 addr,.bool z0]) w)(x1:ValAll 25 #[.agg cx.toArray,.slice av nv c1] (.tuple #[.int .i64 val,.bool z1]) w)(x2:∀W,Below w.heap.size w W→Calls Tryz.prog 46 #[.slice ah nh c2,.int .i64 addr,.string f] W (RGetEnd hs (addr,f.toList) W)):
 Calls Tryz.prog 31 #[.agg ca.toArray,.slice av nv c1,.slice ah nh c2] w (RTk [⟨addr,f,N⟩] ((getR hs (addr,f.toList)).2 && ((2:Int) == 2 || (getR hs (addr,f.toList)).1 == val)) (z0 && z1) w):=by
 have HA:Hid (Below w.heap.size w (w.alloc (.cells ca.toArray 33))):=box_low
 have HB0:Hid (Below (w.alloc (.cells ca.toArray 33)).heap.size (w.alloc (.cells ca.toArray 33)) (w.alloc (.cells ca.toArray 33))):=Below.refl _ _
 have L0:=Lib.hid hlen
 have Q0:=Lib.hid (fun W (hb:Below (w.alloc (.cells ca.toArray 33)).heap.size (w.alloc (.cells ca.toArray 33)) W)=>box_at q0 hb)
 have k0:=Q0.out _ HB0.out
 have P1:=Lib.hid (fun W (hb:Below (w.alloc (.cells ca.toArray 33)).heap.size (w.alloc (.cells ca.toArray 33)) W)=>box_part p1 hb)
 have P2:=Lib.hid (fun W (hb:Below (w.alloc (.cells ca.toArray 33)).heap.size (w.alloc (.cells ca.toArray 33)) W)=>box_part p2 hb)
 have Q12:=Lib.hid (fun W (hb:Below (w.alloc (.cells ca.toArray 33)).heap.size (w.alloc (.cells ca.toArray 33)) W)=>box_at q12 hb)
 have Q13:=Lib.hid (fun W (hb:Below (w.alloc (.cells ca.toArray 33)).heap.size (w.alloc (.cells ca.toArray 33)) W)=>box_at q13 hb)
 have L1:=Lib.hid l1
 have L2:=Lib.hid l2
 have X0:=Lib.hid x0
 have X1:=Lib.hid x1
 have X2:=Lib.hid x2
 clear hlen q0 p1 p2 q12 q13 l1 l2 x0 x1 x2
 go_enter Tryz.func31,Tryz.ntmps31
 go_wp2_with (first | go_skip | (refine wpList_load_w (by kernel_rfl) 24 _ rfl ⟨w.heap.size,4,none⟩ rfl ce _ (P1.out _ HB0.out) Tryz.underlying24 rfl (by rw[L1.out];kernel_rfl) ?_))
 refine(X0.out _ HA.out).mono ?_
 rintro r w1 ⟨rfl,hb⟩
 have H1:=Lib.hid (HB0.out.trans hb)
 have W1:=Lib.hid (HA.out.trans (H1.out.mono HA.out.size))
 clear hb k0 X0
 go_wp2_with (first | go_skip | (refine wpList_load_w (by kernel_rfl) 24 _ rfl ⟨w.heap.size,8,none⟩ rfl cx _ (P2.out _ H1.out) Tryz.underlying24 rfl (by rw[L2.out];kernel_rfl) ?_))
 refine(X1.out _ W1.out).mono ?_
 rintro r w2 ⟨rfl,hb⟩
 have H2:=Lib.hid (H1.out.trans (hb.mono H1.out.size))
 have W2:=Lib.hid (HA.out.trans (H2.out.mono HA.out.size))
 have k12:=Q12.out _ H2.out
 clear hb X1
 go_wp2_with fail
 refine(X2.out _ W2.out).mono ?_
 rintro r w3 ⟨gv,gb,rfl,hgi,hb⟩
 have H3:=Lib.hid (H2.out.trans (hb.mono H2.out.size))
 have W3:=Lib.hid (HA.out.trans (H3.out.mono HA.out.size))
 have HGI:=Lib.hid (rget_is hgi)
 have k12:=Q12.out _ H3.out
 have k13:=Q13.out _ H3.out
 have k0:=Q0.out _ H3.out
 have HE:Hid (SRow w.heap.size [⟨addr,f,N⟩] (.slice (some ⟨w3.heap.size,0,none⟩) 1 1) (w3.alloc (.cells #[.int .i64 addr,.string f,.int .i64 N] 62))∧Below w.heap.size w (w3.alloc (.cells #[.int .i64 addr,.string f,.int .i64 N] 62))):=Lib.hid ⟨srow_one ⟨addr,f,N⟩ W3.out.size,W3.out.alloc W3.out.size _⟩
 have k0a:(w3.alloc (.cells #[.int .i64 addr,.string f,.int .i64 N] 62)).cell? ⟨w.heap.size,0,none⟩=some (.int .i64 2):=Q0.out _ (H3.out.alloc H3.out.size _)
 clear hb hgi X2
 cases gb<;>cases z0<;>(
  go_wp2_with fail
  go_ret3
  exact⟨_,_,rfl,HE.out.1,fun _=>(by rw[←HGI.out];simp),HE.out.2⟩)
theorem rtake_3 (av ah:Option Addr)(nv nh c1 c2:Nat)(ca:List Value)(w:World)(hlen:ca.length=15)(q0:ca[0]? =some (.int .i64 3))(hs:List HC)(N addr val:Int)(f:ByteArray)(z0 z1:Bool)(ce cx:List Value)(p1:Part ca 4 ce)(p2:Part ca 8 cx)(q12:ca[12]? =some (.string f))(q13:ca[13]? =some (.int .i64 N))(l1:ce.length=4)(l2:cx.length=4)(x0:ValAll 25 #[.agg ce.toArray,.slice av nv c1] (.tuple #[.int .i64 addr,.bool z0]) w)(x1:ValAll 25 #[.agg cx.toArray,.slice av nv c1] (.tuple #[.int .i64 val,.bool z1]) w)(x2:∀W,Below w.heap.size w W→Calls Tryz.prog 46 #[.slice ah nh c2,.int .i64 addr,.string f] W (RGetEnd hs (addr,f.toList) W)):
 Calls Tryz.prog 31 #[.agg ca.toArray,.slice av nv c1,.slice ah nh c2] w (RTk [⟨addr,f,N⟩] ((getR hs (addr,f.toList)).2 && ((3:Int) == 2 || (getR hs (addr,f.toList)).1 == val)) (z0 && z1) w):=by
 have HA:Hid (Below w.heap.size w (w.alloc (.cells ca.toArray 33))):=box_low
 have HB0:Hid (Below (w.alloc (.cells ca.toArray 33)).heap.size (w.alloc (.cells ca.toArray 33)) (w.alloc (.cells ca.toArray 33))):=Below.refl _ _
 have L0:=Lib.hid hlen
 have Q0:=Lib.hid (fun W (hb:Below (w.alloc (.cells ca.toArray 33)).heap.size (w.alloc (.cells ca.toArray 33)) W)=>box_at q0 hb)
 have k0:=Q0.out _ HB0.out
 have P1:=Lib.hid (fun W (hb:Below (w.alloc (.cells ca.toArray 33)).heap.size (w.alloc (.cells ca.toArray 33)) W)=>box_part p1 hb)
 have P2:=Lib.hid (fun W (hb:Below (w.alloc (.cells ca.toArray 33)).heap.size (w.alloc (.cells ca.toArray 33)) W)=>box_part p2 hb)
 have Q12:=Lib.hid (fun W (hb:Below (w.alloc (.cells ca.toArray 33)).heap.size (w.alloc (.cells ca.toArray 33)) W)=>box_at q12 hb)
 have Q13:=Lib.hid (fun W (hb:Below (w.alloc (.cells ca.toArray 33)).heap.size (w.alloc (.cells ca.toArray 33)) W)=>box_at q13 hb)
 have L1:=Lib.hid l1
 have L2:=Lib.hid l2
 have X0:=Lib.hid x0
 have X1:=Lib.hid x1
 have X2:=Lib.hid x2
 clear hlen q0 p1 p2 q12 q13 l1 l2 x0 x1 x2
 go_enter Tryz.func31,Tryz.ntmps31
 go_wp2_with (first | go_skip | (refine wpList_load_w (by kernel_rfl) 24 _ rfl ⟨w.heap.size,4,none⟩ rfl ce _ (P1.out _ HB0.out) Tryz.underlying24 rfl (by rw[L1.out];kernel_rfl) ?_))
 refine(X0.out _ HA.out).mono ?_
 rintro r w1 ⟨rfl,hb⟩
 have H1:=Lib.hid (HB0.out.trans hb)
 have W1:=Lib.hid (HA.out.trans (H1.out.mono HA.out.size))
 clear hb k0 X0
 go_wp2_with (first | go_skip | (refine wpList_load_w (by kernel_rfl) 24 _ rfl ⟨w.heap.size,8,none⟩ rfl cx _ (P2.out _ H1.out) Tryz.underlying24 rfl (by rw[L2.out];kernel_rfl) ?_))
 refine(X1.out _ W1.out).mono ?_
 rintro r w2 ⟨rfl,hb⟩
 have H2:=Lib.hid (H1.out.trans (hb.mono H1.out.size))
 have W2:=Lib.hid (HA.out.trans (H2.out.mono HA.out.size))
 have k12:=Q12.out _ H2.out
 clear hb X1
 go_wp2_with fail
 refine(X2.out _ W2.out).mono ?_
 rintro r w3 ⟨gv,gb,rfl,hgi,hb⟩
 have H3:=Lib.hid (H2.out.trans (hb.mono H2.out.size))
 have W3:=Lib.hid (HA.out.trans (H3.out.mono HA.out.size))
 have HGI:=Lib.hid (rget_is hgi)
 have k12:=Q12.out _ H3.out
 have k13:=Q13.out _ H3.out
 have k0:=Q0.out _ H3.out
 have HE:Hid (SRow w.heap.size [⟨addr,f,N⟩] (.slice (some ⟨w3.heap.size,0,none⟩) 1 1) (w3.alloc (.cells #[.int .i64 addr,.string f,.int .i64 N] 62))∧Below w.heap.size w (w3.alloc (.cells #[.int .i64 addr,.string f,.int .i64 N] 62))):=Lib.hid ⟨srow_one ⟨addr,f,N⟩ W3.out.size,W3.out.alloc W3.out.size _⟩
 have k0a:(w3.alloc (.cells #[.int .i64 addr,.string f,.int .i64 N] 62)).cell? ⟨w.heap.size,0,none⟩=some (.int .i64 3):=Q0.out _ (H3.out.alloc H3.out.size _)
 clear hb hgi X2
 cases gb<;>cases z0<;>(
  go_wp2_with fail
  go_ret3
  exact⟨_,_,rfl,HE.out.1,fun _=>(by rw[←HGI.out];simp),HE.out.2⟩)
theorem rtake_4 (av ah:Option Addr)(nv nh c1 c2:Nat)(ca:List Value)(w:World)(hlen:ca.length=15)(q0:ca[0]? =some (.int .i64 4))(b off cap:Nat)(hq:ca[14]? =some (.slice (some ⟨b,off,none⟩) 2 cap))(hbg:b<w.heap.size)(d0 d1:List Value)(e0:d0.length=15)(e1:d1.length=15)(m0:∀j v,d0[j]? =some v→w.cell? ((⟨b,off,none⟩:Addr).add j)=some v)(m1:∀j v,d1[j]? =some v→w.cell? ((⟨b,off+15,none⟩:Addr).add j)=some v)(xs ys:List HC)(h0 h1 z0 z1:Bool)(hxl:xs.length≤100)(hyl:ys.length≤100)(hbx:BoundV (xs ++ ys) 1099511627776)(x0:∀W,Below w.heap.size w W→Calls Tryz.prog 31 #[.agg d0.toArray,.slice av nv c1,.slice ah nh c2] W (RTk xs h0 z0 W))(x1:∀W,Below w.heap.size w W→Calls Tryz.prog 31 #[.agg d1.toArray,.slice av nv c1,.slice ah nh c2] W (RTk ys h1 z1 W)):
 Calls Tryz.prog 31 #[.agg ca.toArray,.slice av nv c1,.slice ah nh c2] w (RTk (joinD (xs ++ ys)) (h0 && h1) (z0 && z1) w):=by
 have HA:Hid (Below w.heap.size w (w.alloc (.cells ca.toArray 33))):=box_low
 have HB0:Hid (Below (w.alloc (.cells ca.toArray 33)).heap.size (w.alloc (.cells ca.toArray 33)) (w.alloc (.cells ca.toArray 33))):=Below.refl _ _
 have L0:=Lib.hid hlen
 have Q0:=Lib.hid (fun W (hb:Below (w.alloc (.cells ca.toArray 33)).heap.size (w.alloc (.cells ca.toArray 33)) W)=>box_at q0 hb)
 have k0:=Q0.out _ HB0.out
 have D0:=Lib.hid e0
 have D1:=Lib.hid e1
 have HBG:=Lib.hid hbg
 have Q14:=Lib.hid (fun W (hb:Below (w.alloc (.cells ca.toArray 33)).heap.size (w.alloc (.cells ca.toArray 33)) W)=>box_at hq hb)
 have M0:Hid (∀W,Below w.heap.size w W→∀j v,d0[j]? =some v→W.cell? ((⟨b,off,none⟩:Addr).add j)=some v):=Lib.hid fun W hW j v hv=>by
  have:=m0 j v hv
  rw[show(⟨b,off,none⟩:Addr).add j=⟨b,off+j,none⟩ by unfold Addr.add;split<;>simp_all]at this⊢
  exact(hW.cell (p:=⟨b,off+j,none⟩) HBG.out).trans this
 have M1:Hid (∀W,Below w.heap.size w W→∀j v,d1[j]? =some v→W.cell? ((⟨b,off+15,none⟩:Addr).add j)=some v):=Lib.hid fun W hW j v hv=>by
  have:=m1 j v hv
  rw[show(⟨b,off+15,none⟩:Addr).add j=⟨b,off+15+j,none⟩ by unfold Addr.add;split<;>simp_all]at this⊢
  exact(hW.cell (p:=⟨b,off+15+j,none⟩) HBG.out).trans this
 have k14:=Q14.out _ HB0.out
 have X0:=Lib.hid x0
 have X1:=Lib.hid x1
 have HXL:=Lib.hid hxl
 have HYL:=Lib.hid hyl
 have HBX:=Lib.hid hbx
 clear hlen q0 x0 x1 e0 e1 m0 m1 hq hbg hxl hyl hbx
 go_enter Tryz.func31,Tryz.ntmps31
 go_wp2_with (first | go_skip | (refine wpList_load_w (by kernel_rfl) 33 _ rfl ⟨b,off,none⟩ rfl d0 _ (M0.out _ HA.out) Tryz.underlying33 rfl (by rw[D0.out];kernel_rfl) ?_))
 refine(X0.out _ HA.out).mono ?_
 rintro r w2 ⟨v0,b0,rfl,hs0,ht0,hb⟩
 have H2:=Lib.hid (HB0.out.trans hb)
 have W2:=Lib.hid (HA.out.trans (H2.out.mono HA.out.size))
 have HS0:=Lib.hid hs0
 have HT0:=Lib.hid ht0
 have k14b:=Q14.out _ H2.out
 have e2:off+1*15=off+15:=by omega
 clear hb hs0 ht0 k0 k14 X0
 go_wp2_with (first | go_skip | (refine wpList_load_w (by kernel_rfl) 33 _ rfl ⟨b,off+15,none⟩ rfl d1 _ (M1.out _ W2.out) Tryz.underlying33 rfl (by rw[D1.out];kernel_rfl) ?_))
 refine(X1.out _ W2.out).mono ?_
 rintro r w3 ⟨v1,b1,rfl,hs1,ht1,hb⟩
 have H3:=Lib.hid (H2.out.trans (hb.mono H2.out.size))
 have W3:=Lib.hid (HA.out.trans (H3.out.mono HA.out.size))
 have HS03:=Lib.hid (HS0.out.below hb)
 have HT1:=Lib.hid ht1
 obtain⟨a0,cap0,rfl,_,_,hl0⟩:=HS03.out.lies
 obtain⟨a1,cap1,rfl,_,_,hl1⟩:=hs1.lies
 have HJ:=Lib.hid (rjoin_any xs ys a0 _ cap0 a1 _ cap1 w3 rfl rfl HXL.out HYL.out HBX.out hl0 hl1)
 clear hb hs1 ht1 k14b X1 hl0 hl1 HS0 HS03
 go_wp2_with fail
 refine HJ.out.mono ?_
 rintro r w4 ⟨v4,rfl,hs4,hb⟩
 have HE:Hid (SRow w.heap.size (joinD (xs ++ ys)) v4 w4∧Below w.heap.size w w4):=Lib.hid ⟨hs4.mono W3.out.size,W3.out.trans (hb.mono W3.out.size)⟩
 have HTT:Hid ((z0 && z1)=true→(b0 && b1)=(h0 && h1)):=Lib.hid fun h=>by
  simp only[Bool.and_eq_true]at h
  rw[HT0.out h.1,HT1.out h.2]
 clear hs4 hb HJ HT0 HT1
 cases z0<;>cases b0<;>(
  go_wp2_with fail
  go_ret3
  exact⟨_,_,rfl,HE.out.1,HTT.out,HE.out.2⟩)
theorem rtake_5n (av ah:Option Addr)(nv nh c1 c2:Nat)(ca:List Value)(w:World)(hlen:ca.length=15)(q0:ca[0]? =some (.int .i64 5))(cc:List Value)(l1:cc.length=3)(p1:Part ca 1 cc)(t:Bool)(x:∀W,Below w.heap.size w W→Calls Tryz.prog 26 #[.agg cc.toArray,.slice av nv c1] W (RTru (t,false) W))(hb0:Bool):
 Calls Tryz.prog 31 #[.agg ca.toArray,.slice av nv c1,.slice ah nh c2] w (RTk [] hb0 false w):=by
 have HA:Hid (Below w.heap.size w (w.alloc (.cells ca.toArray 33))):=box_low
 have HB0:Hid (Below (w.alloc (.cells ca.toArray 33)).heap.size (w.alloc (.cells ca.toArray 33)) (w.alloc (.cells ca.toArray 33))):=Below.refl _ _
 have L0:=Lib.hid hlen
 have Q0:=Lib.hid (fun W (hb:Below (w.alloc (.cells ca.toArray 33)).heap.size (w.alloc (.cells ca.toArray 33)) W)=>box_at q0 hb)
 have k0:=Q0.out _ HB0.out
 have P1:=Lib.hid (fun W (hb:Below (w.alloc (.cells ca.toArray 33)).heap.size (w.alloc (.cells ca.toArray 33)) W)=>box_part p1 hb)
 have L1:=Lib.hid l1
 have X:=Lib.hid x
 clear hlen q0 x p1 l1
 go_enter Tryz.func31,Tryz.ntmps31
 go_wp2_with (first | go_skip | (refine wpList_load_w (by kernel_rfl) 27 _ rfl ⟨w.heap.size,1,none⟩ rfl cc _ (P1.out _ HB0.out) Tryz.underlying27 rfl (by rw[L1.out];kernel_rfl) ?_))
 refine(X.out _ HA.out).mono ?_
 rintro r w1 ⟨b1,rfl,hbt,hb⟩
 have H1:=Lib.hid (HB0.out.trans hb)
 have W1:=Lib.hid (HA.out.trans (H1.out.mono HA.out.size))
 have HBT:=Lib.hid hbt
 clear hb hbt k0 X
 cases b1<;>(
  go_wp2_with fail
  go_ret3
  exact⟨_,_,rfl,SRow.nil _ _,(fun h=>by cases h),W1.out⟩)
theorem rtake_5t (av ah:Option Addr)(nv nh c1 c2:Nat)(ca:List Value)(w:World)(hlen:ca.length=15)(q0:ca[0]? =some (.int .i64 5))(cc:List Value)(l1:cc.length=3)(p1:Part ca 1 cc)(x:∀W,Below w.heap.size w W→Calls Tryz.prog 26 #[.agg cc.toArray,.slice av nv c1] W (RTru (true,true) W))(b off cap:Nat)(hq:ca[14]? =some (.slice (some ⟨b,off,none⟩) 2 cap))(hbg:b<w.heap.size)(d0 d1:List Value)(e0:d0.length=15)(e1:d1.length=15)(m0:∀j v,d0[j]? =some v→w.cell? ((⟨b,off,none⟩:Addr).add j)=some v)(m1:∀j v,d1[j]? =some v→w.cell? ((⟨b,off+15,none⟩:Addr).add j)=some v)(ys:List HC)(h1 z1:Bool)(x1:∀W,Below w.heap.size w W→Calls Tryz.prog 31 #[.agg d0.toArray,.slice av nv c1,.slice ah nh c2] W (RTk ys h1 z1 W)):
 Calls Tryz.prog 31 #[.agg ca.toArray,.slice av nv c1,.slice ah nh c2] w (RTk ys h1 z1 w):=by
 have HA:Hid (Below w.heap.size w (w.alloc (.cells ca.toArray 33))):=box_low
 have HB0:Hid (Below (w.alloc (.cells ca.toArray 33)).heap.size (w.alloc (.cells ca.toArray 33)) (w.alloc (.cells ca.toArray 33))):=Below.refl _ _
 have L0:=Lib.hid hlen
 have Q0:=Lib.hid (fun W (hb:Below (w.alloc (.cells ca.toArray 33)).heap.size (w.alloc (.cells ca.toArray 33)) W)=>box_at q0 hb)
 have k0:=Q0.out _ HB0.out
 have D0:=Lib.hid e0
 have D1:=Lib.hid e1
 have HBG:=Lib.hid hbg
 have Q14:=Lib.hid (fun W (hb:Below (w.alloc (.cells ca.toArray 33)).heap.size (w.alloc (.cells ca.toArray 33)) W)=>box_at hq hb)
 have M0:Hid (∀W,Below w.heap.size w W→∀j v,d0[j]? =some v→W.cell? ((⟨b,off,none⟩:Addr).add j)=some v):=Lib.hid fun W hW j v hv=>by
  have:=m0 j v hv
  rw[show(⟨b,off,none⟩:Addr).add j=⟨b,off+j,none⟩ by unfold Addr.add;split<;>simp_all]at this⊢
  exact(hW.cell (p:=⟨b,off+j,none⟩) HBG.out).trans this
 have M1:Hid (∀W,Below w.heap.size w W→∀j v,d1[j]? =some v→W.cell? ((⟨b,off+15,none⟩:Addr).add j)=some v):=Lib.hid fun W hW j v hv=>by
  have:=m1 j v hv
  rw[show(⟨b,off+15,none⟩:Addr).add j=⟨b,off+15+j,none⟩ by unfold Addr.add;split<;>simp_all]at this⊢
  exact(hW.cell (p:=⟨b,off+15+j,none⟩) HBG.out).trans this
 have P1:=Lib.hid (fun W (hb:Below (w.alloc (.cells ca.toArray 33)).heap.size (w.alloc (.cells ca.toArray 33)) W)=>box_part p1 hb)
 have L1:=Lib.hid l1
 have X:=Lib.hid x
 have X1:=Lib.hid x1
 clear hlen q0 x p1 l1 x1 e0 e1 m0 m1 hq hbg
 go_enter Tryz.func31,Tryz.ntmps31
 go_wp2_with (first | go_skip | (refine wpList_load_w (by kernel_rfl) 27 _ rfl ⟨w.heap.size,1,none⟩ rfl cc _ (P1.out _ HB0.out) Tryz.underlying27 rfl (by rw[L1.out];kernel_rfl) ?_))
 refine(X.out _ HA.out).mono ?_
 rintro r w1 ⟨b1,rfl,hbt,hb⟩
 have H1:=Lib.hid (HB0.out.trans hb)
 have W1:=Lib.hid (HA.out.trans (H1.out.mono HA.out.size))
 have HBT:=Lib.hid hbt
 clear hb hbt k0 X
 obtain rfl:=HBT.out rfl
 have k14:=Q14.out _ H1.out
 have e2:off+1*15=off+15:=by omega
 go_wp2_with (first | go_skip | (refine wpList_load_w (by kernel_rfl) 33 _ rfl ⟨b,off,none⟩ rfl d0 _ (M0.out _ W1.out) Tryz.underlying33 rfl (by rw[D0.out];kernel_rfl) ?_))
 refine(X1.out _ W1.out).mono ?_
 rintro r w3 ⟨v1,b3,rfl,hs1,ht1,hb⟩
 have HE:Hid (SRow w.heap.size ys v1 w3∧Below w.heap.size w w3):=Lib.hid ⟨hs1.mono W1.out.size,W1.out.trans (hb.mono W1.out.size)⟩
 have HT1:=Lib.hid ht1
 clear hs1 ht1 hb X1 k14
 go_wp2_with fail
 go_ret3
 exact⟨_,_,rfl,HE.out.1,HT1.out,HE.out.2⟩
theorem rtake_5f (av ah:Option Addr)(nv nh c1 c2:Nat)(ca:List Value)(w:World)(hlen:ca.length=15)(q0:ca[0]? =some (.int .i64 5))(cc:List Value)(l1:cc.length=3)(p1:Part ca 1 cc)(x:∀W,Below w.heap.size w W→Calls Tryz.prog 26 #[.agg cc.toArray,.slice av nv c1] W (RTru (false,true) W))(b off cap:Nat)(hq:ca[14]? =some (.slice (some ⟨b,off,none⟩) 2 cap))(hbg:b<w.heap.size)(d0 d1:List Value)(e0:d0.length=15)(e1:d1.length=15)(m0:∀j v,d0[j]? =some v→w.cell? ((⟨b,off,none⟩:Addr).add j)=some v)(m1:∀j v,d1[j]? =some v→w.cell? ((⟨b,off+15,none⟩:Addr).add j)=some v)(ys:List HC)(h1 z1:Bool)(x1:∀W,Below w.heap.size w W→Calls Tryz.prog 31 #[.agg d1.toArray,.slice av nv c1,.slice ah nh c2] W (RTk ys h1 z1 W)):
 Calls Tryz.prog 31 #[.agg ca.toArray,.slice av nv c1,.slice ah nh c2] w (RTk ys h1 z1 w):=by
 have HA:Hid (Below w.heap.size w (w.alloc (.cells ca.toArray 33))):=box_low
 have HB0:Hid (Below (w.alloc (.cells ca.toArray 33)).heap.size (w.alloc (.cells ca.toArray 33)) (w.alloc (.cells ca.toArray 33))):=Below.refl _ _
 have L0:=Lib.hid hlen
 have Q0:=Lib.hid (fun W (hb:Below (w.alloc (.cells ca.toArray 33)).heap.size (w.alloc (.cells ca.toArray 33)) W)=>box_at q0 hb)
 have k0:=Q0.out _ HB0.out
 have D0:=Lib.hid e0
 have D1:=Lib.hid e1
 have HBG:=Lib.hid hbg
 have Q14:=Lib.hid (fun W (hb:Below (w.alloc (.cells ca.toArray 33)).heap.size (w.alloc (.cells ca.toArray 33)) W)=>box_at hq hb)
 have M0:Hid (∀W,Below w.heap.size w W→∀j v,d0[j]? =some v→W.cell? ((⟨b,off,none⟩:Addr).add j)=some v):=Lib.hid fun W hW j v hv=>by
  have:=m0 j v hv
  rw[show(⟨b,off,none⟩:Addr).add j=⟨b,off+j,none⟩ by unfold Addr.add;split<;>simp_all]at this⊢
  exact(hW.cell (p:=⟨b,off+j,none⟩) HBG.out).trans this
 have M1:Hid (∀W,Below w.heap.size w W→∀j v,d1[j]? =some v→W.cell? ((⟨b,off+15,none⟩:Addr).add j)=some v):=Lib.hid fun W hW j v hv=>by
  have:=m1 j v hv
  rw[show(⟨b,off+15,none⟩:Addr).add j=⟨b,off+15+j,none⟩ by unfold Addr.add;split<;>simp_all]at this⊢
  exact(hW.cell (p:=⟨b,off+15+j,none⟩) HBG.out).trans this
 have P1:=Lib.hid (fun W (hb:Below (w.alloc (.cells ca.toArray 33)).heap.size (w.alloc (.cells ca.toArray 33)) W)=>box_part p1 hb)
 have L1:=Lib.hid l1
 have X:=Lib.hid x
 have X1:=Lib.hid x1
 clear hlen q0 x p1 l1 x1 e0 e1 m0 m1 hq hbg
 go_enter Tryz.func31,Tryz.ntmps31
 go_wp2_with (first | go_skip | (refine wpList_load_w (by kernel_rfl) 27 _ rfl ⟨w.heap.size,1,none⟩ rfl cc _ (P1.out _ HB0.out) Tryz.underlying27 rfl (by rw[L1.out];kernel_rfl) ?_))
 refine(X.out _ HA.out).mono ?_
 rintro r w1 ⟨b1,rfl,hbt,hb⟩
 have H1:=Lib.hid (HB0.out.trans hb)
 have W1:=Lib.hid (HA.out.trans (H1.out.mono HA.out.size))
 have HBT:=Lib.hid hbt
 clear hb hbt k0 X
 obtain rfl:=HBT.out rfl
 have k14:=Q14.out _ H1.out
 have e2:off+1*15=off+15:=by omega
 go_wp2_with (first | go_skip | (refine wpList_load_w (by kernel_rfl) 33 _ rfl ⟨b,off+15,none⟩ rfl d1 _ (M1.out _ W1.out) Tryz.underlying33 rfl (by rw[D1.out];kernel_rfl) ?_))
 refine(X1.out _ W1.out).mono ?_
 rintro r w3 ⟨v1,b3,rfl,hs1,ht1,hb⟩
 have HE:Hid (SRow w.heap.size ys v1 w3∧Below w.heap.size w w3):=Lib.hid ⟨hs1.mono W1.out.size,W1.out.trans (hb.mono W1.out.size)⟩
 have HT1:=Lib.hid ht1
 clear hs1 ht1 hb X1 k14
 go_wp2_with fail
 go_ret3
 exact⟨_,_,rfl,HE.out.1,HT1.out,HE.out.2⟩
end
section
open Go.RowKit
theorem takA_b30 {nm:ByteArray→Bool}{ρ:ByteArray→Int}{hs:List HC}:∀ {n:Nat} {a:AT},snA nm n a=true→BoundV (takA ρ hs n a).1 1073741824
 | 0,_,h=>absurd h (by simp[snA])
 | n+1,a,h=>by
   obtain⟨hk,hkl,hkids,hsh,_⟩:=snA_parts h
   unfold takA
   have hkk:a.kind=0∨a.kind=1∨a.kind=2∨a.kind=3∨a.kind=4∨a.kind=5:=by omega
   have h0:BoundV [] 1073741824:=fun c hc=>by cases hc
   have h2:a.kind=4∨a.kind=5→BoundV (takA ρ hs n (a.ks.getD 0 default)).1 1073741824∧BoundV (takA ρ hs n (a.ks.getD 1 default)).1 1073741824:=fun e=>by
    have hl2:a.ks.length=2:=by rw[hkl];unfold ksA;rw[if_pos e]
    exact⟨takA_b30 (hkids _ (getD_in (by omega))),takA_b30 (hkids _ (getD_in (by omega)))⟩
   rcases hkk with e | e | e | e | e | e
   ·rw[if_neg (by omega),if_neg (by omega),if_neg (by omega),if_neg (by omega)];exact h0
   ·rw[if_pos e];exact h0
   ·rw[if_neg (by omega),if_pos (.inl e)]
    unfold shA at hsh
    rw[if_pos e]at hsh
    simp only[Bool.and_eq_true,decide_eq_true_eq]at hsh
    intro c hc
    obtain rfl:=List.mem_singleton.1 hc
    show -1073741824≤a.n∧a.n≤1073741824
    omega
   ·rw[if_neg (by omega),if_pos (.inr e)]
    unfold shA at hsh
    rw[if_neg (by omega),if_pos e]at hsh
    simp only[Bool.and_eq_true,decide_eq_true_eq]at hsh
    intro c hc
    obtain rfl:=List.mem_singleton.1 hc
    show -1073741824≤a.n∧a.n≤1073741824
    omega
   ·rw[if_neg (by omega),if_neg (by omega),if_pos e]
    intro c hc
    rcases List.mem_append.1 hc with h' | h'
    ·exact(h2 (.inl e)).1 c h'
    ·exact(h2 (.inl e)).2 c h'
   ·rw[if_neg (by omega),if_neg (by omega),if_neg (by omega),if_pos e]
    split
    ·split
     ·exact(h2 (.inr e)).1
     ·exact(h2 (.inr e)).2
    ·exact h0
theorem joinD_b {xs:List HC}(h:BoundV xs 1073741824)(hl:xs.length≤100):BoundV (joinD xs) 1099511627776:=fun c hc=>by
 have:=fold_bound (c:=1073741824) (by omega) xs [] 0 (by omega) (fun x hx=>by cases hx) h c hc
 omega
theorem rtake_any (nm:ByteArray→Bool)(xs:List (ByteArray×Int))(av:Option Addr)(c1:Nat)(hs:List HC)(ah:Option Addr)(c2:Nat)(hnm:hs.length≤9223372036854775807):
 ∀(n:Nat) (a:AT) (cs:List Value) (w:World),snA nm n a=true→(assnSh n).rel (Pak.Lo w.heap.size) w cs a→Pak.Sits varSh (Pak.Lo w.heap.size) w av xs→HLies w.heap.size w ah hs→(takA (fun s=>varOf s xs) hs n a).1.length≤100→
  Calls Tryz.prog 31 #[.agg cs.toArray,.slice av xs.length c1,.slice ah hs.length c2] w (RTk (joinD (takA (fun s=>varOf s xs) hs n a).1) (takA (fun s=>varOf s xs) hs n a).2.1 (takA (fun s=>varOf s xs) hs n a).2.2 w)
 | 0,_,_,_,h,_,_,_,_=>absurd h (by simp[snA])
 | n+1,a,cs,w,hsn,hrel,hx,hh,hsz=>by
   have IH:=rtake_any nm xs av c1 hs ah c2 hnm n
   obtain⟨hk,hkl,hkids,hsh,hcn⟩:=snA_parts hsn
   obtain⟨cc,ce,cv,a5,c5,A⟩:=assn_is hrel
   have vE:∀(e:ET) (l:List Value),snE nm n e=true→(exprSh n).rel (Pak.Lo w.heap.size) w l e→ValAll 25 #[.agg l.toArray,.slice av xs.length c1] (.tuple #[.int .i64 (valE (fun s=>varOf s xs) n e).1,.bool (valE (fun s=>varOf s xs) n e).2]) w:=fun e l he hr W hW=>
    rvalue_any nm xs av c1 n e l W he (rel_low hr hW) (hx.below hW hW.size)
   have vC:(a.kind=1∨a.kind=5)→∀W,Below w.heap.size w W→Calls Tryz.prog 26 #[.agg cc.toArray,.slice av xs.length c1] W (RTru (truC (fun s=>varOf s xs) n a.c) W):=fun hkc W hW=>
    rtruth_any nm xs av c1 n a.c cc W (hcn hkc) (rel_low A.rc hW) (hx.below hW hW.size)
   have vG:∀(z:Int) W,Below w.heap.size w W→Calls Tryz.prog 46 #[.slice ah hs.length c2,.int .i64 z,.string a.field] W (RGetEnd hs (z,a.field.toList) W):=fun z W hW=>
    rget_any hs ah hs.length c2 z a.field W rfl hnm ((hh.below hW).mono hW.size)
   have hkind:=A.kind
   have n1:1≤n:=by
    rcases n with _ | n
    ·exact A.re.elim
    ·omega
   obtain⟨m,rfl⟩:∃m,n=m+1:=⟨n - 1,by omega⟩
   unfold takA at hsz⊢
   have hkk:a.kind=0∨a.kind=1∨a.kind=2∨a.kind=3∨a.kind=4∨a.kind=5:=by omega
   have KID:∀(x:AT) (d:List Value),snA nm (m+1) x=true→(assnSh (m+1)).rel (Pak.Lo w.heap.size) w d x→(takA (fun s=>varOf s xs) hs (m+1) x).1.length≤100→∀W,Below w.heap.size w W→Calls Tryz.prog 31 #[.agg d.toArray,.slice av xs.length c1,.slice ah hs.length c2] W (RTk (joinD (takA (fun s=>varOf s xs) hs (m+1) x).1) (takA (fun s=>varOf s xs) hs (m+1) x).2.1 (takA (fun s=>varOf s xs) hs (m+1) x).2.2 W):=fun x d h1 h2 h3 W hW=>
    IH x d W h1 (rel_low h2 hW) (hx.below hW hW.size) ((hh.below hW).mono hW.size) h3
   rcases hkk with e | e | e | e | e | e
   ·rw[if_neg (by omega),if_neg (by omega),if_neg (by omega),if_neg (by omega)]
    exact rtake_0 av ah _ _ c1 c2 cs w A.len (by rw[←e];exact hkind)
   ·rw[if_pos e]
    exact rtake_1 av ah _ _ c1 c2 cs w A.len (by rw[←e];exact hkind) cc A.lc A.pc _ _ (vC (.inl e))
   ·rw[if_neg (by omega),if_pos (.inl e)]
    unfold shA at hsh
    rw[if_pos e]at hsh
    simp only[Bool.and_eq_true]at hsh
    rw[show a.kind=(2:Int) from e]at hkind⊢
    exact rtake_2 av ah _ _ c1 c2 cs w A.len hkind hs a.n _ _ a.field _ _ ce cv A.pe A.pv A.field A.num A.le (((exprSh _).len A.rv).trans (exprSh_k _)) (vE a.e ce hsh.2.1.1 A.re) (vE a.v cv (noE_sn hsh.1) A.rv) (vG _)
   ·rw[if_neg (by omega),if_pos (.inr e)]
    unfold shA at hsh
    rw[if_neg (by omega),if_pos e]at hsh
    simp only[Bool.and_eq_true]at hsh
    rw[show a.kind=(3:Int) from e]at hkind⊢
    exact rtake_3 av ah _ _ c1 c2 cs w A.len hkind hs a.n _ _ a.field _ _ ce cv A.pe A.pv A.field A.num A.le (((exprSh _).len A.rv).trans (exprSh_k _)) (vE a.e ce hsh.2.1.1 A.re) (vE a.v cv hsh.1 A.rv) (vG _)
   ·rw[if_neg (by omega),if_neg (by omega),if_pos e]at hsz⊢
    have hl2:a.ks.length=2:=by rw[hkl];unfold ksA;rw[if_pos (.inl e)]
    obtain⟨b,off,d0,d1,rfl,hb1,l0,l1,m0,m1,r0,r1⟩:=two_kids A.rkids hl2
    have s0:=hkids _ (getD_in (l:=a.ks) (i:=0) (by omega))
    have s1:=hkids _ (getD_in (l:=a.ks) (i:=1) (by omega))
    simp only[List.length_append]at hsz
    have hkid:=A.kids
    rw[hl2]at hkid
    have hl0:=joinD_len (takA (fun s=>varOf s xs) hs (m+1) (a.ks.getD 0 default)).1
    have hl1:=joinD_len (takA (fun s=>varOf s xs) hs (m+1) (a.ks.getD 1 default)).1
    have:=rtake_4 av ah _ _ c1 c2 cs w A.len (by rw[←e];exact hkind) b off c5 hkid hb1 d0 d1 l0 l1 m0 m1 _ _ _ _ _ _ (by omega) (by omega)
     (fun c hc=>(List.mem_append.1 hc).elim (fun h=>joinD_b (takA_b30 s0) (by omega) c h) (fun h=>joinD_b (takA_b30 s1) (by omega) c h)) (KID _ d0 s0 r0 (by omega)) (KID _ d1 s1 r1 (by omega))
    rw[joinD_join,Bool.and_comm (takA (fun s=>varOf s xs) hs (m+1) (a.ks.getD 0 default)).2.2]at this
    exact this
   ·rw[if_neg (by omega),if_neg (by omega),if_neg (by omega),if_pos e]at hsz⊢
    have hl2:a.ks.length=2:=by rw[hkl];unfold ksA;rw[if_pos (.inr e)]
    obtain⟨b,off,d0,d1,rfl,hb1,l0,l1,m0,m1,r0,r1⟩:=two_kids A.rkids hl2
    have s0:=hkids _ (getD_in (l:=a.ks) (i:=0) (by omega))
    have s1:=hkids _ (getD_in (l:=a.ks) (i:=1) (by omega))
    have hkid:=A.kids
    rw[hl2]at hkid
    have V:=vC (.inr e)
    have hq:cs[0]? =some (.int .i64 5):=by rw[←e];exact hkind
    generalize truC (fun s=>varOf s xs) (m+1) a.c=t at hsz V⊢
    obtain⟨t1,t2⟩:=t
    cases t2 with
    | false=>
      simp only[Bool.false_eq_true,if_false]
      exact rtake_5n av ah _ _ c1 c2 cs w A.len hq cc A.lc A.pc t1 V true
    | true=>
      simp only[if_true]at hsz⊢
      cases t1 with
      | true=>
        simp only[if_true]at hsz⊢
        exact rtake_5t av ah _ _ c1 c2 cs w A.len hq cc A.lc A.pc V b off c5 hkid hb1 d0 d1 l0 l1 m0 m1 _ _ _ (KID _ d0 s0 r0 hsz)
      | false=>
        simp only[Bool.false_eq_true,if_false]at hsz⊢
        exact rtake_5f av ah _ _ c1 c2 cs w A.len hq cc A.lc A.pc V b off c5 hkid hb1 d0 d1 l0 l1 m0 m1 _ _ _ (KID _ d1 s1 r1 hsz)
end
end Go.Proofs.YtfinhpfjokpcfaaGreatDoor
