/- Parts of a proof. -/
import Derived.Test.YtfcaclmcnlflfaaGreatDoorQ06
import Derived.Test.YtfcaclmcnlflfaaGreatDoorQ08
import Derived.Test.YtfcaclmcnlflfaaGreatDoorQ11
import Derived.Test.YtfcaclmcnlflfaaGreatDoorQ12
import Derived.Deep.RegionWith
import Derived.Deep.RegionLaw
set_option linter.unusedVariables false
set_option linter.unusedSimpArgs false
set_option maxHeartbeats 60000000
set_option maxRecDepth 100000
namespace Go.Proofs.YtfcaclmcnlflfaaGreatDoor
section
open Go.RowKit
def vrE:Nat→ET→List ByteArray
 | 0,_=>[]
 | n+1,e=>(if e.kind=1 then[e.name] else[]) ++ (e.ks.map (vrE n)).flatten
def vrEs (n:Nat)(l:List ET):List ByteArray:=(l.map (vrE n)).flatten
theorem vrEs_snoc {n:Nat}{l:List ET}{j:Nat}(h:j<l.length):vrEs n (l.take (j+1))=vrEs n (l.take j) ++ vrE n l[j]:=by
 unfold vrEs
 rw[List.take_succ_eq_append_getElem h,List.map_append,List.flatten_append]
 simp
theorem vrE_len:∀(n:Nat) (e:ET),(vrE n e).length≤ptE n e
 | 0,_=>Nat.le_refl _
 | n+1,e=>by
   have key:∀l:List ET,(l.map (vrE n)).flatten.length≤(l.map (ptE n)).sum:=fun l=>by
    induction l with
    | nil=>exact Nat.le_refl _
    | cons x r ih=>rw[List.map_cons,List.flatten_cons,List.length_append,List.map_cons,List.sum_cons];have:=vrE_len n x;omega
   unfold vrE ptE
   rw[List.length_append]
   have:=key e.ks
   split
   ·simp only[List.length_singleton];omega
   ·simp only[List.length_nil];omega
theorem vrEs_len (n:Nat):∀l:List ET,(vrEs n l).length≤ptEs n l
 | []=>Nat.le_refl _
 | x :: r=>by
   have h1:=vrE_len n x
   have h2:=vrEs_len n r
   unfold vrEs ptEs at*
   rw[List.map_cons,List.flatten_cons,List.length_append,List.map_cons,List.sum_cons]
   omega
theorem ptEs_take {n:Nat}{l:List ET}{j:Nat}(h:j<l.length):ptEs n (l.take j)+ptE n l[j]≤ptEs n l:=by
 have h1:=ptEs_snoc (n:=n) h
 have h2:ptEs n (l.take (j+1))+ptEs n (l.drop (j+1))=ptEs n l:=by
  unfold ptEs
  rw[←List.sum_append,←List.map_append,List.take_append_drop]
 omega
def VrEnd (xs:List ByteArray)(w:World)(r:Ending)(w':World):Prop:=∃v,r= .returned v∧StrRow w.heap.size xs v w'∧Below w.heap.size w w'
theorem varsE_box (n:Nat)(es:List ET)(a:Option Addr)(m cap:Nat)(w:World)(hm:es.length=m)(hpt:ptEs (n+1) es≤1000)(hs:Pak.Sits (exprSh (n+1)) (Pak.Lo w.heap.size) w a es)
 (hk:∀(x:ET) (u:Option Addr) (c:Nat) (W:World),x∈es→Below w.heap.size w W→Pak.Sits (exprSh n) (Pak.Lo W.heap.size) W u x.ks→Calls Tryz.prog 51 #[.slice u x.ks.length c] W (VrEnd (vrEs n x.ks) W)):
 Calls Tryz.prog 51 #[.slice a m cap] w (VrEnd (vrEs (n+1) es) w):=by
 have HS:=Lib.hid hs
 have HM:=Lib.hid hm
 have HP:=Lib.hid hpt
 have hmm:m≤9223372036854775807:=by rw[←hm];exact hs.1
 have HK:=Lib.hid hk
 clear hs hm hk hpt
 go_enter Tryz.func51,Tryz.ntmps51
 go_wp2_with fail
 go_loopw [3,4] (fun v i wr=>∃j:Nat,i= .int .i64 j∧j≤m∧Hid (StrRow w.heap.size (vrEs (n+1) (es.take j)) v wr)∧Hid (Below w.heap.size w wr)) (fun _ i _=>m - (intOf i).toNat)
 case atStart=>exact⟨0,rfl,Nat.zero_le _,StrRow.nil _ _,Below.refl _ _⟩
 case round=>
  obtain⟨j,rfl,hj,hrw,hbr⟩:=hrel
  obtain⟨wo,rfl⟩:∃wo:World,wo=wr:=⟨_,rfl⟩
  by_cases hlt:j<m
  ·have hlx:j<es.length:=by rw[HM.out];exact hlt
   have hji:(j:Int)<(m:Int):=by omega
   obtain⟨b,off,cs,rfl,hbl,hc,hr⟩:=HS.out.2 j hlx
   obtain⟨kv,rfl,⟨_,_,hnm⟩,u,c,rfl,hsk⟩:=hr
   rw[exprSh_k]at hc
   have HUP:=Lib.hid (fun W (hW:Below w.heap.size w W) o v e=>(hW.cell (p:=⟨b,off+j*4+o,none⟩) hbl).trans (hc o v e))
   have HSN0:=Lib.hid (vrEs_snoc (n:=n+1) hlx)
   have HPT:Hid (ptEs (n+1) (es.take j)+1+ptEs n es[j].ks≤1000):=Lib.hid (by have h1:=ptEs_take (n:=n+1) hlx;have h2:=ptE_succ n es[j];have h3:=HP.out;omega)
   have HL0:Hid ((vrEs (n+1) (es.take j)).length≤1000):=Lib.hid (by have h1:=vrEs_len (n+1) (es.take j);have:=HPT.out;omega)
   have R0:=Lib.hid hrw.out
   have B0:=Lib.hid hbr.out
   have g0:wo.cell? ⟨b,off+j*4,none⟩=_:=HUP.out wo B0.out 0 _ rfl
   have g2:=HUP.out wo B0.out 2 _ rfl
   clear hc hrw hbr
   by_cases hkd:es[j].kind=1
   ·have e1:(es[j].kind == 1)=true:=by simp[hkd]
    have hA:Below wo.heap.size wo (wo.alloc (.cells #[.string es[j].name] 9)):=box_low
    have hA0:=B0.out.trans (hA.mono B0.out.size)
    obtain⟨v2,w2,hrun,hrow2,hb2⟩:=run_cat_str (w:=wo.alloc (.cells #[.string es[j].name] 9)) w.heap.size (vrEs (n+1) (es.take j)) [es[j].name] _ (.slice (some ⟨wo.heap.size,0,none⟩) 1 1) (R0.out.below hA) hA0.size ⟨_,_,rfl,sits_blk (cs:=[.string es[j].name]) (heap_alloc_new _ _) (by simp) ⟨rfl,hnm⟩⟩ (fun e=>absurd e (by simp)) (by have:=HL0.out;simp only[List.length_singleton];omega)
    have BW:=Lib.hid (hA0.trans hb2)
    have RW:=Lib.hid hrow2
    have HSN:Hid (vrEs (n+1) (es.take (j+1))=(vrEs (n+1) (es.take j) ++ [es[j].name]) ++ vrEs n es[j].ks):=Lib.hid (by rw[HSN0.out,List.append_assoc];congr 1;unfold vrE;rw[if_pos hkd];rfl)
    have HLX:Hid ((vrEs (n+1) (es.take j) ++ [es[j].name]).length≤1001):=Lib.hid (by rw[List.length_append,List.length_singleton];have:=HL0.out;omega)
    have g3:=HUP.out w2 BW.out 3 _ rfl
    clear hA hA0 hrow2 hb2 R0
    go_wp2_with (at_builtin;refine Lib.wpList_append_run _ rfl _ _ _ _ rfl _ _ rfl rfl _ _ (hrun _) ?_)
    clear hrun
    have F:=Lib.hid (HK.out es[j] u c w2 (List.getElem_mem hlx) BW.out (hsk.below BW.out BW.out.size))
    have LNK:Hid ((vrEs n es[j].ks).length≤1000):=Lib.hid (by have:=vrEs_len n es[j].ks;have:=HPT.out;omega)
    clear hsk
    go_wp2_with fail
    refine F.out.mono ?_
    rintro r w3 ⟨y,rfl,hrow,hb⟩
    have B3:=Lib.hid (BW.out.trans (hb.mono BW.out.size))
    obtain⟨v4,w4,hrun,hrow4,hb4⟩:=run_cat_str (w:=w3) w.heap.size (vrEs (n+1) (es.take j) ++ [es[j].name]) (vrEs n es[j].ks) _ y (RW.out.below hb) B3.out.size (hrow.1.sits (by have:=LNK.out;omega)) hrow.2 (by have:=LNK.out;have:=HLX.out;omega)
    have HNX:Hid (StrRow w.heap.size (vrEs (n+1) (es.take (j+1))) v4 w4):=Lib.hid (by rw[HSN.out];exact hrow4)
    have B4:=Lib.hid (B3.out.trans hb4)
    clear hrow hb hrow4 hb4 F RW BW
    go_wp2_with (at_builtin;refine Lib.wpList_append_run _ rfl _ _ _ _ rfl _ _ rfl rfl _ _ (hrun _) ?_)
    clear hrun
    go_roundw
    case rel=>exact⟨j+1,by go_num,by omega,HNX,B4⟩
    case measure=>simp[intOf];omega
   ·have e1:(es[j].kind == 1)=false:=by simp[hkd]
    have BW:=B0
    have RW:=R0
    have HSN:Hid (vrEs (n+1) (es.take (j+1))=vrEs (n+1) (es.take j) ++ vrEs n es[j].ks):=Lib.hid (by rw[HSN0.out];congr 1;unfold vrE;rw[if_neg hkd];rfl)
    have HLX:Hid ((vrEs (n+1) (es.take j)).length≤1001):=Lib.hid (by have:=HL0.out;omega)
    have g3:=HUP.out wo BW.out 3 _ rfl
    clear R0
    have F:=Lib.hid (HK.out es[j] u c wo (List.getElem_mem hlx) BW.out (hsk.below BW.out BW.out.size))
    have LNK:Hid ((vrEs n es[j].ks).length≤1000):=Lib.hid (by have:=vrEs_len n es[j].ks;have:=HPT.out;omega)
    clear hsk
    go_wp2_with fail
    refine F.out.mono ?_
    rintro r w3 ⟨y,rfl,hrow,hb⟩
    have B3:=Lib.hid (BW.out.trans (hb.mono BW.out.size))
    obtain⟨v4,w4,hrun,hrow4,hb4⟩:=run_cat_str (w:=w3) w.heap.size (vrEs (n+1) (es.take j)) (vrEs n es[j].ks) _ y (RW.out.below hb) B3.out.size (hrow.1.sits (by have:=LNK.out;omega)) hrow.2 (by have:=LNK.out;have:=HLX.out;omega)
    have HNX:Hid (StrRow w.heap.size (vrEs (n+1) (es.take (j+1))) v4 w4):=Lib.hid (by rw[HSN.out];exact hrow4)
    have B4:=Lib.hid (B3.out.trans hb4)
    clear hrow hb hrow4 hb4 F RW BW
    go_wp2_with (at_builtin;refine Lib.wpList_append_run _ rfl _ _ _ _ rfl _ _ rfl rfl _ _ (hrun _) ?_)
    clear hrun
    go_roundw
    case rel=>exact⟨j+1,by go_num,by omega,HNX,B4⟩
    case measure=>simp[intOf];omega
  ·obtain rfl:j=m:=by omega
   have hji:¬(j:Int)<(j:Int):=by omega
   have HR:Hid (StrRow w.heap.size (vrEs (n+1) es) u3 wo):=Lib.hid (by have h:=hrw.out;rwa [←HM.out,List.take_length]at h)
   have HB:=Lib.hid hbr.out
   clear hrw hbr
   go_wp2_with fail
   go_ret
   exact⟨_,rfl,HR.out,HB.out⟩
theorem varsE_any:∀(n:Nat) (es:List ET) (a:Option Addr) (cap:Nat) (w:World),ptEs n es≤1000→Pak.Sits (exprSh n) (Pak.Lo w.heap.size) w a es→Calls Tryz.prog 51 #[.slice a es.length cap] w (VrEnd (vrEs n es) w)
 | 0,es,a,cap,w,hp,hs=>by
   have he:es=[]:=by
    cases es with
    | nil=>rfl
    | cons x xs=>
      obtain⟨_,_,_,_,_,_,hr⟩:=hs.2 0 (by simp)
      exact hr.elim
   subst he
   exact varsE_box 0 [] a 0 cap w rfl (by simp[ptEs]) (Pak.Sits.nil _ _ _ _) fun x u c W hx _ _=>absurd hx (by simp)
 | n+1,es,a,cap,w,hp,hs=>
   varsE_box n es a es.length cap w rfl hp hs fun x u c W hx hW hsx=>varsE_any n x.ks u c W (by
    obtain⟨q,hq,rfl⟩:=List.getElem_of_mem hx
    have h1:=ptEs_take (n:=n+1) hq
    have h2:=ptE_succ n es[q]
    omega) hsx
end
section
open Go.RowKit
def vrC:Nat→CT→List ByteArray
 | 0,_=>[]
 | n+1,c=>vrEs n c.es ++ (c.ks.map (vrC n)).flatten
def vrCs (n:Nat)(l:List CT):List ByteArray:=(l.map (vrC n)).flatten
theorem vrC_succ (n:Nat)(c:CT):vrC (n+1) c=vrEs n c.es ++ vrCs n c.ks:=rfl
theorem vrCs_snoc {n:Nat}{l:List CT}{j:Nat}(h:j<l.length):vrCs n (l.take (j+1))=vrCs n (l.take j) ++ vrC n l[j]:=by
 unfold vrCs
 rw[List.take_succ_eq_append_getElem h,List.map_append,List.flatten_append]
 simp
theorem vrC_len:∀(n:Nat) (c:CT),(vrC n c).length≤ptC n c
 | 0,_=>Nat.le_refl _
 | n+1,c=>by
   have key:∀l:List CT,(l.map (vrC n)).flatten.length≤(l.map (ptC n)).sum:=fun l=>by
    induction l with
    | nil=>exact Nat.le_refl _
    | cons x r ih=>rw[List.map_cons,List.flatten_cons,List.length_append,List.map_cons,List.sum_cons];have:=vrC_len n x;omega
   unfold vrC ptC
   rw[List.length_append]
   have:=key c.ks
   have:=vrEs_len n c.es
   omega
theorem vrCs_len (n:Nat):∀l:List CT,(vrCs n l).length≤ptCs n l
 | []=>Nat.le_refl _
 | x :: r=>by
   have h1:=vrC_len n x
   have h2:=vrCs_len n r
   unfold vrCs ptCs at*
   rw[List.map_cons,List.flatten_cons,List.length_append,List.map_cons,List.sum_cons]
   omega
theorem ptCs_take {n:Nat}{l:List CT}{j:Nat}(h:j<l.length):ptCs n (l.take j)+ptC n l[j]≤ptCs n l:=by
 have h1:=ptCs_snoc (n:=n) h
 have h2:ptCs n (l.take (j+1))+ptCs n (l.drop (j+1))=ptCs n l:=by
  unfold ptCs
  rw[←List.sum_append,←List.map_append,List.take_append_drop]
 omega
theorem varsC_box (n:Nat)(es:List CT)(a:Option Addr)(m cap:Nat)(w:World)(hm:es.length=m)(hpt:ptCs (n+1) es≤1000)(hs:Pak.Sits (condSh (n+1)) (Pak.Lo w.heap.size) w a es)
 (hk:∀(x:CT) (u:Option Addr) (c:Nat) (W:World),x∈es→Below w.heap.size w W→Pak.Sits (condSh n) (Pak.Lo W.heap.size) W u x.ks→Calls Tryz.prog 52 #[.slice u x.ks.length c] W (VrEnd (vrCs n x.ks) W)):
 Calls Tryz.prog 52 #[.slice a m cap] w (VrEnd (vrCs (n+1) es) w):=by
 have HS:=Lib.hid hs
 have HM:=Lib.hid hm
 have HP:=Lib.hid hpt
 have hmm:m≤9223372036854775807:=by rw[←hm];exact hs.1
 have HK:=Lib.hid hk
 clear hs hm hk hpt
 go_enter Tryz.func52,Tryz.ntmps52
 go_wp2_with fail
 go_loopw [3,4] (fun v i wr=>∃j:Nat,i= .int .i64 j∧j≤m∧Hid (StrRow w.heap.size (vrCs (n+1) (es.take j)) v wr)∧Hid (Below w.heap.size w wr)) (fun _ i _=>m - (intOf i).toNat)
 case atStart=>exact⟨0,rfl,Nat.zero_le _,StrRow.nil _ _,Below.refl _ _⟩
 case round=>
  obtain⟨j,rfl,hj,hrw,hbr⟩:=hrel
  obtain⟨wo,rfl⟩:∃wo:World,wo=wr:=⟨_,rfl⟩
  by_cases hlt:j<m
  ·have hlx:j<es.length:=by rw[HM.out];exact hlt
   have hji:(j:Int)<(m:Int):=by omega
   obtain⟨b,off,cs,rfl,hbl,hc,hr⟩:=HS.out.2 j hlx
   obtain⟨v1,v2,rfl,_,⟨u1,d1,rfl,hs1⟩,⟨u2,d2,rfl,hs2⟩⟩:=hr
   rw[condSh_k]at hc
   have HUP:=Lib.hid (fun W (hW:Below w.heap.size w W) o v e=>(hW.cell (p:=⟨b,off+j*3+o,none⟩) hbl).trans (hc o v e))
   have HPT:Hid (ptCs (n+1) (es.take j)+1+ptEs n es[j].es+ptCs n es[j].ks≤1000):=Lib.hid (by have h1:=ptCs_take (n:=n+1) hlx;have h2:=ptC_succ n es[j];have h3:=HP.out;omega)
   have HSN:Hid (vrCs (n+1) (es.take (j+1))=(vrCs (n+1) (es.take j) ++ vrEs n es[j].es) ++ vrCs n es[j].ks):=Lib.hid (by rw[vrCs_snoc hlx,vrC_succ,List.append_assoc])
   have HL0:Hid ((vrCs (n+1) (es.take j)).length+(vrEs n es[j].es).length+(vrCs n es[j].ks).length≤1000):=Lib.hid (by have h1:=vrCs_len (n+1) (es.take j);have h2:=vrEs_len n es[j].es;have h3:=vrCs_len n es[j].ks;have:=HPT.out;omega)
   have R0:=Lib.hid hrw.out
   have B0:=Lib.hid hbr.out
   have g1:=HUP.out wo B0.out 1 _ rfl
   have F:=Lib.hid (varsE_any n es[j].es u1 d1 wo (by have:=HPT.out;omega) (hs1.below B0.out B0.out.size))
   have F2:=Lib.hid (fun W (hW:Below w.heap.size w W)=>HK.out es[j] u2 d2 W (List.getElem_mem hlx) hW (hs2.below hW hW.size))
   clear hc hrw hbr hs1 hs2
   go_wp2_with fail
   refine F.out.mono ?_
   rintro r w3 ⟨y,rfl,hrow,hb⟩
   have B3:=Lib.hid (B0.out.trans (hb.mono B0.out.size))
   obtain⟨v4,w4,hrun,hrow4,hb4⟩:=run_cat_str (w:=w3) w.heap.size (vrCs (n+1) (es.take j)) (vrEs n es[j].es) _ y (R0.out.below hb) B3.out.size (hrow.1.sits (by have:=HL0.out;omega)) hrow.2 (by have:=HL0.out;omega)
   have R4:=Lib.hid hrow4
   have B4:=Lib.hid (B3.out.trans hb4)
   have g2:=HUP.out w4 B4.out 2 _ rfl
   have F3:=Lib.hid (F2.out w4 B4.out)
   clear hrow hb hrow4 hb4 F F2 R0 B0 g1
   go_wp2_with (at_builtin;refine Lib.wpList_append_run _ rfl _ _ _ _ rfl _ _ rfl rfl _ _ (hrun _) ?_)
   clear hrun
   refine F3.out.mono ?_
   rintro r w5 ⟨y5,rfl,hrow,hb⟩
   have B5:=Lib.hid (B4.out.trans (hb.mono B4.out.size))
   obtain⟨v6,w6,hrun,hrow6,hb6⟩:=run_cat_str (w:=w5) w.heap.size (vrCs (n+1) (es.take j) ++ vrEs n es[j].es) (vrCs n es[j].ks) _ y5 (R4.out.below hb) B5.out.size (hrow.1.sits (by have:=HL0.out;omega)) hrow.2 (by rw[List.length_append];have:=HL0.out;omega)
   have HNX:Hid (StrRow w.heap.size (vrCs (n+1) (es.take (j+1))) v6 w6):=Lib.hid (by rw[HSN.out];exact hrow6)
   have B6:=Lib.hid (B5.out.trans hb6)
   clear hrow hb hrow6 hb6 F3 R4 B4 g2
   go_wp2_with (at_builtin;refine Lib.wpList_append_run _ rfl _ _ _ _ rfl _ _ rfl rfl _ _ (hrun _) ?_)
   clear hrun
   go_roundw
   case rel=>exact⟨j+1,by go_num,by omega,HNX,B6⟩
   case measure=>simp[intOf];omega
  ·obtain rfl:j=m:=by omega
   have hji:¬(j:Int)<(j:Int):=by omega
   have HR:Hid (StrRow w.heap.size (vrCs (n+1) es) u3 wo):=Lib.hid (by have h:=hrw.out;rwa [←HM.out,List.take_length]at h)
   have HB:=Lib.hid hbr.out
   clear hrw hbr
   go_wp2_with fail
   go_ret
   exact⟨_,rfl,HR.out,HB.out⟩
theorem varsC_any:∀(n:Nat) (es:List CT) (a:Option Addr) (cap:Nat) (w:World),ptCs n es≤1000→Pak.Sits (condSh n) (Pak.Lo w.heap.size) w a es→Calls Tryz.prog 52 #[.slice a es.length cap] w (VrEnd (vrCs n es) w)
 | 0,es,a,cap,w,hp,hs=>by
   have he:es=[]:=by
    cases es with
    | nil=>rfl
    | cons x xs=>
      obtain⟨_,_,_,_,_,_,hr⟩:=hs.2 0 (by simp)
      exact hr.elim
   subst he
   exact varsC_box 0 [] a 0 cap w rfl (by simp[ptCs]) (Pak.Sits.nil _ _ _ _) fun x u c W hx _ _=>absurd hx (by simp)
 | n+1,es,a,cap,w,hp,hs=>
   varsC_box n es a es.length cap w rfl hp hs fun x u c W hx hW hsx=>varsC_any n x.ks u c W (by
    obtain⟨q,hq,rfl⟩:=List.getElem_of_mem hx
    have h1:=ptCs_take (n:=n+1) hq
    have h2:=ptC_succ n es[q]
    omega) hsx
end
section
open Go.RowKit
def vrA:Nat→AT→List ByteArray
 | 0,_=>[]
 | n+1,a=>(vrCs n [a.c] ++ vrEs n [a.e,a.v]) ++ (a.ks.map (vrA n)).flatten
def vrAs (n:Nat)(l:List AT):List ByteArray:=(l.map (vrA n)).flatten
theorem vrA_succ (n:Nat)(a:AT):vrA (n+1) a=(vrCs n [a.c] ++ vrEs n [a.e,a.v]) ++ vrAs n a.ks:=rfl
theorem vrAs_snoc {n:Nat}{l:List AT}{j:Nat}(h:j<l.length):vrAs n (l.take (j+1))=vrAs n (l.take j) ++ vrA n l[j]:=by
 unfold vrAs
 rw[List.take_succ_eq_append_getElem h,List.map_append,List.flatten_append]
 simp
theorem vrA_len:∀(n:Nat) (a:AT),(vrA n a).length≤ptA n a
 | 0,_=>Nat.le_refl _
 | n+1,a=>by
   have key:∀l:List AT,(l.map (vrA n)).flatten.length≤(l.map (ptA n)).sum:=fun l=>by
    induction l with
    | nil=>exact Nat.le_refl _
    | cons x r ih=>rw[List.map_cons,List.flatten_cons,List.length_append,List.map_cons,List.sum_cons];have:=vrA_len n x;omega
   have h1:=key a.ks
   have h2:=vrCs_len n [a.c]
   have h3:=vrEs_len n [a.e,a.v]
   rw[ptCs_one]at h2
   rw[ptEs_two]at h3
   unfold vrA ptA
   rw[List.length_append,List.length_append]
   omega
theorem vrAs_len (n:Nat):∀l:List AT,(vrAs n l).length≤ptAs n l
 | []=>Nat.le_refl _
 | x :: r=>by
   have h1:=vrA_len n x
   have h2:=vrAs_len n r
   unfold vrAs ptAs at*
   rw[List.map_cons,List.flatten_cons,List.length_append,List.map_cons,List.sum_cons]
   omega
theorem ptAs_take {n:Nat}{l:List AT}{j:Nat}(h:j<l.length):ptAs n (l.take j)+ptA n l[j]≤ptAs n l:=by
 have h1:=ptAs_snoc (n:=n) h
 have h2:ptAs n (l.take (j+1))+ptAs n (l.drop (j+1))=ptAs n l:=by
  unfold ptAs
  rw[←List.sum_append,←List.map_append,List.take_append_drop]
 omega
theorem step_append_runN {P:Program}{ops:Array Oper}{o:Oper}{a:Act}{w:World}{K:Act→World→Prop}{Q:Exit→Act→World→Prop}{E:Prop}
 (hg:o.guard=none) (s x:Operand) (t:TypeId) (hop:o.op=Op.call { callee:=Callee.builtin Builtin.append,args:= #[s,x],argTypes:= #[t,t] })
 (v1 v2 v':Value) (w':World) (h1:a.eval s=v1) (h2:a.eval x=v2) (hr:∀ty,(Builtin.append_ #[t,t] ty #[v1,v2]).run P w= .ok v' w') (hK:K (a.put o.dst v') w'):
 if Region.wanted o (yielded ops a.tmps)=true then Oper.wp P o a w K Q else E:=by
 have hw:Region.wanted o (yielded ops a.tmps)=true:=by simp[Region.wanted,hg]
 rw[if_pos hw]
 unfold Oper.wp
 simp[execOp,hop,resolve,invoke,builtin,h1,h2,hr,Result.andThen]
 exact hK
end
section
open Go.RowKit
def SChk (g:Nat)(u:Value)(p:ByteArray→Bool)(w:World):Prop:=∀s,s.size≤maxLen→BoolAll g #[.string s,u] (p s) w
theorem SChk.up {g:Nat}{u:Value}{p:ByteArray→Bool}{w W:World}(h:SChk g u p w)(hb:Below w.heap.size w W):SChk g u p W:=fun s hs=>(h s hs).up hb
theorem vrE_all (p:ByteArray→Bool)(n:Nat)(e:ET):(vrE (n+1) e).all p=((!(e.kind == 1) || p e.name) && e.ks.all (fun x=>(vrE n x).all p)):=by
 rw[show vrE (n+1) e=(if e.kind=1 then[e.name] else[]) ++ (e.ks.map (vrE n)).flatten from rfl,List.all_append,List.all_flatten,List.all_map]
 by_cases h:e.kind=1
 ·rw[if_pos h,h];simp;rfl
 ·rw[if_neg h,beq_eq_false_iff_ne.2 h];simp;rfl
theorem vrEs_all (p:ByteArray→Bool)(n:Nat)(l:List ET):(vrEs n l).all p=l.all (fun x=>(vrE n x).all p):=by
 unfold vrEs
 rw[List.all_flatten,List.all_map]
 rfl
theorem vrCs_all (p:ByteArray→Bool)(n:Nat)(l:List CT):(vrCs n l).all p=l.all (fun x=>(vrC n x).all p):=by
 unfold vrCs
 rw[List.all_flatten,List.all_map]
 rfl
theorem vrAs_all (p:ByteArray→Bool)(n:Nat)(l:List AT):(vrAs n l).all p=l.all (fun x=>(vrA n x).all p):=by
 unfold vrAs
 rw[List.all_flatten,List.all_map]
 rfl
theorem vrC_all (p:ByteArray→Bool)(n:Nat)(c:CT):(vrC (n+1) c).all p=((vrCs n c.ks).all p && (vrEs n c.es).all p):=by
 rw[vrC_succ,List.all_append,Bool.and_comm]
theorem vrA_all (p:ByteArray→Bool)(n:Nat)(a:AT):(vrA (n+1) a).all p=((vrAs n a.ks).all p && (vrC n a.c).all p && (vrE n a.e).all p && (vrE n a.v).all p):=by
 rw[vrA_succ,List.all_append,List.all_append,vrCs_all,vrEs_all]
 simp only[List.all_cons,List.all_nil,Bool.and_true]
 cases (vrC n a.c).all p<;>cases (vrE n a.e).all p<;>cases (vrE n a.v).all p<;>cases (vrAs n a.ks).all p<;>rfl
theorem inExprs_box (n g:Nat)(u:Value)(p:ET→Bool)(a:Option Addr)(m cap:Nat)(xs:List ET)(w:World)(hm:xs.length=m)(hs:Pak.Sits (exprSh n) (Pak.Lo w.heap.size) w a xs)
 (hf:∀cs x W,x∈xs→Below w.heap.size w W→(exprSh n).rel (Pak.Lo W.heap.size) W cs x→Calls Tryz.prog 119 #[.agg cs.toArray,.func (.func g) #[] #[u]] W fun e W'=>e= .returned (.bool (p x))∧Below W.heap.size W W'):
 Calls Tryz.prog 121 #[.slice a m cap,.func (.func g) #[] #[u]] w fun e w'=>e= .returned (.bool (xs.all p))∧Below w.heap.size w w':=by
 have HS:=Lib.hid hs
 have HF:=Lib.hid hf
 have HM:=Lib.hid hm
 have hmm:m≤9223372036854775807:=by rw[←hm];exact hs.1
 have HHIT:Hid (∀j,(h:j<xs.length)→p xs[j]=false→xs.all p=false):=fun j h e=>all_hit h e
 have HMISS:Hid ((∀j,(h:j<xs.length)→p xs[j]=true)→xs.all p=true):=fun h=>all_miss h
 clear hs hf hm
 generalize xs.all p=r at HHIT HMISS
 go_enter Tryz.func121,Tryz.ntmps121
 go_wp2_with fail
 go_loopw [9] (fun i wr=>∃j:Nat,j≤m∧i= .int .i64 j∧Hid (∀q,(h:q<xs.length)→q<j→p xs[q]=true)∧Hid (Below w.heap.size w wr)) (fun i _=>m - (intOf i).toNat)
 case atStart=>exact⟨0,Nat.zero_le _,rfl,fun q _ h=>absurd h (Nat.not_lt_zero _),Below.refl _ _⟩
 case round=>
  obtain⟨j,hj,rfl,hno,hb⟩:=hrel
  obtain⟨wo,rfl⟩:∃wo:World,wo=wr:=⟨_,rfl⟩
  by_cases hlt:j<m
  ·have hlx:j<xs.length:=by rw[HM.out];exact hlt
   have hji:(j:Int)<(m:Int):=by omega
   obtain⟨b,off,cs,rfl,hbl,hc,hr⟩:=(HS.out.below hb.out hb.out.size).2 j hlx
   have hlen:=(exprSh n).len hr
   rw[exprSh_k n]at hlen hc
   obtain⟨x0,t0,rfl,hl0⟩:=cons_tr hlen
   obtain⟨x1,t1,rfl,hl1⟩:=cons_tr hl0
   obtain⟨x2,t2,rfl,hl2⟩:=cons_tr hl1
   obtain⟨x3,t3,rfl,hl3⟩:=cons_tr hl2
   obtain rfl:=List.eq_nil_of_length_eq_zero hl3
   clear hl0 hl1 hl2 hl3 hlen
   have c0:=hc 0 _ rfl
   have s0:=fun a m W=>run_store Tryz.prog W a x0 m ((exprSh n).one hr x0 (by simp))
   have c1:=hc 1 _ rfl
   have s1:=fun a m W=>run_store Tryz.prog W a x1 m ((exprSh n).one hr x1 (by simp))
   have c2:=hc 2 _ rfl
   have s2:=fun a m W=>run_store Tryz.prog W a x2 m ((exprSh n).one hr x2 (by simp))
   have c3:=hc 3 _ rfl
   have s3:=fun a m W=>run_store Tryz.prog W a x3 m ((exprSh n).one hr x3 (by simp))
   rw[Nat.add_zero]at c0
   have hA:Below wo.heap.size wo (wo.alloc (.cells #[x0,x1,x2,x3] 37)):=(Below.refl _ _).alloc (Nat.le_refl _) _
   have HB:=Lib.hid (hb.out.trans (hA.mono hb.out.size))
   have HC:=Lib.hid (HF.out _ xs[j] _ (List.getElem_mem hlx) HB.out ((exprSh n).keep (fun b (h:b<wo.heap.size)=>Nat.lt_of_lt_of_le h hA.size) (fun b o (h:b<wo.heap.size)=>hA.cell (p:=⟨b,o,none⟩) h) hr))
   have HH:=Lib.hid (HHIT.out j hlx)
   have HN:Hid (p xs[j]=true→∀q,(h:q<xs.length)→q<j+1→p xs[q]=true):=fun h q hq hlq=>by
    by_cases e:q=j
    ·subst e;exact h
    ·exact hno.out q hq (by omega)
   clear hc hr hA
   generalize p xs[j]=z at HC HH HN
   cases z with
   | false=>
     obtain rfl:=HH.out rfl
     clear HH HN
     go_wp2_with fail
     refine HC.out.mono ?_
     rintro e w2 ⟨rfl,hb2⟩
     have HB2:=Lib.hid (HB.out.trans (hb2.mono HB.out.size))
     clear hb2 HC
     go_wp2_with fail
     go_ret
     exact⟨rfl,HB2.out⟩
   | true=>
     have HN2:=Lib.hid (HN.out rfl)
     clear HH HN
     go_wp2_with fail
     refine HC.out.mono ?_
     rintro e w2 ⟨rfl,hb2⟩
     have HB2:=Lib.hid (HB.out.trans (hb2.mono HB.out.size))
     clear hb2 HC
     go_wp2_with fail
     go_roundw
     case rel=>exact⟨j+1,by omega,by go_num,HN2,HB2⟩
     case measure=>simp[intOf];omega
  ·obtain rfl:j=m:=by omega
   have hji:¬(j:Int)<(j:Int):=by omega
   obtain rfl:=HMISS.out (fun q hq=>hno.out q hq (by rw[HM.out]at hq;exact hq))
   go_wp2_with fail
   go_ret
   exact⟨rfl,hb.out⟩
theorem inExpr_box (k m:Int)(s:ByteArray)(a:Option Addr)(l cap g:Nat)(u:Value)(kb z1 z2:Bool)(w:World)(hkb:(k == 1)=kb)(eg:∀args w,(callFunc g args).run Tryz.prog w= .ok (.enter g args) w)
 (x1:BoolAll g #[.string s,u] z1 w) (x2:BoolAll 121 #[.slice a l cap,.func (.func g) #[] #[u]] z2 w):
 Calls Tryz.prog 119 #[.agg #[.int .i64 k,.int .i64 m,.string s,.slice a l cap],.func (.func g) #[] #[u]] w (SoundEnd ((!kb || z1) && z2) w):=by
 have HA:Hid (Below w.heap.size w (w.alloc (.cells #[.int .i64 k,.int .i64 m,.string s,.slice a l cap] 37))):=box_low
 have XB0:=Lib.hid (Bx.start w [.int .i64 k,.int .i64 m,.string s,.slice a l cap] 37)
 have X1:=Lib.hid (x1.up HA.out)
 have X2:=Lib.hid (x2.up HA.out)
 have c0:=XB0.out.at (o:=0) rfl
 have c2:=XB0.out.at (o:=2) rfl
 have c3:=XB0.out.at (o:=3) rfl
 have hnb:(k != 1)= !kb:=by rw[←hkb];rfl
 clear x1 x2
 cases kb with
 | false=>
   go_enter Tryz.func119,Tryz.ntmps119
   go_wp2_with fail
   refine(X2.out.at (Below.refl _ _)).mono ?_
   rintro r w2 ⟨rfl,hb⟩
   have HB:=Lib.hid (HA.out.trans (hb.mono HA.out.size))
   clear hb X1 X2
   go_wp2_with fail
   go_ret
   exact⟨by simp,HB.out⟩
 | true=>
   go_enter Tryz.func119,Tryz.ntmps119
   go_wp2_with fail
   refine(X1.out.at (Below.refl _ _)).mono ?_
   rintro r w2 ⟨rfl,hb⟩
   have HB1:=Lib.hid hb
   have HB:=Lib.hid (HA.out.trans (hb.mono HA.out.size))
   have d3:=(XB0.out.step hb).at (o:=3) rfl
   clear hb X1 c0 c2 c3
   cases z1 with
   | false=>
     go_wp2_with fail
     go_ret
     exact⟨by simp,HB.out⟩
   | true=>
     go_wp2_with fail
     refine(X2.out.at HB1.out).mono ?_
     rintro r w3 ⟨rfl,hb⟩
     have HB3:=Lib.hid (HB.out.trans (hb.mono HB.out.size))
     clear hb X2
     go_wp2_with fail
     go_ret
     exact⟨by simp,HB3.out⟩
theorem inExpr_any (g:Nat)(u:Value)(p:ByteArray→Bool)(eg:∀args w,(callFunc g args).run Tryz.prog w= .ok (.enter g args) w):∀(n:Nat) (e:ET) (cs:List Value) (w:World),SChk g u p w→(exprSh n).rel (Pak.Lo w.heap.size) w cs e→BoolAll 119 #[.agg cs.toArray,.func (.func g) #[] #[u]] ((vrE n e).all p) w
 | 0,_,_,_,_,h=>h.elim
 | n+1,e,cs,w,hp,h=>fun W hW=>by
   obtain⟨_,rfl,hn,a,cap,rfl,hs⟩:=h
   rw[vrE_all]
   exact inExpr_box e.kind e.n e.name a e.ks.length cap g u _ _ _ W rfl eg ((hp e.name hn.2.2).up hW) fun V hV=>
    inExprs_box n g u (fun x=>(vrE n x).all p) a e.ks.length cap e.ks V rfl (hs.below (hW.trans (hV.mono hW.size)) (Nat.le_trans hW.size hV.size)) fun cs x X hx hX hr=>inExpr_any g u p eg n x cs X (hp.up ((hW.trans (hV.mono hW.size)).trans (hX.mono (Nat.le_trans hW.size hV.size)))) hr X (Below.refl _ _)
theorem inExprs_any (g:Nat)(u:Value)(p:ByteArray→Bool)(eg:∀args w,(callFunc g args).run Tryz.prog w= .ok (.enter g args) w)(n:Nat)(a:Option Addr)(cap:Nat)(l:List ET)(w:World)(hp:SChk g u p w)(hs:Pak.Sits (exprSh n) (Pak.Lo w.heap.size) w a l):BoolAll 121 #[.slice a l.length cap,.func (.func g) #[] #[u]] ((vrEs n l).all p) w:=fun W hW=>by
 rw[vrEs_all]
 exact inExprs_box n g u (fun x=>(vrE n x).all p) a l.length cap l W rfl (hs.below hW hW.size) fun cs x X hx hX hr=>inExpr_any g u p eg n x cs X (hp.up (hW.trans (hX.mono hW.size))) hr X (Below.refl _ _)
theorem inCond_box (n g:Nat)(y:CT)(u:Value)(p:CT→Bool)(a1 a2:Option Addr)(d1 d2:Nat)(ze:Bool)(w:World)(hs:Pak.Sits (condSh n) (Pak.Lo w.heap.size) w a2 y.ks)
 (xe:BoolAll 121 #[.slice a1 y.es.length d1,.func (.func g) #[] #[u]] ze w)
 (hf:∀cs x W,x∈y.ks→Below w.heap.size w W→(condSh n).rel (Pak.Lo W.heap.size) W cs x→Calls Tryz.prog 120 #[.agg cs.toArray,.func (.func g) #[] #[u]] W fun e W'=>e= .returned (.bool (p x))∧Below W.heap.size W W'):
 Calls Tryz.prog 120 #[.agg #[.int .i64 y.kind,.slice a1 y.es.length d1,.slice a2 y.ks.length d2],.func (.func g) #[] #[u]] w (SoundEnd (y.ks.all p && ze) w):=by
 have XB0:Hid (Bx w [.int .i64 y.kind,.slice a1 y.es.length d1,.slice a2 y.ks.length d2] 41 (w.alloc (.cells #[.int .i64 y.kind,.slice a1 y.es.length d1,.slice a2 y.ks.length d2] 41))):=Lib.hid (Bx.start _ _ _)
 have HLW:Hid (∀W,Bx w [.int .i64 y.kind,.slice a1 y.es.length d1,.slice a2 y.ks.length d2] 41 W→Below w.heap.size w W):=Lib.hid fun W hW=>hW.low (Below.refl _ _)
 have HS:=Lib.hid hs
 have HF:=Lib.hid hf
 have XE:=Lib.hid xe
 have hmm:y.ks.length≤9223372036854775807:=hs.1
 have HHIT:Hid (∀j,(h:j<y.ks.length)→p y.ks[j]=false→y.ks.all p=false):=fun j h e=>all_hit h e
 have HMISS:Hid ((∀j,(h:j<y.ks.length)→p y.ks[j]=true)→y.ks.all p=true):=fun h=>all_miss h
 have k2:=XB0.out.at (o:=2) rfl
 clear hs hf xe
 generalize y.ks.all p=r at HHIT HMISS
 go_enter Tryz.func120,Tryz.ntmps120
 go_wp2_with fail
 clear k2
 go_loopw [10] (fun i wr=>∃j:Nat,j≤y.ks.length∧i= .int .i64 j∧Hid (∀q,(h:q<y.ks.length)→q<j→p y.ks[q]=true)∧Hid (Bx w [.int .i64 y.kind,.slice a1 y.es.length d1,.slice a2 y.ks.length d2] 41 wr)) (fun i _=>y.ks.length - (intOf i).toNat)
 case atStart=>exact⟨0,Nat.zero_le _,rfl,fun q _ h=>absurd h (Nat.not_lt_zero _),XB0⟩
 case round=>
  obtain⟨j,hj,rfl,hno,hxb⟩:=hrel
  obtain⟨wo,rfl⟩:∃wo:World,wo=wr:=⟨_,rfl⟩
  have HXB:=Lib.hid hxb.out
  have HB0:=Lib.hid (HLW.out _ hxb.out)
  by_cases hlt:j<y.ks.length
  ·have hji:(j:Int)<(y.ks.length:Int):=by omega
   obtain⟨b,off,cs,rfl,hbl,hc,hr⟩:=(HS.out.below HB0.out HB0.out.size).2 j hlt
   have hlen:=(condSh n).len hr
   rw[condSh_k n]at hlen hc
   obtain⟨x0,t0,rfl,hl0⟩:=cons_tr hlen
   obtain⟨x1,t1,rfl,hl1⟩:=cons_tr hl0
   obtain⟨x2,t2,rfl,hl2⟩:=cons_tr hl1
   obtain rfl:=List.eq_nil_of_length_eq_zero hl2
   clear hl0 hl1 hl2 hlen
   have c0:=hc 0 _ rfl
   have s0:=fun a m W=>run_store Tryz.prog W a x0 m ((condSh n).one hr x0 (by simp))
   have c1:=hc 1 _ rfl
   have s1:=fun a m W=>run_store Tryz.prog W a x1 m ((condSh n).one hr x1 (by simp))
   have c2:=hc 2 _ rfl
   have s2:=fun a m W=>run_store Tryz.prog W a x2 m ((condSh n).one hr x2 (by simp))
   rw[Nat.add_zero]at c0
   have hA:Below wo.heap.size wo (wo.alloc (.cells #[x0,x1,x2] 41)):=(Below.refl _ _).alloc (Nat.le_refl _) _
   have HX1:=Lib.hid (HXB.out.step hA)
   have HC:=Lib.hid (HF.out _ y.ks[j] _ (List.getElem_mem hlt) (HLW.out _ HX1.out) ((condSh n).keep (fun b (h:b<wo.heap.size)=>Nat.lt_of_lt_of_le h hA.size) (fun b o (h:b<wo.heap.size)=>hA.cell (p:=⟨b,o,none⟩) h) hr))
   have HH:=Lib.hid (HHIT.out j hlt)
   have HN:Hid (p y.ks[j]=true→∀q,(h:q<y.ks.length)→q<j+1→p y.ks[q]=true):=fun h q hq hlq=>by
    by_cases e:q=j
    ·subst e;exact h
    ·exact hno.out q hq (by omega)
   clear hc hr hA hno hxb
   generalize p y.ks[j]=z at HC HH HN
   cases z with
   | false=>
     obtain rfl:=HH.out rfl
     clear HH HN
     go_wp2_with fail
     refine HC.out.mono ?_
     rintro e w2 ⟨rfl,hb2⟩
     have HB2:=Lib.hid (HLW.out _ (HX1.out.step hb2))
     clear hb2 HC
     go_wp2_with fail
     go_ret
     exact⟨by simp,HB2.out⟩
   | true=>
     have HN2:=Lib.hid (HN.out rfl)
     clear HH HN
     go_wp2_with fail
     refine HC.out.mono ?_
     rintro e w2 ⟨rfl,hb2⟩
     have HX2:=Lib.hid (HX1.out.step hb2)
     clear hb2 HC
     go_wp2_with fail
     go_roundw
     case rel=>exact⟨j+1,by omega,by go_num,HN2,HX2⟩
     case measure=>simp[intOf];omega
  ·obtain rfl:j=y.ks.length:=by omega
   have hji:¬(y.ks.length:Int)<(y.ks.length:Int):=by omega
   obtain rfl:=HMISS.out (fun q hq=>hno.out q hq hq)
   have F:=Lib.hid (XE.out.at HB0.out)
   have k1:=HXB.out.at (o:=1) rfl
   clear hno hxb
   go_wp2_with fail
   refine F.out.mono ?_
   rintro e w2 ⟨rfl,hb2⟩
   have HB2:=Lib.hid (HB0.out.trans (hb2.mono HB0.out.size))
   clear hb2 F
   go_wp2_with fail
   go_ret
   exact⟨by simp,HB2.out⟩
theorem inCond_any (g:Nat)(u:Value)(p:ByteArray→Bool)(eg:∀args w,(callFunc g args).run Tryz.prog w= .ok (.enter g args) w):∀(n:Nat) (c:CT) (cs:List Value) (w:World),SChk g u p w→(condSh n).rel (Pak.Lo w.heap.size) w cs c→BoolAll 120 #[.agg cs.toArray,.func (.func g) #[] #[u]] ((vrC n c).all p) w
 | 0,_,_,_,_,h=>h.elim
 | n+1,c,cs,w,hp,h=>fun W hW=>by
   obtain⟨_,_,rfl,hn,⟨a1,d1,rfl,hs1⟩,⟨a2,d2,rfl,hs2⟩⟩:=h
   rw[vrC_all,vrCs_all]
   exact inCond_box n g c u (fun x=>(vrC n x).all p) a1 a2 d1 d2 _ W (hs2.below hW hW.size) (inExprs_any g u p eg n a1 d1 c.es W (hp.up hW) (hs1.below hW hW.size)) fun cs x X hx hX hr=>inCond_any g u p eg n x cs X (hp.up (hW.trans (hX.mono hW.size))) hr X (Below.refl _ _)
theorem inAssn_box (n g:Nat)(y:AT)(u:Value)(p:AT→Bool)(cs cc ce cv:List Value)(a2:Option Addr)(d2:Nat)(zc ze zv:Bool)(w:World)(hl:cs.length=15)(pc:Part cs 1 cc)(pe:Part cs 4 ce)(pv:Part cs 8 cv)(lc:cc.length=3)(le:ce.length=4)(lv:cv.length=4)(q14:cs[14]? =some (.slice a2 y.ks.length d2))
 (hs:Pak.Sits (assnSh n) (Pak.Lo w.heap.size) w a2 y.ks)
 (xc:BoolAll 120 #[.agg cc.toArray,.func (.func g) #[] #[u]] zc w) (xe:BoolAll 119 #[.agg ce.toArray,.func (.func g) #[] #[u]] ze w) (xv:BoolAll 119 #[.agg cv.toArray,.func (.func g) #[] #[u]] zv w)
 (hf:∀cs x W,x∈y.ks→Below w.heap.size w W→(assnSh n).rel (Pak.Lo W.heap.size) W cs x→Calls Tryz.prog 81 #[.agg cs.toArray,.func (.func g) #[] #[u]] W fun e W'=>e= .returned (.bool (p x))∧Below W.heap.size W W'):
 Calls Tryz.prog 81 #[.agg cs.toArray,.func (.func g) #[] #[u]] w (SoundEnd (y.ks.all p && zc && ze && zv) w):=by
 have XB0:Hid (Bx w cs 44 (w.alloc (.cells cs.toArray 44))):=Lib.hid (Bx.start _ _ _)
 have HLW:Hid (∀W,Bx w cs 44 W→Below w.heap.size w W):=Lib.hid fun W hW=>hW.low (Below.refl _ _)
 have HS:=Lib.hid hs
 have HF:=Lib.hid hf
 have XC:=Lib.hid xc
 have XE:=Lib.hid xe
 have XV:=Lib.hid xv
 have PC:=Lib.hid (fun W (hb:Bx w cs 44 W)=>box_part pc hb)
 have PE:=Lib.hid (fun W (hb:Bx w cs 44 W)=>box_part pe hb)
 have PV:=Lib.hid (fun W (hb:Bx w cs 44 W)=>box_part pv hb)
 have LC:=Lib.hid lc
 have LE:=Lib.hid le
 have LV:=Lib.hid lv
 have hmm:y.ks.length≤9223372036854775807:=hs.1
 have HHIT:Hid (∀j,(h:j<y.ks.length)→p y.ks[j]=false→y.ks.all p=false):=fun j h e=>all_hit h e
 have HMISS:Hid ((∀j,(h:j<y.ks.length)→p y.ks[j]=true)→y.ks.all p=true):=fun h=>all_miss h
 have k2:=XB0.out.at (o:=14) q14
 clear hs hf xc xe xv pc pe pv lc le lv q14 hl
 generalize y.ks.all p=r at HHIT HMISS
 go_enter Tryz.func81,Tryz.ntmps81
 go_wp2_with fail
 clear k2
 go_loopw [10] (fun i wr=>∃j:Nat,j≤y.ks.length∧i= .int .i64 j∧Hid (∀q,(h:q<y.ks.length)→q<j→p y.ks[q]=true)∧Hid (Bx w cs 44 wr)) (fun i _=>y.ks.length - (intOf i).toNat)
 case atStart=>exact⟨0,Nat.zero_le _,rfl,fun q _ h=>absurd h (Nat.not_lt_zero _),XB0⟩
 case round=>
  obtain⟨j,hj,rfl,hno,hxb⟩:=hrel
  obtain⟨wo,rfl⟩:∃wo:World,wo=wr:=⟨_,rfl⟩
  have HXB:=Lib.hid hxb.out
  have HB0:=Lib.hid (HLW.out _ hxb.out)
  by_cases hlt:j<y.ks.length
  ·have hji:(j:Int)<(y.ks.length:Int):=by omega
   obtain⟨b,off,ca,rfl,hbl,hc,hr⟩:=(HS.out.below HB0.out HB0.out.size).2 j hlt
   rw[assnSh_k n]at hc
   have HC0:Hid (∀i v,ca[i]? =some v→wo.cell? ((⟨b,off+j*15,none⟩:Addr).add i)=some v):=fun i v hv=>by
    rw[show(⟨b,off+j*15,none⟩:Addr).add i=⟨b,off+j*15+i,none⟩ by unfold Addr.add;split<;>simp_all]
    exact hc i v hv
   have HCL:=Lib.hid (((assnSh n).len hr).trans (assnSh_k _))
   have HO:=Lib.hid ((assnSh n).one hr)
   have hA:Below wo.heap.size wo (wo.alloc (.cells ca.toArray 44)):=(Below.refl _ _).alloc (Nat.le_refl _) _
   have HC1:Hid (∀i v,ca[i]? =some v→(wo.alloc (.cells ca.toArray 44)).cell? ((⟨wo.heap.size,0,none⟩:Addr).add i)=some v):=box_part (o:=0) (fun i v h=>by rw[Nat.zero_add];exact h) (Below.refl _ _)
   have HX1:=Lib.hid (HXB.out.step hA)
   have HC:=Lib.hid (HF.out _ y.ks[j] _ (List.getElem_mem hlt) (HLW.out _ HX1.out) (rel_low hr hA))
   have HH:=Lib.hid (HHIT.out j hlt)
   have HN:Hid (p y.ks[j]=true→∀q,(h:q<y.ks.length)→q<j+1→p y.ks[q]=true):=fun h q hq hlq=>by
    by_cases e:q=j
    ·subst e;exact h
    ·exact hno.out q hq (by omega)
   clear hc hr hA hno hxb
   generalize p y.ks[j]=z at HC HH HN
   go_wp2_with (first | go_skip | (refine wpList_store_new (by kernel_rfl) 44 _ _ rfl _ rfl ca rfl (by rw[HCL.out];kernel_rfl) (by rw[HCL.out];rfl) HO.out ?_) | (refine wpList_load_w (by kernel_rfl) 44 _ rfl ⟨b,off+j*15,none⟩ rfl ca _ HC0.out Tryz.underlying44 rfl (by rw[HCL.out];kernel_rfl) ?_) | (refine wpList_load_w (by kernel_rfl) 44 _ rfl ⟨wo.heap.size,0,none⟩ rfl ca _ HC1.out Tryz.underlying44 rfl (by rw[HCL.out];kernel_rfl) ?_))
   refine HC.out.mono ?_
   rintro e w2 ⟨rfl,hb2⟩
   have HX2:=Lib.hid (HX1.out.step hb2)
   clear hb2 HC HC0 HC1 HO HCL
   cases z with
   | false=>
     obtain rfl:=HH.out rfl
     clear HH HN
     go_wp2_with fail
     go_ret
     exact⟨by simp,HLW.out _ HX2.out⟩
   | true=>
     have HN2:=Lib.hid (HN.out rfl)
     clear HH HN
     go_wp2_with fail
     go_roundw
     case rel=>exact⟨j+1,by omega,by go_num,HN2,HX2⟩
     case measure=>simp[intOf];omega
  ·obtain rfl:j=y.ks.length:=by omega
   have hji:¬(y.ks.length:Int)<(y.ks.length:Int):=by omega
   obtain rfl:=HMISS.out (fun q hq=>hno.out q hq hq)
   have F:=Lib.hid (XC.out.at HB0.out)
   clear hno hxb
   go_wp2_with (first | go_skip | (refine wpList_load_w (by kernel_rfl) 41 _ rfl ⟨w.heap.size,1,none⟩ rfl cc _ (PC.out _ HXB.out) Tryz.underlying41 rfl (by rw[LC.out];kernel_rfl) ?_))
   refine F.out.mono ?_
   rintro e w2 ⟨rfl,hb2⟩
   have X2:=Lib.hid (HXB.out.step hb2)
   have HB2:=Lib.hid (HB0.out.trans (hb2.mono HB0.out.size))
   clear hb2 F
   cases zc with
   | false=>
     go_wp2_with fail
     go_ret
     exact⟨by simp,HB2.out⟩
   | true=>
   have F:=Lib.hid (XE.out.at HB2.out)
   go_wp2_with (first | go_skip | (refine wpList_load_w (by kernel_rfl) 37 _ rfl ⟨w.heap.size,4,none⟩ rfl ce _ (PE.out _ X2.out) Tryz.underlying37 rfl (by rw[LE.out];kernel_rfl) ?_))
   refine F.out.mono ?_
   rintro e w3 ⟨rfl,hb2⟩
   have X3:=Lib.hid (X2.out.step hb2)
   have HB3:=Lib.hid (HB2.out.trans (hb2.mono HB2.out.size))
   clear hb2 F
   cases ze with
   | false=>
     go_wp2_with fail
     go_ret
     exact⟨by simp,HB3.out⟩
   | true=>
   have F:=Lib.hid (XV.out.at HB3.out)
   go_wp2_with (first | go_skip | (refine wpList_load_w (by kernel_rfl) 37 _ rfl ⟨w.heap.size,8,none⟩ rfl cv _ (PV.out _ X3.out) Tryz.underlying37 rfl (by rw[LV.out];kernel_rfl) ?_))
   refine F.out.mono ?_
   rintro e w4 ⟨rfl,hb2⟩
   have HB4:=Lib.hid (HB3.out.trans (hb2.mono HB3.out.size))
   clear hb2 F
   go_wp2_with fail
   go_ret
   exact⟨by simp,HB4.out⟩
theorem assn_parts {n:Nat}{S:Nat→Prop}{w:World}{cs:List Value}{a:AT}(h:(assnSh (n+1)).rel S w cs a):∃cc ce cv a5 d5,cs.length=15∧Part cs 1 cc∧Part cs 4 ce∧Part cs 8 cv∧cs[0]? =some (.int .i64 a.kind)∧cs[13]? =some (.int .i64 a.n)∧cs[14]? =some (.slice a5 a.ks.length d5)∧(condSh n).rel S w cc a.c∧(exprSh n).rel S w ce a.e∧(exprSh n).rel S w cv a.v∧Pak.Sits (assnSh n) S w a5 a.ks:=by
 have hlen:=(assnSh (n+1)).len h
 rw[assnSh_k]at hlen
 obtain⟨cc,ce,cv,v,e,_,h2,h3,h4,a5,d5,rfl,h5⟩:=h
 have l2:=(condSh n).len h2
 have l3:=(exprSh n).len h3
 have l4:=(exprSh n).len h4
 rw[condSh_k]at l2
 rw[exprSh_k]at l3 l4
 have p1:Part cs 1 (cc ++ (ce ++ (cv ++ [.string a.field,.int .i64 a.n,.slice a5 a.ks.length d5]))):=by rw[e];exact part_right [_] _
 have p2:=p1.of (part_right cc _)
 rw[l2]at p2
 have p3:=p2.of (part_right ce _)
 rw[l3]at p3
 have p4:=p3.of (part_right cv _)
 rw[l4]at p4
 exact⟨cc,ce,cv,a5,d5,hlen,p1.of (part_left cc _),p2.of (part_left ce _),p3.of (part_left cv _),by rw[e];rfl,p4.at (j:=1) rfl,p4.at (j:=2) rfl,h2,h3,h4,h5⟩
theorem inAssn_any (g:Nat)(u:Value)(p:ByteArray→Bool)(eg:∀args w,(callFunc g args).run Tryz.prog w= .ok (.enter g args) w):∀(n:Nat) (a:AT) (cs:List Value) (w:World),SChk g u p w→(assnSh n).rel (Pak.Lo w.heap.size) w cs a→BoolAll 81 #[.agg cs.toArray,.func (.func g) #[] #[u]] ((vrA n a).all p) w
 | 0,_,_,_,_,h=>h.elim
 | n+1,a,cs,w,hp,h=>fun W hW=>by
   obtain⟨cc,ce,cv,a5,d5,hl,pc,pe,pv,_,_,q14,rc,re,rv,hs⟩:=assn_parts (n:=n) (rel_low h hW)
   have hpW:=hp.up hW
   rw[vrA_all,vrAs_all]
   exact inAssn_box n g a u (fun x=>(vrA n x).all p) cs cc ce cv a5 d5 _ _ _ W hl pc pe pv (((condSh n).len rc).trans (condSh_k _)) (((exprSh n).len re).trans (exprSh_k _)) (((exprSh n).len rv).trans (exprSh_k _)) q14 hs (inCond_any g u p eg n a.c cc W hpW rc) (inExpr_any g u p eg n a.e ce W hpW re) (inExpr_any g u p eg n a.v cv W hpW rv) fun cs x X hx hX hr=>inAssn_any g u p eg n x cs X (hpW.up hX) hr X (Below.refl _ _)
end
section
open Go.RowKit
theorem known1_any (F:ByteArray→Option Int)(k mp c:Nat)(p:ByteArray→Bool)(hp:∀s,decide ((F s).getD 0 > 0)=p s)(w:World)(hc:w.cell? ⟨c,0,none⟩=some (.map (some mp)))(hs:SMap F k mp w):SChk 77 (.pointer (some ⟨c,0,none⟩)) p w:=fun s hsz W hW=>by
 have c0:=(hW.cell (p:=⟨c,0,none⟩) (block_lt_of_cell hc)).trans hc
 have hl:=(hs.up hW).look hsz
 have hz:=hp s
 clear hc hs hp hW
 generalize (F s).getD 0=v at*
 generalize p s=z at*
 go_enter Tryz.func77,Tryz.ntmps77
 go_wp2_with fail
 all_goals
  go_ret
  exact⟨by rw[←hz];first | rfl | simp,Below.refl _ _⟩
theorem known21_any (F:ByteArray→Option Int)(k mp c:Nat)(p:ByteArray→Bool)(hp:∀s,((F s).getD 0 == 0)=p s)(w:World)(hc:w.cell? ⟨c,0,none⟩=some (.map (some mp)))(hs:SMap F k mp w):SChk 80 (.pointer (some ⟨c,0,none⟩)) p w:=fun s hsz W hW=>by
 have c0:=(hW.cell (p:=⟨c,0,none⟩) (block_lt_of_cell hc)).trans hc
 have hl:=(hs.up hW).look hsz
 have hz:=hp s
 clear hc hs hp hW
 generalize (F s).getD 0=v at*
 generalize p s=z at*
 go_enter Tryz.func80,Tryz.ntmps80
 go_wp2_with fail
 all_goals
  go_ret
  exact⟨by rw[←hz];first | rfl | simp,Below.refl _ _⟩
def resW:ByteArray:=⟨#[114,101,115]⟩
theorem known3_any (g c:Nat)(u:Value)(p:ByteArray→Bool)(eg:∀args w,(callFunc g args).run Tryz.prog w= .ok (.enter g args) w)(w:World)(hc:w.cell? ⟨c,0,none⟩=some (.func (.func g) #[] #[u]))(hs:SChk g u p w):SChk 82 (.pointer (some ⟨c,0,none⟩)) (fun s=>p s || decide (s=resW)) w:=fun s hsz W hW=>by
 have c0:=(hW.cell (p:=⟨c,0,none⟩) (block_lt_of_cell hc)).trans hc
 have F:=Lib.hid ((hs s hsz).at hW)
 have hz:(s.toList == [114,101,115])=decide (s=resW):=by
  have hr:resW.toList=[114,101,115]:=by rw[Lib.toList_data];rfl
  rw[←hr]
  by_cases h:s=resW
  ·subst h;simp
  ·rw[decide_eq_false h];exact nbs_ne h
 clear hc hs
 show Calls _ _ _ _ (SoundEnd (p s || decide (s=resW)) W)
 generalize p s=z at*
 generalize decide (s=resW)=y at*
 go_enter Tryz.func82,Tryz.ntmps82
 go_wp2_with fail
 refine F.out.mono ?_
 rintro r w2 ⟨rfl,hb⟩
 have HB:=Lib.hid hb
 clear hb F
 cases z with
 | true=>
   go_wp2_with fail
   go_ret
   exact⟨rfl,HB.out⟩
 | false=>
   cases y with
   | true=>
     go_wp2_with fail
     go_ret
     exact⟨rfl,HB.out⟩
   | false=>
     go_wp2_with fail
     go_ret
     exact⟨rfl,HB.out⟩
theorem read_box (cs ce cv cc:List Value)(g:Nat)(u:Value)(a:Option Addr)(m cap:Nat)(z1 z2 z3 z4:Bool)(w:World)(hl:cs.length=35)(ho:∀u∈cs,u.oneCell'=true)(pe:Part cs 4 ce)(pv:Part cs 8 cv)(pc:Part cs 12 cc)(le:ce.length=4)(lv:cv.length=4)(lc:cc.length=3)(q30:cs[30]? =some (.slice a m cap))
 (x1:BoolAll 119 #[.agg ce.toArray,.func (.func g) #[] #[u]] z1 w) (x2:BoolAll 119 #[.agg cv.toArray,.func (.func g) #[] #[u]] z2 w) (x3:BoolAll 120 #[.agg cc.toArray,.func (.func g) #[] #[u]] z3 w) (x4:BoolAll 121 #[.slice a m cap,.func (.func g) #[] #[u]] z4 w):
 Calls Tryz.prog 79 #[.agg cs.toArray,.func (.func g) #[] #[u]] w (SoundEnd (z1 && z2 && z3 && z4) w):=by
 have XB0:=Lib.hid (Bx.start w cs 47)
 have HLW:Hid (∀W,Bx w cs 47 W→Below w.heap.size w W):=Lib.hid fun W hW=>hW.low (Below.refl _ _)
 have PE:=Lib.hid (fun W (hb:Bx w cs 47 W)=>box_part pe hb)
 have PV:=Lib.hid (fun W (hb:Bx w cs 47 W)=>box_part pv hb)
 have PC:=Lib.hid (fun W (hb:Bx w cs 47 W)=>box_part pc hb)
 have LE:=Lib.hid le
 have LV:=Lib.hid lv
 have LC:=Lib.hid lc
 have Q30:=Lib.hid q30
 have X1:=Lib.hid x1
 have X2:=Lib.hid x2
 have X3:=Lib.hid x3
 have X4:=Lib.hid x4
 have F:=Lib.hid (X1.out.at (HLW.out _ XB0.out))
 clear pe pv pc le lv lc q30 x1 x2 x3 x4 hl ho
 go_enter Tryz.func79,Tryz.ntmps79
 go_wp2_with (first | go_skip | (refine wpList_load_w (by kernel_rfl) 37 _ rfl ⟨w.heap.size,4,none⟩ rfl ce _ (PE.out _ XB0.out) Tryz.underlying37 rfl (by rw[LE.out];kernel_rfl) ?_))
 refine F.out.mono ?_
 rintro e w2 ⟨rfl,hb2⟩
 have B2:=Lib.hid (XB0.out.step hb2)
 have HB2:=Lib.hid (HLW.out _ B2.out)
 clear hb2 F
 cases z1 with
 | false=>
   go_wp2_with fail
   go_ret
   exact⟨by simp,HB2.out⟩
 | true=>
 have F:=Lib.hid (X2.out.at HB2.out)
 go_wp2_with (first | go_skip | (refine wpList_load_w (by kernel_rfl) 37 _ rfl ⟨w.heap.size,8,none⟩ rfl cv _ (PV.out _ B2.out) Tryz.underlying37 rfl (by rw[LV.out];kernel_rfl) ?_))
 refine F.out.mono ?_
 rintro e w3 ⟨rfl,hb2⟩
 have B3:=Lib.hid (B2.out.step hb2)
 have HB3:=Lib.hid (HLW.out _ B3.out)
 clear hb2 F
 cases z2 with
 | false=>
   go_wp2_with fail
   go_ret
   exact⟨by simp,HB3.out⟩
 | true=>
 have F:=Lib.hid (X3.out.at HB3.out)
 go_wp2_with (first | go_skip | (refine wpList_load_w (by kernel_rfl) 41 _ rfl ⟨w.heap.size,12,none⟩ rfl cc _ (PC.out _ B3.out) Tryz.underlying41 rfl (by rw[LC.out];kernel_rfl) ?_))
 refine F.out.mono ?_
 rintro e w4 ⟨rfl,hb2⟩
 have B4:=Lib.hid (B3.out.step hb2)
 have HB4:=Lib.hid (HLW.out _ B4.out)
 clear hb2 F
 cases z3 with
 | false=>
   go_wp2_with fail
   go_ret
   exact⟨by simp,HB4.out⟩
 | true=>
 have F:=Lib.hid (X4.out.at HB4.out)
 have k30:=B4.out.at (o:=30) Q30.out
 go_wp2_with fail
 refine F.out.mono ?_
 rintro e w5 ⟨rfl,hb2⟩
 have HB5:=Lib.hid (HB4.out.trans (hb2.mono HB4.out.size))
 clear hb2 F
 go_wp2_with fail
 go_ret
 exact⟨by simp,HB5.out⟩
def rdS (n:Nat)(s:ST):List ByteArray:=vrEs n [s.p.e,s.p.v] ++ vrCs n [s.p.c] ++ vrEs n s.p.args
theorem rdS_all (p:ByteArray→Bool)(n:Nat)(s:ST):(rdS n s).all p=((vrE n s.p.e).all p && (vrE n s.p.v).all p && (vrC n s.p.c).all p && (vrEs n s.p.args).all p):=by
 unfold rdS
 rw[List.all_append,List.all_append,vrEs_all,vrCs_all]
 simp only[List.all_cons,List.all_nil,Bool.and_true]
theorem read_any (g:Nat)(u:Value)(p:ByteArray→Bool)(eg:∀args w,(callFunc g args).run Tryz.prog w= .ok (.enter g args) w)(n:Nat)(s:ST)(cs:List Value)(w:World)(hp:SChk g u p w)(hr:(stmtSh (n+1)).rel (Pak.Lo w.heap.size) w cs s):BoolAll 79 #[.agg cs.toArray,.func (.func g) #[] #[u]] ((rdS n s).all p) w:=fun W hW=>by
 obtain⟨ce,cv,cc,ca,u1,u2,u3',u4,u5,c1,c2,c3,c4,c5,H⟩:=stmt_is (rel_low hr hW)
 have hpW:=hp.up hW
 rw[rdS_all]
 exact read_box cs ce cv cc g u u1 s.p.args.length c1 _ _ _ _ W H.len H.one H.pe H.pv H.pc (((exprSh n).len H.re).trans (exprSh_k _)) (((exprSh n).len H.rv).trans (exprSh_k _)) (((condSh n).len H.rc).trans (condSh_k _)) H.args (inExpr_any g u p eg n s.p.e ce W hpW H.re) (inExpr_any g u p eg n s.p.v cv W hpW H.rv) (inCond_any g u p eg n s.p.c cc W hpW H.rc) (inExprs_any g u p eg n u1 c1 s.p.args W hpW H.rargs)
def calB (s:ByteArray)(qs:List QT):Bool:=decide (findN s qs<qs.length)
def calP (s:ByteArray)(qs:List QT):Nat:=match qs[findN s qs]? with | some q=>q.params.length | none=>0
def calG (s:ByteArray)(qs:List QT):Nat:=match qs[findN s qs]? with | some q=>q.ghosts.length | none=>0
def CalEnd (qs:List QT)(s:ByteArray)(w:World)(r:Ending)(w':World):Prop:=∃(cs:List Value) (a1:Option Addr) (c1:Nat) (a2:Option Addr) (c2:Nat),r= .returned (.tuple #[.agg cs.toArray,.bool (calB s qs)])∧cs.length=34∧(∀u∈cs,u.oneCell'=true)∧cs[1]? =some (.slice a1 (calP s qs) c1)∧cs[2]? =some (.slice a2 (calG s qs) c2)∧Below w.heap.size w w'
def CalLaw (g:Nat)(y1 y2:Value)(qs:List QT)(w:World):Prop:=∀s,s.size≤maxLen→∀W,Below w.heap.size w W→Calls Tryz.prog g #[.string s,y1,y2] W (CalEnd qs s W)
theorem CalLaw.up {g:Nat}{y1 y2:Value}{qs:List QT}{w W:World}(h:CalLaw g y1 y2 qs w)(hb:Below w.heap.size w W):CalLaw g y1 y2 qs W:=fun s hs V hV=>h s hs V (hb.trans (hV.mono hb.size))
def frsF (qs:List QT)(s:ByteArray):Option Int:=if findN s qs<qs.length then some (findN s qs:Int) else none
def zQc:List Value:=[.string ⟨#[]⟩,.slice none 0 0,.slice none 0 0,.int .i64 0,.int .i64 0,.slice none 0 0,.slice none 0 0,.int .i64 0,.int .i64 0,.string ⟨#[]⟩,.slice none 0 0,.int .i64 0,.int .i64 0,.string ⟨#[]⟩,.slice none 0 0,.string ⟨#[]⟩,.int .i64 0,.slice none 0 0] ++ [.int .i64 0,.int .i64 0,.slice none 0 0,.slice none 0 0,.int .i64 0,.int .i64 0,.string ⟨#[]⟩,.slice none 0 0,.int .i64 0,.int .i64 0,.string ⟨#[]⟩,.slice none 0 0,.string ⟨#[]⟩,.int .i64 0,.slice none 0 0,.slice none 0 0]
theorem zQc_len:zQc.length=34:=rfl
theorem zQc_one:∀u∈zQc,u.oneCell'=true:=by decide
theorem calB_pos {s:ByteArray}{qs:List QT}(h:findN s qs<qs.length):calB s qs=true:=decide_eq_true h
theorem calP_pos {s:ByteArray}{qs:List QT}(h:findN s qs<qs.length):calP s qs=qs[findN s qs].params.length:=by unfold calP;rw[List.getElem?_eq_getElem h]
theorem calG_pos {s:ByteArray}{qs:List QT}(h:findN s qs<qs.length):calG s qs=qs[findN s qs].ghosts.length:=by unfold calG;rw[List.getElem?_eq_getElem h]
theorem calB_neg {s:ByteArray}{qs:List QT}(h:¬findN s qs<qs.length):calB s qs=false:=decide_eq_false h
theorem calP_neg {s:ByteArray}{qs:List QT}(h:¬findN s qs<qs.length):calP s qs=0:=by unfold calP;rw[List.getElem?_eq_none (by omega)]
theorem calG_neg {s:ByteArray}{qs:List QT}(h:¬findN s qs<qs.length):calG s qs=0:=by unfold calG;rw[List.getElem?_eq_none (by omega)]
theorem load_box {cs:List Value}(h:cs.length=34)(W:World):(loadVar 49 ⟨W.heap.size,0,none⟩).run Tryz.prog (W.alloc (.cells cs.toArray 49))= .ok (.agg cs.toArray) (W.alloc (.cells cs.toArray 49)):=
 run_loadVar_list (P:=Tryz.prog) (W.alloc (.cells cs.toArray 49)) ⟨W.heap.size,0,none⟩ 49 cs _ (box_part (o:=0) (fun i v h=>by rw[Nat.zero_add];exact h) (Below.refl _ _)) Tryz.underlying49 rfl (by rw[h];kernel_rfl)
theorem results_cell_tmp {fn:Func}{a t:Tmp}{ty:TypeId}(h:fn.results= #[.cell a ty,.tmp t])(tmps:Array Value)(P:Program)(w:World)(g:Addr)(v u:Value)(ha:tmps[a]?.getD undef= .pointer (some g))(hu:tmps[t]?.getD undef=u)(hl:(loadVar ty g).run P w= .ok v w):(results fn tmps).run P w= .ok (.tuple #[v,u]) w:=by
 simp[results,h,ha,hu,asAddr,hl]
theorem results_cell {fn:Func}{a:Tmp}{ty:TypeId}(h:fn.results= #[.cell a ty])(tmps:Array Value)(P:Program)(w:World)(g:Addr)(v:Value)(ha:tmps[a]?.getD undef= .pointer (some g))(hl:(loadVar ty g).run P w= .ok v w):(results fn tmps).run P w= .ok v w:=by
 simp[results,h,ha,asAddr,hl]
theorem callee_any (n k mp c4 c1 m cap:Nat)(a:Option Addr)(qs:List QT)(w:World)(hc4:w.cell? ⟨c4,0,none⟩=some (.map (some mp)))(hs:SMap (frsF qs) k mp w)(hc1:w.cell? ⟨c1,0,none⟩=some (.slice a m cap))(hm:qs.length=m)(hq:Pak.Sits (procSh n) (Pak.Lo w.heap.size) w a qs):
 CalLaw 14 (.pointer (some ⟨c4,0,none⟩)) (.pointer (some ⟨c1,0,none⟩)) qs w:=fun s hsz W hW=>by
 have g4:=(hW.cell (p:=⟨c4,0,none⟩) (block_lt_of_cell hc4)).trans hc4
 have g1:=(hW.cell (p:=⟨c1,0,none⟩) (block_lt_of_cell hc1)).trans hc1
 have hl4:c4<W.heap.size:=block_lt_of_cell g4
 have hl1:c1<W.heap.size:=block_lt_of_cell g1
 have HSM:=Lib.hid (hs.up hW)
 have HQ:=Lib.hid (hq.below hW hW.size)
 have hmm:m≤9223372036854775807:=by rw[←hm];exact hq.1
 have hk:=fun A:Array Value=>(HSM.out.up (box_low (cs:=A) (t:=49))).look2 hsz
 have k4:=fun A:Array Value=>((box_low (w:=W) (cs:=A) (t:=49)).cell (p:=⟨c4,0,none⟩) hl4).trans g4
 have k1:=fun A:Array Value=>((box_low (w:=W) (cs:=A) (t:=49)).cell (p:=⟨c1,0,none⟩) hl1).trans g1
 clear hs hq hW hc4 hc1 hl4 hl1 g4 g1
 unfold frsF at hk
 by_cases hf:findN s qs<qs.length
 ·rw[if_pos hf]at hk
  have HFM:Hid (findN s qs<m):=Lib.hid (by rw[←hm];exact hf)
  obtain⟨b,off,cs,rfl,hbl,hc,hr⟩:=HQ.out.2 _ hf
  obtain⟨ca,cb,a1,a2,a3,d1,d2,d3,H⟩:=proc_is hr
  rw[procSh_k]at hc
  have HR:Hid (CalEnd qs s W (.returned (.tuple #[.agg cs.toArray,.bool true])) (W.alloc (.cells cs.toArray 49))):=Lib.hid ⟨cs,a1,d1,a2,d2,by rw[calB_pos hf],H.len,H.one,by rw[calP_pos hf];exact H.params,by rw[calG_pos hf];exact H.ghosts,box_low⟩
  have HL:=Lib.hid H.len
  have HO:=Lib.hid H.one
  have HC0:Hid (∀A:Array Value,∀i v,cs[i]? =some v→(W.alloc (.cells A 49)).cell? ((⟨b,off+findN s qs*34,none⟩:Addr).add i)=some v):=Lib.hid fun A i v hv=>by
   rw[show(⟨b,off+findN s qs*34,none⟩:Addr).add i=⟨b,off+findN s qs*34+i,none⟩ by unfold Addr.add;split<;>simp_all]
   exact((box_low (w:=W) (cs:=A) (t:=49)).cell (p:=⟨b,_,none⟩) hbl).trans (hc i v hv)
  have HLD:=load_box H.len W
  clear H hc hr hf HSM HQ hm
  generalize CalEnd qs s W=Q at*
  generalize findN s qs=j at*
  have hj:(j:Int)<(m:Int):=by have:=HFM.out;omega
  go_enter Tryz.func14,Tryz.ntmps14
  go_wp2_with (first | go_skip | (refine wpList_store_new (by kernel_rfl) 49 _ _ rfl _ rfl cs rfl (by rw[HL.out];kernel_rfl) (by rw[HL.out];rfl) HO.out ?_) | (refine wpList_load_w (by kernel_rfl) 49 _ rfl ⟨b,off+j*34,none⟩ rfl cs _ (HC0.out _) Tryz.underlying49 rfl (by rw[HL.out];kernel_rfl) ?_))
  exact bodyPost_ret (v:= .tuple #[.agg cs.toArray,.bool true]) (results_cell_tmp rfl _ _ _ _ _ _ rfl rfl HLD) rfl HR.out
 ·rw[if_neg hf]at hk
  have HR:Hid (CalEnd qs s W (.returned (.tuple #[.agg zQc.toArray,.bool false])) (W.alloc (.cells zQc.toArray 49))):=Lib.hid ⟨zQc,none,0,none,0,by rw[calB_neg hf],zQc_len,zQc_one,by rw[calP_neg hf];rfl,by rw[calG_neg hf];rfl,box_low⟩
  have HLD:=load_box zQc_len W
  clear hf HSM HQ hm
  generalize CalEnd qs s W=Q at*
  go_enter Tryz.func14,Tryz.ntmps14
  go_wp2_with (first | go_skip | (refine wpList_store_new (by kernel_rfl) 49 _ _ rfl _ rfl zQc rfl (by rw[zQc_len];kernel_rfl) (by rw[zQc_len];rfl) zQc_one ?_))
  exact bodyPost_ret (v:= .tuple #[.agg zQc.toArray,.bool false]) (results_cell_tmp rfl _ _ _ _ _ _ rfl rfl HLD) rfl HR.out
end
end Go.Proofs.YtfcaclmcnlflfaaGreatDoor
