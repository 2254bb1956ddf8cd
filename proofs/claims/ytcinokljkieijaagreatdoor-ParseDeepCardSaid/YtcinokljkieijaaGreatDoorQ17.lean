/- Parts of a proof. -/
import Derived.Test.YtcinokljkieijaaGreatDoorQ02
import Derived.Test.YtcinokljkieijaaGreatDoorQ07
import Derived.Test.YtcinokljkieijaaGreatDoorQ16
import Derived.RegionTactic
import Derived.BigRegion
import Derived.Great.BuildSlice
set_option linter.unusedVariables false
set_option linter.unusedSimpArgs false
set_option maxHeartbeats 60000000
set_option maxRecDepth 100000
namespace Go.Proofs.YtcinokljkieijaaGreatDoor
section
open Go.RowKit
def RB (B he:Nat)(W:World)(x:List ST):Prop:=∃v,W.cell? ⟨he,0,none⟩=some v∧W.frozen? ⟨he,0,none⟩=false∧he<W.heap.size∧Pak.Slot stX (InS B W) W v x
def mz2 (C:PC)(w:World):Nat:=2*mz C w+(match w.cell? ⟨C.g,4,none⟩with | some .nilIface=>1 | _=>0)
theorem mz2_none {C:PC}{s:PS}{w:World}(h:PSt C s w)(he:s.er=none):mz2 C w=2*(C.tk.length - s.nx)+1:=by
 unfold mz2
 rw[mz_eq h]
 rcases err_cell h with ⟨_,h4⟩ | ⟨h1,_⟩
 ·rw[h4]
 ·exact absurd he h1
theorem mz2_some {C:PC}{s:PS}{w:World}(h:PSt C s w)(he:s.er≠none):mz2 C w=2*(C.tk.length - s.nx):=by
 unfold mz2
 rw[mz_eq h]
 rcases err_cell h with ⟨h1,_⟩ | ⟨_,b,h4⟩
 ·exact absurd h1 he
 ·rw[h4];rfl
section
variable {C:PC} {he hp:Nat} {w0:World} {s s2:PS} {xs:List ST} {v u:Value} {wr w1:World} {cs:List Value} {x:ST}
theorem RQ.rel (h:RQ C he hp w0 s xs v u wr)(hx:stX.rel (InS wr.heap.size w1) w1 cs x):stX.rel (fun b=>w0.heap.size≤b∧b<w1.heap.size∧v.ownBlock≠some b) w1 cs x:=
 stX.keep (fun b ⟨a1,a2⟩=>⟨Nat.le_trans h.kept.size a1,a2,fun e=>by have:=(h.blk b e).2.1;omega⟩) (fun _ _ _=>rfl) hx
theorem rel_alloc {S:Nat→Prop}(o:Obj)(hx:stX.rel (fun b=>w0.heap.size≤b∧b<w1.heap.size∧S b) w1 cs x):stX.rel (fun b=>w0.heap.size≤b∧b<(w1.alloc o).heap.size∧S b) (w1.alloc o) cs x:=
 stX.keep (fun b ⟨a1,a2,a3⟩=>⟨a1,by simp;omega,a3⟩) (fun b o ⟨a1,a2,a3⟩=>World.cell?_alloc_lt _ _ _ a2) hx
theorem rel_set {S:Nat→Prop}{z:Value}(hh:he<w0.heap.size)(hx:stX.rel (fun b=>w0.heap.size≤b∧b<w1.heap.size∧S b) w1 cs x):stX.rel (fun b=>w0.heap.size≤b∧b<(w1.setCell ⟨he,0,none⟩ z).heap.size∧S b) (w1.setCell ⟨he,0,none⟩ z) cs x:=
 stX.keep (fun b ⟨a1,a2,a3⟩=>⟨a1,by simpa [World.setCell]using a2,a3⟩) (fun b o ⟨a1,a2,a3⟩=>World.cell?_of_block (Below.heap_setCell _ _ _ _ (by show b≠he;omega))) hx
theorem new_zero (w:World):∀j u,zSt[j]? =some u→(w.alloc (.cells zSt.toArray 65)).cell? ((⟨w.heap.size,0,none⟩:Addr).add j)=some u:=fun j u hu=>World.news_of_block (heap_alloc_new w (.cells zSt.toArray 65)) j u (by simpa using hu)
theorem new_kept {g b:Nat}{w w':World}(k:KeptG g w w')(hb:b<w.heap.size)(hg:b≠g)(h:∀j u,zSt[j]? =some u→w.cell? ((⟨b,0,none⟩:Addr).add j)=some u):∀j u,zSt[j]? =some u→w'.cell? ((⟨b,0,none⟩:Addr).add j)=some u:=fun j u hu=>(World.cell?_of_block (by
 have e:(((⟨b,0,none⟩:Addr).add j).block)=b:=by unfold Addr.add;split<;>simp_all
 rw[e];exact k.block b hb hg)).trans (h j u hu)
end
theorem blockc_any (F:PS→ST×PS)(C:PC)(s:PS)(W:World)(hp he:Nat)(h:PSt C s W)(hmv:∀s,Mv C.tk s (F s).2)(hlt:∀s2,Mv C.tk s s2→(F s2).2.er=none→s2.nx<(F s2).2.nx)
 (hC:∀s2 W2,Mv C.tk s s2→PSt C s2 W2→Calls Tryz.prog 124 #[C.p] W2 (PE (Vx stX) F C s2 W2))
 (hcp:W.cell? ⟨hp,0,none⟩=some C.p) (h0:W.cell? ⟨he,0,none⟩=some (.slice none 0 0)) (h0f:W.frozen? ⟨he,0,none⟩=false) (hg:C.g<he∧C.g<hp∧hp≠he) (hs:he<W.heap.size∧hp<W.heap.size) (B:Nat) (hB:B≤W.heap.size):
 Calls Tryz.prog 123 #[.pointer (some ⟨hp,0,none⟩),.pointer (some ⟨he,0,none⟩)] W (PW (RB B he) (pstmts C.tk F (C.tk.length+2) []) C he s W):=by
 obtain⟨T,hT⟩:∃T,T=pstmts C.tk F (C.tk.length+2) [] s:=⟨_,rfl⟩
 have HR0:=Lib.hid (RQ.start h hg hs hcp h0 h0f)
 have HT0:=Lib.hid hT.symm
 have HM0:=Lib.hid (Mv.refl C.tk s)
 have HU0:Hid (s.er=none→C.tk.length+2≤C.tk.length+2+s.nx):=fun _=>Nat.le_add_right _ _
 have HX0:Hid (([]:List ST).length≤s.nx+1∧(s.er=none→([]:List ST).length≤s.nx)):=⟨Nat.zero_le _,fun _=>Nat.zero_le _⟩
 have HEND:Hid (∀k s2 xs v wr w9,RQ C he hp W s2 xs v v wr→pstmts C.tk F k xs s2=T→xs.length≤s2.nx+1→pstmts C.tk F k xs s2=(xs,s2)→Below wr.heap.size wr w9→PW (RB B he) (pstmts C.tk F (C.tk.length+2) []) C he s W (.returned (.tuple #[])) w9):=fun k s2 xs v wr w9 hr hk hx e hb=>by
  have e2:pstmts C.tk F (C.tk.length+2) [] s=(xs,s2):=by rw[←hT,←hk,e]
  have hr9:=hr.keep (KeptG.of_below hb) (hr.ps.up hb)
  have hl:=hr.ps.inv.nx
  have hlen:=hr.ps.len.1
  have hz:=hr9.kept.size
  refine⟨rfl,by rw[e2];exact hr9.ps,hr9.kept, ?_⟩
  rw[e2]
  exact⟨v,hr9.cell,hr9.fz,by have:=hr9.hl;omega,(hr9.own.sits (by show xs.length≤_;omega)).keep (fun b ⟨a1,a2⟩=>⟨Nat.le_trans hB a1,a2⟩) (fun _ _ _=>rfl)⟩
 have HFC:=Lib.hid hC
 have HMV:=Lib.hid hmv
 have HLT:=Lib.hid hlt
 generalize PW (RB B he) (pstmts C.tk F (C.tk.length+2) []) C he s W=Q at*
 clear h hmv hlt hC hcp h0 h0f hT hB
 unfold PC.p at*
 go_enter Tryz.func123,Tryz.ntmps123
 go_wp2_with fail
 go_loopw [] (fun wr=>∃(k:Nat) (s2:PS) (xs:List ST) (v:Value),Hid (RQ C he hp W s2 xs v v wr)∧Hid (pstmts C.tk F k xs s2=T)∧Hid (Mv C.tk s s2)∧Hid (s2.er=none→C.tk.length+2≤k+s2.nx)∧Hid (xs.length≤s2.nx+1∧(s2.er=none→xs.length≤s2.nx))) (fun wr=>mz2 C wr)
 case atStart=>exact⟨_,_,_,_,HR0,HT0,HM0,HU0,HX0⟩
 case round=>
  clear HR0 HT0 HM0 HU0 HX0
  obtain⟨k,s2,xs,v,hr,hk,hm,hu,hx⟩:=hrel
  obtain⟨wo,rfl⟩:∃wo:World,wo=wr:=⟨_,rfl⟩
  have pc:=hr.out.pc
  have hE:=err_cell hr.out.ps
  by_cases he0:s2.er=none
  ·have c4:wo.cell? ⟨C.g,4,none⟩=some .nilIface:=by
    rcases hE with ⟨_,h⟩ | ⟨h,_⟩
    ·exact h
    ·exact absurd he0 h
   clear hE
   have HI:=Lib.hid (is1_any C s2 (⟨#[125]⟩:ByteArray) wo hr.out.ps (by decide))
   by_cases hc:pis C.tk [(⟨#[125]⟩:ByteArray)] s2=true
   ·have e:pstmts C.tk F k xs s2=(xs,s2):=by
     cases k with
     | zero=>rfl
     | succ k=>
       unfold pstmts
       rw[hc,if_neg (fun h=>by cases h.2)]
    have HQ:=Lib.hid (fun w9=>HEND.out k s2 xs v wo w9 hr.out hk.out hx.out.1 e)
    rw[hc]at HI
    clear hr hk hm hu hx HEND HFC HMV HLT hc e
    go_wp2_with fail
    refine HI.out.mono ?_
    rintro e w3 ⟨rfl,hb⟩
    have HQ3:=Lib.hid (HQ.out w3 hb)
    clear hb HI HQ
    go_wp2_with fail
    try go_end0
    exact HQ3.out
   ·have hc:=Bool.eq_false_iff.2 hc
    rw[hc]at HI
    have hu1:=hu.out he0
    have hx1:=hx.out.2 he0
    have hnx:=hr.out.ps.inv.nx
    have hlen:=hr.out.ps.len.1
    obtain⟨k,rfl⟩:∃k',k=k'+1:=⟨k - 1,by omega⟩
    have HCW:=Lib.hid (fun W2 (hp2:PSt C s2 W2)=>HFC.out s2 W2 hm.out hp2)
    have HL:Hid (∀v6 w9,RQ C he hp W (F s2).2 (xs ++ [(F s2).1]) v6 v6 w9→(∃(k:Nat) (s2:PS) (xs:List ST) (v:Value),Hid (RQ C he hp W s2 xs v v w9)∧Hid (pstmts C.tk F k xs s2=T)∧Hid (Mv C.tk s s2)∧Hid (s2.er=none→C.tk.length+2≤k+s2.nx)∧Hid (xs.length≤s2.nx+1∧(s2.er=none→xs.length≤s2.nx)))∧mz2 C w9<mz2 C wo):=fun v6 w9 h9=>by
     have hmn:=(HMV.out s2).nx
     have hln:=fun h=>HLT.out s2 hm.out h
     refine⟨⟨k,_,_,v6,h9, ?_,hm.out.trans (HMV.out s2),fun h=> ?_, ?_⟩, ?_⟩
     ·have:=hk.out
      unfold pstmts at this
      rw[if_pos ⟨he0,hc⟩]at this
      exact this
     ·show C.tk.length+2≤k+(F s2).2.nx
      have:=hln h
      omega
     ·refine⟨by rw[List.length_append];simp only[List.length_singleton];omega,fun h=> ?_⟩
      have:=hln h
      rw[List.length_append];simp only[List.length_singleton];omega
     ·rw[mz2_none hr.out.ps he0]
      by_cases h6:(F s2).2.er=none
      ·rw[mz2_none h9.ps h6]
       have:=hln h6
       have:=h9.ps.inv.nx
       omega
      ·rw[mz2_some h9.ps h6]
       omega
    have hx7:xs.length≤70000:=by omega
    clear HEND HFC HMV HLT hk hm hu hx hc hu1 hx1 hnx hlen he0
    obtain⟨va,vc,rfl, -⟩:=hr.out.form
    go_wp2_with fail
    refine HI.out.mono ?_
    rintro e w3 ⟨rfl,hb⟩
    have HR3:=Lib.hid (hr.out.keep (KeptG.of_below hb) (hr.out.ps.up hb))
    clear hb HI hr pc c4
    go_wp2_with fail
    have HX0:=Lib.hid HR3.out.drew
    have hS0:(fun W=>W.cell? ⟨he,0,none⟩=some (.slice va xs.length vc)∧W.cell? ⟨hp,0,none⟩=some (.pointer (some ⟨C.g,0,none⟩))) w3.drew:=⟨HX0.out.cell,HX0.out.pc⟩
    refine region_u (fun W=>W.cell? ⟨he,0,none⟩=some (.slice va xs.length vc)∧W.cell? ⟨hp,0,none⟩=some (.pointer (some ⟨C.g,0,none⟩))) (fun j=>decide (6≤j)) (by kernel_rfl) ?_
    change AnyU _ _ _ _ _ _ 9 (Array.replicate 9 false) _ _
    generalize w3.drew=X0 at*
    clear HR3
    refine anyU_take (i:=0) (oi:= ?o0) (v:= ?v0) ?hi0 ?hB0 ?hQ0 ?hy0 (by assumption) ?hk0
    case hi0=>simp only[List.getElem?_toArray,List.getElem?_cons_zero,List.getElem?_cons_succ];rfl
    case hB0=>kernel_rfl
    case hQ0=>exact fun _ _ _ h=>h
    case hy0=>exact Or.inl ⟨by rfl,fun W hSW=>by(obtain⟨q1,q2⟩:=hSW;go_simp;try with_reducible rfl)⟩
    try simp only[Act.put,List.setIfInBounds_toArray,List.set_cons_zero,List.set_cons_succ]
    refine anyU_take (i:=1) (oi:= ?o1) (v:= ?v1) ?hi1 ?hB1 ?hQ1 ?hy1 (by assumption) ?hk1
    case hi1=>simp only[List.getElem?_toArray,List.getElem?_cons_zero,List.getElem?_cons_succ];rfl
    case hB1=>kernel_rfl
    case hQ1=>exact fun _ _ _ h=>h
    case hy1=>exact Or.inl ⟨by rfl,fun W hSW=>by(obtain⟨q1,q2⟩:=hSW;go_simp;try with_reducible rfl)⟩
    try simp only[Act.put,List.setIfInBounds_toArray,List.set_cons_zero,List.set_cons_succ]
    refine anyU_take (i:=3) (oi:= ?o3) (v:= ?v3) ?hi3 ?hB3 ?hQ3 ?hy3 (by assumption) ?hk3
    case hi3=>simp only[List.getElem?_toArray,List.getElem?_cons_zero,List.getElem?_cons_succ];rfl
    case hB3=>kernel_rfl
    case hQ3=>exact fun _ _ _ h=>h
    case hy3=>exact Or.inl ⟨by rfl,fun W hSW=>by(obtain⟨q1,q2⟩:=hSW;go_simp;try with_reducible rfl)⟩
    try simp only[Act.put,List.setIfInBounds_toArray,List.set_cons_zero,List.set_cons_succ]
    refine anyU_two (i:=2) (j:=4) (by kernel_rfl) (by simp only[List.getElem?_toArray,List.getElem?_cons_zero,List.getElem?_cons_succ];rfl) (by simp only[List.getElem?_toArray,List.getElem?_cons_zero,List.getElem?_cons_succ];rfl) (by rfl) (by rfl) (fun K hK=> ?_) (fun K hK=> ?_)
    ·go_simp
     refine(HCW.out X0 HX0.out.ps).mono ?_
     rintro e X1 hq
     obtain⟨cs,rfl,hcl,hc1,hct,hcp,hck⟩:=pe_x hq
     have HX1:=Lib.hid (HX0.out.keep hck hcp)
     have HCX1:=Lib.hid (HX0.out.rel hct)
     have HKX1:=Lib.hid hck
     clear hq hct hcp hck
     refine hK _ _ (fun _=>⟨HX1.out.cell,HX1.out.pc⟩) ?_
     clear hK
     try simp only[Act.put,List.setIfInBounds_toArray,List.set_cons_zero,List.set_cons_succ]
     refine anyU_one (i:=4) (by kernel_rfl) (by simp only[List.getElem?_toArray,List.getElem?_cons_zero,List.getElem?_cons_succ];rfl) (by rfl) (fun K hK=> ?_)
     go_simp
     have HX2:=Lib.hid (HX1.out.alloc (.cells zSt.toArray 65))
     have HNX2:=Lib.hid (new_zero X1)
     have HCX2:=Lib.hid (rel_alloc (.cells zSt.toArray 65) HCX1.out)
     refine hK _ (X1.alloc (.cells zSt.toArray 65)) (fun _=>⟨HX2.out.cell,HX2.out.pc⟩) ?_
     clear hK
     generalize X1.alloc (.cells zSt.toArray 65)=X2 at*
     refine anyU_one (i:=5) (by kernel_rfl) (by simp only[List.getElem?_toArray,List.getElem?_cons_zero,List.getElem?_cons_succ];rfl) (by rfl) (fun K hK=> ?_)
     obtain⟨g,cap,X3,hrun,hA,hcar⟩:=HX2.out.app hx7 HNX2.out
     have HA:=Lib.hid hA
     have HC:=Lib.hid (hcar _ _ HCX2.out)
     clear hA hcar
     refine wp_append_run _ _ 61 rfl rfl rfl hrun ?_
     refine hK _ _ (fun _=>⟨HA.out.cell,HA.out.pc⟩) ?_
     clear hK hrun
     try simp only[Act.put,List.setIfInBounds_toArray,List.set_cons_zero,List.set_cons_succ]
     refine anyU_two (i:=6) (j:=8) (by kernel_rfl) (by simp only[List.getElem?_toArray,List.getElem?_cons_zero,List.getElem?_cons_succ];rfl) (by simp only[List.getElem?_toArray,List.getElem?_cons_zero,List.getElem?_cons_succ];rfl) (by rfl) (by rfl) (fun K hK=> ?_) (fun K hK=> ?_)
     ·go_simp
      rw[if_pos (by omega)]
      refine hK _ _ (fun h=>by simp at h) ?_
      clear hK
      try simp only[Act.put,List.setIfInBounds_toArray,List.set_cons_zero,List.set_cons_succ]
      refine anyU_two (i:=7) (j:=8) (by kernel_rfl) (by simp only[List.getElem?_toArray,List.getElem?_cons_zero,List.getElem?_cons_succ];rfl) (by simp only[List.getElem?_toArray,List.getElem?_cons_zero,List.getElem?_cons_succ];rfl) (by rfl) (by rfl) (fun K hK=> ?_) (fun K hK=> ?_)
      ·obtain⟨X4,hrun,hput⟩:=HA.out.put (x:=(F s2).1) HC.out
       have HP:=Lib.hid hput
       clear hput
       refine wp_store_run 65 _ _ rfl rfl rfl hrun ?_
       refine hK _ _ (fun h=>by simp at h) ?_
       clear hK hrun
       try simp only[Act.put,List.setIfInBounds_toArray,List.set_cons_zero,List.set_cons_succ]
       refine anyU_one (i:=8) (by kernel_rfl) (by simp only[List.getElem?_toArray,List.getElem?_cons_zero,List.getElem?_cons_succ];rfl) (by rfl) (fun K hK=> ?_)
       have q8:=HP.out.cell
       have f8:=HP.out.fz
       go_simp
       refine hK _ _ (fun h=>by simp at h) ?_
       clear hK
       have HZ:=Lib.hid (HP.out.seal (fun n e=>by cases e))
       clear q8 f8
       refine anyU_done (by kernel_rfl) ?_ _
       have HQ9:=Lib.hid (HL.out _ _ HZ.out)
       clear HL HZ HA HC
       go_wp2_with fail
       go_roundw
       case rel=>first | exact HQ9.out.1 | ((repeat apply Exists.intro);exact⟨HQ9.out.1,rfl⟩)
       case measure=>exact HQ9.out.2
      ·have q8:=HA.out.cell
       have f8:=HA.out.fz
       go_simp
       refine hK _ _ (fun h=>by simp at h) ?_
       clear hK
       have HB:=Lib.hid (HA.out.seal (fun n e=>by cases e))
       clear q8 f8
       have HC2:=Lib.hid (rel_set (z:= .slice (some ⟨g,0,none⟩) (xs.length+1) cap) hs.1 HC.out)
       try simp only[Act.put,List.setIfInBounds_toArray,List.set_cons_zero,List.set_cons_succ]
       refine anyU_one (i:=7) (by kernel_rfl) (by simp only[List.getElem?_toArray,List.getElem?_cons_zero,List.getElem?_cons_succ];rfl) (by rfl) (fun K hK=> ?_)
       obtain⟨X4,hrun,hput⟩:=HB.out.put (x:=(F s2).1) HC2.out
       have HZ:=Lib.hid hput
       clear hput
       refine wp_store_run 65 _ _ rfl rfl rfl hrun ?_
       refine hK _ _ (fun h=>by simp at h) ?_
       clear hK hrun
       try simp only[Act.put,List.setIfInBounds_toArray,List.set_cons_zero,List.set_cons_succ]
       refine anyU_done (by kernel_rfl) ?_ _
       have HQ9:=Lib.hid (HL.out _ _ HZ.out)
       clear HL HZ HA HC
       go_wp2_with fail
       go_roundw
       case rel=>first | exact HQ9.out.1 | ((repeat apply Exists.intro);exact⟨HQ9.out.1,rfl⟩)
       case measure=>exact HQ9.out.2
     ·have q8:=HA.out.cell
      have f8:=HA.out.fz
      go_simp
      refine hK _ _ (fun h=>by simp at h) ?_
      clear hK
      have HB:=Lib.hid (HA.out.seal (fun n e=>by cases e))
      clear q8 f8
      have HC2:=Lib.hid (rel_set (z:= .slice (some ⟨g,0,none⟩) (xs.length+1) cap) hs.1 HC.out)
      try simp only[Act.put,List.setIfInBounds_toArray,List.set_cons_zero,List.set_cons_succ]
      refine anyU_one (i:=6) (by kernel_rfl) (by simp only[List.getElem?_toArray,List.getElem?_cons_zero,List.getElem?_cons_succ];rfl) (by rfl) (fun K hK=> ?_)
      go_simp
      rw[if_pos (by omega)]
      refine hK _ _ (fun h=>by simp at h) ?_
      clear hK
      try simp only[Act.put,List.setIfInBounds_toArray,List.set_cons_zero,List.set_cons_succ]
      refine anyU_one (i:=7) (by kernel_rfl) (by simp only[List.getElem?_toArray,List.getElem?_cons_zero,List.getElem?_cons_succ];rfl) (by rfl) (fun K hK=> ?_)
      obtain⟨X4,hrun,hput⟩:=HB.out.put (x:=(F s2).1) HC2.out
      have HZ:=Lib.hid hput
      clear hput
      refine wp_store_run 65 _ _ rfl rfl rfl hrun ?_
      refine hK _ _ (fun h=>by simp at h) ?_
      clear hK hrun
      try simp only[Act.put,List.setIfInBounds_toArray,List.set_cons_zero,List.set_cons_succ]
      refine anyU_done (by kernel_rfl) ?_ _
      have HQ9:=Lib.hid (HL.out _ _ HZ.out)
      clear HL HZ HA HC
      go_wp2_with fail
      go_roundw
      case rel=>first | exact HQ9.out.1 | ((repeat apply Exists.intro);exact⟨HQ9.out.1,rfl⟩)
      case measure=>exact HQ9.out.2
    ·go_simp
     have HX1:=Lib.hid (HX0.out.alloc (.cells zSt.toArray 65))
     have HNX1:=Lib.hid (new_zero X0)
     have hsX1:X0.heap.size<(X0.alloc (.cells zSt.toArray 65)).heap.size:=by simp
     have hkX0:=HX0.out.kept.size
     refine hK _ (X0.alloc (.cells zSt.toArray 65)) (fun _=>⟨HX1.out.cell,HX1.out.pc⟩) ?_
     clear hK
     generalize X0.alloc (.cells zSt.toArray 65)=X1 at*
     refine anyU_one (i:=2) (by kernel_rfl) (by simp only[List.getElem?_toArray,List.getElem?_cons_zero,List.getElem?_cons_succ];rfl) (by rfl) (fun K hK=> ?_)
     go_simp
     refine(HCW.out X1 HX1.out.ps).mono ?_
     rintro e X2 hq
     obtain⟨cs,rfl,hcl,hc1,hct,hcp,hck⟩:=pe_x hq
     have HX2:=Lib.hid (HX1.out.keep hck hcp)
     have HCX2:=Lib.hid (HX1.out.rel hct)
     have HKX2:=Lib.hid hck
     clear hq hct hcp hck
     refine hK _ _ (fun _=>⟨HX2.out.cell,HX2.out.pc⟩) ?_
     clear hK
     try simp only[Act.put,List.setIfInBounds_toArray,List.set_cons_zero,List.set_cons_succ]
     refine anyU_one (i:=5) (by kernel_rfl) (by simp only[List.getElem?_toArray,List.getElem?_cons_zero,List.getElem?_cons_succ];rfl) (by rfl) (fun K hK=> ?_)
     obtain⟨g,cap,X3,hrun,hA,hcar⟩:=HX2.out.app hx7 (new_kept HKX2.out hsX1 (by have:=hg.1;omega) HNX1.out)
     have HA:=Lib.hid hA
     have HC:=Lib.hid (hcar _ _ HCX2.out)
     clear hA hcar
     refine wp_append_run _ _ 61 rfl rfl rfl hrun ?_
     refine hK _ _ (fun _=>⟨HA.out.cell,HA.out.pc⟩) ?_
     clear hK hrun
     try simp only[Act.put,List.setIfInBounds_toArray,List.set_cons_zero,List.set_cons_succ]
     refine anyU_two (i:=6) (j:=8) (by kernel_rfl) (by simp only[List.getElem?_toArray,List.getElem?_cons_zero,List.getElem?_cons_succ];rfl) (by simp only[List.getElem?_toArray,List.getElem?_cons_zero,List.getElem?_cons_succ];rfl) (by rfl) (by rfl) (fun K hK=> ?_) (fun K hK=> ?_)
     ·go_simp
      rw[if_pos (by omega)]
      refine hK _ _ (fun h=>by simp at h) ?_
      clear hK
      try simp only[Act.put,List.setIfInBounds_toArray,List.set_cons_zero,List.set_cons_succ]
      refine anyU_two (i:=7) (j:=8) (by kernel_rfl) (by simp only[List.getElem?_toArray,List.getElem?_cons_zero,List.getElem?_cons_succ];rfl) (by simp only[List.getElem?_toArray,List.getElem?_cons_zero,List.getElem?_cons_succ];rfl) (by rfl) (by rfl) (fun K hK=> ?_) (fun K hK=> ?_)
      ·obtain⟨X4,hrun,hput⟩:=HA.out.put (x:=(F s2).1) HC.out
       have HP:=Lib.hid hput
       clear hput
       refine wp_store_run 65 _ _ rfl rfl rfl hrun ?_
       refine hK _ _ (fun h=>by simp at h) ?_
       clear hK hrun
       try simp only[Act.put,List.setIfInBounds_toArray,List.set_cons_zero,List.set_cons_succ]
       refine anyU_one (i:=8) (by kernel_rfl) (by simp only[List.getElem?_toArray,List.getElem?_cons_zero,List.getElem?_cons_succ];rfl) (by rfl) (fun K hK=> ?_)
       have q8:=HP.out.cell
       have f8:=HP.out.fz
       go_simp
       refine hK _ _ (fun h=>by simp at h) ?_
       clear hK
       have HZ:=Lib.hid (HP.out.seal (fun n e=>by cases e))
       clear q8 f8
       refine anyU_done (by kernel_rfl) ?_ _
       have HQ9:=Lib.hid (HL.out _ _ HZ.out)
       clear HL HZ HA HC
       go_wp2_with fail
       go_roundw
       case rel=>first | exact HQ9.out.1 | ((repeat apply Exists.intro);exact⟨HQ9.out.1,rfl⟩)
       case measure=>exact HQ9.out.2
      ·have q8:=HA.out.cell
       have f8:=HA.out.fz
       go_simp
       refine hK _ _ (fun h=>by simp at h) ?_
       clear hK
       have HB:=Lib.hid (HA.out.seal (fun n e=>by cases e))
       clear q8 f8
       have HC2:=Lib.hid (rel_set (z:= .slice (some ⟨g,0,none⟩) (xs.length+1) cap) hs.1 HC.out)
       try simp only[Act.put,List.setIfInBounds_toArray,List.set_cons_zero,List.set_cons_succ]
       refine anyU_one (i:=7) (by kernel_rfl) (by simp only[List.getElem?_toArray,List.getElem?_cons_zero,List.getElem?_cons_succ];rfl) (by rfl) (fun K hK=> ?_)
       obtain⟨X4,hrun,hput⟩:=HB.out.put (x:=(F s2).1) HC2.out
       have HZ:=Lib.hid hput
       clear hput
       refine wp_store_run 65 _ _ rfl rfl rfl hrun ?_
       refine hK _ _ (fun h=>by simp at h) ?_
       clear hK hrun
       try simp only[Act.put,List.setIfInBounds_toArray,List.set_cons_zero,List.set_cons_succ]
       refine anyU_done (by kernel_rfl) ?_ _
       have HQ9:=Lib.hid (HL.out _ _ HZ.out)
       clear HL HZ HA HC
       go_wp2_with fail
       go_roundw
       case rel=>first | exact HQ9.out.1 | ((repeat apply Exists.intro);exact⟨HQ9.out.1,rfl⟩)
       case measure=>exact HQ9.out.2
     ·have q8:=HA.out.cell
      have f8:=HA.out.fz
      go_simp
      refine hK _ _ (fun h=>by simp at h) ?_
      clear hK
      have HB:=Lib.hid (HA.out.seal (fun n e=>by cases e))
      clear q8 f8
      have HC2:=Lib.hid (rel_set (z:= .slice (some ⟨g,0,none⟩) (xs.length+1) cap) hs.1 HC.out)
      try simp only[Act.put,List.setIfInBounds_toArray,List.set_cons_zero,List.set_cons_succ]
      refine anyU_one (i:=6) (by kernel_rfl) (by simp only[List.getElem?_toArray,List.getElem?_cons_zero,List.getElem?_cons_succ];rfl) (by rfl) (fun K hK=> ?_)
      go_simp
      rw[if_pos (by omega)]
      refine hK _ _ (fun h=>by simp at h) ?_
      clear hK
      try simp only[Act.put,List.setIfInBounds_toArray,List.set_cons_zero,List.set_cons_succ]
      refine anyU_one (i:=7) (by kernel_rfl) (by simp only[List.getElem?_toArray,List.getElem?_cons_zero,List.getElem?_cons_succ];rfl) (by rfl) (fun K hK=> ?_)
      obtain⟨X4,hrun,hput⟩:=HB.out.put (x:=(F s2).1) HC2.out
      have HZ:=Lib.hid hput
      clear hput
      refine wp_store_run 65 _ _ rfl rfl rfl hrun ?_
      refine hK _ _ (fun h=>by simp at h) ?_
      clear hK hrun
      try simp only[Act.put,List.setIfInBounds_toArray,List.set_cons_zero,List.set_cons_succ]
      refine anyU_done (by kernel_rfl) ?_ _
      have HQ9:=Lib.hid (HL.out _ _ HZ.out)
      clear HL HZ HA HC
      go_wp2_with fail
      go_roundw
      case rel=>first | exact HQ9.out.1 | ((repeat apply Exists.intro);exact⟨HQ9.out.1,rfl⟩)
      case measure=>exact HQ9.out.2
  ·obtain⟨b4,c4⟩:∃b:Nat,wo.cell? ⟨C.g,4,none⟩=some (.iface 87 (.pointer (some ⟨b,0,none⟩))):=by
    rcases hE with ⟨h,_⟩ | ⟨_,h⟩
    ·exact absurd h he0
    ·exact h
   clear hE
   have e:pstmts C.tk F k xs s2=(xs,s2):=by
    cases k with
    | zero=>rfl
    | succ k=>
      unfold pstmts
      rw[if_neg (fun h=>he0 h.1)]
   have HQ:=Lib.hid (HEND.out k s2 xs v wo wo hr.out hk.out hx.out.1 e (Below.refl _ _))
   clear hr hk hm hu hx HEND HFC HMV HLT he0 e
   go_wp2_with fail
   try go_end0
   exact HQ.out
end
section
open Go.RowKit
theorem RB.kept {B he g:Nat}{W W':World}{x:List ST}(h:RB B he W x)(k:KeptG g W W')(hg:g<B)(hn:he≠g):RB B he W' x:=by
 obtain⟨v,h1,h2,h3,h4⟩:=h
 exact⟨v,(k.cell h3 hn 0).trans h1,(k.frozen h3 hn 0).trans h2,Nat.lt_of_lt_of_le h3 k.size,h4.keep (fun b ⟨a1,a2⟩=>⟨a1,Nat.lt_of_lt_of_le a2 k.size⟩) (fun b o ⟨a1,a2⟩=>World.cell?_of_block (k.block b a2 (by omega)))⟩
theorem block_step (n:Nat)(HS:StmtSaid n):BlockSaid n:=fun C s w h hf=>by
 have hg:=h.lt
 have hs1:(w.alloc (.cells #[C.p] 67)).heap.size=w.heap.size+1:=by simp
 have hs2:((w.alloc (.cells #[C.p] 67)).alloc (.cells #[.slice none 0 0] 61)).heap.size=w.heap.size+1+1:=by simp
 have hp2:=(h.alloc (.cells #[C.p] 67)).alloc (.cells #[.slice none 0 0] 61)
 have k1:KeptG C.g w (w.alloc (.cells #[C.p] 67)):=KeptG.alloc _ _ _
 have k2:KeptG C.g (w.alloc (.cells #[C.p] 67)) ((w.alloc (.cells #[C.p] 67)).alloc (.cells #[.slice none 0 0] 61)):=KeptG.alloc _ _ _
 have n1:=heap_alloc_new w (.cells #[C.p] 67)
 have n2:=heap_alloc_new (w.alloc (.cells #[C.p] 67)) (.cells #[.slice none 0 0] 61)
 rw[hs1]at n2
 have c1:((w.alloc (.cells #[C.p] 67)).alloc (.cells #[.slice none 0 0] 61)).cell? ⟨w.heap.size,0,none⟩=some C.p:=(k2.cell (by rw[hs1];omega) (by omega) 0).trans ((cell_of_row _ _ _ _ _ _ n1).trans rfl)
 have c2:((w.alloc (.cells #[C.p] 67)).alloc (.cells #[.slice none 0 0] 61)).cell? ⟨w.heap.size+1,0,none⟩=some (.slice none 0 0):=(cell_of_row _ _ _ _ _ _ n2).trans rfl
 have f2:((w.alloc (.cells #[C.p] 67)).alloc (.cells #[.slice none 0 0] 61)).frozen? ⟨w.heap.size+1,0,none⟩=false:=frozen_of_row _ _ _ _ _ n2
 have k12:=k1.trans k2
 clear n1 n2 k1 k2
 have HW:=Lib.hid (within_any C s (⟨#[123]⟩:ByteArray) (⟨#[125]⟩:ByteArray) [] (pstmts C.tk (pstmt C.tk C.en n) (C.tk.length+2) []) (RB w.heap.size (w.heap.size+1)) 123 (w.heap.size+1) (.pointer (some ⟨w.heap.size,0,none⟩)) (.pointer (some ⟨w.heap.size+1,0,none⟩)) _ (fun _ _=>rfl) hp2 (by decide) (by decide) (fun s=>mv_stmts (mv_stmt n) _ _ s) ⟨_,c2,f2,by rw[hs2];omega,slot_none _ _ _⟩ (fun W1 W2 x _ hx k=>hx.kept k hg (by omega)) (fun W1 hP1 he0 h00 k1=>by
  obtain⟨hfu,hin⟩:=hf.deep (en:=C.en) h.inv h00
  have hfu1:=hfu.mv hin (mv_m1 (tk:=C.tk) (en:=C.en) (⟨#[123]⟩:ByteArray) _)
  obtain⟨m,rfl⟩:=hfu1.pos hP1.inv
  have hz:=k1.size
  rw[hs2]at hz
  exact blockc_any (pstmt C.tk C.en (m+1)) C _ W1 w.heap.size (w.heap.size+1) hP1 (mv_stmt (m+1)) (fun s2 _ h=>stmt_lt h) (fun s2 W2 hm hp=>HS C s2 W2 hp (hfu1.mv hP1.inv hm)) ((k1.cell (by rw[hs2];omega) (by omega) 0).trans c1) ((k1.cell (by rw[hs2];omega) (by omega) 0).trans c2) ((k1.frozen (by rw[hs2];omega) (by omega) 0).trans f2) ⟨by omega,by omega,by omega⟩ ⟨by omega,by omega⟩ _ (by omega)))
 have HY:Hid (∀e1 W1,PW (RB w.heap.size (w.heap.size+1)) (pwithin C.tk C.en (⟨#[123]⟩:ByteArray) (⟨#[125]⟩:ByteArray) [] (pstmts C.tk (pstmt C.tk C.en n) (C.tk.length+2) [])) C (w.heap.size+1) s ((w.alloc (.cells #[C.p] 67)).alloc (.cells #[.slice none 0 0] 61)) e1 W1→e1= .returned (.tuple #[])∧∃v,W1.cell? ⟨w.heap.size+1,0,none⟩=some v∧PE (Vs stX) (pblock C.tk C.en (pstmt C.tk C.en n)) C s w (.returned v) W1):=fun e1 W1 ⟨a1,a2,a3,v,b1,b2,b3,b4⟩=>⟨a1,v,b1,v,rfl,b4,a2,KeptH.kg k12 a3 (by omega)⟩
 generalize PE (Vs stX) (pblock C.tk C.en (pstmt C.tk C.en n)) C s w=Q at*
 generalize pwithin C.tk C.en (⟨#[123]⟩:ByteArray) (⟨#[125]⟩:ByteArray) [] (pstmts C.tk (pstmt C.tk C.en n) (C.tk.length+2) [])=FW at*
 clear h hf hp2 hs1 hs2 k12 f2 HS
 unfold PC.p at*
 go_enter Tryz.func58,Tryz.ntmps58
 go_wp2_with fail
 refine HW.out.mono ?_
 rintro e w2 hq
 obtain⟨rfl,v,hv,hf9⟩:=HY.out _ _ hq
 have HF9:=Lib.hid hf9
 clear hq HW HY hf9 c1 c2
 go_wp2_with fail
 try go_ret
 exact HF9.out
theorem said:∀n,StmtSaid n
 | 0=>fun C s w h hf=>by
   obtain⟨k,hk⟩:=hf.pos h.inv
   omega
 | n+1=>stmt_step n (block_step n (said n))
theorem block_said (n:Nat):BlockSaid n:=block_step n (said n)
theorem proc_said (C:PC)(s:PS)(w:World)(h:PSt C s w):Calls Tryz.prog 23 #[C.p] w (PE (Vx qtX) (pproc C.tk C.en) C s w):=proc_any (block_said 53) C s w h
end
section
open Go.RowKit
theorem wp_build_one {P:Program}{o:Oper}{a:Act}{w:World}{K:Act→World→Prop}{Q:Exit→Act→World→Prop}(t e:TypeId)(x:Operand)(ho:o.op= .buildSlice t 1 #[(0,x)])(cs:List Value)(hx:a.eval x= .agg cs.toArray)(ht:P.underlying t=some (.slice e)){k b:Nat}
 (hin:(P.info? e).map (fun i=>(i.zero.map fun z=>z.cells.size,i.size,i.bytes))=some (some k,k,b)) (hk:0<k) (hk2:k≤1000) (hl:cs.length=k)
 (h:K (a.put o.dst (.slice (some ⟨w.heap.size,0,none⟩) 1 1)) (w.alloc (.cells cs.toArray e))):o.wp P a w K Q:=by
 obtain⟨i0,hi,⟨z,hz,hzs⟩,hs⟩:∃i0,P.info? e=some i0∧(∃z,i0.zero=some z∧z.cells.size=k)∧i0.size=k:=by
  cases hp:P.info? e with
  | none=>rw[hp]at hin;cases hin
  | some i=>
    rw[hp]at hin
    simp at hin
    obtain⟨⟨z,a1,a2⟩,a3,a4⟩:=hin
    exact⟨i,rfl,⟨z,a1,a2⟩,a3⟩
 have hf:=Go.Great.fill_whole (s:=k) hk [.agg cs.toArray] ((Array.range (1*k)).map (z.cells[· % z.cells.size]!)) (fun v hv=>by
  obtain rfl:=List.mem_singleton.1 hv
  simpa [Value.cells]using hl) (by simp)
 refine wp_buildSlice t e 1 #[(0,x)] ho cs.toArray i0 z ht hi hz (by rw[hs];omega) (by rw[hs];omega) ?_ h
 rw[hs]
 have e1:(#[(0,x)].map fun((i,x):Nat×Operand)=>(i,a.eval x)).toList=(([.agg cs.toArray]:List Value).zipIdx 0).map fun x=>(x.2,x.1):=by simp[hx]
 rw[e1]
 refine hf.trans ?_
 simp[Value.cells]
theorem qt_tell {S:Nat→Prop}{W:World}{cs:List Value}{x:QT}(h:qtX.rel S W cs x):Tell cs:= .inr (qt_ni h)
theorem Tryz.rowProc:(Tryz.prog.info? 63).map (fun i=>(i.zero.map fun z=>z.cells.size,i.size,i.bytes))=some (some 34,34,536):=by kernel_rfl
structure RT (C:PC)(he:Nat)(w0:World)(s:PS)(xs:List QT)(v u:Value)(wr:World):Prop where
 ps:PSt C s wr
 gl:C.g<he
 hl:he<w0.heap.size
 kept:KeptH C.g he w0 wr
 own:Pak.Own qtX 63 w0.heap.size xs v wr
 cell:wr.cell? ⟨he,0,none⟩=some u
 fz:wr.frozen? ⟨he,0,none⟩=false
 nil:xs=[]→v= .slice none 0 0
section
variable {C:PC} {he:Nat} {w0:World} {s:PS} {xs:List QT} {v u:Value} {wr:World}
theorem RT.keep {w':World}{s':PS}(h:RT C he w0 s xs v u wr)(k:KeptG C.g wr w')(hp':PSt C s' w'):RT C he w0 s' xs v u w':=by
 have h1:=h.hl
 have h2:=h.gl
 have h3:=h.kept.size
 exact⟨hp',h.gl,h.hl,h.kept.trans (k.kh he),h.own.keptG k (by omega),(k.cell (by omega) (by omega) 0).trans h.cell,(k.frozen (by omega) (by omega) 0).trans h.fz,h.nil⟩
theorem RT.alloc (h:RT C he w0 s xs v u wr)(o:Obj):RT C he w0 s xs v u (wr.alloc o):=h.keep (KeptG.alloc _ _ _) (h.ps.alloc o)
theorem RT.drew (h:RT C he w0 s xs v u wr):RT C he w0 s xs v u wr.drew:=h.keep (KeptG.drew _ _) (h.ps.up ⟨rfl,rfl,rfl,Nat.le_refl _,fun _ _=>rfl⟩)
theorem RT.start {he:Nat}{w:World}(h:PSt C s w)(h1:C.g<he)(h2:he<w.heap.size)(h4:w.cell? ⟨he,0,none⟩=some (.slice none 0 0))(h5:w.frozen? ⟨he,0,none⟩=false):RT C he w s [] (.slice none 0 0) (.slice none 0 0) w:=
 ⟨h,h1,h2,(KeptG.refl _ _).kh _,Pak.Own.nil _ _ _ _,h4,h5,fun _=>rfl⟩
theorem RT.form (h:RT C he w0 s xs v u wr):∃a cap,v= .slice a xs.length cap∧(xs≠[]→∃g,a=some ⟨g,0,none⟩∧xs.length≤cap∧cap≤maxLen):=by
 obtain⟨css,h1,h2,h3⟩:=h.own.row
 obtain⟨l0,⟨rfl,e⟩ | ⟨g,cap,cur,rfl,hB,hg,hc1,hc2,hsz,htk⟩⟩:=h2
 ·have:xs=[]:=List.eq_nil_of_length_eq_zero e
  subst this
  exact⟨none,0,rfl,fun h=>absurd rfl h⟩
 ·exact⟨some ⟨g,0,none⟩,cap,rfl,fun _=>⟨g,rfl,hc1,hc2⟩⟩
theorem RT.blk (h:RT C he w0 s xs v u wr):∀q,v.ownBlock=some q→w0.heap.size≤q∧q<wr.heap.size∧((∃v,wr.cell? ⟨q,0,none⟩=some v∧∀n,v≠ .int .i64 n)∨(∃v,wr.cell? ⟨q,1,none⟩=some v∧∀t u,v≠ .iface t u)):=fun q hq=>by
 obtain⟨css,h1,h2,h3⟩:=h.own.row
 have hqs:=World.ownsRow.lt h2 q hq
 refine⟨hqs.1,hqs.2, ?_⟩
 have hne:xs≠[]:=fun e=>by
  rw[h.nil e]at hq
  cases hq
 have hx0:0<xs.length:=List.length_pos_iff.2 hne
 have hc0:0<css.length:=by omega
 have hrel:=h3 0 hx0 hc0
 have hkk:∀cs∈css,cs.length=qtX.k:=fun cs hc=>by
  obtain⟨i,hi,rfl⟩:=List.getElem_of_mem hc
  exact qtX.len (h3 i (by omega) hi)
 have hcell:∀j u,css[0][j]? =some u→wr.cell? ⟨q,j,none⟩=some u:=fun j u hu=>by
  have hj:j<qtX.k:=by
   have:=(List.getElem?_eq_some_iff.1 hu).1
   rwa [hkk _ (List.getElem_mem _)]at this
  have:=World.ownsRow.cells h2 hq (0*qtX.k+j) u (by rw[Pak.flatten_get hkk 0 j hc0 hj];exact hu)
  rwa [show(⟨q,0,none⟩:Addr).add (0*qtX.k+j)=⟨q,j,none⟩ by unfold Addr.add;split<;>simp_all]at this
 rcases qt_tell hrel with ⟨u,hu,hu2⟩ | ⟨u,hu,hu2⟩
 ·exact .inl ⟨u,hcell 0 u hu,hu2⟩
 ·exact .inr ⟨u,hcell 1 u hu,hu2⟩
theorem RT.app {b:Nat}{cs:List Value}{x:QT}(h:RT C he w0 s xs v u wr)(hn:xs.length≤70000)(hx:qtX.rel (fun b=>w0.heap.size≤b∧b<wr.heap.size∧v.ownBlock≠some b) wr cs x)(hnew:∀j u,cs[j]? =some u→wr.cell? ((⟨b,0,none⟩:Addr).add j)=some u):
 ∃g cap w6,(∀ty,(Builtin.append_ #[23,23] ty #[v,.slice (some ⟨b,0,none⟩) 1 1]).run Tryz.prog wr= .ok (.slice (some ⟨g,0,none⟩) (xs.length+1) cap) w6)∧RT C he w0 s (xs ++ [x]) (.slice (some ⟨g,0,none⟩) (xs.length+1) cap) u w6:=by
 have hks:=h.kept.size
 have hl:=h.hl
 obtain⟨v6,w6,hr,ho,hg,h5⟩:=Pak.Own.snoc_at (P:=Tryz.prog) (t:=23) (x:=x) (b:=b) (cs:=cs) Tryz.underlying23 Tryz.rowProc (by decide) (by decide) h.own hn hks hnew hx
 have hblk:=h.blk
 have hn6:RT C he w0 s (xs ++ [x]) v6 u w6:=by
  have hgl:=h.gl
  refine⟨h.ps.grown hg (fun q hq=>⟨by have:=(hblk q hq).1;omega,(hblk q hq).2.2⟩),h.gl,h.hl, ?_,ho, ?_, ?_,fun e=>by simp at e⟩
  ·have k:=h.kept
   exact⟨hg.os.trans k.os,hg.tape.trans k.tape,hg.output.trans k.output,Nat.le_trans k.size hg.size,fun q h1 h2 h3=>(hg.block q (by omega) (fun e=>by have:=(hblk q e.symm).1;omega)).trans (k.block q h1 h2 h3)⟩
  ·exact(World.cell?_of_block (hg.block he (by omega) (fun e=>by have:=(hblk he e.symm).1;omega))).trans h.cell
  ·exact(World.frozen?_of_block (hg.block he (by omega) (fun e=>by have:=(hblk he e.symm).1;omega))).trans h.fz
 obtain⟨a,cap,rfl,hf⟩:=hn6.form
 obtain⟨g,rfl,_⟩:=hf (by simp)
 have e1:(xs ++ [x]).length=xs.length+1:=by simp
 rw[e1]at hr hn6 h5
 exact⟨g,cap,w6,hr,hn6⟩
theorem RT.seal (h:RT C he w0 s xs v u wr)(hu:∀n,u≠ .int .i64 n):RT C he w0 s xs v v (wr.setCell ⟨he,0,none⟩ v):=by
 have hl:=h.hl
 have hgl:=h.gl
 have hks:=h.kept.size
 have hfar:Far he wr (wr.setCell ⟨he,0,none⟩ v):=(Far.refl _ _).set v
 refine⟨?_,h.gl,h.hl,h.kept.trans hfar.kh, ?_,World.cell?_setCell_same' _ _ _ (by rw[h.cell];rfl),(World.frozen?_setCell _ _ _ _).trans h.fz,h.nil⟩
 ·exact h.ps.grown (ob:=some he) ⟨hfar.os,hfar.tape,hfar.output,Nat.le_of_eq hfar.size.symm,fun q hq hn=>hfar.block q (fun e=>hn (by rw[e]))⟩ (fun q hq=>by injection hq with hq;subst hq;exact⟨hgl,.inl ⟨u,h.cell,hu⟩⟩)
 ·obtain⟨css,h1,h2,h3⟩:=h.own.row
  refine⟨⟨css,h1,World.ownsRow.kept (row:=some he) h2 ⟨hfar.os,hfar.tape,hfar.output,Nat.le_of_eq hfar.size.symm,fun q hq hn=>hfar.block q (fun e=>hn (by rw[e]))⟩ (.inr fun e1=>by have:=(World.ownsRow.lt h2 he e1).1;omega),fun i hi hi2=>qtX.keep (fun b ⟨a1,a2,a3⟩=>⟨a1,by rw[hfar.size];exact a2,a3⟩) (fun b o ⟨a1,a2,_⟩=>World.cell?_of_block (hfar.block b (by omega))) (h3 i hi hi2)⟩⟩
end
end
section
open Go.RowKit
def exA:ByteArray:=(⟨#[112,114,111,99,32,112,40,120,59,32,41,32,114,101,113,117,105,114,101,115,32,101,109,112,32,101,110,115,117,114,101,115,32,101,109,112,32,123,32,120,32,58,61,32,50,32,42,32,120,32,45,32,49,59,32,125]⟩:ByteArray)
def exB:ByteArray:=(⟨#[112,114,111,99,32,112]⟩:ByteArray)
theorem exB_is:pparse exB=(11,6,[]):=by kernel_rfl
theorem exA_is:(pparse exA).1=0∧(pparse exA).2.1= -1∧∃q t,(pparse exA).2.2=[q]∧q.body=[t]∧t.p.e.kind=3:=by
 refine⟨by kernel_rfl,by kernel_rfl,(pparse exA).2.2.headD qt0,((pparse exA).2.2.headD qt0).body.headD st0,by kernel_rfl,by kernel_rfl,by kernel_rfl⟩
end
end Go.Proofs.YtcinokljkieijaaGreatDoor
