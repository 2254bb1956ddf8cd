/- Parts of a proof. -/
import Derived.Test.YtipahfcaplbifaaGreatDoorZ02
import Derived.Test.YtipahfcaplbifaaGreatDoorZ06
import Derived.Lib.AppendIntMem
import Derived.Shelf.SlSortCmp.NoneTotal
import Derived.Deep.RegionHeld3
import Derived.Deep.AppendLies
import Derived.Deep.DrawnRows
set_option linter.unusedVariables false
set_option linter.unusedSimpArgs false
set_option maxHeartbeats 60000000
set_option maxRecDepth 100000
namespace Go.Proofs.YtipahfcaplbifaaGreatDoor
section
open Go.Shelf Go.RowKit Go.Lib Go.Sort
def encM (x:Int×Int):List Value:=[.int .i64 x.1,.int .i64 x.2]
theorem encM_flat (l:List (Int×Int)):(flatK encM 2 l.toArray).toList=flat l:=by
 apply List.ext_getElem?
 intro t
 by_cases ht:t<l.length*2
 ·have h1:(flatK encM 2 l.toArray)[t]! =(encM l.toArray[t / 2]!)[t % 2]! :=get_flatK _ _ _ _ (by simpa using ht)
  have h2:(flatK encM 2 l.toArray).toList[t]? =some ((flatK encM 2 l.toArray)[t]!):=by
   rw[Array.getElem?_toList,getElem!_pos _ t (by simpa using ht),Array.getElem?_eq_getElem (by simpa using ht)]
  rw[h2,h1]
  have hg:=flat_get l (t / 2) (by omega)
  have hx:l.toArray[t / 2]! =l.getD (t / 2) (0,0):=by
   rw[getElem!_pos _ (t / 2) (by simp;omega)]
   simp[List.getD_eq_getElem?_getD,show t / 2<l.length by omega]
  rw[hx]
  rcases Nat.mod_two_eq_zero_or_one t with hm | hm
  ·rw[hm];have e:t / 2*2=t:=by omega
   rw[e]at hg;rw[hg.1];rfl
  ·rw[hm];have e:t / 2*2+1=t:=by omega
   rw[e]at hg;rw[hg.2];rfl
 ·rw[List.getElem?_eq_none (by simp;omega),List.getElem?_eq_none (by rw[flat_len];omega)]
theorem isNaN_any (x:Int)(w:World):Calls Tryz.prog 127 #[.int .i64 x] w fun e w'=>e= .returned (.bool false)∧w=w':=by
 go_enter Tryz.func127,Tryz.ntmps127
 go_wp2
 go_ret
 exact⟨ret_bool (by simp),rfl⟩
theorem cmp_any (x y:Int)(w:World):Calls Tryz.prog 108 #[.int .i64 x,.int .i64 y] w fun e w'=>e= .returned (.int .i64 (Lib.compareInt x y))∧w=w':=by
 have hx:=fun W=>isNaN_any x W
 have hy:=fun W=>isNaN_any y W
 by_cases h1:x<y
 ·have hr:Lib.compareInt x y= -1:=by unfold Lib.compareInt;simp[h1]
  rw[hr]
  clear hr
  go_enter Tryz.func108,Tryz.ntmps108
  go_wp2_with fail
  refine(hx _).mono ?_
  rintro e w' ⟨rfl,rfl⟩
  go_wp2_with fail
  refine(hy _).mono ?_
  rintro e w' ⟨rfl,rfl⟩
  go_wp2_with fail
  go_ret
  exact⟨rfl,rfl⟩
 ·by_cases h2:y<x
  ·have hr:Lib.compareInt x y=1:=by unfold Lib.compareInt;simp[h1,h2]
   rw[hr]
   clear hr
   go_enter Tryz.func108,Tryz.ntmps108
   go_wp2_with fail
   refine(hx _).mono ?_
   rintro e w' ⟨rfl,rfl⟩
   go_wp2_with fail
   refine(hy _).mono ?_
   rintro e w' ⟨rfl,rfl⟩
   go_wp2_with fail
   go_ret
   exact⟨rfl,rfl⟩
  ·have hr:Lib.compareInt x y=0:=by unfold Lib.compareInt;simp[h1,h2]
   rw[hr]
   clear hr
   go_enter Tryz.func108,Tryz.ntmps108
   go_wp2_with fail
   refine(hx _).mono ?_
   rintro e w' ⟨rfl,rfl⟩
   go_wp2_with fail
   refine(hy _).mono ?_
   rintro e w' ⟨rfl,rfl⟩
   go_wp2_with fail
   go_ret
   exact⟨rfl,rfl⟩
theorem gatherLit_any (x y:Int×Int)(W:World):Calls Tryz.prog 107 #[.agg #[.int .i64 x.1,.int .i64 x.2],.agg #[.int .i64 y.1,.int .i64 y.2]] W fun e w'=>e= .returned (.int .i64 (Lib.compareInt x.1 y.1))∧∃q os',w'=grow (W.drewN q) os':=by
 have hcon:=fun W'=>cmp_any x.1 y.1 W'
 generalize Lib.compareInt x.1 y.1=r at hcon⊢
 go_enter Tryz.func107,Tryz.ntmps107
 go_wp2_with (go_at_call 108;refine(hcon _).mono ?_;rintro e w' ⟨rfl,rfl⟩)
 go_ret
 exact⟨rfl,0,_,by rw[alloc_eq_grow,alloc_eq_grow,grow_grow];rfl⟩
theorem cmpLaysM (blk off size:Nat)(w:World):CmpLays Tryz.prog 107 #[] encM 2 (fun x y=>Lib.compareInt x.1 y.1) blk off size w:=
 fun _ _ _ _ x y=>gatherLit_any x y _
theorem ltLo (x y:Int×Int):ltOf (fun x y:Int×Int=>Lib.compareInt x.1 y.1) x y=decide (x.1<y.1):=by
 unfold ltOf Lib.compareInt
 by_cases h1:x.1<y.1
 ·simp[h1]
 ·by_cases h2:y.1<x.1<;>simp[h1,h2]
theorem swoLo:SWO (ltOf fun x y:Int×Int=>Lib.compareInt x.1 y.1) where
 irrefl x:=by rw[ltLo];simp
 trans x y z h1 h2:=by rw[ltLo]at *; simp at *; omega
 ntrans x y z h1 h2:=by rw[ltLo]at *; simp at *; omega
theorem Tryz.enters39:∀args w,(callFunc 107 args).run Tryz.prog w= .ok (.enter 107 args) w:=fun _ _=>by kernel_rfl
def Sorted (B:Nat)(a:Option Addr)(l:List (Int×Int))(w w':World):Prop:=
 ∃l':List (Int×Int),l'.Perm l∧(∀i j,i<j→j<l'.length→(l'.getD i (0,0)).1≤(l'.getD j (0,0)).1)∧Lies w'.heap.size w' a l'∧RowKit.Below B w w'∧w.heap.size≤w'.heap.size∧∀k,k<w.heap.size→(∀b,a=some b→b.block≠k)→w'.heap[k]? =w.heap[k]?
theorem sort_any (g cap B:Nat)(l:List (Int×Int))(w:World)(h:Row B l (.slice (some ⟨g,0,none⟩) l.length cap) w)(hm:l.length≤8192):
 Calls Tryz.prog 106 #[.slice (some ⟨g,0,none⟩) l.length cap,.func (.func 107) #[] #[]] w fun e w'=>e= .returned (.tuple #[])∧Sorted B (some ⟨g,0,none⟩) l w w':=by
 have hlt:=World.ownsRow.lt h g rfl
 have hH:HoldsK encM 2 w g 0 l.toArray:=by
  intro j hj
  have hj':j<l.length*2:=by simpa using hj
  have hc:=World.ownsRow.cellAt h j hj'
  have hf:=World.ownsRow.frozenAt h j
  rw[←encM_flat,Array.getElem?_toList,Array.getElem?_eq_getElem hj]at hc
  rw[Nat.zero_add]
  exact⟨by rw[hc,getElem!_pos _ j hj];rfl,hf⟩
 have hcon:=AnyQ.slices_SortFunc Tryz.sortMono 2 Tryz.isAgg92 Tryz.sizeOf92 encM (fun _=>rfl) (fun x v hv=>by simp[encM]at hv;rcases hv with rfl | rfl<;>rfl) (fun x y=>Lib.compareInt x.1 y.1) swoLo 107 #[] g 0 cap l.toArray w Tryz.enters39 (cmpLaysM g 0 l.toArray.size w) hH hlt.2 (by simp;omega)
 refine hcon.mono ?_
 rintro e w' ⟨he,d',n,os,hp,hs,hw⟩
 have hkeep:∀k,k<w.heap.size→g≠k→w'.heap[k]? =w.heap[k]? :=fun k hkw hne=>by
  rw[hw]
  simp[sortWorldK,putRowK,putRow,mapBlock,ahead,grow,Array.getElem?_append,hkw,Array.getElem_modify,hne]
 have hsize:w.heap.size≤w'.heap.size:=by rw[hw];simp[sortWorldK,putRowK,ahead]
 refine⟨he,d'.toList, ?_, ?_, ?_,⟨by rw[hw];rfl,by rw[hw];rfl,by rw[hw];rfl,hsize,fun k hk=>hkeep k (by have:=hlt.1;have:=hlt.2;omega) (by have:=hlt.1;omega)⟩,hsize,fun k hk h=>hkeep k hk (h _ rfl)⟩
 ·have:=hp.2.2
  rw[Array.extract_eq_self_of_le (by rw[hp.1];exact Nat.le_refl _),Array.extract_eq_self_of_le (Nat.le_refl _)]at this
  simpa using this
 ·intro i j hij hj
  have hj':j<l.toArray.size:=by rw[←hp.1];simpa using hj
  have:=hs i j (Nat.zero_le _) hij hj'
  rw[ltLo]at this
  have hi2:i<d'.size:=by rw[hp.1];omega
  have hj2:j<d'.size:=by rw[hp.1];exact hj'
  rw[getElem!_pos d' i hi2,getElem!_pos d' j hj2]at this
  simp only[List.getD_eq_getElem?_getD]
  rw[List.getElem?_eq_getElem (by simpa using hi2),List.getElem?_eq_getElem (by simpa using hj2)]
  simpa using this
 ·have hH2:HoldsK encM 2 w' g 0 d':=by
   rw[hw]
   refine holdsK_grow _ _ _ _ _ _ _ ?_ ?_
   ·simpa [putRowK,ahead]using hlt.2
   ·exact holdsK_putRowK _ _ _ _ _ _ _ (holdsK_ahead _ _ _ _ _ _ _ hH) hp.1
  have hsz:g<w'.heap.size:=by rw[hw];simp[sortWorldK,putRowK,ahead];omega
  intro i hi
  have hi':i<d'.size:=by simpa using hi
  have h0:=(hH2.cell hi' (c:=0) (by omega)).1
  have h1:=(hH2.cell hi' (c:=1) (by omega)).1
  have hx:d'[i]! =d'.toList.getD i (0,0):=by
   rw[getElem!_pos d' i hi',List.getD_eq_getElem?_getD,List.getElem?_eq_getElem (by simpa using hi')];simp
  rw[hx]at h0 h1
  exact⟨g,0,rfl,hsz,h0,h1⟩
theorem sort_none (a:Option Addr)(cap:Nat)(fv:Value)(w:World):
 Calls Tryz.prog 106 #[.slice a 0 cap,fv] w fun e w'=>e= .returned (.tuple #[])∧w'=w:=
 AnyF.slices_SortFunc_none Tryz.sortMono a cap fv w
theorem sort_row (a:Option Addr)(n cap B:Nat)(l:List (Int×Int))(w:World)(hn:l.length=n)(h:Row B l (.slice a n cap) w)(hm:n≤8192):
 Calls Tryz.prog 106 #[.slice a n cap,.func (.func 107) #[] #[]] w fun e w'=>e= .returned (.tuple #[])∧Sorted B a l w w':=by
 subst hn
 by_cases h0:l.length=0
 ·have hl:=List.eq_nil_of_length_eq_zero h0
  subst hl
  exact(sort_none a cap _ w).mono fun _ _ ⟨he,hw⟩=>⟨he,[],List.Perm.refl _,fun i j _ hj=>absurd hj (Nat.not_lt_zero j),fun i hi=>absurd hi (Nat.not_lt_zero i),by rw[hw];exact Below.refl _ _,by rw[hw];exact Nat.le_refl _,fun k _ _=>by rw[hw]⟩
 ·obtain⟨g,cap',hv⟩:=Joins.ownsRow_form h (by omega)
  injection hv with h1 h2 h3
  subst h1
  exact sort_any g cap B l w h hm
end
section
open Go.RowKit
theorem Tryz.enters26:∀args w,(callFunc 48 args).run Tryz.prog w= .ok (.enter 48 args) w:=fun _ _=>by kernel_rfl
def mayAt (l:List (Int×Int))(i:Nat):Bool:=mst (l.getD i (0,0)).1 (l.getD i (0,0)).2
theorem mayAll_yes (a:Option Addr)(n cap:Nat)(l:List (Int×Int))(w:World)(B:Nat)(hB:B≤w.heap.size)(hn:l.length=n)(hm:n≤9223372036854775807)(hl:Lies B w a l)(h:∀i,i<n→mayAt l i=true):
 Calls Tryz.prog 46 #[.slice a n cap,.func (.func 48) #[] #[]] w fun e w'=>e= .returned (.bool true)∧Below B w w':=
 (all_yes 48 #[] a n cap l w (fun _ W=>B≤W.heap.size) (mayAt l) Tryz.enters26 hn hm B hB hl hB
   (fun _ W o h=>Nat.le_trans h ((Below.refl _ W).alloc (Nat.le_refl _) o).size)
   (fun i W _ _ hI=>(mayStand_any (l.getD i (0,0)).1 (l.getD i (0,0)).2 W).mono fun _ _ ⟨he,hb⟩=>⟨he,Nat.le_trans hI hb.size,hb.mono hI⟩)
   h).mono fun _ _ ⟨he,_,hb⟩=>⟨he,hb⟩
def LinOk (B:Nat)(c:Int)(R:List (Int×Int))(w:World)(e:Ending)(w':World):Prop:=∃v,e= .returned (.tuple #[.agg #[.int .i64 c,v],.nilIface])∧Row B R v w'∧Below B w w'
def LinErr (B:Nat)(k:Int)(w:World)(e:Ending)(w':World):Prop:=e= .returned (.tuple #[.agg #[.int .i64 0,.slice none 0 0],.iface 60 (.int .i64 k)])∧Below B w w'
theorem Row.mono {B B':Nat}{l:List (Int×Int)}{v:Value}{w:World}(h:Row B l v w)(hB:B'≤B):Row B' l v w:=Joins.ownsRow_le h hB
theorem Row.below {B:Nat}{l:List (Int×Int)}{v:Value}{w w':World}(h:Row B l v w)(hb:Below w.heap.size w w'):Row B l v w':=by
 obtain⟨h1,h2⟩:=h
 rcases h2 with h2 | ⟨g,cap,cur,hv,hg,hh,hr⟩
 ·exact⟨h1,.inl h2⟩
 refine⟨h1,.inr ?_⟩
 have hlt:g<w.heap.size:=by
  by_cases e:g<w.heap.size
  ·exact e
  ·rw[Array.getElem?_eq_none (by omega)]at hh;cases hh
 exact⟨g,cap,cur,hv,hg,by rw[hb.block g hlt];exact hh,hr⟩
theorem res_cells (w:World)(b:Nat)(x y u v:Value)(h0:w.cell? ⟨b,0,none⟩=some u)(h1:w.cell? ⟨b,1,none⟩=some v):
 (w.setCell ⟨b,0,none⟩ x).cell? ⟨b,0,none⟩=some x∧((w.setCell ⟨b,0,none⟩ x).setCell ⟨b,1,none⟩ y).cell? ⟨b,1,none⟩=some y:=by
 refine⟨World.cell?_setCell_same _ _ _ h0,World.cell?_setCell_same _ _ _ (u:=v) ?_⟩
 rw[World.cell?_setCell_other _ _ _ _ (by simp)]
 exact h1
theorem gather_ok (c:Int)(a:Option Addr)(n cap B:Nat)(l R:List (Int×Int))(w:World)(hn:l.length=n)(hrow:Row B l (.slice a n cap) w)(hB:B≤w.heap.size)(hm:n≤8192)(hbd:Bd 4398046511104 l)
 (hV:∀m∈l,0≤m.1∧m.1<1048576) (hR:IsSum l R) (hc:wi c 1073741824=true) (hk:∀m∈R,wi m.2 1073741824=true) (h64:R.length≤64):
 Calls Tryz.prog 78 #[.int .i64 c,.slice a n cap] w (LinOk B c R w):=by
 have hso:=fun W (hb:Below w.heap.size w W)=>sort_row a n cap B l W hn (hrow.below hb) hm
 have hglt:∀b,a=some b→b.block<w.heap.size:=fun b hb=>(World.ownsRow.lt hrow b.block (by rw[hb];rfl)).2
 have HA:Hid (∀i,i<R.length→mayAt R i=true):=fun i hi=>by
  have hmem:R.getD i (0,0)∈R:=by rw[List.getD_eq_getElem?_getD,List.getElem?_eq_getElem hi];simp
  unfold mayAt
  obtain⟨x,hx,hxe⟩:=hR.comes hmem
  rw[mst_t1 (by rw[←hxe];exact hV x hx)]
  exact hk _ hmem
 have HN:=Lib.hid hn
 have HR:=Lib.hid hR
 have HSO:=Lib.hid hso
 have HG:=Lib.hid hglt
 have hwi:=fun w=>within_any c 1073741824 w (by omega) (by omega)
 rw[hc]at hwi
 clear hso hn hR hrow hc hglt hk hV
 go_enter Tryz.func78,Tryz.ntmps78
 go_wp2_with fail
 refine(HSO.out _ ((Below.refl _ w).alloc (Nat.le_refl _) _)).mono ?_
 rintro e w1 ⟨rfl,l',hp,hasc,hlies,hb1,hz1,hkeep⟩
 have B1:Hid (Below B w w1):=((Below.refl B w).alloc hB _).trans hb1
 have hz1':w.heap.size<w1.heap.size:=by simp at hz1;omega
 have hblk:=hkeep w.heap.size (by simp) (fun b hb=>by have:=HG.out b hb;omega)
 have hpl:l'.length=n:=by rw[hp.length_eq,HN.out]
 have hto:=together_any a n cap l' w1 hpl hm hlies (fun m hm=>hbd m (hp.mem_iff.1 hm))
 have HT:Hid ((tog l').filter (fun m=>m.2 != 0)=R):=(tog_isSum l' hasc).unique (HR.out.perm hp.symm)
 have htl:(tog l').length≤n:=by have:=tog_len l' l'.length (Nat.le_refl _);rw[List.take_length]at this;omega
 have HK:=Lib.hid hblk
 clear hkeep hp hasc hlies hb1 hz1 hblk hbd HSO HG HR HN hpl
 go_wp2_with fail
 refine hto.mono ?_
 rintro e w2 ⟨v2,rfl,hrow2,hb2⟩
 obtain⟨a2,cap2,rfl,hlies2,_⟩:=hrow2.lies
 have B2:Hid (Below B w w2):=B1.out.trans (hb2.mono (by omega))
 have hz2:w.heap.size<w2.heap.size:=by have:=hb2.size;omega
 have hdr:=drop_any a2 (tog l').length cap2 (tog l') w2 rfl (by omega) hlies2
 rw[HT.out]at hdr
 have HB2:=Lib.hid hb2
 clear hto hrow2 hlies2 hb2
 go_wp2_with fail
 refine hdr.mono ?_
 rintro e w3 ⟨v3,rfl,hrow3,hb3⟩
 obtain⟨a3,cap3,rfl,hlies3,_⟩:=hrow3.lies
 have B3:Hid (Below B w w3):=B2.out.trans (hb3.mono (by omega))
 have hz3:w.heap.size<w3.heap.size:=by have:=hb3.size;omega
 have hblk3:w3.heap[w.heap.size]? =some (.cells #[.int .i64 0,.slice none 0 0] 36 (0,0)):=by
  rw[hb3.block _ hz2,HB2.out.block _ hz1',HK.out];exact heap_alloc_new w _
 have q0:w3.cell? ⟨w.heap.size,0,none⟩=some (.int .i64 0):=by rw[cell_of_row _ _ _ _ _ _ hblk3];rfl
 have q1:w3.cell? ⟨w.heap.size,1,none⟩=some (.slice none 0 0):=by rw[cell_of_row _ _ _ _ _ _ hblk3];rfl
 have qf:∀o,w3.frozen? ⟨w.heap.size,o,none⟩=false:=fun o=>frozen_of_row _ _ _ _ _ hblk3
 have hb4:Below w3.heap.size w3 (w3.alloc (.cells #[.int .i64 c,.slice a3 R.length cap3] 36)):=(Below.refl _ _).alloc (Nat.le_refl _) _
 have hall:=mayAll_yes a3 R.length cap3 R _ _ (Nat.le_refl _) rfl (by omega) ((hlies3.below hb4).mono hb4.size) HA.out
 have HB4:=Lib.hid hb4
 have HR3:=Lib.hid hrow3
 clear hdr hb3 hb4 hrow3 hlies3 hblk3
 go_wp2_with (first | (go_at_call 45;refine(hwi _).mono ?_;rintro e w' ⟨rfl,rfl⟩) | (go_at_call 46;refine hall.mono ?_;rintro e w5 ⟨rfl,hb5⟩;obtain⟨hc5,hf5⟩:=bcell hb5;have hz5:w3.heap.size<w5.heap.size:=(by have:=hb5.size;simp at this;omega);have hz6:w.heap.size<w5.heap.size:=(by omega)))
 have H5:Below w3.heap.size w3 w5:=HB4.out.trans (hb5.mono (by simp))
 have hrowf:Row B R (.slice a3 R.length cap3) ((w5.setCell ⟨w.heap.size,0,none⟩ (.int .i64 c)).setCell ⟨w.heap.size,1,none⟩ (.slice a3 R.length cap3)):=
  Row.mono (ownsRow_setCell_below (ownsRow_setCell_below (HR3.out.below H5) (by simpa using hz2) _) (by simpa using hz2) _) (by omega)
 have hbf:Below B w ((w5.setCell ⟨w.heap.size,0,none⟩ (.int .i64 c)).setCell ⟨w.heap.size,1,none⟩ (.slice a3 R.length cap3)):=
  ((B3.out.trans (H5.mono (by omega))).setCell (p:=⟨w.heap.size,0,none⟩) hB _).setCell (p:=⟨w.heap.size,1,none⟩) hB _
 refine bodyPost_ret (v:= .tuple #[.agg #[.int .i64 c,.slice a3 R.length cap3],.nilIface]) ?_ rfl ⟨_,rfl,hrowf,hbf⟩
 obtain⟨e0,e1⟩:=res_cells w5 w.heap.size (.int .i64 c) (.slice a3 R.length cap3) _ _ ((H5.cell (p:=⟨w.heap.size,0,none⟩) hz3).trans q0) ((H5.cell (p:=⟨w.heap.size,1,none⟩) hz3).trans q1)
 clear q0 q1 qf hc5 hf5
 simp[results,Tryz.results78,go_sem,e0,e1]
theorem gather_far1 (c:Int)(a:Option Addr)(n cap B:Nat)(l R:List (Int×Int))(w:World)(hn:l.length=n)(hrow:Row B l (.slice a n cap) w)(hB:B≤w.heap.size)(hm:n≤8192)(hbd:Bd 4398046511104 l)
 (hV:∀m∈l,0≤m.1∧m.1<1048576) (hR:IsSum l R) (hc:wi c 1073741824=false):
 Calls Tryz.prog 78 #[.int .i64 c,.slice a n cap] w (LinErr B 3 w):=by
 have hso:=fun W (hb:Below w.heap.size w W)=>sort_row a n cap B l W hn (hrow.below hb) hm
 have hglt:∀b,a=some b→b.block<w.heap.size:=fun b hb=>(World.ownsRow.lt hrow b.block (by rw[hb];rfl)).2
 have HN:=Lib.hid hn
 have HR:=Lib.hid hR
 have HSO:=Lib.hid hso
 have HG:=Lib.hid hglt
 have hwi:=fun w=>within_any c 1073741824 w (by omega) (by omega)
 rw[hc]at hwi
 clear hso hn hR hrow hc hglt hV
 go_enter Tryz.func78,Tryz.ntmps78
 go_wp2_with fail
 refine(HSO.out _ ((Below.refl _ w).alloc (Nat.le_refl _) _)).mono ?_
 rintro e w1 ⟨rfl,l',hp,hasc,hlies,hb1,hz1,hkeep⟩
 have B1:Hid (Below B w w1):=((Below.refl B w).alloc hB _).trans hb1
 have hz1':w.heap.size<w1.heap.size:=by simp at hz1;omega
 have hblk:=hkeep w.heap.size (by simp) (fun b hb=>by have:=HG.out b hb;omega)
 have hpl:l'.length=n:=by rw[hp.length_eq,HN.out]
 have hto:=together_any a n cap l' w1 hpl hm hlies (fun m hm=>hbd m (hp.mem_iff.1 hm))
 have HT:Hid ((tog l').filter (fun m=>m.2 != 0)=R):=(tog_isSum l' hasc).unique (HR.out.perm hp.symm)
 have htl:(tog l').length≤n:=by have:=tog_len l' l'.length (Nat.le_refl _);rw[List.take_length]at this;omega
 have HK:=Lib.hid hblk
 clear hkeep hp hasc hlies hb1 hz1 hblk hbd HSO HG HR HN hpl
 go_wp2_with fail
 refine hto.mono ?_
 rintro e w2 ⟨v2,rfl,hrow2,hb2⟩
 obtain⟨a2,cap2,rfl,hlies2,_⟩:=hrow2.lies
 have B2:Hid (Below B w w2):=B1.out.trans (hb2.mono (by omega))
 have hz2:w.heap.size<w2.heap.size:=by have:=hb2.size;omega
 have hdr:=drop_any a2 (tog l').length cap2 (tog l') w2 rfl (by omega) hlies2
 rw[HT.out]at hdr
 have HB2:=Lib.hid hb2
 clear hto hrow2 hlies2 hb2
 go_wp2_with fail
 refine hdr.mono ?_
 rintro e w3 ⟨v3,rfl,hrow3,hb3⟩
 obtain⟨a3,cap3,rfl,hlies3,_⟩:=hrow3.lies
 have B3:Hid (Below B w w3):=B2.out.trans (hb3.mono (by omega))
 have hz3:w.heap.size<w3.heap.size:=by have:=hb3.size;omega
 have hblk3:w3.heap[w.heap.size]? =some (.cells #[.int .i64 0,.slice none 0 0] 36 (0,0)):=by
  rw[hb3.block _ hz2,HB2.out.block _ hz1',HK.out];exact heap_alloc_new w _
 have q0:w3.cell? ⟨w.heap.size,0,none⟩=some (.int .i64 0):=by rw[cell_of_row _ _ _ _ _ _ hblk3];rfl
 have q1:w3.cell? ⟨w.heap.size,1,none⟩=some (.slice none 0 0):=by rw[cell_of_row _ _ _ _ _ _ hblk3];rfl
 have qf:∀o,w3.frozen? ⟨w.heap.size,o,none⟩=false:=fun o=>frozen_of_row _ _ _ _ _ hblk3
 have hb4:Below w3.heap.size w3 (w3.alloc (.cells #[.int .i64 c,.slice a3 R.length cap3] 36)):=(Below.refl _ _).alloc (Nat.le_refl _) _
 clear hdr hb3 hb4 hrow3 hlies3 hblk3
 go_wp2_with (go_at_call 45;refine(hwi _).mono ?_;rintro e w' ⟨rfl,rfl⟩)
 have hbf:=(((B3.out.setCell (p:=⟨w.heap.size,0,none⟩) hB (.int .i64 0)).setCell (p:=⟨w.heap.size,1,none⟩) hB (.slice none 0 0))).alloc (by simp;omega) (.cells #[.int .i64 c,.slice a3 R.length cap3] 36)
 obtain⟨e0,e1⟩:=res_cells w3 w.heap.size (.int .i64 0) (.slice none 0 0) _ _ q0 q1
 refine bodyPost_ret (v:= .tuple #[.agg #[.int .i64 0,.slice none 0 0],.iface 60 (.int .i64 3)]) ?_ rfl ⟨rfl,hbf⟩
 clear q0 q1 qf
 simp[results,Tryz.results78,go_sem,e0,e1,hz3]
end
section
open Go.RowKit
def scale (x:Int)(l:List (Int×Int)):List (Int×Int):=l.map fun m=>(m.1,x*m.2)
theorem scale_snoc (x:Int)(l:List (Int×Int))(m:Int×Int):scale x (l ++ [m])=scale x l ++ [(m.1,x*m.2)]:=by simp[scale]
theorem scale_len (x:Int)(l:List (Int×Int)):(scale x l).length=l.length:=by simp[scale]
theorem mul_in {x k:Int}(hx: -4096≤x∧x≤4096)(hk: -1073741824≤k∧k≤1073741824): -4398046511104≤x*k∧x*k≤4398046511104:=by
 have h1:(x*k).natAbs≤4096*1073741824:=by
  rw[Int.natAbs_mul];exact Nat.mul_le_mul (by omega) (by omega)
 omega
theorem two_at2 (w:World)(o:Obj)(x y:Value)(t:TypeId):∀j u,[x,y][j]? =some u→((w.alloc o).alloc (.cells #[x,y] t)).cell? ((⟨w.heap.size+1,0,none⟩:Addr).add j)=some u:=by
 intro j u hj
 have h:=cell_two_new' (w.alloc o) x y t j u hj
 have e:(w.alloc o).heap.size=w.heap.size+1:=by simp
 rwa [e]at h
theorem snd_terms {c:Int}{l:List (Int×Int)}(h:snd c l=true):∀m∈l,(0≤m.1∧m.1<1048576)∧ -1073741824≤m.2∧m.2≤1073741824:=fun m hm=>by
 obtain⟨i,hi,rfl⟩:=List.getElem_of_mem hm
 have:=okAt_in ((snd_iff.1 h).2.2 i hi)
 rw[List.getD_eq_getElem?_getD,List.getElem?_eq_getElem hi]at this
 simp only[Option.getD_some]at this
 omega
theorem both_terms {ca cb x y:Int}{la lb:List (Int×Int)}(ha:snd ca la=true)(hb:snd cb lb=true)(hx: -4096≤x∧x≤4096)(hy: -4096≤y∧y≤4096):
 Bd 4398046511104 (scale x la ++ scale y lb)∧∀m∈scale x la ++ scale y lb,0≤m.1∧m.1<1048576:=by
 have h:∀m∈scale x la ++ scale y lb,(0≤m.1∧m.1<1048576)∧ -4398046511104≤m.2∧m.2≤4398046511104:=fun m hm=>by
  rcases List.mem_append.1 hm with hm | hm
  ·obtain⟨p,hp,rfl⟩:=List.mem_map.1 hm
   have:=snd_terms ha p hp
   exact⟨this.1,mul_in hx this.2⟩
  ·obtain⟨p,hp,rfl⟩:=List.mem_map.1 hm
   have:=snd_terms hb p hp
   exact⟨this.1,mul_in hy this.2⟩
 exact⟨fun m hm=>(h m hm).2,fun m hm=>(h m hm).1⟩
structure Three (w W:World)(N:Nat)(ca cb:Int)(a b:Option Addr)(na nb capa capb:Nat):Prop where
 lt:N+2<W.heap.size
 a0:W.cell? ⟨N,0,none⟩=some (.int .i64 ca)
 a1:W.cell? ⟨N,1,none⟩=some (.slice a na capa)
 b0:W.cell? ⟨N+1,0,none⟩=some (.int .i64 cb)
 b1:W.cell? ⟨N+1,1,none⟩=some (.slice b nb capb)
 r0:W.cell? ⟨N+2,0,none⟩=some (.int .i64 0)
 r1:W.cell? ⟨N+2,1,none⟩=some (.slice none 0 0)
 rf:∀o,W.frozen? ⟨N+2,o,none⟩=false
 bel:Below N w W
theorem Three.below {w W W':World}{N B:Nat}{ca cb:Int}{a b:Option Addr}{na nb capa capb:Nat}(h:Three w W N ca cb a b na nb capa capb)(hb:Below B W W')(hB:N+2<B):Three w W' N ca cb a b na nb capa capb:=
 ⟨Nat.lt_of_lt_of_le h.lt hb.size,(hb.cell (p:=⟨N,0,none⟩) (show N<B by omega)).trans h.a0,(hb.cell (p:=⟨N,1,none⟩) (show N<B by omega)).trans h.a1,(hb.cell (p:=⟨N+1,0,none⟩) (show N+1<B by omega)).trans h.b0,(hb.cell (p:=⟨N+1,1,none⟩) (show N+1<B by omega)).trans h.b1,
   (hb.cell (p:=⟨N+2,0,none⟩) hB).trans h.r0,(hb.cell (p:=⟨N+2,1,none⟩) hB).trans h.r1,fun o=>(hb.frozen (p:=⟨N+2,o,none⟩) hB).trans (h.rf o),h.bel.trans (hb.mono (by omega))⟩
theorem three_start (w:World)(ca cb:Int)(a b:Option Addr)(na nb capa capb:Nat):Three w (((w.alloc (.cells #[.int .i64 ca,.slice a na capa] 36)).alloc (.cells #[.int .i64 cb,.slice b nb capb] 36)).alloc (.cells #[.int .i64 0,.slice none 0 0] 36)) w.heap.size ca cb a b na nb capa capb:=
 ⟨by simp,by simp[go_sem],by simp[go_sem],by simp[go_sem],by simp[go_sem],by simp[go_sem],by simp[go_sem],fun o=>by simp[go_sem],(((Below.refl _ w).alloc (Nat.le_refl _) _).alloc (by simp) _).alloc (by simp;omega) _⟩
theorem add_ok (ca cb x y:Int)(a b:Option Addr)(na nb capa capb:Nat)(la lb R:List (Int×Int))(w:World)(hna:la.length=na)(hnb:lb.length=nb)(hla:Lies w.heap.size w a la)(hlb:Lies w.heap.size w b lb)
 (ha:snd ca la=true) (hb:snd cb lb=true) (hx: -4096≤x∧x≤4096) (hy: -4096≤y∧y≤4096)
 (hga:∀(a:Option Addr) (n cap:Nat) (W:World) (B:Nat),(scale x la ++ scale y lb).length=n→Row B (scale x la ++ scale y lb) (.slice a n cap) W→B≤W.heap.size→n≤8192→Calls Tryz.prog 78 #[.int .i64 (x*ca+y*cb),.slice a n cap] W (LinOk B (x*ca+y*cb) R W)):
 Calls Tryz.prog 50 #[.agg #[.int .i64 ca,.slice a na capa],.agg #[.int .i64 cb,.slice b nb capb],.int .i64 x,.int .i64 y] w (LinOk w.heap.size (x*ca+y*cb) R w):=by
 obtain⟨i0,hi,hz0,hz1,hz2⟩:=info_parts Tryz.infoMono
 have hca: -1073741824≤ca∧ca≤1073741824:=by have:=(snd_iff.1 ha).1;unfold wi at this;simpa using this
 have hcb: -1073741824≤cb∧cb≤1073741824:=by have:=(snd_iff.1 hb).1;unfold wi at this;simpa using this
 have m1:=mul_in hx hca
 have m2:=mul_in hy hcb
 have n1:na≤64:=by have:=(snd_iff.1 ha).2.1;omega
 have n2:nb≤64:=by have:=(snd_iff.1 hb).2.1;omega
 have hwx:=fun W=>within_any x 4096 W (by omega) (by omega)
 have hwy:=fun W=>within_any y 4096 W (by omega) (by omega)
 rw[wi_t hx]at hwx
 rw[wi_t hy]at hwy
 have hck1:=fun W (hb:Below w.heap.size w W)=>check_yes ca a na capa la W hna ((hla.below hb).mono hb.size) ha
 have hck2:=fun W (hb':Below w.heap.size w W)=>check_yes cb b nb capb lb W hnb ((hlb.below hb').mono hb'.size) hb
 have HT:=Lib.hid (fun i (hi:i<na)=>snd_terms ha (la.getD i (0,0)) (by rw[List.getD_eq_getElem?_getD,List.getElem?_eq_getElem (by omega)];simp))
 have HT2:=Lib.hid (fun i (hi:i<nb)=>snd_terms hb (lb.getD i (0,0)) (by rw[List.getD_eq_getElem?_getD,List.getElem?_eq_getElem (by omega)];simp))
 have HNA:=Lib.hid hna
 have HNB:=Lib.hid hnb
 have HLA:=Lib.hid hla
 have HLB:=Lib.hid hlb
 have HG:=Lib.hid hga
 have HC1:=Lib.hid hck1
 have HC2:=Lib.hid hck2
 have T0:=Lib.hid (three_start w ca cb a b na nb capa capb)
 clear hna hnb hla hlb ha hb hga hck1 hck2
 go_enter Tryz.func50,Tryz.ntmps50
 go_wp2_with fail
 refine(HC1.out _ T0.out.bel).mono ?_
 rintro e w1 ⟨rfl,hb1⟩
 have T1:=Lib.hid (T0.out.below hb1 T0.out.lt)
 obtain⟨l1,_,_,b10,b11,_,_,_,_⟩:=T1.out
 have l1':w.heap.size+1<w1.heap.size:=by omega
 clear hb1
 go_wp2_with fail
 refine(HC2.out _ T1.out.bel).mono ?_
 rintro e w2 ⟨rfl,hb2⟩
 have T2:=Lib.hid (T1.out.below hb2 T1.out.lt)
 clear hb2 b10 b11 l1 l1'
 obtain⟨l2,a0,a1,b0,b1,r0,r1,rf,_⟩:=T2.out
 go_wp2_with fail
 refine(hwx _).mono ?_
 rintro e w' ⟨rfl,rfl⟩
 go_wp2_with fail
 refine(hwy _).mono ?_
 rintro e w' ⟨rfl,rfl⟩
 go_wp2_with (at_make;refine wpList_make_own _ rfl _ _ 34 rfl w2.heap.size 92 i0 (.agg #[.int .i64 0,.int .i64 0]) 2 Tryz.underlying34 hi hz0 hz1 .i64 .i64 _ (na+nb) rfl rfl (by omega) (by rw[hz2];omega) (by unfold maxLen;omega) (Nat.le_refl _) ?_)
 intro w3 hown3 hgrow3
 have B3:Hid (Below w2.heap.size w2 w3):=(Below.refl _ w2).grown hgrow3 (Nat.le_refl _) (fun k hk=>by cases hk)
 have HO3:Hid (Row w2.heap.size ([] ++ scale x (la.take 0)) (.slice (some ⟨w2.heap.size,0,none⟩) 0 (na+nb)) w3):=by
  show Row _ _ _ _
  simpa [Row,scale,flat]using hown3
 obtain⟨l3,a30,a31,b30,b31,_,_,_,_⟩:=T2.out.below B3.out T2.out.lt
 clear hown3 hgrow3 a0 a1 b0 b1 r0 r1 rf
 go_wp2_with fail
 go_loopw [10,46] (fun s i wr=>∃k:Nat,k≤na∧i= .int .i64 k∧Hid (Row w2.heap.size ([] ++ scale x (la.take k)) s wr)∧Hid (Below w2.heap.size w2 wr)) (fun _ i _=>na - (intOf i).toNat)
 case atStart=>exact⟨0,Nat.zero_le _,rfl,HO3,B3⟩
 case round=>
  obtain⟨k,hk,rfl,hrow,hb⟩:=hrel
  by_cases hlt:k<na
  ·have hbw:Below w.heap.size w wr:=T2.out.bel.trans (hb.out.mono (by omega))
   obtain⟨bb,off,rfl,hblt,c1,c2⟩:=(HLA.out.below hbw) k (by rw[HNA.out];exact hlt)
   have hts:=take_snoc la k (by rw[HNA.out];exact hlt)
   have hm:=mul_in hx (HT.out k hlt).2
   have hrl:([] ++ scale x (la.take k)).length≤128:=by rw[List.length_append,scale_len,List.length_take];simp;omega
   have HT3:Hid ([] ++ scale x (la.take (k+1))=([] ++ scale x (la.take k)) ++ [((la.getD k (0,0)).1,x*(la.getD k (0,0)).2)]):=by
    show _=_
    rw[hts,scale_snoc,List.append_assoc]
   generalize (la.getD k (0,0)).1=v at c1 HT3
   generalize (la.getD k (0,0)).2=u at c2 HT3 hm
   generalize [] ++ scale x (la.take k)=r at hrow hrl HT3
   have hzr:w2.heap.size≤wr.heap.size:=hb.out.size
   clear hts hbw
   go_wp2_with (at_builtin;refine wpList_append_own _ rfl _ _ 34 rfl w2.heap.size 92 i0 _ 2 16 Tryz.underlying34 hi hz0 hz1 hz2 rfl (by decide) u10 r.length (flat r) rfl (World.ownsRow.alloc (World.ownsRow.alloc hrow.out _) _) ⟨wr.heap.size+1,0,none⟩ 1 1 [.int .i64 v,.int .i64 (x*u)] rfl rfl ?c2 ?c3 ?c4 ?c5 ?c6 ?_)
   case c2=>exact fun j z hj=>two_at2 wr _ _ _ _ j z hj
   case c3=>first | exact⟨rfl,rfl⟩ | exact flat_cells [(v,x*u)]
   case c4=>unfold maxLen;omega
   case c5=>omega
   case c6=>simp;omega
   intro v' w4 hown' hgrow _
   have HO:Hid (Row w2.heap.size ([] ++ scale x (la.take (k+1))) v' w4):=by
    show Row _ _ _ _
    rw[HT3.out]
    unfold Row
    rw[List.length_append,flat_append]
    exact hown'
   have HB:Hid (Below w2.heap.size w2 w4):=((hb.out.alloc hzr _).alloc (by simp;omega) _).grown hgrow (by simp;omega) (fun j hj=>(World.ownsRow.lt hrow.out j hj).1)
   clear hown' hgrow hrow
   go_wp2
   go_roundw
   case rel=>exact⟨k+1,by omega,by go_num,HO,HB⟩
   case measure=>simp[intOf];omega
  ·obtain rfl:k=na:=by omega
   have HA1:Hid (Row w2.heap.size (scale x la ++ scale y (lb.take 0)) u10 wr):=by
    have:=hrow.out
    rw[List.nil_append,List.take_of_length_le (by rw[HNA.out];exact Nat.le_refl _)]at this
    show Row _ _ _ _
    simpa [scale]using this
   obtain⟨l4,a40,a41,b40,b41,r40,r41,rf4,_⟩:=T2.out.below hb.out T2.out.lt
   clear hrow a30 a31 b30 b31
   go_wp2_with fail
   go_loopw [10,64] (fun s i wr=>∃k:Nat,k≤nb∧i= .int .i64 k∧Hid (Row w2.heap.size (scale x la ++ scale y (lb.take k)) s wr)∧Hid (Below w2.heap.size w2 wr)) (fun _ i _=>nb - (intOf i).toNat)
   case atStart=>exact⟨0,Nat.zero_le _,rfl,HA1,hb⟩
   case round=>
    obtain⟨k,hk,rfl,hrow,hb⟩:=hrel
    by_cases hlt:k<nb
    ·have hbw:Below w.heap.size w wr:=T2.out.bel.trans (hb.out.mono (by omega))
     obtain⟨bb,off,rfl,hblt,c1,c2⟩:=(HLB.out.below hbw) k (by rw[HNB.out];exact hlt)
     have hts:=take_snoc lb k (by rw[HNB.out];exact hlt)
     have hm:=mul_in hy (HT2.out k hlt).2
     have hrl:(scale x la ++ scale y (lb.take k)).length≤128:=by have:=HNA.out;simp[scale_len];omega
     have HT3:Hid (scale x la ++ scale y (lb.take (k+1))=(scale x la ++ scale y (lb.take k)) ++ [((lb.getD k (0,0)).1,y*(lb.getD k (0,0)).2)]):=by
      show _=_
      rw[hts,scale_snoc,List.append_assoc]
     generalize (lb.getD k (0,0)).1=v at c1 HT3
     generalize (lb.getD k (0,0)).2=u at c2 HT3 hm
     generalize scale x la ++ scale y (lb.take k)=r at hrow hrl HT3
     have hzr:w2.heap.size≤wr.heap.size:=hb.out.size
     clear hts hbw
     go_wp2_with (at_builtin;refine wpList_append_own _ rfl _ _ 34 rfl w2.heap.size 92 i0 _ 2 16 Tryz.underlying34 hi hz0 hz1 hz2 rfl (by decide) u10 r.length (flat r) rfl (World.ownsRow.alloc (World.ownsRow.alloc hrow.out _) _) ⟨wr.heap.size+1,0,none⟩ 1 1 [.int .i64 v,.int .i64 (y*u)] rfl rfl ?c2 ?c3 ?c4 ?c5 ?c6 ?_)
     case c2=>exact fun j z hj=>two_at2 wr _ _ _ _ j z hj
     case c3=>first | exact⟨rfl,rfl⟩ | exact flat_cells [(v,y*u)]
     case c4=>unfold maxLen;omega
     case c5=>omega
     case c6=>simp;omega
     intro v' w4 hown' hgrow _
     have HO:Hid (Row w2.heap.size (scale x la ++ scale y (lb.take (k+1))) v' w4):=by
      show Row _ _ _ _
      rw[HT3.out]
      unfold Row
      rw[List.length_append,flat_append]
      exact hown'
     have HB:Hid (Below w2.heap.size w2 w4):=((hb.out.alloc hzr _).alloc (by simp;omega) _).grown hgrow (by simp;omega) (fun j hj=>(World.ownsRow.lt hrow.out j hj).1)
     clear hown' hgrow hrow
     go_wp2
     go_roundw
     case rel=>exact⟨k+1,by omega,by go_num,HO,HB⟩
     case measure=>simp[intOf];omega
    ·obtain rfl:k=nb:=by omega
     have HF:Hid (Row w2.heap.size (scale x la ++ scale y lb) u10 wr):=by
      have:=hrow.out
      rwa [List.take_of_length_le (by rw[HNB.out];exact Nat.le_refl _)]at this
     obtain⟨a5,cap5,rfl,_,_⟩:=HF.out.lies
     have hlen5:(scale x la ++ scale y lb).length≤8192:=by rw[List.length_append,scale_len,scale_len,HNA.out,HNB.out];omega
     have T5:=Lib.hid (T2.out.below hb.out T2.out.lt)
     obtain⟨l5,a50,a51,b50,b51,r50,r51,rf5,_⟩:=T5.out
     have hcon:=HG.out a5 _ cap5 wr w2.heap.size rfl HF.out hb.out.size hlen5
     rw[List.length_append]at hcon
     clear hrow
     go_wp2_with fail
     refine hcon.mono ?_
     rintro e w7 ⟨v7,rfl,hrow7,hb7⟩
     have T7:=Lib.hid (T5.out.below hb7 T2.out.lt)
     clear hcon hb7 a50 a51 b50 b51 r50 r51 rf5 l5
     obtain⟨l7,_,_,_,_,r70,r71,rf7,bel7⟩:=T7.out
     obtain⟨a7,cap7,rfl,_,_⟩:=hrow7.lies
     have hrowf:Row w.heap.size R (.slice a7 R.length cap7) ((w7.setCell ⟨w.heap.size+2,0,none⟩ (.int .i64 (x*ca+y*cb))).setCell ⟨w.heap.size+2,1,none⟩ (.slice a7 R.length cap7)):=
      Row.mono (ownsRow_setCell_below (ownsRow_setCell_below hrow7 (by have:=T2.out.lt;simpa using this) _) (by have:=T2.out.lt;simpa using this) _) (by omega)
     have hbf:=(bel7.setCell (p:=⟨w.heap.size+2,0,none⟩) (Nat.le_add_right _ _) (.int .i64 (x*ca+y*cb))).setCell (p:=⟨w.heap.size+2,1,none⟩) (Nat.le_add_right _ _) (.slice a7 R.length cap7)
     obtain⟨e0,e1⟩:=res_cells w7 (w.heap.size+2) (.int .i64 (x*ca+y*cb)) (.slice a7 R.length cap7) _ _ r70 r71
     clear bel7 hrow7
     go_wp2_with fail
     refine bodyPost_ret (v:= .tuple #[.agg #[.int .i64 (x*ca+y*cb),.slice a7 R.length cap7],.nilIface]) ?_ rfl ⟨_,rfl,hrowf,hbf⟩
     clear r70 r71 rf7
     simp[results,Tryz.results50,go_sem,e0,e1]
theorem add_err (j ca cb x y:Int)(a b:Option Addr)(na nb capa capb:Nat)(la lb:List (Int×Int))(w:World)(hna:la.length=na)(hnb:lb.length=nb)(hla:Lies w.heap.size w a la)(hlb:Lies w.heap.size w b lb)
 (ha:snd ca la=true) (hb:snd cb lb=true) (hx: -4096≤x∧x≤4096) (hy: -4096≤y∧y≤4096)
 (hga:∀(a:Option Addr) (n cap:Nat) (W:World) (B:Nat),(scale x la ++ scale y lb).length=n→Row B (scale x la ++ scale y lb) (.slice a n cap) W→B≤W.heap.size→n≤8192→Calls Tryz.prog 78 #[.int .i64 (x*ca+y*cb),.slice a n cap] W (LinErr B j W)):
 Calls Tryz.prog 50 #[.agg #[.int .i64 ca,.slice a na capa],.agg #[.int .i64 cb,.slice b nb capb],.int .i64 x,.int .i64 y] w (LinErr w.heap.size j w):=by
 obtain⟨i0,hi,hz0,hz1,hz2⟩:=info_parts Tryz.infoMono
 have hca: -1073741824≤ca∧ca≤1073741824:=by have:=(snd_iff.1 ha).1;unfold wi at this;simpa using this
 have hcb: -1073741824≤cb∧cb≤1073741824:=by have:=(snd_iff.1 hb).1;unfold wi at this;simpa using this
 have m1:=mul_in hx hca
 have m2:=mul_in hy hcb
 have n1:na≤64:=by have:=(snd_iff.1 ha).2.1;omega
 have n2:nb≤64:=by have:=(snd_iff.1 hb).2.1;omega
 have hwx:=fun W=>within_any x 4096 W (by omega) (by omega)
 have hwy:=fun W=>within_any y 4096 W (by omega) (by omega)
 rw[wi_t hx]at hwx
 rw[wi_t hy]at hwy
 have hck1:=fun W (hb:Below w.heap.size w W)=>check_yes ca a na capa la W hna ((hla.below hb).mono hb.size) ha
 have hck2:=fun W (hb':Below w.heap.size w W)=>check_yes cb b nb capb lb W hnb ((hlb.below hb').mono hb'.size) hb
 have HT:=Lib.hid (fun i (hi:i<na)=>snd_terms ha (la.getD i (0,0)) (by rw[List.getD_eq_getElem?_getD,List.getElem?_eq_getElem (by omega)];simp))
 have HT2:=Lib.hid (fun i (hi:i<nb)=>snd_terms hb (lb.getD i (0,0)) (by rw[List.getD_eq_getElem?_getD,List.getElem?_eq_getElem (by omega)];simp))
 have HNA:=Lib.hid hna
 have HNB:=Lib.hid hnb
 have HLA:=Lib.hid hla
 have HLB:=Lib.hid hlb
 have HG:=Lib.hid hga
 have HC1:=Lib.hid hck1
 have HC2:=Lib.hid hck2
 have T0:=Lib.hid (three_start w ca cb a b na nb capa capb)
 clear hna hnb hla hlb ha hb hga hck1 hck2
 go_enter Tryz.func50,Tryz.ntmps50
 go_wp2_with fail
 refine(HC1.out _ T0.out.bel).mono ?_
 rintro e w1 ⟨rfl,hb1⟩
 have T1:=Lib.hid (T0.out.below hb1 T0.out.lt)
 obtain⟨l1,_,_,b10,b11,_,_,_,_⟩:=T1.out
 have l1':w.heap.size+1<w1.heap.size:=by omega
 clear hb1
 go_wp2_with fail
 refine(HC2.out _ T1.out.bel).mono ?_
 rintro e w2 ⟨rfl,hb2⟩
 have T2:=Lib.hid (T1.out.below hb2 T1.out.lt)
 clear hb2 b10 b11 l1 l1'
 obtain⟨l2,a0,a1,b0,b1,r0,r1,rf,_⟩:=T2.out
 go_wp2_with fail
 refine(hwx _).mono ?_
 rintro e w' ⟨rfl,rfl⟩
 go_wp2_with fail
 refine(hwy _).mono ?_
 rintro e w' ⟨rfl,rfl⟩
 go_wp2_with (at_make;refine wpList_make_own _ rfl _ _ 34 rfl w2.heap.size 92 i0 (.agg #[.int .i64 0,.int .i64 0]) 2 Tryz.underlying34 hi hz0 hz1 .i64 .i64 _ (na+nb) rfl rfl (by omega) (by rw[hz2];omega) (by unfold maxLen;omega) (Nat.le_refl _) ?_)
 intro w3 hown3 hgrow3
 have B3:Hid (Below w2.heap.size w2 w3):=(Below.refl _ w2).grown hgrow3 (Nat.le_refl _) (fun k hk=>by cases hk)
 have HO3:Hid (Row w2.heap.size ([] ++ scale x (la.take 0)) (.slice (some ⟨w2.heap.size,0,none⟩) 0 (na+nb)) w3):=by
  show Row _ _ _ _
  simpa [Row,scale,flat]using hown3
 obtain⟨l3,a30,a31,b30,b31,_,_,_,_⟩:=T2.out.below B3.out T2.out.lt
 clear hown3 hgrow3 a0 a1 b0 b1 r0 r1 rf
 go_wp2_with fail
 go_loopw [10,46] (fun s i wr=>∃k:Nat,k≤na∧i= .int .i64 k∧Hid (Row w2.heap.size ([] ++ scale x (la.take k)) s wr)∧Hid (Below w2.heap.size w2 wr)) (fun _ i _=>na - (intOf i).toNat)
 case atStart=>exact⟨0,Nat.zero_le _,rfl,HO3,B3⟩
 case round=>
  obtain⟨k,hk,rfl,hrow,hb⟩:=hrel
  by_cases hlt:k<na
  ·have hbw:Below w.heap.size w wr:=T2.out.bel.trans (hb.out.mono (by omega))
   obtain⟨bb,off,rfl,hblt,c1,c2⟩:=(HLA.out.below hbw) k (by rw[HNA.out];exact hlt)
   have hts:=take_snoc la k (by rw[HNA.out];exact hlt)
   have hm:=mul_in hx (HT.out k hlt).2
   have hrl:([] ++ scale x (la.take k)).length≤128:=by rw[List.length_append,scale_len,List.length_take];simp;omega
   have HT3:Hid ([] ++ scale x (la.take (k+1))=([] ++ scale x (la.take k)) ++ [((la.getD k (0,0)).1,x*(la.getD k (0,0)).2)]):=by
    show _=_
    rw[hts,scale_snoc,List.append_assoc]
   generalize (la.getD k (0,0)).1=v at c1 HT3
   generalize (la.getD k (0,0)).2=u at c2 HT3 hm
   generalize [] ++ scale x (la.take k)=r at hrow hrl HT3
   have hzr:w2.heap.size≤wr.heap.size:=hb.out.size
   clear hts hbw
   go_wp2_with (at_builtin;refine wpList_append_own _ rfl _ _ 34 rfl w2.heap.size 92 i0 _ 2 16 Tryz.underlying34 hi hz0 hz1 hz2 rfl (by decide) u10 r.length (flat r) rfl (World.ownsRow.alloc (World.ownsRow.alloc hrow.out _) _) ⟨wr.heap.size+1,0,none⟩ 1 1 [.int .i64 v,.int .i64 (x*u)] rfl rfl ?c2 ?c3 ?c4 ?c5 ?c6 ?_)
   case c2=>exact fun j z hj=>two_at2 wr _ _ _ _ j z hj
   case c3=>first | exact⟨rfl,rfl⟩ | exact flat_cells [(v,x*u)]
   case c4=>unfold maxLen;omega
   case c5=>omega
   case c6=>simp;omega
   intro v' w4 hown' hgrow _
   have HO:Hid (Row w2.heap.size ([] ++ scale x (la.take (k+1))) v' w4):=by
    show Row _ _ _ _
    rw[HT3.out]
    unfold Row
    rw[List.length_append,flat_append]
    exact hown'
   have HB:Hid (Below w2.heap.size w2 w4):=((hb.out.alloc hzr _).alloc (by simp;omega) _).grown hgrow (by simp;omega) (fun j hj=>(World.ownsRow.lt hrow.out j hj).1)
   clear hown' hgrow hrow
   go_wp2
   go_roundw
   case rel=>exact⟨k+1,by omega,by go_num,HO,HB⟩
   case measure=>simp[intOf];omega
  ·obtain rfl:k=na:=by omega
   have HA1:Hid (Row w2.heap.size (scale x la ++ scale y (lb.take 0)) u10 wr):=by
    have:=hrow.out
    rw[List.nil_append,List.take_of_length_le (by rw[HNA.out];exact Nat.le_refl _)]at this
    show Row _ _ _ _
    simpa [scale]using this
   obtain⟨l4,a40,a41,b40,b41,r40,r41,rf4,_⟩:=T2.out.below hb.out T2.out.lt
   clear hrow a30 a31 b30 b31
   go_wp2_with fail
   go_loopw [10,64] (fun s i wr=>∃k:Nat,k≤nb∧i= .int .i64 k∧Hid (Row w2.heap.size (scale x la ++ scale y (lb.take k)) s wr)∧Hid (Below w2.heap.size w2 wr)) (fun _ i _=>nb - (intOf i).toNat)
   case atStart=>exact⟨0,Nat.zero_le _,rfl,HA1,hb⟩
   case round=>
    obtain⟨k,hk,rfl,hrow,hb⟩:=hrel
    by_cases hlt:k<nb
    ·have hbw:Below w.heap.size w wr:=T2.out.bel.trans (hb.out.mono (by omega))
     obtain⟨bb,off,rfl,hblt,c1,c2⟩:=(HLB.out.below hbw) k (by rw[HNB.out];exact hlt)
     have hts:=take_snoc lb k (by rw[HNB.out];exact hlt)
     have hm:=mul_in hy (HT2.out k hlt).2
     have hrl:(scale x la ++ scale y (lb.take k)).length≤128:=by have:=HNA.out;simp[scale_len];omega
     have HT3:Hid (scale x la ++ scale y (lb.take (k+1))=(scale x la ++ scale y (lb.take k)) ++ [((lb.getD k (0,0)).1,y*(lb.getD k (0,0)).2)]):=by
      show _=_
      rw[hts,scale_snoc,List.append_assoc]
     generalize (lb.getD k (0,0)).1=v at c1 HT3
     generalize (lb.getD k (0,0)).2=u at c2 HT3 hm
     generalize scale x la ++ scale y (lb.take k)=r at hrow hrl HT3
     have hzr:w2.heap.size≤wr.heap.size:=hb.out.size
     clear hts hbw
     go_wp2_with (at_builtin;refine wpList_append_own _ rfl _ _ 34 rfl w2.heap.size 92 i0 _ 2 16 Tryz.underlying34 hi hz0 hz1 hz2 rfl (by decide) u10 r.length (flat r) rfl (World.ownsRow.alloc (World.ownsRow.alloc hrow.out _) _) ⟨wr.heap.size+1,0,none⟩ 1 1 [.int .i64 v,.int .i64 (y*u)] rfl rfl ?c2 ?c3 ?c4 ?c5 ?c6 ?_)
     case c2=>exact fun j z hj=>two_at2 wr _ _ _ _ j z hj
     case c3=>first | exact⟨rfl,rfl⟩ | exact flat_cells [(v,y*u)]
     case c4=>unfold maxLen;omega
     case c5=>omega
     case c6=>simp;omega
     intro v' w4 hown' hgrow _
     have HO:Hid (Row w2.heap.size (scale x la ++ scale y (lb.take (k+1))) v' w4):=by
      show Row _ _ _ _
      rw[HT3.out]
      unfold Row
      rw[List.length_append,flat_append]
      exact hown'
     have HB:Hid (Below w2.heap.size w2 w4):=((hb.out.alloc hzr _).alloc (by simp;omega) _).grown hgrow (by simp;omega) (fun j hj=>(World.ownsRow.lt hrow.out j hj).1)
     clear hown' hgrow hrow
     go_wp2
     go_roundw
     case rel=>exact⟨k+1,by omega,by go_num,HO,HB⟩
     case measure=>simp[intOf];omega
    ·obtain rfl:k=nb:=by omega
     have HF:Hid (Row w2.heap.size (scale x la ++ scale y lb) u10 wr):=by
      have:=hrow.out
      rwa [List.take_of_length_le (by rw[HNB.out];exact Nat.le_refl _)]at this
     obtain⟨a5,cap5,rfl,_,_⟩:=HF.out.lies
     have hlen5:(scale x la ++ scale y lb).length≤8192:=by rw[List.length_append,scale_len,scale_len,HNA.out,HNB.out];omega
     have T5:=Lib.hid (T2.out.below hb.out T2.out.lt)
     obtain⟨l5,a50,a51,b50,b51,r50,r51,rf5,_⟩:=T5.out
     have hcon:=HG.out a5 _ cap5 wr w2.heap.size rfl HF.out hb.out.size hlen5
     rw[List.length_append]at hcon
     clear hrow
     go_wp2_with fail
     refine hcon.mono ?_
     rintro e w7 ⟨rfl,hb7⟩
     have T7:=Lib.hid (T5.out.below hb7 T2.out.lt)
     clear hcon hb7 a50 a51 b50 b51 r50 r51 rf5 l5
     obtain⟨l7,_,_,_,_,r70,r71,rf7,bel7⟩:=T7.out
     have hbf:=(bel7.setCell (p:=⟨w.heap.size+2,0,none⟩) (Nat.le_add_right _ _) (.int .i64 0)).setCell (p:=⟨w.heap.size+2,1,none⟩) (Nat.le_add_right _ _) (.slice none 0 0)
     obtain⟨e0,e1⟩:=res_cells w7 (w.heap.size+2) (.int .i64 0) (.slice none 0 0) _ _ r70 r71
     clear bel7
     go_wp2_with fail
     refine bodyPost_ret (v:= .tuple #[.agg #[.int .i64 0,.slice none 0 0],.iface 60 (.int .i64 j)]) ?_ rfl ⟨rfl,hbf⟩
     clear r70 r71 rf7
     simp[results,Tryz.results50,go_sem,e0,e1]
end
section
open Go.RowKit
attribute [local go_sem ↓] Go.wp_at_zero Go.wp_at_succ
theorem rtimes_any (c x:Int)(a:Option Addr)(n cap:Nat)(l:List (Int×Int))(w:World)(hn:l.length=n)(hm:n≤64)(hl:Lies w.heap.size w a l)(hxk:∀m∈l, -4398046511104≤x*m.2∧x*m.2≤4398046511104):
 Calls Tryz.prog 25 #[.agg #[.int .i64 c,.slice a n cap],.int .i64 x] w (RowEnd w.heap.size (scale x l) w):=by
 obtain⟨i0,hi,hz0,hz1,hz2⟩:=info_parts Tryz.infoMono
 have HN:=Lib.hid hn
 have HL:=Lib.hid hl
 have HX:=Lib.hid hxk
 have HB0:Hid (Below (w.heap.size+1) (w.alloc (.cells #[.int .i64 c,.slice a n cap] 36)) (w.alloc (.cells #[.int .i64 c,.slice a n cap] 36))):=Below.refl _ _
 clear hn hl hxk
 go_enter Tryz.func25,Tryz.ntmps25
 go_wp2_with fail
 go_loopw [5,6] (fun s i wr=>∃k:Nat,k≤n∧i= .int .i64 k∧Hid (Row (w.heap.size+1) (scale x (l.take k)) s wr)∧Hid (Below (w.heap.size+1) (w.alloc (.cells #[.int .i64 c,.slice a n cap] 36)) wr)) (fun _ i _=>n - (intOf i).toNat)
 case atStart=>exact⟨0,Nat.zero_le _,rfl,World.ownsRow_nil _ _ _ _,HB0⟩
 case round=>
  obtain⟨k,hk,rfl,hrow,hb⟩:=hrel
  have hbw:Below w.heap.size w wr:=((Below.refl _ w).alloc (Nat.le_refl _) _).trans (hb.out.mono (by omega))
  have g0:wr.cell? ⟨w.heap.size,0,none⟩=some (.int .i64 c):=by rw[hb.out.cell (p:=⟨w.heap.size,0,none⟩) (by simp)];simp
  have g1:wr.cell? ⟨w.heap.size,1,none⟩=some (.slice a n cap):=by rw[hb.out.cell (p:=⟨w.heap.size,1,none⟩) (by simp)];simp
  have gz:w.heap.size<wr.heap.size:=by have:=hb.out.size;simp at this;omega
  obtain⟨wo,rfl⟩:∃wo:World,wo=wr:=⟨_,rfl⟩
  by_cases hlt:k<n
  ·obtain⟨b,off,rfl,hblt,c1,c2⟩:=(HL.out.below hbw) k (by rw[HN.out];exact hlt)
   have hts:=take_snoc l k (by rw[HN.out];exact hlt)
   have hm2:=HX.out (l.getD k (0,0)) (by rw[List.getD_eq_getElem?_getD,List.getElem?_eq_getElem (by rw[HN.out];exact hlt)];simp)
   have hrl:(scale x (l.take k)).length≤128:=by rw[scale_len,List.length_take];omega
   have HT3:Hid (scale x (l.take (k+1))=scale x (l.take k) ++ [((l.getD k (0,0)).1,x*(l.getD k (0,0)).2)]):=by
    show _=_
    rw[hts,scale_snoc]
   have HBW:=Lib.hid hbw
   generalize (l.getD k (0,0)).1=v at c1 HT3
   generalize (l.getD k (0,0)).2=u at c2 HT3 hm2
   generalize scale x (l.take k)=r at hrow hrl HT3
   clear hts hbw
   have hzr:w.heap.size+1≤wo.heap.size:=by omega
   have hown:=hrow.out
   unfold Row at hown
   have al:u5.ownBlock≠some w.heap.size:=fun e=>by have:=(World.ownsRow.lt hown _ e).1;omega
   have ab:u5.ownBlock≠some b:=fun e=>by have:=(World.ownsRow.lt hown _ e).1;omega
   have hk0:(0:Int)≤(k:Int):=Int.natCast_nonneg _
   have hk1:(k:Int)<(n:Int):=by omega
   have hw1:IntKind.i64.wrap (x*u)=x*u:=IntWalk.i64_in _ (by omega)
   go_wp2_with fail
   go_region_held3 (fun w'=>w'.cell? ⟨w.heap.size,1,none⟩=some (.slice (some ⟨b,off,none⟩) n cap)∧w'.cell? ⟨b,off+k*2,none⟩=some (.int .i64 v)∧w'.cell? ⟨b,off+k*2+1,none⟩=some (.int .i64 u))
    (first
      | go_keep
      | (go_split_ands
         refine⟨?_, ?_, ?_⟩
         ·(rw[hgrow.cell_far _ (by simp;omega) (Ne.symm al)];assumption)
         ·(rw[hgrow.cell_far _ (by simp;omega) (Ne.symm ab)];assumption)
         ·(rw[hgrow.cell_far _ (by simp;omega) (Ne.symm ab)];assumption)))
    ((refine step_append_lies _ (by rfl) _ _ _ (by rfl) (w.heap.size+1) 92 i0 _ 2 16 Tryz.underlying34 hi hz0 hz1 hz2 rfl (by omega) u5 r.length (flat r) (by rfl) ((hown.alloc _).drew)
       ⟨wo.heap.size,0,none⟩ 1 1 [.int .i64 v,.int .i64 (x*u)] (by rfl) (by rfl) (World.news_of_block (cs:= #[.int .i64 v,.int .i64 (x*u)]) (t:=92) (fr:=(0,0)) (heap_alloc_new wo _)) (by simp[Value.oneCell'])
       (by omega) (by unfold maxLen;omega) (by omega) (by simp;omega) (wo.heap.size+1) (by simp) ?_;intro gg cap2 w1 hown1 hgrow hat hlt2))
   have HO:Hid (Row (w.heap.size+1) (scale x (l.take (k+1))) (.slice (some ⟨gg,0,none⟩) (r.length+1) cap2) w1):=by
    show Row _ _ _ _
    rw[HT3.out]
    unfold Row
    rw[List.length_append,flat_append]
    exact hown1
   have HB:Hid (Below (w.heap.size+1) (w.alloc (.cells #[.int .i64 c,.slice (some ⟨b,off,none⟩) n cap] 36)) w1):=((hb.out.alloc hzr _).drew).grown hgrow (by simp;omega) (fun j hj=>(World.ownsRow.lt hown j hj).1)
   clear hown1 hgrow hrow hown
   go_wp2
   go_roundw
   case rel=>exact⟨k+1,by omega,by go_num,HO,HB⟩
   case measure=>simp[intOf];omega
  ·have HF:Hid (Row (w.heap.size+1) (scale x l) u5 wo):=by
    have:=hrow.out
    rwa [List.take_of_length_le (by rw[HN.out];omega)]at this
   have HBW:=Lib.hid hbw
   clear hrow hbw
   go_wp2_with fail
   go_ret
   exact⟨_,rfl,HF.out.mono (by omega),HBW.out⟩
end
end Go.Proofs.YtipahfcaplbifaaGreatDoor
