/- Parts of a proof. -/
import Derived.Test.YtjbkhdbjdahbiaaGreatDoorQ02
import Derived.Lib.AppendIntMem
import Derived.Shelf.SlSortCmp.NoneTotal
import Derived.LaidEql
import Derived.Lib.QuietBelow
import Derived.Deep.RegionHeld3
import Derived.Deep.AppendLies
import Derived.Deep.DrawnRows
set_option linter.unusedVariables false
set_option linter.unusedSimpArgs false
set_option maxHeartbeats 60000000
set_option maxRecDepth 100000
namespace Go.Proofs.YtjbkhdbjdahbiaaGreatDoor
namespace Lf
def coef (l:List (Int×Int))(v:Int):Int:=(l.map fun m=>if m.1=v then m.2 else 0).sum
theorem coef_nil (v:Int):coef [] v=0:=rfl
theorem coef_cons (m:Int×Int)(l:List (Int×Int))(v:Int):coef (m :: l) v=(if m.1=v then m.2 else 0)+coef l v:=by simp[coef]
theorem coef_append (l r:List (Int×Int))(v:Int):coef (l ++ r) v=coef l v+coef r v:=by simp[coef,List.sum_append]
theorem coef_perm {l r:List (Int×Int)}(h:l.Perm r)(v:Int):coef l v=coef r v:=by
 induction h with
 | nil=>rfl
 | cons x _ ih=>rw[coef_cons,coef_cons,ih]
 | swap x y l=>simp only[coef_cons];omega
 | trans _ _ h1 h2=>exact h1.trans h2
theorem coef_none {l:List (Int×Int)}{v:Int}(h:∀m∈l,m.1≠v):coef l v=0:=by
 induction l with
 | nil=>rfl
 | cons m r ih=>rw[coef_cons,if_neg (h m (by simp)),ih (fun x hx=>h x (by simp[hx]))];rfl
def Up (l:List (Int×Int)):Prop:=l.Pairwise fun a b=>a.1<b.1
structure IsSum (l R:List (Int×Int)):Prop where
 up:Up R
 nz:∀m∈R,m.2≠0
 eq:∀v,coef R v=coef l v
theorem up_head {m:Int×Int}{r:List (Int×Int)}(h:Up (m :: r)):coef r m.1=0:=
 coef_none fun x hx=>by have:=(List.pairwise_cons.1 h).1 x hx;omega
theorem sum_unique:∀ {R S:List (Int×Int)},Up R→Up S→(∀m∈R,m.2≠0)→(∀m∈S,m.2≠0)→(∀v,coef R v=coef S v)→R=S
 | [],[],_,_,_,_,_=>rfl
 | [],b :: s,_,hS,_,nS,h=>by
   have:=h b.1
   rw[coef_nil,coef_cons,if_pos rfl,up_head hS]at this
   have:=nS b (by simp)
   omega
 | a :: r,[],hR,_,nR,_,h=>by
   have:=h a.1
   rw[coef_nil,coef_cons,if_pos rfl,up_head hR]at this
   have:=nR a (by simp)
   omega
 | a :: r,b :: s,hR,hS,nR,nS,h=>by
   have na:=nR a (by simp)
   have nb:=nS b (by simp)
   have hr:=List.pairwise_cons.1 hR
   have hs:=List.pairwise_cons.1 hS
   have e1:a.1=b.1:=by
    by_cases hlt:a.1<b.1
    ·have:=h a.1
     rw[coef_cons,if_pos rfl,up_head hR,coef_cons,if_neg (by omega),coef_none (fun x hx=>by have:=hs.1 x hx;omega)]at this
     omega
    ·by_cases hgt:b.1<a.1
     ·have:=h b.1
      rw[coef_cons,if_neg (by omega),coef_none (fun x hx=>by have:=hr.1 x hx;omega),coef_cons,if_pos rfl,up_head hS]at this
      omega
     ·omega
   have e2:a.2=b.2:=by
    have:=h a.1
    rw[coef_cons,if_pos rfl,up_head hR,coef_cons,if_pos e1.symm,e1,up_head hS]at this
    omega
   have e:a=b:=Prod.ext e1 e2
   subst e
   rw[sum_unique hr.2 hs.2 (fun x hx=>nR x (by simp[hx])) (fun x hx=>nS x (by simp[hx])) (fun v=>by
    have:=h v
    rw[coef_cons,coef_cons]at this
    omega)]
theorem IsSum.unique {l R S:List (Int×Int)}(h:IsSum l R)(k:IsSum l S):R=S:=sum_unique h.up k.up h.nz k.nz fun v=>(h.eq v).trans (k.eq v).symm
theorem IsSum.perm {l l' R:List (Int×Int)}(h:IsSum l R)(hp:l.Perm l'):IsSum l' R:=⟨h.up,h.nz,fun v=>(h.eq v).trans (coef_perm hp v)⟩
theorem coef_up {R:List (Int×Int)}(h:Up R){m:Int×Int}(hm:m∈R):coef R m.1=m.2:=by
 induction R with
 | nil=>cases hm
 | cons a r ih=>
   rcases List.mem_cons.1 hm with rfl | hm
   ·rw[coef_cons,if_pos rfl,up_head h];omega
   ·have hr:=List.pairwise_cons.1 h
    rw[coef_cons,if_neg (by have:=hr.1 m hm;omega),ih hr.2 hm];omega
theorem IsSum.comes {l R:List (Int×Int)}(h:IsSum l R){m:Int×Int}(hm:m∈R):∃x∈l,x.1=m.1:=by
 by_cases hx:∃x∈l,x.1=m.1
 ·exact hx
 ·have h1:=coef_up h.up hm
  rw[h.eq,coef_none (fun x hx1 hx2=>hx ⟨x,hx1,hx2⟩)]at h1
  exact absurd h1.symm (h.nz m hm)
theorem togStep_up {r:List (Int×Int)}{m:Int×Int}(h:Up r)(hle:∀p∈r,p.1≤m.1):
 Up (togStep r m)∧(∀p∈togStep r m,p.1≤m.1)∧∀v,coef (togStep r m) v=coef r v+(if m.1=v then m.2 else 0):=by
 obtain⟨mv,mk⟩:=m
 rcases snoc_cases r with rfl | ⟨r',⟨pv,pk⟩,rfl⟩
 ·refine⟨by rw[togStep_nil];simp[Up],fun p hp=> ?_,fun v=> ?_⟩
  ·rw[togStep_nil]at hp;simp at hp;subst hp;exact Int.le_refl _
  ·rw[togStep_nil,coef_cons,coef_nil];omega
 ·have hp:=hle (pv,pk) (by simp)
  have hpair:=List.pairwise_append.1 h
  by_cases e:pv=mv
  ·subst e
   rw[togStep_eq]
   refine⟨List.pairwise_append.2 ⟨hpair.1,by simp,fun a ha b hb=> ?_⟩,fun p hp=> ?_,fun v=> ?_⟩
   ·simp at hb;subst hb;exact hpair.2.2 a ha (pv,pk) (by simp)
   ·rcases List.mem_append.1 hp with hp | hp
    ·exact hle p (by simp[hp])
    ·simp at hp;subst hp;exact Int.le_refl _
   ·rw[coef_append,coef_append,coef_cons,coef_cons,coef_nil]
    by_cases hv:pv=v<;>simp[hv]<;>omega
  ·rw[togStep_ne _ _ _ e]
   refine⟨List.pairwise_append.2 ⟨h,by simp,fun a ha b hb=> ?_⟩,fun p hp=> ?_,fun v=> ?_⟩
   ·simp at hb;subst hb
    rcases List.mem_append.1 ha with ha | ha
    ·have:=hpair.2.2 a ha (pv,pk) (by simp);simp only at this hp⊢;omega
    ·simp at ha;subst ha;simp only at hp⊢;omega
   ·rcases List.mem_append.1 hp with hp | hp
    ·exact hle p hp
    ·simp at hp;subst hp;exact Int.le_refl _
   ·rw[coef_append,coef_cons,coef_nil];omega
def Asc (l:List (Int×Int)):Prop:=∀i j,i<j→j<l.length→(l.getD i (0,0)).1≤(l.getD j (0,0)).1
theorem tog_up (l:List (Int×Int))(h:Asc l):∀k,k≤l.length→Up (tog (l.take k))∧(∀p∈tog (l.take k),∀j,k≤j→j<l.length→p.1≤(l.getD j (0,0)).1)∧∀v,coef (tog (l.take k)) v=coef (l.take k) v
 | 0,_=>⟨by simp[tog,Up],fun p hp=>by simp[tog]at hp,fun v=>by simp[tog]⟩
 | k+1,hk=>by
   obtain⟨h1,h2,h3⟩:=tog_up l h k (by omega)
   obtain⟨g1,g2,g3⟩:=togStep_up (m:=l.getD k (0,0)) h1 (fun p hp=>h2 p hp k (Nat.le_refl _) (by omega))
   rw[take_snoc l k (by omega),tog_snoc]
   refine⟨g1,fun p hp j hj hjl=> ?_,fun v=> ?_⟩
   ·exact Int.le_trans (g2 p hp) (h k j (by omega) hjl)
   ·rw[g3,coef_append,h3,coef_cons,coef_nil];omega
theorem coef_filter (l:List (Int×Int))(v:Int):coef (l.filter fun m=>m.2 != 0) v=coef l v:=by
 induction l with
 | nil=>rfl
 | cons m r ih=>
   by_cases h:m.2=0
   ·rw[List.filter_cons_of_neg (by simp[h]),ih,coef_cons];simp[h]
   ·rw[List.filter_cons_of_pos (by simp[h]),coef_cons,coef_cons,ih]
theorem tog_isSum (l:List (Int×Int))(h:Asc l):IsSum l ((tog l).filter fun m=>m.2 != 0):=by
 have:=tog_up l h l.length (Nat.le_refl _)
 rw[List.take_length]at this
 exact⟨this.1.filter _,fun m hm=>by have:=(List.mem_filter.1 hm).2;simpa using this,fun v=>(coef_filter _ v).trans (this.2.2 v)⟩
theorem exists_sum (l:List (Int×Int)):∃R,IsSum l R:=by
 refine⟨_,(tog_isSum (l.mergeSort fun a b=>decide (a.1≤b.1)) ?_).perm (List.mergeSort_perm _ _)⟩
 intro i j hij hj
 have hs:=List.pairwise_mergeSort (le:=fun a b:Int×Int=>decide (a.1≤b.1)) (fun a b c h1 h2=>by simp at *; omega) (fun a b=>by simp;omega) l
 have:=List.pairwise_iff_getElem.1 hs i j (by omega) hj hij
 simp only[List.getD_eq_getElem?_getD]
 rw[List.getElem?_eq_getElem hj,List.getElem?_eq_getElem (by omega)]
 simpa using this
end Lf
namespace Lf
open Go.Shelf Go.RowKit Go.Lib Go.Sort
def encM (x:Int×Int):List Value:=[.int .i64 x.1,.int .i64 x.2]
theorem encM_flat (l:List (Int×Int)):(flatK encM 2 l.toArray).toList=flat l:=by
 apply List.ext_getElem?
 intro t
 by_cases ht:t<l.length*2
 ·have h1:(flatK encM 2 l.toArray)[t]! =(encM l.toArray[t / 2]!)[t % 2]! :=get_flatK _ _ _ _ (by simpa using ht)
  have h2:(flatK encM 2 l.toArray).toList[t]? =some ((flatK encM 2 l.toArray)[t]!):=by
   rw[Array.getElem?_toList,getElem!_pos _ t (by simpa using ht),Array.getElem?_eq_getElem (by simpa using ht)]
  rw[h2,h1]
  have hg:=flat_get l (t / 2) (by omega)
  have hx:l.toArray[t / 2]! =l.getD (t / 2) (0,0):=by
   rw[getElem!_pos _ (t / 2) (by simp;omega)]
   simp[List.getD_eq_getElem?_getD,show t / 2<l.length by omega]
  rw[hx]
  rcases Nat.mod_two_eq_zero_or_one t with hm | hm
  ·rw[hm];have e:t / 2*2=t:=by omega
   rw[e]at hg;rw[hg.1];rfl
  ·rw[hm];have e:t / 2*2+1=t:=by omega
   rw[e]at hg;rw[hg.2];rfl
 ·rw[List.getElem?_eq_none (by simp;omega),List.getElem?_eq_none (by rw[flat_len];omega)]
theorem isNaN_any (x:Int)(w:World):Calls Tryz.prog 99 #[.int .i64 x] w fun e w'=>e= .returned (.bool false)∧w=w':=by
 go_enter Tryz.func99,Tryz.ntmps99
 go_wp2
 go_ret
 exact⟨ret_bool (by simp),rfl⟩
theorem cmp_any (x y:Int)(w:World):Calls Tryz.prog 85 #[.int .i64 x,.int .i64 y] w fun e w'=>e= .returned (.int .i64 (Lib.compareInt x y))∧w=w':=by
 have hx:=fun W=>isNaN_any x W
 have hy:=fun W=>isNaN_any y W
 by_cases h1:x<y
 ·have hr:Lib.compareInt x y= -1:=by unfold Lib.compareInt;simp[h1]
  rw[hr]
  clear hr
  go_enter Tryz.func85,Tryz.ntmps85
  go_wp2_with fail
  refine(hx _).mono ?_
  rintro e w' ⟨rfl,rfl⟩
  go_wp2_with fail
  refine(hy _).mono ?_
  rintro e w' ⟨rfl,rfl⟩
  go_wp2_with fail
  go_ret
  exact⟨rfl,rfl⟩
 ·by_cases h2:y<x
  ·have hr:Lib.compareInt x y=1:=by unfold Lib.compareInt;simp[h1,h2]
   rw[hr]
   clear hr
   go_enter Tryz.func85,Tryz.ntmps85
   go_wp2_with fail
   refine(hx _).mono ?_
   rintro e w' ⟨rfl,rfl⟩
   go_wp2_with fail
   refine(hy _).mono ?_
   rintro e w' ⟨rfl,rfl⟩
   go_wp2_with fail
   go_ret
   exact⟨rfl,rfl⟩
  ·have hr:Lib.compareInt x y=0:=by unfold Lib.compareInt;simp[h1,h2]
   rw[hr]
   clear hr
   go_enter Tryz.func85,Tryz.ntmps85
   go_wp2_with fail
   refine(hx _).mono ?_
   rintro e w' ⟨rfl,rfl⟩
   go_wp2_with fail
   refine(hy _).mono ?_
   rintro e w' ⟨rfl,rfl⟩
   go_wp2_with fail
   go_ret
   exact⟨rfl,rfl⟩
theorem gatherLit_any (x y:Int×Int)(W:World):Calls Tryz.prog 84 #[.agg #[.int .i64 x.1,.int .i64 x.2],.agg #[.int .i64 y.1,.int .i64 y.2]] W fun e w'=>e= .returned (.int .i64 (Lib.compareInt x.1 y.1))∧∃q os',w'=grow (W.drewN q) os':=by
 have hcon:=fun W'=>cmp_any x.1 y.1 W'
 generalize Lib.compareInt x.1 y.1=r at hcon⊢
 go_enter Tryz.func84,Tryz.ntmps84
 go_wp2_with (go_at_call 85;refine(hcon _).mono ?_;rintro e w' ⟨rfl,rfl⟩)
 go_ret
 exact⟨rfl,0,_,by rw[alloc_eq_grow,alloc_eq_grow,grow_grow];rfl⟩
theorem cmpLaysM (blk off size:Nat)(w:World):CmpLays Tryz.prog 84 #[] encM 2 (fun x y=>Lib.compareInt x.1 y.1) blk off size w:=
 fun _ _ _ _ x y=>gatherLit_any x y _
theorem ltLo (x y:Int×Int):ltOf (fun x y:Int×Int=>Lib.compareInt x.1 y.1) x y=decide (x.1<y.1):=by
 unfold ltOf Lib.compareInt
 by_cases h1:x.1<y.1
 ·simp[h1]
 ·by_cases h2:y.1<x.1<;>simp[h1,h2]
theorem swoLo:SWO (ltOf fun x y:Int×Int=>Lib.compareInt x.1 y.1) where
 irrefl x:=by rw[ltLo];simp
 trans x y z h1 h2:=by rw[ltLo]at *; simp at *; omega
 ntrans x y z h1 h2:=by rw[ltLo]at *; simp at *; omega
theorem Tryz.enters39:∀args w,(callFunc 84 args).run Tryz.prog w= .ok (.enter 84 args) w:=fun _ _=>by kernel_rfl
def Sorted (B:Nat)(a:Option Addr)(l:List (Int×Int))(w w':World):Prop:=
 ∃l':List (Int×Int),l'.Perm l∧(∀i j,i<j→j<l'.length→(l'.getD i (0,0)).1≤(l'.getD j (0,0)).1)∧Lies w'.heap.size w' a l'∧RowKit.Below B w w'∧w.heap.size≤w'.heap.size∧∀k,k<w.heap.size→(∀b,a=some b→b.block≠k)→w'.heap[k]? =w.heap[k]?
theorem sort_any (g cap B:Nat)(l:List (Int×Int))(w:World)(h:Row B l (.slice (some ⟨g,0,none⟩) l.length cap) w)(hm:l.length≤8192):
 Calls Tryz.prog 83 #[.slice (some ⟨g,0,none⟩) l.length cap,.func (.func 84) #[] #[]] w fun e w'=>e= .returned (.tuple #[])∧Sorted B (some ⟨g,0,none⟩) l w w':=by
 have hlt:=World.ownsRow.lt h g rfl
 have hH:HoldsK encM 2 w g 0 l.toArray:=by
  intro j hj
  have hj':j<l.length*2:=by simpa using hj
  have hc:=World.ownsRow.cellAt h j hj'
  have hf:=World.ownsRow.frozenAt h j
  rw[←encM_flat,Array.getElem?_toList,Array.getElem?_eq_getElem hj]at hc
  rw[Nat.zero_add]
  exact⟨by rw[hc,getElem!_pos _ j hj];rfl,hf⟩
 have hcon:=AnyQ.slices_SortFunc Tryz.sortMono 2 Tryz.isAgg84 Tryz.sizeOf84 encM (fun _=>rfl) (fun x v hv=>by simp[encM]at hv;rcases hv with rfl | rfl<;>rfl) (fun x y=>Lib.compareInt x.1 y.1) swoLo 84 #[] g 0 cap l.toArray w Tryz.enters39 (cmpLaysM g 0 l.toArray.size w) hH hlt.2 (by simp;omega)
 refine hcon.mono ?_
 rintro e w' ⟨he,d',n,os,hp,hs,hw⟩
 have hkeep:∀k,k<w.heap.size→g≠k→w'.heap[k]? =w.heap[k]? :=fun k hkw hne=>by
  rw[hw]
  simp[sortWorldK,putRowK,putRow,mapBlock,ahead,grow,Array.getElem?_append,hkw,Array.getElem_modify,hne]
 have hsize:w.heap.size≤w'.heap.size:=by rw[hw];simp[sortWorldK,putRowK,ahead]
 refine⟨he,d'.toList, ?_, ?_, ?_,⟨by rw[hw];rfl,by rw[hw];rfl,by rw[hw];rfl,hsize,fun k hk=>hkeep k (by have:=hlt.1;have:=hlt.2;omega) (by have:=hlt.1;omega)⟩,hsize,fun k hk h=>hkeep k hk (h _ rfl)⟩
 ·have:=hp.2.2
  rw[Array.extract_eq_self_of_le (by rw[hp.1];exact Nat.le_refl _),Array.extract_eq_self_of_le (Nat.le_refl _)]at this
  simpa using this
 ·intro i j hij hj
  have hj':j<l.toArray.size:=by rw[←hp.1];simpa using hj
  have:=hs i j (Nat.zero_le _) hij hj'
  rw[ltLo]at this
  have hi2:i<d'.size:=by rw[hp.1];omega
  have hj2:j<d'.size:=by rw[hp.1];exact hj'
  rw[getElem!_pos d' i hi2,getElem!_pos d' j hj2]at this
  simp only[List.getD_eq_getElem?_getD]
  rw[List.getElem?_eq_getElem (by simpa using hi2),List.getElem?_eq_getElem (by simpa using hj2)]
  simpa using this
 ·have hH2:HoldsK encM 2 w' g 0 d':=by
   rw[hw]
   refine holdsK_grow _ _ _ _ _ _ _ ?_ ?_
   ·simpa [putRowK,ahead]using hlt.2
   ·exact holdsK_putRowK _ _ _ _ _ _ _ (holdsK_ahead _ _ _ _ _ _ _ hH) hp.1
  have hsz:g<w'.heap.size:=by rw[hw];simp[sortWorldK,putRowK,ahead];omega
  intro i hi
  have hi':i<d'.size:=by simpa using hi
  have h0:=(hH2.cell hi' (c:=0) (by omega)).1
  have h1:=(hH2.cell hi' (c:=1) (by omega)).1
  have hx:d'[i]! =d'.toList.getD i (0,0):=by
   rw[getElem!_pos d' i hi',List.getD_eq_getElem?_getD,List.getElem?_eq_getElem (by simpa using hi')];simp
  rw[hx]at h0 h1
  exact⟨g,0,rfl,hsz,h0,h1⟩
theorem sort_none (a:Option Addr)(cap:Nat)(fv:Value)(w:World):
 Calls Tryz.prog 83 #[.slice a 0 cap,fv] w fun e w'=>e= .returned (.tuple #[])∧w'=w:=
 AnyF.slices_SortFunc_none Tryz.sortMono a cap fv w
theorem sort_row (a:Option Addr)(n cap B:Nat)(l:List (Int×Int))(w:World)(hn:l.length=n)(h:Row B l (.slice a n cap) w)(hm:n≤8192):
 Calls Tryz.prog 83 #[.slice a n cap,.func (.func 84) #[] #[]] w fun e w'=>e= .returned (.tuple #[])∧Sorted B a l w w':=by
 subst hn
 by_cases h0:l.length=0
 ·have hl:=List.eq_nil_of_length_eq_zero h0
  subst hl
  exact(sort_none a cap _ w).mono fun _ _ ⟨he,hw⟩=>⟨he,[],List.Perm.refl _,fun i j _ hj=>absurd hj (Nat.not_lt_zero j),fun i hi=>absurd hi (Nat.not_lt_zero i),by rw[hw];exact Below.refl _ _,by rw[hw];exact Nat.le_refl _,fun k _ _=>by rw[hw]⟩
 ·obtain⟨g,cap',hv⟩:=Joins.ownsRow_form h (by omega)
  injection hv with h1 h2 h3
  subst h1
  exact sort_any g cap B l w h hm
end Lf
namespace Lf
open Go.RowKit
theorem Tryz.enters26:∀args w,(callFunc 55 args).run Tryz.prog w= .ok (.enter 55 args) w:=fun _ _=>by kernel_rfl
def mayAt (l:List (Int×Int))(i:Nat):Bool:=mst (l.getD i (0,0)).1 (l.getD i (0,0)).2
theorem mayAll_yes (a:Option Addr)(n cap:Nat)(l:List (Int×Int))(w:World)(B:Nat)(hB:B≤w.heap.size)(hn:l.length=n)(hm:n≤9223372036854775807)(hl:Lies B w a l)(h:∀i,i<n→mayAt l i=true):
 Calls Tryz.prog 53 #[.slice a n cap,.func (.func 55) #[] #[]] w fun e w'=>e= .returned (.bool true)∧Below B w w':=
 (all_yes 55 #[] a n cap l w (fun _ W=>B≤W.heap.size) (mayAt l) Tryz.enters26 hn hm B hB hl hB
   (fun _ W o h=>Nat.le_trans h ((Below.refl _ W).alloc (Nat.le_refl _) o).size)
   (fun i W _ _ hI=>(mayStand_any (l.getD i (0,0)).1 (l.getD i (0,0)).2 W).mono fun _ _ ⟨he,hb⟩=>⟨he,Nat.le_trans hI hb.size,hb.mono hI⟩)
   h).mono fun _ _ ⟨he,_,hb⟩=>⟨he,hb⟩
theorem mayAll_no (a:Option Addr)(n cap:Nat)(l:List (Int×Int))(w:World)(B:Nat)(hB:B≤w.heap.size)(hn:l.length=n)(hm:n≤9223372036854775807)(hl:Lies B w a l)(h:¬ ∀i,i<n→mayAt l i=true):
 Calls Tryz.prog 53 #[.slice a n cap,.func (.func 55) #[] #[]] w fun e w'=>e= .returned (.bool false)∧Below B w w':=by
 obtain⟨j,hj,h1,h2⟩:=first_no _ _ h
 exact(all_no 55 #[] a n cap l w (fun _ W=>B≤W.heap.size) (mayAt l) Tryz.enters26 hn hm B hB hl hB
  (fun _ W o h=>Nat.le_trans h ((Below.refl _ W).alloc (Nat.le_refl _) o).size)
  (fun i W _ _ hI=>(mayStand_any (l.getD i (0,0)).1 (l.getD i (0,0)).2 W).mono fun _ _ ⟨he,hb⟩=>⟨he,Nat.le_trans hI hb.size,hb.mono hI⟩)
  j hj h1 h2).mono fun _ _ ⟨he,_,hb⟩=>⟨he,hb⟩
def LinOk (B:Nat)(c:Int)(R:List (Int×Int))(w:World)(e:Ending)(w':World):Prop:=∃v,e= .returned (.tuple #[.agg #[.int .i64 c,v],.nilIface])∧Row B R v w'∧Below B w w'
def LinErr (B:Nat)(k:Int)(w:World)(e:Ending)(w':World):Prop:=e= .returned (.tuple #[.agg #[.int .i64 0,.slice none 0 0],.iface 89 (.int .i64 k)])∧Below B w w'
theorem Row.mono {B B':Nat}{l:List (Int×Int)}{v:Value}{w:World}(h:Row B l v w)(hB:B'≤B):Row B' l v w:=Joins.ownsRow_le h hB
theorem Row.below {B:Nat}{l:List (Int×Int)}{v:Value}{w w':World}(h:Row B l v w)(hb:Below w.heap.size w w'):Row B l v w':=by
 obtain⟨h1,h2⟩:=h
 rcases h2 with h2 | ⟨g,cap,cur,hv,hg,hh,hr⟩
 ·exact⟨h1,.inl h2⟩
 refine⟨h1,.inr ?_⟩
 have hlt:g<w.heap.size:=by
  by_cases e:g<w.heap.size
  ·exact e
  ·rw[Array.getElem?_eq_none (by omega)]at hh;cases hh
 exact⟨g,cap,cur,hv,hg,by rw[hb.block g hlt];exact hh,hr⟩
theorem res_cells (w:World)(b:Nat)(x y u v:Value)(h0:w.cell? ⟨b,0,none⟩=some u)(h1:w.cell? ⟨b,1,none⟩=some v):
 (w.setCell ⟨b,0,none⟩ x).cell? ⟨b,0,none⟩=some x∧((w.setCell ⟨b,0,none⟩ x).setCell ⟨b,1,none⟩ y).cell? ⟨b,1,none⟩=some y:=by
 refine⟨World.cell?_setCell_same _ _ _ h0,World.cell?_setCell_same _ _ _ (u:=v) ?_⟩
 rw[World.cell?_setCell_other _ _ _ _ (by simp)]
 exact h1
theorem frozen_new (w:World)(cs:Array Value)(t:TypeId)(o:Nat):(w.alloc (.cells cs t)).frozen? ⟨w.heap.size,o,none⟩=false:=by simp
theorem gather_ok (c:Int)(a:Option Addr)(n cap B:Nat)(l R:List (Int×Int))(w:World)(hn:l.length=n)(hrow:Row B l (.slice a n cap) w)(hB:B≤w.heap.size)(hm:n≤8192)(hbd:Bd 4398046511104 l)
 (hV:∀m∈l,0≤m.1∧m.1<1048576) (hR:IsSum l R) (hc:wi c 1073741824=true) (hk:∀m∈R,wi m.2 1073741824=true) (h64:R.length≤64):
 Calls Tryz.prog 75 #[.int .i64 c,.slice a n cap] w (LinOk B c R w):=by
 have hso:=fun W (hb:Below w.heap.size w W)=>sort_row a n cap B l W hn (hrow.below hb) hm
 have hglt:∀b,a=some b→b.block<w.heap.size:=fun b hb=>(World.ownsRow.lt hrow b.block (by rw[hb];rfl)).2
 have HA:Hid (∀i,i<R.length→mayAt R i=true):=fun i hi=>by
  have hmem:R.getD i (0,0)∈R:=by rw[List.getD_eq_getElem?_getD,List.getElem?_eq_getElem hi];simp
  unfold mayAt
  obtain⟨x,hx,hxe⟩:=hR.comes hmem
  rw[mst_t1 (by rw[←hxe];exact hV x hx)]
  exact hk _ hmem
 have HN:=Lib.hid hn
 have HR:=Lib.hid hR
 have HSO:=Lib.hid hso
 have HG:=Lib.hid hglt
 have hwi:=fun w=>within_any c 1073741824 w (by omega) (by omega)
 rw[hc]at hwi
 clear hso hn hR hrow hc hglt hk hV
 go_enter Tryz.func75,Tryz.ntmps75
 go_wp2_with fail
 refine(HSO.out _ ((Below.refl _ w).alloc (Nat.le_refl _) _)).mono ?_
 rintro e w1 ⟨rfl,l',hp,hasc,hlies,hb1,hz1,hkeep⟩
 have B1:Hid (Below B w w1):=((Below.refl B w).alloc hB _).trans hb1
 have hz1':w.heap.size<w1.heap.size:=by simp at hz1;omega
 have hblk:=hkeep w.heap.size (by simp) (fun b hb=>by have:=HG.out b hb;omega)
 have hpl:l'.length=n:=by rw[hp.length_eq,HN.out]
 have hto:=together_any a n cap l' w1 hpl hm hlies (fun m hm=>hbd m (hp.mem_iff.1 hm))
 have HT:Hid ((tog l').filter (fun m=>m.2 != 0)=R):=(tog_isSum l' hasc).unique (HR.out.perm hp.symm)
 have htl:(tog l').length≤n:=by have:=tog_len l' l'.length (Nat.le_refl _);rw[List.take_length]at this;omega
 have HK:=Lib.hid hblk
 clear hkeep hp hasc hlies hb1 hz1 hblk hbd HSO HG HR HN hpl
 go_wp2_with fail
 refine hto.mono ?_
 rintro e w2 ⟨v2,rfl,hrow2,hb2⟩
 obtain⟨a2,cap2,rfl,hlies2,_⟩:=hrow2.lies
 have B2:Hid (Below B w w2):=B1.out.trans (hb2.mono (by omega))
 have hz2:w.heap.size<w2.heap.size:=by have:=hb2.size;omega
 have hdr:=drop_any a2 (tog l').length cap2 (tog l') w2 rfl (by omega) hlies2
 rw[HT.out]at hdr
 have HB2:=Lib.hid hb2
 clear hto hrow2 hlies2 hb2
 go_wp2_with fail
 refine hdr.mono ?_
 rintro e w3 ⟨v3,rfl,hrow3,hb3⟩
 obtain⟨a3,cap3,rfl,hlies3,_⟩:=hrow3.lies
 have B3:Hid (Below B w w3):=B2.out.trans (hb3.mono (by omega))
 have hz3:w.heap.size<w3.heap.size:=by have:=hb3.size;omega
 have hblk3:w3.heap[w.heap.size]? =some (.cells #[.int .i64 0,.slice none 0 0] 25 (0,0)):=by
  rw[hb3.block _ hz2,HB2.out.block _ hz1',HK.out];exact heap_alloc_new w _
 have q0:w3.cell? ⟨w.heap.size,0,none⟩=some (.int .i64 0):=by rw[cell_of_row _ _ _ _ _ _ hblk3];rfl
 have q1:w3.cell? ⟨w.heap.size,1,none⟩=some (.slice none 0 0):=by rw[cell_of_row _ _ _ _ _ _ hblk3];rfl
 have qf:∀o,w3.frozen? ⟨w.heap.size,o,none⟩=false:=fun o=>frozen_of_row _ _ _ _ _ hblk3
 have hb4:Below w3.heap.size w3 (w3.alloc (.cells #[.int .i64 c,.slice a3 R.length cap3] 25)):=(Below.refl _ _).alloc (Nat.le_refl _) _
 have hall:=mayAll_yes a3 R.length cap3 R _ _ (Nat.le_refl _) rfl (by omega) ((hlies3.below hb4).mono hb4.size) HA.out
 have HB4:=Lib.hid hb4
 have HR3:=Lib.hid hrow3
 clear hdr hb3 hb4 hrow3 hlies3 hblk3
 go_wp2_with (first | (go_at_call 52;refine(hwi _).mono ?_;rintro e w' ⟨rfl,rfl⟩) | (go_at_call 53;refine hall.mono ?_;rintro e w5 ⟨rfl,hb5⟩;obtain⟨hc5,hf5⟩:=bcell hb5;have hz5:w3.heap.size<w5.heap.size:=(by have:=hb5.size;simp at this;omega);have hz6:w.heap.size<w5.heap.size:=(by omega)))
 have H5:Below w3.heap.size w3 w5:=HB4.out.trans (hb5.mono (by simp))
 have hrowf:Row B R (.slice a3 R.length cap3) ((w5.setCell ⟨w.heap.size,0,none⟩ (.int .i64 c)).setCell ⟨w.heap.size,1,none⟩ (.slice a3 R.length cap3)):=
  Row.mono (ownsRow_setCell_below (ownsRow_setCell_below (HR3.out.below H5) (by simpa using hz2) _) (by simpa using hz2) _) (by omega)
 have hbf:Below B w ((w5.setCell ⟨w.heap.size,0,none⟩ (.int .i64 c)).setCell ⟨w.heap.size,1,none⟩ (.slice a3 R.length cap3)):=
  ((B3.out.trans (H5.mono (by omega))).setCell (p:=⟨w.heap.size,0,none⟩) hB _).setCell (p:=⟨w.heap.size,1,none⟩) hB _
 refine bodyPost_ret (v:= .tuple #[.agg #[.int .i64 c,.slice a3 R.length cap3],.nilIface]) ?_ rfl ⟨_,rfl,hrowf,hbf⟩
 obtain⟨e0,e1⟩:=res_cells w5 w.heap.size (.int .i64 c) (.slice a3 R.length cap3) _ _ ((H5.cell (p:=⟨w.heap.size,0,none⟩) hz3).trans q0) ((H5.cell (p:=⟨w.heap.size,1,none⟩) hz3).trans q1)
 clear q0 q1 qf hc5 hf5
 simp[results,Tryz.results75,go_sem,e0,e1]
theorem gather_far1 (c:Int)(a:Option Addr)(n cap B:Nat)(l R:List (Int×Int))(w:World)(hn:l.length=n)(hrow:Row B l (.slice a n cap) w)(hB:B≤w.heap.size)(hm:n≤8192)(hbd:Bd 4398046511104 l)
 (hV:∀m∈l,0≤m.1∧m.1<1048576) (hR:IsSum l R) (hc:wi c 1073741824=false):
 Calls Tryz.prog 75 #[.int .i64 c,.slice a n cap] w (LinErr B 3 w):=by
 have hso:=fun W (hb:Below w.heap.size w W)=>sort_row a n cap B l W hn (hrow.below hb) hm
 have hglt:∀b,a=some b→b.block<w.heap.size:=fun b hb=>(World.ownsRow.lt hrow b.block (by rw[hb];rfl)).2
 have HN:=Lib.hid hn
 have HR:=Lib.hid hR
 have HSO:=Lib.hid hso
 have HG:=Lib.hid hglt
 have hwi:=fun w=>within_any c 1073741824 w (by omega) (by omega)
 rw[hc]at hwi
 clear hso hn hR hrow hc hglt hV
 go_enter Tryz.func75,Tryz.ntmps75
 go_wp2_with fail
 refine(HSO.out _ ((Below.refl _ w).alloc (Nat.le_refl _) _)).mono ?_
 rintro e w1 ⟨rfl,l',hp,hasc,hlies,hb1,hz1,hkeep⟩
 have B1:Hid (Below B w w1):=((Below.refl B w).alloc hB _).trans hb1
 have hz1':w.heap.size<w1.heap.size:=by simp at hz1;omega
 have hblk:=hkeep w.heap.size (by simp) (fun b hb=>by have:=HG.out b hb;omega)
 have hpl:l'.length=n:=by rw[hp.length_eq,HN.out]
 have hto:=together_any a n cap l' w1 hpl hm hlies (fun m hm=>hbd m (hp.mem_iff.1 hm))
 have HT:Hid ((tog l').filter (fun m=>m.2 != 0)=R):=(tog_isSum l' hasc).unique (HR.out.perm hp.symm)
 have htl:(tog l').length≤n:=by have:=tog_len l' l'.length (Nat.le_refl _);rw[List.take_length]at this;omega
 have HK:=Lib.hid hblk
 clear hkeep hp hasc hlies hb1 hz1 hblk hbd HSO HG HR HN hpl
 go_wp2_with fail
 refine hto.mono ?_
 rintro e w2 ⟨v2,rfl,hrow2,hb2⟩
 obtain⟨a2,cap2,rfl,hlies2,_⟩:=hrow2.lies
 have B2:Hid (Below B w w2):=B1.out.trans (hb2.mono (by omega))
 have hz2:w.heap.size<w2.heap.size:=by have:=hb2.size;omega
 have hdr:=drop_any a2 (tog l').length cap2 (tog l') w2 rfl (by omega) hlies2
 rw[HT.out]at hdr
 have HB2:=Lib.hid hb2
 clear hto hrow2 hlies2 hb2
 go_wp2_with fail
 refine hdr.mono ?_
 rintro e w3 ⟨v3,rfl,hrow3,hb3⟩
 obtain⟨a3,cap3,rfl,hlies3,_⟩:=hrow3.lies
 have B3:Hid (Below B w w3):=B2.out.trans (hb3.mono (by omega))
 have hz3:w.heap.size<w3.heap.size:=by have:=hb3.size;omega
 have hblk3:w3.heap[w.heap.size]? =some (.cells #[.int .i64 0,.slice none 0 0] 25 (0,0)):=by
  rw[hb3.block _ hz2,HB2.out.block _ hz1',HK.out];exact heap_alloc_new w _
 have q0:w3.cell? ⟨w.heap.size,0,none⟩=some (.int .i64 0):=by rw[cell_of_row _ _ _ _ _ _ hblk3];rfl
 have q1:w3.cell? ⟨w.heap.size,1,none⟩=some (.slice none 0 0):=by rw[cell_of_row _ _ _ _ _ _ hblk3];rfl
 have qf:∀o,w3.frozen? ⟨w.heap.size,o,none⟩=false:=fun o=>frozen_of_row _ _ _ _ _ hblk3
 have hb4:Below w3.heap.size w3 (w3.alloc (.cells #[.int .i64 c,.slice a3 R.length cap3] 25)):=(Below.refl _ _).alloc (Nat.le_refl _) _
 clear hdr hb3 hb4 hrow3 hlies3 hblk3
 go_wp2_with (go_at_call 52;refine(hwi _).mono ?_;rintro e w' ⟨rfl,rfl⟩)
 have hbf:=(((B3.out.setCell (p:=⟨w.heap.size,0,none⟩) hB (.int .i64 0)).setCell (p:=⟨w.heap.size,1,none⟩) hB (.slice none 0 0))).alloc (by simp;omega) (.cells #[.int .i64 c,.slice a3 R.length cap3] 25)
 obtain⟨e0,e1⟩:=res_cells w3 w.heap.size (.int .i64 0) (.slice none 0 0) _ _ q0 q1
 refine bodyPost_ret (v:= .tuple #[.agg #[.int .i64 0,.slice none 0 0],.iface 89 (.int .i64 3)]) ?_ rfl ⟨rfl,hbf⟩
 clear q0 q1 qf
 simp[results,Tryz.results75,go_sem,e0,e1,hz3]
theorem gather_far2 (c:Int)(a:Option Addr)(n cap B:Nat)(l R:List (Int×Int))(w:World)(hn:l.length=n)(hrow:Row B l (.slice a n cap) w)(hB:B≤w.heap.size)(hm:n≤8192)(hbd:Bd 4398046511104 l)
 (hV:∀m∈l,0≤m.1∧m.1<1048576) (hR:IsSum l R) (hc:wi c 1073741824=true) (hk:¬ ∀m∈R,wi m.2 1073741824=true):
 Calls Tryz.prog 75 #[.int .i64 c,.slice a n cap] w (LinErr B 3 w):=by
 have hso:=fun W (hb:Below w.heap.size w W)=>sort_row a n cap B l W hn (hrow.below hb) hm
 have hglt:∀b,a=some b→b.block<w.heap.size:=fun b hb=>(World.ownsRow.lt hrow b.block (by rw[hb];rfl)).2
 have HA:Hid (¬ ∀i,i<R.length→mayAt R i=true):=fun h=>hk fun m hm=>by
  obtain⟨i,hi,rfl⟩:=List.getElem_of_mem hm
  have:=h i hi
  unfold mayAt at this
  rw[List.getD_eq_getElem?_getD,List.getElem?_eq_getElem hi]at this
  obtain⟨x,hx,hxe⟩:=hR.comes hm
  rw[mst_t1 (by have:=hV x hx;rw[hxe]at this;simpa using this)]at this
  simpa using this
 have HN:=Lib.hid hn
 have HR:=Lib.hid hR
 have HSO:=Lib.hid hso
 have HG:=Lib.hid hglt
 have hwi:=fun w=>within_any c 1073741824 w (by omega) (by omega)
 rw[hc]at hwi
 clear hso hn hR hrow hc hglt hk hV
 go_enter Tryz.func75,Tryz.ntmps75
 go_wp2_with fail
 refine(HSO.out _ ((Below.refl _ w).alloc (Nat.le_refl _) _)).mono ?_
 rintro e w1 ⟨rfl,l',hp,hasc,hlies,hb1,hz1,hkeep⟩
 have B1:Hid (Below B w w1):=((Below.refl B w).alloc hB _).trans hb1
 have hz1':w.heap.size<w1.heap.size:=by simp at hz1;omega
 have hblk:=hkeep w.heap.size (by simp) (fun b hb=>by have:=HG.out b hb;omega)
 have hpl:l'.length=n:=by rw[hp.length_eq,HN.out]
 have hto:=together_any a n cap l' w1 hpl hm hlies (fun m hm=>hbd m (hp.mem_iff.1 hm))
 have HT:Hid ((tog l').filter (fun m=>m.2 != 0)=R):=(tog_isSum l' hasc).unique (HR.out.perm hp.symm)
 have htl:(tog l').length≤n:=by have:=tog_len l' l'.length (Nat.le_refl _);rw[List.take_length]at this;omega
 have HK:=Lib.hid hblk
 clear hkeep hp hasc hlies hb1 hz1 hblk hbd HSO HG HR HN hpl
 go_wp2_with fail
 refine hto.mono ?_
 rintro e w2 ⟨v2,rfl,hrow2,hb2⟩
 obtain⟨a2,cap2,rfl,hlies2,_⟩:=hrow2.lies
 have B2:Hid (Below B w w2):=B1.out.trans (hb2.mono (by omega))
 have hz2:w.heap.size<w2.heap.size:=by have:=hb2.size;omega
 have hdr:=drop_any a2 (tog l').length cap2 (tog l') w2 rfl (by omega) hlies2
 rw[HT.out]at hdr
 have HB2:=Lib.hid hb2
 clear hto hrow2 hlies2 hb2
 go_wp2_with fail
 refine hdr.mono ?_
 rintro e w3 ⟨v3,rfl,hrow3,hb3⟩
 obtain⟨a3,cap3,rfl,hlies3,_⟩:=hrow3.lies
 have B3:Hid (Below B w w3):=B2.out.trans (hb3.mono (by omega))
 have hz3:w.heap.size<w3.heap.size:=by have:=hb3.size;omega
 have hblk3:w3.heap[w.heap.size]? =some (.cells #[.int .i64 0,.slice none 0 0] 25 (0,0)):=by
  rw[hb3.block _ hz2,HB2.out.block _ hz1',HK.out];exact heap_alloc_new w _
 have q0:w3.cell? ⟨w.heap.size,0,none⟩=some (.int .i64 0):=by rw[cell_of_row _ _ _ _ _ _ hblk3];rfl
 have q1:w3.cell? ⟨w.heap.size,1,none⟩=some (.slice none 0 0):=by rw[cell_of_row _ _ _ _ _ _ hblk3];rfl
 have qf:∀o,w3.frozen? ⟨w.heap.size,o,none⟩=false:=fun o=>frozen_of_row _ _ _ _ _ hblk3
 have hlenR:R.length≤8192:=by
  have h1:((tog l').filter (fun m=>m.2 != 0)).length≤(tog l').length:=List.length_filter_le _ _
  rw[HT.out]at h1;omega
 have hb4:Below w3.heap.size w3 (w3.alloc (.cells #[.int .i64 c,.slice a3 R.length cap3] 25)):=(Below.refl _ _).alloc (Nat.le_refl _) _
 have hall:=mayAll_no a3 R.length cap3 R _ _ (Nat.le_refl _) rfl (by omega) ((hlies3.below hb4).mono hb4.size) HA.out
 have HB4:=Lib.hid hb4
 clear hdr hb3 hb4 hrow3 hlies3 hblk3
 go_wp2_with (first | (go_at_call 52;refine(hwi _).mono ?_;rintro e w' ⟨rfl,rfl⟩) | (go_at_call 53;refine hall.mono ?_;rintro e w5 ⟨rfl,hb5⟩;obtain⟨hc5,hf5⟩:=bcell hb5;have hz5:w3.heap.size<w5.heap.size:=(by have:=hb5.size;simp at this;omega);have hz6:w.heap.size<w5.heap.size:=(by omega)))
 have H5:Below w3.heap.size w3 w5:=HB4.out.trans (hb5.mono (by simp))
 have hbf:Below B w ((w5.setCell ⟨w.heap.size,0,none⟩ (.int .i64 0)).setCell ⟨w.heap.size,1,none⟩ (.slice none 0 0)):=
  ((B3.out.trans (H5.mono (by omega))).setCell (p:=⟨w.heap.size,0,none⟩) hB _).setCell (p:=⟨w.heap.size,1,none⟩) hB _
 obtain⟨e0,e1⟩:=res_cells w5 w.heap.size (.int .i64 0) (.slice none 0 0) _ _ ((H5.cell (p:=⟨w.heap.size,0,none⟩) hz3).trans q0) ((H5.cell (p:=⟨w.heap.size,1,none⟩) hz3).trans q1)
 refine bodyPost_ret (v:= .tuple #[.agg #[.int .i64 0,.slice none 0 0],.iface 89 (.int .i64 3)]) ?_ rfl ⟨rfl,hbf⟩
 clear q0 q1 qf hc5 hf5
 simp[results,Tryz.results75,go_sem,e0,e1]
theorem gather_long (c:Int)(a:Option Addr)(n cap B:Nat)(l R:List (Int×Int))(w:World)(hn:l.length=n)(hrow:Row B l (.slice a n cap) w)(hB:B≤w.heap.size)(hm:n≤8192)(hbd:Bd 4398046511104 l)
 (hV:∀m∈l,0≤m.1∧m.1<1048576) (hR:IsSum l R) (hc:wi c 1073741824=true) (hk:∀m∈R,wi m.2 1073741824=true) (h64:64<R.length):
 Calls Tryz.prog 75 #[.int .i64 c,.slice a n cap] w (LinErr B 2 w):=by
 have hso:=fun W (hb:Below w.heap.size w W)=>sort_row a n cap B l W hn (hrow.below hb) hm
 have hglt:∀b,a=some b→b.block<w.heap.size:=fun b hb=>(World.ownsRow.lt hrow b.block (by rw[hb];rfl)).2
 have HA:Hid (∀i,i<R.length→mayAt R i=true):=fun i hi=>by
  have hmem:R.getD i (0,0)∈R:=by rw[List.getD_eq_getElem?_getD,List.getElem?_eq_getElem hi];simp
  unfold mayAt
  obtain⟨x,hx,hxe⟩:=hR.comes hmem
  rw[mst_t1 (by rw[←hxe];exact hV x hx)]
  exact hk _ hmem
 have HN:=Lib.hid hn
 have HR:=Lib.hid hR
 have HSO:=Lib.hid hso
 have HG:=Lib.hid hglt
 have hwi:=fun w=>within_any c 1073741824 w (by omega) (by omega)
 rw[hc]at hwi
 clear hso hn hR hrow hc hglt hk hV
 go_enter Tryz.func75,Tryz.ntmps75
 go_wp2_with fail
 refine(HSO.out _ ((Below.refl _ w).alloc (Nat.le_refl _) _)).mono ?_
 rintro e w1 ⟨rfl,l',hp,hasc,hlies,hb1,hz1,hkeep⟩
 have B1:Hid (Below B w w1):=((Below.refl B w).alloc hB _).trans hb1
 have hz1':w.heap.size<w1.heap.size:=by simp at hz1;omega
 have hblk:=hkeep w.heap.size (by simp) (fun b hb=>by have:=HG.out b hb;omega)
 have hpl:l'.length=n:=by rw[hp.length_eq,HN.out]
 have hto:=together_any a n cap l' w1 hpl hm hlies (fun m hm=>hbd m (hp.mem_iff.1 hm))
 have HT:Hid ((tog l').filter (fun m=>m.2 != 0)=R):=(tog_isSum l' hasc).unique (HR.out.perm hp.symm)
 have htl:(tog l').length≤n:=by have:=tog_len l' l'.length (Nat.le_refl _);rw[List.take_length]at this;omega
 have HK:=Lib.hid hblk
 clear hkeep hp hasc hlies hb1 hz1 hblk hbd HSO HG HR HN hpl
 go_wp2_with fail
 refine hto.mono ?_
 rintro e w2 ⟨v2,rfl,hrow2,hb2⟩
 obtain⟨a2,cap2,rfl,hlies2,_⟩:=hrow2.lies
 have B2:Hid (Below B w w2):=B1.out.trans (hb2.mono (by omega))
 have hz2:w.heap.size<w2.heap.size:=by have:=hb2.size;omega
 have hdr:=drop_any a2 (tog l').length cap2 (tog l') w2 rfl (by omega) hlies2
 rw[HT.out]at hdr
 have HB2:=Lib.hid hb2
 clear hto hrow2 hlies2 hb2
 go_wp2_with fail
 refine hdr.mono ?_
 rintro e w3 ⟨v3,rfl,hrow3,hb3⟩
 obtain⟨a3,cap3,rfl,hlies3,_⟩:=hrow3.lies
 have B3:Hid (Below B w w3):=B2.out.trans (hb3.mono (by omega))
 have hz3:w.heap.size<w3.heap.size:=by have:=hb3.size;omega
 have hblk3:w3.heap[w.heap.size]? =some (.cells #[.int .i64 0,.slice none 0 0] 25 (0,0)):=by
  rw[hb3.block _ hz2,HB2.out.block _ hz1',HK.out];exact heap_alloc_new w _
 have q0:w3.cell? ⟨w.heap.size,0,none⟩=some (.int .i64 0):=by rw[cell_of_row _ _ _ _ _ _ hblk3];rfl
 have q1:w3.cell? ⟨w.heap.size,1,none⟩=some (.slice none 0 0):=by rw[cell_of_row _ _ _ _ _ _ hblk3];rfl
 have qf:∀o,w3.frozen? ⟨w.heap.size,o,none⟩=false:=fun o=>frozen_of_row _ _ _ _ _ hblk3
 have hlenR:R.length≤8192:=by
  have h1:((tog l').filter (fun m=>m.2 != 0)).length≤(tog l').length:=List.length_filter_le _ _
  rw[HT.out]at h1;omega
 have hb4:Below w3.heap.size w3 (w3.alloc (.cells #[.int .i64 c,.slice a3 R.length cap3] 25)):=(Below.refl _ _).alloc (Nat.le_refl _) _
 have hall:=mayAll_yes a3 R.length cap3 R _ _ (Nat.le_refl _) rfl (by omega) ((hlies3.below hb4).mono hb4.size) HA.out
 have HB4:=Lib.hid hb4
 clear hdr hb3 hb4 hrow3 hlies3 hblk3
 go_wp2_with (first | (go_at_call 52;refine(hwi _).mono ?_;rintro e w' ⟨rfl,rfl⟩) | (go_at_call 53;refine hall.mono ?_;rintro e w5 ⟨rfl,hb5⟩;obtain⟨hc5,hf5⟩:=bcell hb5;have hz5:w3.heap.size<w5.heap.size:=(by have:=hb5.size;simp at this;omega);have hz6:w.heap.size<w5.heap.size:=(by omega)))
 have H5:Below w3.heap.size w3 w5:=HB4.out.trans (hb5.mono (by simp))
 have hbf:Below B w ((w5.setCell ⟨w.heap.size,0,none⟩ (.int .i64 0)).setCell ⟨w.heap.size,1,none⟩ (.slice none 0 0)):=
  ((B3.out.trans (H5.mono (by omega))).setCell (p:=⟨w.heap.size,0,none⟩) hB _).setCell (p:=⟨w.heap.size,1,none⟩) hB _
 obtain⟨e0,e1⟩:=res_cells w5 w.heap.size (.int .i64 0) (.slice none 0 0) _ _ ((H5.cell (p:=⟨w.heap.size,0,none⟩) hz3).trans q0) ((H5.cell (p:=⟨w.heap.size,1,none⟩) hz3).trans q1)
 refine bodyPost_ret (v:= .tuple #[.agg #[.int .i64 0,.slice none 0 0],.iface 89 (.int .i64 2)]) ?_ rfl ⟨rfl,hbf⟩
 clear q0 q1 qf hc5 hf5
 simp[results,Tryz.results75,go_sem,e0,e1]
end Lf
namespace Lf
open Go.RowKit
def argOk (c:Int)(l:List (Int×Int)):Prop:=wi c 1073741824=true∧l.length≤4096∧∀i,i<l.length→mayAt l i=true
theorem argOk_bd {c:Int}{l:List (Int×Int)}(h:argOk c l):Bd 4398046511104 l∧∀m∈l,0≤m.1∧m.1<1048576:=by
 have hm:∀m∈l,(0≤m.1∧m.1<1048576)∧ -1073741824≤m.2∧m.2≤1073741824:=fun m hm=>by
  obtain⟨i,hi,rfl⟩:=List.getElem_of_mem hm
  have:=h.2.2 i hi
  unfold mayAt mst wi at this
  rw[List.getD_eq_getElem?_getD,List.getElem?_eq_getElem hi]at this
  simpa using this
 exact⟨fun m h=>by have:=hm m h;omega,fun m h=>(hm m h).1⟩
theorem make_arg (c:Int)(a:Option Addr)(n cap:Nat)(l:List (Int×Int))(w:World)(hn:l.length=n)(hm:n≤9223372036854775807)(hl:Lies w.heap.size w a l)(h:¬argOk c l):
 Calls Tryz.prog 81 #[.int .i64 c,.slice a n cap] w (LinErr w.heap.size 1 w):=by
 have hwi:=fun w=>within_any c 1073741824 w (by omega) (by omega)
 have hb0:Below w.heap.size w (w.alloc (.cells #[.int .i64 0,.slice none 0 0] 25)):=(Below.refl _ w).alloc (Nat.le_refl _) _
 by_cases hc:wi c 1073741824=true
 ·rw[hc]at hwi
  by_cases h4:n≤4096
  ·have hno:¬ ∀i,i<n→mayAt l i=true:=fun hh=>h ⟨hc,by omega,by rw[hn];exact hh⟩
   have hall:=mayAll_no a n cap l _ _ (Nat.le_refl _) hn hm ((hl.below hb0).mono hb0.size) hno
   have HB0:=Lib.hid hb0
   clear hn hl h hc hno hb0
   go_enter Tryz.func81,Tryz.ntmps81
   go_wp2_with (first | (go_at_call 52;refine(hwi _).mono ?_;rintro e w' ⟨rfl,rfl⟩) | (go_at_call 53;refine hall.mono ?_;rintro e w5 ⟨rfl,hb5⟩;obtain⟨hc5,hf5⟩:=bcell hb5;have hz5:w.heap.size<w5.heap.size:=(by have:=hb5.size;simp at this;omega)))
   have H5:Below w.heap.size w w5:=HB0.out.trans (hb5.mono (by simp))
   have q0:w5.cell? ⟨w.heap.size,0,none⟩=some (.int .i64 0):=by rw[hc5 _ _ (by simp)];simp
   have q1:w5.cell? ⟨w.heap.size,1,none⟩=some (.slice none 0 0):=by rw[hc5 _ _ (by simp)];simp
   have hbf:=(H5.setCell (p:=⟨w.heap.size,0,none⟩) (Nat.le_refl _) (.int .i64 0)).setCell (p:=⟨w.heap.size,1,none⟩) (Nat.le_refl _) (.slice none 0 0)
   obtain⟨e0,e1⟩:=res_cells w5 w.heap.size (.int .i64 0) (.slice none 0 0) _ _ q0 q1
   refine bodyPost_ret (v:= .tuple #[.agg #[.int .i64 0,.slice none 0 0],.iface 89 (.int .i64 1)]) ?_ rfl ⟨rfl,hbf⟩
   clear q0 q1 hc5 hf5
   simp[results,Tryz.results81,go_sem,e0,e1]
  ·clear hn hl h hc
   go_enter Tryz.func81,Tryz.ntmps81
   go_wp2_with (go_at_call 52;refine(hwi _).mono ?_;rintro e w' ⟨rfl,rfl⟩)
   refine bodyPost_ret (v:= .tuple #[.agg #[.int .i64 0,.slice none 0 0],.iface 89 (.int .i64 1)]) ?_ rfl ⟨rfl,hb0⟩
   simp[results,Tryz.results81,go_sem]
 ·have hc':wi c 1073741824=false:=by simpa using hc
  rw[hc']at hwi
  clear hn hl h hc hc'
  go_enter Tryz.func81,Tryz.ntmps81
  go_wp2_with (go_at_call 52;refine(hwi _).mono ?_;rintro e w' ⟨rfl,rfl⟩)
  refine bodyPost_ret (v:= .tuple #[.agg #[.int .i64 0,.slice none 0 0],.iface 89 (.int .i64 1)]) ?_ rfl ⟨rfl,hb0⟩
  simp[results,Tryz.results81,go_sem]
theorem make_ok (c:Int)(a:Option Addr)(n cap:Nat)(l R:List (Int×Int))(w:World)(hn:l.length=n)(hl:Lies w.heap.size w a l)(hnil:a=none→n=0∧cap=0)(h:argOk c l)(hR:IsSum l R)(hk:∀m∈R,wi m.2 1073741824=true)(h64:R.length≤64):
 Calls Tryz.prog 81 #[.int .i64 c,.slice a n cap] w (LinOk w.heap.size c R w):=by
 have hwi:=fun w=>within_any c 1073741824 w (by omega) (by omega)
 have hb0:Below w.heap.size w (w.alloc (.cells #[.int .i64 0,.slice none 0 0] 25)):=(Below.refl _ w).alloc (Nat.le_refl _) _
 have hbdV:=argOk_bd h
 obtain⟨hc,h4,hall0⟩:=h
 rw[hn]at h4 hall0
 rw[hc]at hwi
 have hall:=mayAll_yes a n cap l _ _ (Nat.le_refl _) hn (by omega) ((hl.below hb0).mono hb0.size) hall0
 have hcl:=fun W (hb:Below w.heap.size w W)=>clone_any a n cap l W hn (by omega) ((hl.below hb).mono hb.size) hnil
 have hga:=fun a n cap W B hn hrow hB hm=>gather_ok c a n cap B l R W hn hrow hB hm hbdV.1 hbdV.2 hR hc hk h64
 have HB0:=Lib.hid hb0
 have HCL:=Lib.hid hcl
 have HGA:=Lib.hid hga
 have HN:=Lib.hid hn
 clear hn hl hc hall0 hb0 hcl hga hbdV hR hk hnil
 go_enter Tryz.func81,Tryz.ntmps81
 go_wp2_with (first | (go_at_call 52;refine(hwi _).mono ?_;rintro e w' ⟨rfl,rfl⟩) | (go_at_call 53;refine hall.mono ?_;rintro e w5 ⟨rfl,hb5⟩;obtain⟨hc5,hf5⟩:=bcell hb5;have hz5:w.heap.size<w5.heap.size:=(by have:=hb5.size;simp at this;omega)))
 have H5:Below w.heap.size w w5:=HB0.out.trans (hb5.mono (by simp))
 refine(HCL.out _ H5).mono ?_
 rintro e w6 ⟨v6,rfl,hrow6,hb6⟩
 obtain⟨a6,cap6,rfl,_,_⟩:=hrow6.lies
 have hz6:w.heap.size<w6.heap.size:=by have:=hb6.size;omega
 have hz65:w5.heap.size≤w6.heap.size:=hb6.size
 have hl6:l.length≤8192:=by rw[HN.out];omega
 have B6:Hid (Below w.heap.size w w6):=H5.trans (hb6.mono (by omega))
 have hcon:=HGA.out a6 l.length cap6 w6 w5.heap.size rfl hrow6 hz65 hl6
 have q50:w5.cell? ⟨w.heap.size,0,none⟩=some (.int .i64 0):=by rw[hc5 _ _ (by simp)];simp
 have q51:w5.cell? ⟨w.heap.size,1,none⟩=some (.slice none 0 0):=by rw[hc5 _ _ (by simp)];simp
 have q5f:∀o,w5.frozen? ⟨w.heap.size,o,none⟩=false:=fun o=>by rw[hf5 _ _ (by simp)];simp
 clear hall hc5 hf5 hrow6
 have HB6:=Lib.hid hb6
 clear hb6
 go_wp2_with fail
 refine hcon.mono ?_
 rintro e w7 ⟨v7,rfl,hrow7,hb7⟩
 have H67:Hid (Below w5.heap.size w5 w7):=HB6.out.trans hb7
 have q0:w7.cell? ⟨w.heap.size,0,none⟩=some (.int .i64 0):=(H67.out.cell (p:=⟨w.heap.size,0,none⟩) hz5).trans q50
 have q1:w7.cell? ⟨w.heap.size,1,none⟩=some (.slice none 0 0):=(H67.out.cell (p:=⟨w.heap.size,1,none⟩) hz5).trans q51
 have qf:∀o,w7.frozen? ⟨w.heap.size,o,none⟩=false:=fun o=>(H67.out.frozen (p:=⟨w.heap.size,o,none⟩) hz5).trans (q5f o)
 have hrowf:Row w.heap.size R v7 ((w7.setCell ⟨w.heap.size,0,none⟩ (.int .i64 c)).setCell ⟨w.heap.size,1,none⟩ v7):=
  Row.mono (ownsRow_setCell_below (ownsRow_setCell_below hrow7 (by simpa using hz5) _) (by simpa using hz5) _) (by omega)
 have hbf:=((B6.out.trans (hb7.mono (by omega))).setCell (p:=⟨w.heap.size,0,none⟩) (Nat.le_refl _) (.int .i64 c)).setCell (p:=⟨w.heap.size,1,none⟩) (Nat.le_refl _) v7
 obtain⟨a7,cap7,rfl,_,_⟩:=hrow7.lies
 obtain⟨e0,e1⟩:=res_cells w7 w.heap.size (.int .i64 c) (.slice a7 R.length cap7) _ _ q0 q1
 clear q50 q51 q5f hcon hb7 hrow7
 go_wp2_with fail
 refine bodyPost_ret (v:= .tuple #[.agg #[.int .i64 c,.slice a7 R.length cap7],.nilIface]) ?_ rfl ⟨_,rfl,hrowf,hbf⟩
 clear q0 q1 qf
 simp[results,Tryz.results81,go_sem,e0,e1]
theorem make_err (k c:Int)(a:Option Addr)(n cap:Nat)(l:List (Int×Int))(w:World)(hn:l.length=n)(hl:Lies w.heap.size w a l)(hnil:a=none→n=0∧cap=0)(h:argOk c l)
 (hga:∀(a:Option Addr) (n cap:Nat) (W:World) (B:Nat),l.length=n→Row B l (.slice a n cap) W→B≤W.heap.size→n≤8192→Calls Tryz.prog 75 #[.int .i64 c,.slice a n cap] W (LinErr B k W)):
 Calls Tryz.prog 81 #[.int .i64 c,.slice a n cap] w (LinErr w.heap.size k w):=by
 have hwi:=fun w=>within_any c 1073741824 w (by omega) (by omega)
 have hb0:Below w.heap.size w (w.alloc (.cells #[.int .i64 0,.slice none 0 0] 25)):=(Below.refl _ w).alloc (Nat.le_refl _) _
 obtain⟨hc,h4,hall0⟩:=h
 rw[hn]at h4 hall0
 rw[hc]at hwi
 have hall:=mayAll_yes a n cap l _ _ (Nat.le_refl _) hn (by omega) ((hl.below hb0).mono hb0.size) hall0
 have hcl:=fun W (hb:Below w.heap.size w W)=>clone_any a n cap l W hn (by omega) ((hl.below hb).mono hb.size) hnil
 have HB0:=Lib.hid hb0
 have HCL:=Lib.hid hcl
 have HGA:=Lib.hid hga
 have HN:=Lib.hid hn
 clear hn hl hc hall0 hb0 hcl hga hnil
 go_enter Tryz.func81,Tryz.ntmps81
 go_wp2_with (first | (go_at_call 52;refine(hwi _).mono ?_;rintro e w' ⟨rfl,rfl⟩) | (go_at_call 53;refine hall.mono ?_;rintro e w5 ⟨rfl,hb5⟩;obtain⟨hc5,hf5⟩:=bcell hb5;have hz5:w.heap.size<w5.heap.size:=(by have:=hb5.size;simp at this;omega)))
 have H5:Below w.heap.size w w5:=HB0.out.trans (hb5.mono (by simp))
 refine(HCL.out _ H5).mono ?_
 rintro e w6 ⟨v6,rfl,hrow6,hb6⟩
 obtain⟨a6,cap6,rfl,_,_⟩:=hrow6.lies
 have hz6:w.heap.size<w6.heap.size:=by have:=hb6.size;omega
 have hz65:w5.heap.size≤w6.heap.size:=hb6.size
 have hl6:l.length≤8192:=by rw[HN.out];omega
 have B6:Hid (Below w.heap.size w w6):=H5.trans (hb6.mono (by omega))
 have hcon:=HGA.out a6 l.length cap6 w6 w5.heap.size rfl hrow6 hz65 hl6
 have q50:w5.cell? ⟨w.heap.size,0,none⟩=some (.int .i64 0):=by rw[hc5 _ _ (by simp)];simp
 have q51:w5.cell? ⟨w.heap.size,1,none⟩=some (.slice none 0 0):=by rw[hc5 _ _ (by simp)];simp
 have q5f:∀o,w5.frozen? ⟨w.heap.size,o,none⟩=false:=fun o=>by rw[hf5 _ _ (by simp)];simp
 clear hall hc5 hf5 hrow6
 have HB6:=Lib.hid hb6
 clear hb6
 go_wp2_with fail
 refine hcon.mono ?_
 rintro e w7 ⟨rfl,hb7⟩
 have H67:Hid (Below w5.heap.size w5 w7):=HB6.out.trans hb7
 have q0:w7.cell? ⟨w.heap.size,0,none⟩=some (.int .i64 0):=(H67.out.cell (p:=⟨w.heap.size,0,none⟩) hz5).trans q50
 have q1:w7.cell? ⟨w.heap.size,1,none⟩=some (.slice none 0 0):=(H67.out.cell (p:=⟨w.heap.size,1,none⟩) hz5).trans q51
 have qf:∀o,w7.frozen? ⟨w.heap.size,o,none⟩=false:=fun o=>(H67.out.frozen (p:=⟨w.heap.size,o,none⟩) hz5).trans (q5f o)
 have hbf:=((B6.out.trans (hb7.mono (by omega))).setCell (p:=⟨w.heap.size,0,none⟩) (Nat.le_refl _) (.int .i64 0)).setCell (p:=⟨w.heap.size,1,none⟩) (Nat.le_refl _) (.slice none 0 0)
 obtain⟨e0,e1⟩:=res_cells w7 w.heap.size (.int .i64 0) (.slice none 0 0) _ _ q0 q1
 clear q50 q51 q5f hcon hb7
 go_wp2_with fail
 refine bodyPost_ret (v:= .tuple #[.agg #[.int .i64 0,.slice none 0 0],.iface 89 (.int .i64 k)]) ?_ rfl ⟨rfl,hbf⟩
 clear q0 q1 qf
 simp[results,Tryz.results81,go_sem,e0,e1]
end Lf
namespace Lf
open Go.RowKit
section
variable {P:Program} (w:World)
theorem run_equalIn_iface_int (d:Nat){ti tn:TypeId}{ms:Array (String×TypeId)}{i:TypeInfo}{k:IntKind}(a b:Int)
 (hi:P.underlying ti=some (.interface ms)) (hn:P.underlying tn=some (.int k)) (hinfo:P.info? tn=some i) (hcomp:i.comparable=true):
 (Op.equalIn (d+2) ti (.iface tn (.int k a)) (.iface tn (.int k b))).run P w= .ok (a == b) w:=by
 simp[Op.equalIn,run_underlying hi,run_underlying hn,typeInfo,hinfo,hcomp]
end
end Lf
namespace Lf
open Go.RowKit
inductive FT where
 | mk (kind c:Int) (t:List (Int×Int)) (ks:List FT)
instance:Inhabited FT:=⟨.mk 0 0 [] []⟩
def FT.kind:FT→Int | .mk k _ _ _=>k
def FT.c:FT→Int | .mk _ c _ _=>c
def FT.t:FT→List (Int×Int) | .mk _ _ t _=>t
def FT.ks:FT→List FT | .mk _ _ _ ks=>ks
def FLies (B:Nat)(w:World):Nat→FT→List Value→Prop
 | 0,_,_=>False
 | n+1,f,cs=>∃(ta:Option Addr) (tcap:Nat) (ka:Option Addr) (kcap:Nat),cs=[.int .i64 f.kind,.int .i64 f.c,.slice ta f.t.length tcap,.slice ka f.ks.length kcap]∧
    Lies B w ta f.t∧f.t.length≤9223372036854775807∧f.ks.length≤9223372036854775807∧
    ∀i,i<f.ks.length→∃b off c0 c1 c2 c3,ka=some ⟨b,off,none⟩∧b<B∧w.cell? ⟨b,off+i*4,none⟩=some c0∧w.cell? ⟨b,off+i*4+1,none⟩=some c1∧w.cell? ⟨b,off+i*4+2,none⟩=some c2∧w.cell? ⟨b,off+i*4+3,none⟩=some c3∧
     FLies B w n (f.ks.getD i default) [c0,c1,c2,c3]
theorem FLies.form {B:Nat}{w:World}:∀ {n:Nat} {f:FT} {c0 c1 c2 c3:Value},FLies B w n f [c0,c1,c2,c3]→∃(k c:Int) (ta:Option Addr) (tn tcap:Nat) (ka:Option Addr) (kn kcap:Nat),c0= .int .i64 k∧c1= .int .i64 c∧c2= .slice ta tn tcap∧c3= .slice ka kn kcap
 | 0,_,_,_,_,_,h=>h.elim
 | n+1,f,_,_,_,_,⟨ta,tcap,ka,kcap,h1,_⟩=>by
   simp only[List.cons.injEq,and_true]at h1
   exact⟨_,_,_,_,_,_,_,_,h1.1,h1.2.1,h1.2.2.1,h1.2.2.2⟩
theorem FLies.below {B:Nat}{w w':World}(hb:Below B w w'):∀ {n:Nat} {f:FT} {cs:List Value},FLies B w n f cs→FLies B w' n f cs
 | 0,_,_,h=>h
 | n+1,f,cs,⟨ta,tcap,ka,kcap,h1,h2,h3,h4,h5⟩=>⟨ta,tcap,ka,kcap,h1,h2.below hb,h3,h4,fun i hi=>by
   obtain⟨b,off,c0,c1,c2,c3,e,hlt,g0,g1,g2,g3,hf⟩:=h5 i hi
   exact⟨b,off,c0,c1,c2,c3,e,hlt,(hb.cell (p:=⟨b,off+i*4,none⟩) hlt).trans g0,(hb.cell (p:=⟨b,off+i*4+1,none⟩) hlt).trans g1,(hb.cell (p:=⟨b,off+i*4+2,none⟩) hlt).trans g2,(hb.cell (p:=⟨b,off+i*4+3,none⟩) hlt).trans g3,hf.below hb⟩⟩
theorem FLies.mono {B B':Nat}{w:World}(hB:B≤B'):∀ {n:Nat} {f:FT} {cs:List Value},FLies B w n f cs→FLies B' w n f cs
 | 0,_,_,h=>h
 | n+1,f,cs,⟨ta,tcap,ka,kcap,h1,h2,h3,h4,h5⟩=>⟨ta,tcap,ka,kcap,h1,h2.mono hB,h3,h4,fun i hi=>by
   obtain⟨b,off,c0,c1,c2,c3,e,hlt,g0,g1,g2,g3,hf⟩:=h5 i hi
   exact⟨b,off,c0,c1,c2,c3,e,Nat.lt_of_lt_of_le hlt hB,g0,g1,g2,g3,hf.mono hB⟩⟩
end Lf
namespace Lf
open Go.RowKit
def LiesS (S:Nat→Prop)(w:World)(a:Option Addr)(l:List (Int×Int)):Prop:=
 ∀i,i<l.length→∃b off,a=some ⟨b,off,none⟩∧S b∧w.cell? ⟨b,off+i*2,none⟩=some (.int .i64 (l.getD i (0,0)).1)∧w.cell? ⟨b,off+i*2+1,none⟩=some (.int .i64 (l.getD i (0,0)).2)
def FLiesS (S:Nat→Prop)(w:World):Nat→FT→List Value→Prop
 | 0,_,_=>False
 | n+1,f,cs=>∃(ta:Option Addr) (tcap:Nat) (ka:Option Addr) (kcap:Nat),cs=[.int .i64 f.kind,.int .i64 f.c,.slice ta f.t.length tcap,.slice ka f.ks.length kcap]∧
    LiesS S w ta f.t∧f.t.length≤9223372036854775807∧f.ks.length≤9223372036854775807∧
    ∀i,i<f.ks.length→∃b off c0 c1 c2 c3,ka=some ⟨b,off,none⟩∧S b∧w.cell? ⟨b,off+i*4,none⟩=some c0∧w.cell? ⟨b,off+i*4+1,none⟩=some c1∧w.cell? ⟨b,off+i*4+2,none⟩=some c2∧w.cell? ⟨b,off+i*4+3,none⟩=some c3∧
     FLiesS S w n (f.ks.getD i default) [c0,c1,c2,c3]
theorem LiesS.lies {S:Nat→Prop}{w:World}{B:Nat}{a:Option Addr}{l:List (Int×Int)}(hS:∀b,S b→b<B)(h:LiesS S w a l):Lies B w a l:=fun i hi=>by
 obtain⟨b,off,e,hb,r⟩:=h i hi
 exact⟨b,off,e,hS b hb,r⟩
theorem FLiesS.lies {S:Nat→Prop}{w:World}{B:Nat}(hS:∀b,S b→b<B):∀ {n:Nat} {f:FT} {cs:List Value},FLiesS S w n f cs→FLies B w n f cs
 | 0,_,_,h=>h
 | n+1,f,cs,⟨ta,tcap,ka,kcap,h1,h2,h3,h4,h5⟩=>⟨ta,tcap,ka,kcap,h1,h2.lies hS,h3,h4,fun i hi=>by
   obtain⟨b,off,c0,c1,c2,c3,e,hb,g0,g1,g2,g3,hf⟩:=h5 i hi
   exact⟨b,off,c0,c1,c2,c3,e,hS b hb,g0,g1,g2,g3,hf.lies hS⟩⟩
theorem LiesS.keep {S S':Nat→Prop}{w w':World}{a:Option Addr}{l:List (Int×Int)}(hS:∀b,S b→S' b)(hk:∀b o,S b→w'.cell? ⟨b,o,none⟩=w.cell? ⟨b,o,none⟩)(h:LiesS S w a l):LiesS S' w' a l:=fun i hi=>by
 obtain⟨b,off,e,hb,r1,r2⟩:=h i hi
 exact⟨b,off,e,hS b hb,(hk _ _ hb).trans r1,(hk _ _ hb).trans r2⟩
theorem FLiesS.keep {S S':Nat→Prop}{w w':World}(hS:∀b,S b→S' b)(hk:∀b o,S b→w'.cell? ⟨b,o,none⟩=w.cell? ⟨b,o,none⟩):∀ {n:Nat} {f:FT} {cs:List Value},FLiesS S w n f cs→FLiesS S' w' n f cs
 | 0,_,_,h=>h
 | n+1,f,cs,⟨ta,tcap,ka,kcap,h1,h2,h3,h4,h5⟩=>⟨ta,tcap,ka,kcap,h1,h2.keep hS hk,h3,h4,fun i hi=>by
   obtain⟨b,off,c0,c1,c2,c3,e,hb,g0,g1,g2,g3,hf⟩:=h5 i hi
   exact⟨b,off,c0,c1,c2,c3,e,hS b hb,(hk _ _ hb).trans g0,(hk _ _ hb).trans g1,(hk _ _ hb).trans g2,(hk _ _ hb).trans g3,hf.keep hS hk⟩⟩
theorem FLiesS.four {S:Nat→Prop}{w:World}:∀ {n:Nat} {f:FT} {cs:List Value},FLiesS S w n f cs→∃c0 c1 c2 c3,cs=[c0,c1,c2,c3]
 | 0,_,_,h=>h.elim
 | _+1,_,_,⟨_,_,_,_,h1,_⟩=>⟨_,_,_,_,h1⟩
end Lf
namespace Lf
open Go.RowKit
theorem append_two (w:World)(ty:TypeId){B B2:Nat}{v v2:Value}{r r2:List (Int×Int)}(h:Row B r v w)(h2:Row B2 r2 v2 w)(hB:B≤w.heap.size)(hlen:r.length+r2.length≤8192):
 ∃v' w',(Builtin.append_ #[23,23] ty #[v,v2]).run Tryz.prog w= .ok v' w'∧Row B (r ++ r2) v' w'∧w.grownBy w' v.ownBlock:=by
 obtain⟨i0,hi,hz0,hz1,hz2⟩:=info_parts Tryz.infoMono
 obtain⟨a2,cap2,rfl,hl2,hnil⟩:=h2.lies
 cases a2 with
 | none=>
   obtain⟨h0,rfl⟩:=hnil rfl
   have hr:r2=[]:=List.eq_nil_of_length_eq_zero h0
   subst hr
   exact⟨v,w,run_append_owned_none w B _ ty _ i0 2 Tryz.underlying23 hi v _ _ h,by simpa using h,World.grownBy.refl w _⟩
 | some ad=>
   obtain⟨v',w',hr,h3,h4,_⟩:=run_append_own w B 23 ty 84 i0 _ 2 16 Tryz.underlying23 hi hz0 hz1 hz2 rfl (by decide) v r.length (flat r) h ad r2.length cap2 (flat r2) (flat_len r2) hl2.news (flat_cells r2) (by unfold maxLen;omega) (by omega) hB
   refine⟨v',w',hr, ?_,h4⟩
   unfold Row
   rw[List.length_append,flat_append]
   exact h3
end Lf
end Go.Proofs.YtjbkhdbjdahbiaaGreatDoor
