/- Parts of a proof. -/
import Derived.Test.YtipahfcaplbifaaGreatDoorQ02
import Derived.Test.YtipahfcaplbifaaGreatDoorQ09
import Derived.RegionTactic
import Derived.ChangeAlike
import Derived.Lib.SmallJoins
import Derived.StillTailTactics
import Derived.Lib.AppendIntMem
import Derived.Shelf.SlSortCmp.NoneTotal
import Derived.Deep.RegionHeld3
import Derived.Deep.AppendLies
import Derived.Deep.DrawnRows
set_option linter.unusedVariables false
set_option linter.unusedSimpArgs false
set_option maxHeartbeats 60000000
set_option maxRecDepth 100000
namespace Go.Proofs.YtipahfcaplbifaaGreatDoor
section
open Go.RowKit
def togStep (r:List (Int×Int))(m:Int×Int):List (Int×Int):=
 match r.getLast? with
 | some p=>if p.1=m.1 then r.dropLast ++ [(p.1,p.2+m.2)] else r ++ [m]
 | none=>r ++ [m]
theorem togStep_nil (m:Int×Int):togStep [] m=[m]:=rfl
theorem togStep_eq (r:List (Int×Int))(v k u:Int):togStep (r ++ [(v,k)]) (v,u)=r ++ [(v,k+u)]:=by
 unfold togStep;simp
theorem togStep_ne (r:List (Int×Int))(p:Int×Int)(m:Int×Int)(h:p.1≠m.1):togStep (r ++ [p]) m=(r ++ [p]) ++ [m]:=by
 unfold togStep;simp[h]
def tog (l:List (Int×Int)):List (Int×Int):=l.foldl togStep []
theorem tog_snoc (l:List (Int×Int))(m:Int×Int):tog (l ++ [m])=togStep (tog l) m:=by unfold tog;rw[List.foldl_append];rfl
theorem snoc_cases {α:Type}(r:List α):r=[]∨∃r' p,r=r' ++ [p]:=by
 rcases List.eq_nil_or_concat r with h | ⟨a,b,h⟩
 ·exact .inl h
 ·exact .inr ⟨a,b,by rw[h,List.concat_eq_append]⟩
def Bd (M:Int)(l:List (Int×Int)):Prop:=∀m∈l, -M≤m.2∧m.2≤M
theorem Bd.step {M B:Int}{r:List (Int×Int)}{m:Int×Int}(h:Bd M r)(hM:0≤M)(hB: -B≤m.2∧m.2≤B):Bd (M+B) (togStep r m):=by
 obtain⟨v,u⟩:=m
 rcases snoc_cases r with rfl | ⟨r',⟨pv,pk⟩,rfl⟩
 ·rw[togStep_nil];intro x hx;simp at hx;subst hx;simp only at hB⊢;omega
 ·have hp:=h (pv,pk) (by simp)
  by_cases e:pv=v
  ·subst e
   rw[togStep_eq]
   intro x hx
   rcases List.mem_append.1 hx with hx | hx
   ·have:=h x (by simp[hx]);simp only at hB;omega
   ·simp at hx;subst hx;simp only at hB hp⊢;omega
  ·rw[togStep_ne _ _ _ e]
   intro x hx
   rcases List.mem_append.1 hx with hx | hx
   ·have:=h x hx;simp only at hB;omega
   ·simp at hx;subst hx;simp only at hB⊢;omega
theorem tog_bd (B:Int)(hB:0≤B)(l:List (Int×Int))(h:Bd B l):∀k,k≤l.length→Bd (k*B) (tog (l.take k))
 | 0,_=>by intro m hm;simp[tog]at hm
 | k+1,hk=>by
  rw[take_snoc l k (by omega),tog_snoc]
  have h1:=tog_bd B hB l h k (by omega)
  have h2:=h (l.getD k (0,0)) (by rw[List.getD_eq_getElem?_getD,List.getElem?_eq_getElem (by omega)];simp)
  have:=h1.step (Int.mul_nonneg (by omega) hB) h2
  rwa [show((k+1:Nat):Int)*B=k*B+B by rw[Int.natCast_add,Int.add_mul];simp]
theorem tog_len (l:List (Int×Int)):∀k,k≤l.length→(tog (l.take k)).length≤k
 | 0,_=>by simp[tog]
 | k+1,hk=>by
  have h1:=tog_len l k (by omega)
  rw[take_snoc l k (by omega),tog_snoc]
  generalize tog (l.take k)=r at h1
  generalize l.getD k (0,0)=m
  obtain⟨v,u⟩:=m
  rcases snoc_cases r with rfl | ⟨r',⟨pv,pk⟩,rfl⟩
  ·simp[togStep_nil]
  ·simp at h1
   by_cases e:pv=v
   ·subst e;rw[togStep_eq];simp;omega
   ·rw[togStep_ne _ _ _ e];simp;omega
theorem flat_last (r:List (Int×Int))(v k:Int):(flat (r ++ [(v,k)]))[r.length*2]? =some (.int .i64 v)∧(flat (r ++ [(v,k)]))[r.length*2+1]? =some (.int .i64 k):=by
 have:=flat_get (r ++ [(v,k)]) r.length (by simp)
 simpa using this
theorem flat_set (r:List (Int×Int))(v k x:Int):(flat (r ++ [(v,k)])).set (r.length*2+1) (.int .i64 x)=flat (r ++ [(v,x)]):=by
 rw[flat_append,flat_append,List.set_append_right _ _ (by rw[flat_len];omega),flat_len,show r.length*2+1 - r.length*2=1 by omega]
 rfl
theorem two_at' (w:World)(o:Obj)(q:Nat)(x y:Value)(t:TypeId):∀j u,[x,y][j]? =some u→(((w.alloc o).drewN q).alloc (.cells #[x,y] t)).cell? ((⟨w.heap.size+1,0,none⟩:Addr).add j)=some u:=by
 intro j u hj
 have h:=cell_two_new' ((w.alloc o).drewN q) x y t j u hj
 have e:((w.alloc o).drewN q).heap.size=w.heap.size+1:=by
  show(w.alloc o).heap.size=_
  simp
 rwa [e]at h
theorem ownsRow_drewN {w:World}{base:Nat}{e:TypeId}{size:Nat}{v:Value}{n:Nat}{xs:List Value}(h:w.ownsRow base e size v n xs)(k:Nat):(w.drewN k).ownsRow base e size v n xs:=h
theorem together_any (a:Option Addr)(n cap:Nat)(l:List (Int×Int))(w:World)(hn:l.length=n)(hm:n≤8192)(hl:Lies w.heap.size w a l)(hbd:Bd 4398046511104 l):
  Calls Tryz.prog 110 #[.slice a n cap] w (RowEnd w.heap.size (tog l) w):=by
 obtain⟨i0,hi,hz0,hz1,hz2⟩:=info_parts Tryz.infoMono
 have HN:=Lib.hid hn
 have HL:=Lib.hid hl
 have HBD:=Lib.hid hbd
 clear hn hl hbd
 go_enter Tryz.func110,Tryz.ntmps110
 go_wp2
 go_loopw [3,9] (fun s i wr=>∃k:Nat,k≤n∧i= .int .i64 k∧Hid (Row w.heap.size (tog (l.take k)) s wr)∧Below w.heap.size w wr) (fun _ i _=>n - (intOf i).toNat)
 case atStart=>exact⟨0,Nat.zero_le _,rfl,World.ownsRow_nil _ _ _ _,Below.refl _ _⟩
 case round=>
  obtain⟨k,hk,rfl,hrow,hb⟩:=hrel
  by_cases hlt:k<n
  ·obtain⟨b,off,rfl,hblt,c1,c2⟩:=(HL.out.below hb) k (by rw[HN.out];exact hlt)
   have hts:=take_snoc l k (by rw[HN.out];exact hlt)
   have hbdk:=tog_bd _ (by decide) l HBD.out k (by rw[HN.out];exact hk)
   have hlen:=tog_len l k (by rw[HN.out];exact hk)
   have hbm:=HBD.out (l.getD k (0,0)) (by rw[List.getD_eq_getElem?_getD,List.getElem?_eq_getElem (by rw[HN.out];exact hlt)];simp)
   have htog:=tog_snoc (l.take k) (l.getD k (0,0))
   rw[←hts]at htog
   clear hts
   generalize hg:l.getD k (0,0)=m at c1 c2 hbm htog
   clear hg
   obtain⟨v,u⟩:=m
   generalize tog (l.take k)=r at hrow hlen hbdk htog
   rcases snoc_cases r with rfl | ⟨r',⟨pv,pk⟩,rfl⟩
   ·have HT:Hid (tog (l.take (k+1))=[] ++ [(v,u)]):=htog.trans (togStep_nil _)
    clear htog
    rcases Joins.ownsRow_forms hrow.out with ⟨rfl,_⟩ | ⟨g,cap',rfl⟩
    ·have HR:Hid (wr.ownsRow w.heap.size 92 2 (.slice none 0 0) 0 []):=hrow.out
     clear hrow
     go_wp2_with fail
     go_quiet (fail)
     go_wp2_with (at_builtin;refine wpList_append_own _ rfl _ _ 34 rfl w.heap.size 92 i0 _ 2 16 Tryz.underlying34 hi hz0 hz1 hz2 rfl (by decide) (.slice none 0 0) 0 (flat ([]:List (Int×Int))) rfl (World.ownsRow.alloc (ownsRow_drewN (World.ownsRow.alloc HR.out _) _) _) ⟨wr.heap.size+1,0,none⟩ 1 1 [.int .i64 v,.int .i64 u] rfl rfl ?c2 ?c3 ?c4 ?c5 ?c6 ?_)
     case c2=>exact fun j x hj=>two_at' wr _ nq _ _ _ j x hj
     case c3=>first | exact⟨rfl,rfl⟩ | exact flat_cells [(v,u)]
     case c4=>unfold maxLen;omega
     case c5=>omega
     case c6=>have:=hb.size;simp;omega
     intro v' w1 hown' hgrow _
     have HO:Hid (Row w.heap.size (tog (l.take (k+1))) v' w1):=by
      show Row _ _ _ _
      rw[HT.out]
      unfold Row
      rw[List.length_append,flat_append]
      exact hown'
     have HB:Below w.heap.size w w1:=((below_drewN (hb.alloc hb.size _) _).alloc (by have:=hb.size;simp;omega) _).grown hgrow (by have:=hb.size;simp;omega) (fun j hj=>(World.ownsRow.lt HR.out j hj).1)
     clear hown' hgrow HR
     go_wp2
     go_roundw
     case rel=>exact⟨k+1,by omega,by go_num,HO,HB⟩
     case measure=>simp[intOf];omega
    ·have HR:Hid (wr.ownsRow w.heap.size 92 2 (.slice (some ⟨g,0,none⟩) 0 cap') 0 []):=hrow.out
     clear hrow
     simp only[List.length_nil]
     go_wp2_with fail
     go_quiet (fail)
     go_wp2_with (at_builtin;refine wpList_append_own _ rfl _ _ 34 rfl w.heap.size 92 i0 _ 2 16 Tryz.underlying34 hi hz0 hz1 hz2 rfl (by decide) (.slice (some ⟨g,0,none⟩) 0 cap') 0 (flat ([]:List (Int×Int))) rfl (World.ownsRow.alloc (ownsRow_drewN (World.ownsRow.alloc HR.out _) _) _) ⟨wr.heap.size+1,0,none⟩ 1 1 [.int .i64 v,.int .i64 u] rfl rfl ?c2 ?c3 ?c4 ?c5 ?c6 ?_)
     case c2=>exact fun j x hj=>two_at' wr _ nq _ _ _ j x hj
     case c3=>first | exact⟨rfl,rfl⟩ | exact flat_cells [(v,u)]
     case c4=>unfold maxLen;omega
     case c5=>omega
     case c6=>have:=hb.size;simp;omega
     intro v' w1 hown' hgrow _
     have HO:Hid (Row w.heap.size (tog (l.take (k+1))) v' w1):=by
      show Row _ _ _ _
      rw[HT.out]
      unfold Row
      rw[List.length_append,flat_append]
      exact hown'
     have HB:Below w.heap.size w w1:=((below_drewN (hb.alloc hb.size _) _).alloc (by have:=hb.size;simp;omega) _).grown hgrow (by have:=hb.size;simp;omega) (fun j hj=>(World.ownsRow.lt HR.out j hj).1)
     clear hown' hgrow HR
     go_wp2
     go_roundw
     case rel=>exact⟨k+1,by omega,by go_num,HO,HB⟩
     case measure=>simp[intOf];omega
   ·obtain⟨g,cap',rfl⟩:=Joins.ownsRow_form hrow.out (by simp)
    have hrl:(r' ++ [(pv,pk)]).length=r'.length+1:=by simp
    obtain⟨q,hq⟩:∃q,q=r'.length:=⟨_,rfl⟩
    rw[hrl,←hq]at hlen
    have HR:Hid (wr.ownsRow w.heap.size 92 2 (.slice (some ⟨g,0,none⟩) (q+1) cap') (q+1) (flat (r' ++ [(pv,pk)]))):=by
     have:=hrow.out;unfold Row at this;rw[hrl,←hq]at this;exact this
    have hp1:=(World.ownsRow.cellAt HR.out (q*2) (by omega)).trans (hq ▸ (flat_last r' pv pk).1)
    have hp2:=(World.ownsRow.cellAt HR.out (q*2+1) (by omega)).trans (hq ▸ (flat_last r' pv pk).2)
    have hpf:=World.ownsRow.frozenAt HR.out (q*2+1)
    have hglt:=(World.ownsRow.lt HR.out g rfl)
    have hpk:=hbdk (pv,pk) (by simp)
    rw[hrl,←hq]
    have HQ:=Lib.hid hq
    clear hrow hq hrl
    have hw1:IntKind.i64.wrap ((q:Int)+1 - 1)=q:=by rw[show(q:Int)+1 - 1=q by omega];exact IntWalk.i64_in _ (by omega)
    have hw2:IntKind.i64.wrap (q:Int)=q:=IntWalk.i64_in _ (by omega)
    have hg2:g<wr.heap.size:=hglt.2
    by_cases e:pv=v
    ·subst e
     have HT:Hid (tog (l.take (k+1))=r' ++ [(pv,pk+u)]):=htog.trans (togStep_eq _ _ _ _)
     have hbk: -(8192*4398046511104)≤pk∧pk≤8192*4398046511104:=by
      simp only at hpk
      have:(k:Int)*4398046511104≤8192*4398046511104:=Int.mul_le_mul_of_nonneg_right (by omega) (by omega)
      omega
     clear htog hpk hbdk
     simp only at hbm
     go_wp2_with fail
     go_quiet (fail)
     go_wp2_with fail
     go_region
     have HO:Hid (∀W:World,W.ownsRow w.heap.size 92 2 (.slice (some ⟨g,0,none⟩) (q+1) cap') (q+1) (flat (r' ++ [(pv,pk)]))→Row w.heap.size (tog (l.take (k+1))) (.slice (some ⟨g,0,none⟩) (q+1) cap') (W.setCell ⟨g,q*2+1,none⟩ (.int .i64 (pk+u)))):=fun W hW=>by
      have h1:=(World.ownsRow.stored hW (q*2+1) (.int .i64 (pk+u))).1
      rw[HQ.out,flat_set]at h1
      rw[HT.out]
      unfold Row
      rw[List.length_append,HQ.out]
      exact h1
     go_wp2
     go_roundw
     case rel=>exact⟨k+1,by omega,by go_num,HO.out _ (ownsRow_drewN (World.ownsRow.alloc HR.out _) (nq+1)),(below_drewN (hb.alloc hb.size _) (nq+1)).setCell (p:=⟨g,q*2+1,none⟩) hglt.1 _⟩
     case measure=>simp[intOf];omega
    ·have HT:Hid (tog (l.take (k+1))=(r' ++ [(pv,pk)]) ++ [(v,u)]):=htog.trans (togStep_ne _ _ _ e)
     have e':(pv == v)=false:=by simpa using e
     clear htog e
     go_wp2_with fail
     go_quiet (fail)
     go_wp2_with (at_builtin;refine wpList_append_own _ rfl _ _ 34 rfl w.heap.size 92 i0 _ 2 16 Tryz.underlying34 hi hz0 hz1 hz2 rfl (by decide) (.slice (some ⟨g,0,none⟩) (q+1) cap') (q+1) (flat (r' ++ [(pv,pk)])) rfl (World.ownsRow.alloc (ownsRow_drewN (World.ownsRow.alloc HR.out _) _) _) ⟨wr.heap.size+1,0,none⟩ 1 1 [.int .i64 v,.int .i64 u] rfl rfl ?c2 ?c3 ?c4 ?c5 ?c6 ?_)
     case c2=>exact fun j x hj=>two_at' wr _ nq _ _ _ j x hj
     case c3=>first | exact⟨rfl,rfl⟩ | exact flat_cells [(v,u)]
     case c4=>unfold maxLen;omega
     case c5=>omega
     case c6=>have:=hb.size;simp;omega
     intro v' w1 hown' hgrow _
     have HO:Hid (Row w.heap.size (tog (l.take (k+1))) v' w1):=by
      show Row _ _ _ _
      rw[HT.out]
      unfold Row
      rw[List.length_append,flat_append,List.length_append,←HQ.out]
      exact hown'
     have HB:Below w.heap.size w w1:=((below_drewN (hb.alloc hb.size _) _).alloc (by have:=hb.size;simp;omega) _).grown hgrow (by have:=hb.size;simp;omega) (fun j hj=>(World.ownsRow.lt HR.out j hj).1)
     clear hown' hgrow HR
     go_wp2
     go_roundw
     case rel=>exact⟨k+1,by omega,by go_num,HO,HB⟩
     case measure=>simp[intOf];omega
  ·have HT:Hid (Row w.heap.size (tog l) u3 wr):=by
    have:=hrow.out
    rwa [List.take_of_length_le (by rw[HN.out];omega)]at this
   clear hrow
   go_wp2
   go_ret
   exact⟨_,rfl,HT.out,hb⟩
end
section
def coef (l:List (Int×Int))(v:Int):Int:=(l.map fun m=>if m.1=v then m.2 else 0).sum
theorem coef_nil (v:Int):coef [] v=0:=rfl
theorem coef_cons (m:Int×Int)(l:List (Int×Int))(v:Int):coef (m :: l) v=(if m.1=v then m.2 else 0)+coef l v:=by simp[coef]
theorem coef_append (l r:List (Int×Int))(v:Int):coef (l ++ r) v=coef l v+coef r v:=by simp[coef,List.sum_append]
theorem coef_perm {l r:List (Int×Int)}(h:l.Perm r)(v:Int):coef l v=coef r v:=by
 induction h with
 | nil=>rfl
 | cons x _ ih=>rw[coef_cons,coef_cons,ih]
 | swap x y l=>simp only[coef_cons];omega
 | trans _ _ h1 h2=>exact h1.trans h2
theorem coef_none {l:List (Int×Int)}{v:Int}(h:∀m∈l,m.1≠v):coef l v=0:=by
 induction l with
 | nil=>rfl
 | cons m r ih=>rw[coef_cons,if_neg (h m (by simp)),ih (fun x hx=>h x (by simp[hx]))];rfl
def Up (l:List (Int×Int)):Prop:=l.Pairwise fun a b=>a.1<b.1
structure IsSum (l R:List (Int×Int)):Prop where
 up:Up R
 nz:∀m∈R,m.2≠0
 eq:∀v,coef R v=coef l v
theorem up_head {m:Int×Int}{r:List (Int×Int)}(h:Up (m :: r)):coef r m.1=0:=
 coef_none fun x hx=>by have:=(List.pairwise_cons.1 h).1 x hx;omega
theorem sum_unique:∀ {R S:List (Int×Int)},Up R→Up S→(∀m∈R,m.2≠0)→(∀m∈S,m.2≠0)→(∀v,coef R v=coef S v)→R=S
 | [],[],_,_,_,_,_=>rfl
 | [],b :: s,_,hS,_,nS,h=>by
  have:=h b.1
  rw[coef_nil,coef_cons,if_pos rfl,up_head hS]at this
  have:=nS b (by simp)
  omega
 | a :: r,[],hR,_,nR,_,h=>by
  have:=h a.1
  rw[coef_nil,coef_cons,if_pos rfl,up_head hR]at this
  have:=nR a (by simp)
  omega
 | a :: r,b :: s,hR,hS,nR,nS,h=>by
  have na:=nR a (by simp)
  have nb:=nS b (by simp)
  have hr:=List.pairwise_cons.1 hR
  have hs:=List.pairwise_cons.1 hS
  have e1:a.1=b.1:=by
   by_cases hlt:a.1<b.1
   ·have:=h a.1
    rw[coef_cons,if_pos rfl,up_head hR,coef_cons,if_neg (by omega),coef_none (fun x hx=>by have:=hs.1 x hx;omega)]at this
    omega
   ·by_cases hgt:b.1<a.1
    ·have:=h b.1
     rw[coef_cons,if_neg (by omega),coef_none (fun x hx=>by have:=hr.1 x hx;omega),coef_cons,if_pos rfl,up_head hS]at this
     omega
    ·omega
  have e2:a.2=b.2:=by
   have:=h a.1
   rw[coef_cons,if_pos rfl,up_head hR,coef_cons,if_pos e1.symm,e1,up_head hS]at this
   omega
  have e:a=b:=Prod.ext e1 e2
  subst e
  rw[sum_unique hr.2 hs.2 (fun x hx=>nR x (by simp[hx])) (fun x hx=>nS x (by simp[hx])) (fun v=>by
   have:=h v
   rw[coef_cons,coef_cons]at this
   omega)]
theorem IsSum.unique {l R S:List (Int×Int)}(h:IsSum l R)(k:IsSum l S):R=S:=sum_unique h.up k.up h.nz k.nz fun v=>(h.eq v).trans (k.eq v).symm
theorem IsSum.perm {l l' R:List (Int×Int)}(h:IsSum l R)(hp:l.Perm l'):IsSum l' R:=⟨h.up,h.nz,fun v=>(h.eq v).trans (coef_perm hp v)⟩
theorem coef_up {R:List (Int×Int)}(h:Up R){m:Int×Int}(hm:m∈R):coef R m.1=m.2:=by
 induction R with
 | nil=>cases hm
 | cons a r ih=>
  rcases List.mem_cons.1 hm with rfl | hm
  ·rw[coef_cons,if_pos rfl,up_head h];omega
  ·have hr:=List.pairwise_cons.1 h
   rw[coef_cons,if_neg (by have:=hr.1 m hm;omega),ih hr.2 hm];omega
theorem IsSum.comes {l R:List (Int×Int)}(h:IsSum l R){m:Int×Int}(hm:m∈R):∃x∈l,x.1=m.1:=by
 by_cases hx:∃x∈l,x.1=m.1
 ·exact hx
 ·have h1:=coef_up h.up hm
  rw[h.eq,coef_none (fun x hx1 hx2=>hx ⟨x,hx1,hx2⟩)]at h1
  exact absurd h1.symm (h.nz m hm)
theorem togStep_up {r:List (Int×Int)}{m:Int×Int}(h:Up r)(hle:∀p∈r,p.1≤m.1):
  Up (togStep r m)∧(∀p∈togStep r m,p.1≤m.1)∧∀v,coef (togStep r m) v=coef r v+(if m.1=v then m.2 else 0):=by
 obtain⟨mv,mk⟩:=m
 rcases snoc_cases r with rfl | ⟨r',⟨pv,pk⟩,rfl⟩
 ·refine⟨by rw[togStep_nil];simp[Up],fun p hp=> ?_,fun v=> ?_⟩
  ·rw[togStep_nil]at hp;simp at hp;subst hp;exact Int.le_refl _
  ·rw[togStep_nil,coef_cons,coef_nil];omega
 ·have hp:=hle (pv,pk) (by simp)
  have hpair:=List.pairwise_append.1 h
  by_cases e:pv=mv
  ·subst e
   rw[togStep_eq]
   refine⟨List.pairwise_append.2 ⟨hpair.1,by simp,fun a ha b hb=> ?_⟩,fun p hp=> ?_,fun v=> ?_⟩
   ·simp at hb;subst hb;exact hpair.2.2 a ha (pv,pk) (by simp)
   ·rcases List.mem_append.1 hp with hp | hp
    ·exact hle p (by simp[hp])
    ·simp at hp;subst hp;exact Int.le_refl _
   ·rw[coef_append,coef_append,coef_cons,coef_cons,coef_nil]
    by_cases hv:pv=v<;>simp[hv]<;>omega
  ·rw[togStep_ne _ _ _ e]
   refine⟨List.pairwise_append.2 ⟨h,by simp,fun a ha b hb=> ?_⟩,fun p hp=> ?_,fun v=> ?_⟩
   ·simp at hb;subst hb
    rcases List.mem_append.1 ha with ha | ha
    ·have:=hpair.2.2 a ha (pv,pk) (by simp);simp only at this hp⊢;omega
    ·simp at ha;subst ha;simp only at hp⊢;omega
   ·rcases List.mem_append.1 hp with hp | hp
    ·exact hle p hp
    ·simp at hp;subst hp;exact Int.le_refl _
   ·rw[coef_append,coef_cons,coef_nil];omega
def Asc (l:List (Int×Int)):Prop:=∀i j,i<j→j<l.length→(l.getD i (0,0)).1≤(l.getD j (0,0)).1
theorem tog_up (l:List (Int×Int))(h:Asc l):∀k,k≤l.length→Up (tog (l.take k))∧(∀p∈tog (l.take k),∀j,k≤j→j<l.length→p.1≤(l.getD j (0,0)).1)∧∀v,coef (tog (l.take k)) v=coef (l.take k) v
 | 0,_=>⟨by simp[tog,Up],fun p hp=>by simp[tog]at hp,fun v=>by simp[tog]⟩
 | k+1,hk=>by
  obtain⟨h1,h2,h3⟩:=tog_up l h k (by omega)
  obtain⟨g1,g2,g3⟩:=togStep_up (m:=l.getD k (0,0)) h1 (fun p hp=>h2 p hp k (Nat.le_refl _) (by omega))
  rw[take_snoc l k (by omega),tog_snoc]
  refine⟨g1,fun p hp j hj hjl=> ?_,fun v=> ?_⟩
  ·exact Int.le_trans (g2 p hp) (h k j (by omega) hjl)
  ·rw[g3,coef_append,h3,coef_cons,coef_nil];omega
theorem coef_filter (l:List (Int×Int))(v:Int):coef (l.filter fun m=>m.2 != 0) v=coef l v:=by
 induction l with
 | nil=>rfl
 | cons m r ih=>
  by_cases h:m.2=0
  ·rw[List.filter_cons_of_neg (by simp[h]),ih,coef_cons];simp[h]
  ·rw[List.filter_cons_of_pos (by simp[h]),coef_cons,coef_cons,ih]
theorem tog_isSum (l:List (Int×Int))(h:Asc l):IsSum l ((tog l).filter fun m=>m.2 != 0):=by
 have:=tog_up l h l.length (Nat.le_refl _)
 rw[List.take_length]at this
 exact⟨this.1.filter _,fun m hm=>by have:=(List.mem_filter.1 hm).2;simpa using this,fun v=>(coef_filter _ v).trans (this.2.2 v)⟩
end
section
open Go.Shelf Go.RowKit Go.Lib Go.Sort
def encM (x:Int×Int):List Value:=[.int .i64 x.1,.int .i64 x.2]
theorem encM_flat (l:List (Int×Int)):(flatK encM 2 l.toArray).toList=flat l:=by
 apply List.ext_getElem?
 intro t
 by_cases ht:t<l.length*2
 ·have h1:(flatK encM 2 l.toArray)[t]! =(encM l.toArray[t / 2]!)[t % 2]! :=get_flatK _ _ _ _ (by simpa using ht)
  have h2:(flatK encM 2 l.toArray).toList[t]? =some ((flatK encM 2 l.toArray)[t]!):=by
   rw[Array.getElem?_toList,getElem!_pos _ t (by simpa using ht),Array.getElem?_eq_getElem (by simpa using ht)]
  rw[h2,h1]
  have hg:=flat_get l (t / 2) (by omega)
  have hx:l.toArray[t / 2]! =l.getD (t / 2) (0,0):=by
   rw[getElem!_pos _ (t / 2) (by simp;omega)]
   simp[List.getD_eq_getElem?_getD,show t / 2<l.length by omega]
  rw[hx]
  rcases Nat.mod_two_eq_zero_or_one t with hm | hm
  ·rw[hm];have e:t / 2*2=t:=by omega
   rw[e]at hg;rw[hg.1];rfl
  ·rw[hm];have e:t / 2*2+1=t:=by omega
   rw[e]at hg;rw[hg.2];rfl
 ·rw[List.getElem?_eq_none (by simp;omega),List.getElem?_eq_none (by rw[flat_len];omega)]
theorem isNaN_any (x:Int)(w:World):Calls Tryz.prog 127 #[.int .i64 x] w fun e w'=>e= .returned (.bool false)∧w=w':=by
 go_enter Tryz.func127,Tryz.ntmps127
 go_wp2
 go_ret
 exact⟨ret_bool (by simp),rfl⟩
theorem cmp_any (x y:Int)(w:World):Calls Tryz.prog 108 #[.int .i64 x,.int .i64 y] w fun e w'=>e= .returned (.int .i64 (Lib.compareInt x y))∧w=w':=by
 have hx:=fun W=>isNaN_any x W
 have hy:=fun W=>isNaN_any y W
 by_cases h1:x<y
 ·have hr:Lib.compareInt x y= -1:=by unfold Lib.compareInt;simp[h1]
  rw[hr]
  clear hr
  go_enter Tryz.func108,Tryz.ntmps108
  go_wp2_with fail
  refine(hx _).mono ?_
  rintro e w' ⟨rfl,rfl⟩
  go_wp2_with fail
  refine(hy _).mono ?_
  rintro e w' ⟨rfl,rfl⟩
  go_wp2_with fail
  go_ret
  exact⟨rfl,rfl⟩
 ·by_cases h2:y<x
  ·have hr:Lib.compareInt x y=1:=by unfold Lib.compareInt;simp[h1,h2]
   rw[hr]
   clear hr
   go_enter Tryz.func108,Tryz.ntmps108
   go_wp2_with fail
   refine(hx _).mono ?_
   rintro e w' ⟨rfl,rfl⟩
   go_wp2_with fail
   refine(hy _).mono ?_
   rintro e w' ⟨rfl,rfl⟩
   go_wp2_with fail
   go_ret
   exact⟨rfl,rfl⟩
  ·have hr:Lib.compareInt x y=0:=by unfold Lib.compareInt;simp[h1,h2]
   rw[hr]
   clear hr
   go_enter Tryz.func108,Tryz.ntmps108
   go_wp2_with fail
   refine(hx _).mono ?_
   rintro e w' ⟨rfl,rfl⟩
   go_wp2_with fail
   refine(hy _).mono ?_
   rintro e w' ⟨rfl,rfl⟩
   go_wp2_with fail
   go_ret
   exact⟨rfl,rfl⟩
theorem gatherLit_any (x y:Int×Int)(W:World):Calls Tryz.prog 107 #[.agg #[.int .i64 x.1,.int .i64 x.2],.agg #[.int .i64 y.1,.int .i64 y.2]] W fun e w'=>e= .returned (.int .i64 (Lib.compareInt x.1 y.1))∧∃q os',w'=grow (W.drewN q) os':=by
 have hcon:=fun W'=>cmp_any x.1 y.1 W'
 generalize Lib.compareInt x.1 y.1=r at hcon⊢
 go_enter Tryz.func107,Tryz.ntmps107
 go_wp2_with (go_at_call 108;refine(hcon _).mono ?_;rintro e w' ⟨rfl,rfl⟩)
 go_ret
 exact⟨rfl,0,_,by rw[alloc_eq_grow,alloc_eq_grow,grow_grow];rfl⟩
theorem cmpLaysM (blk off size:Nat)(w:World):CmpLays Tryz.prog 107 #[] encM 2 (fun x y=>Lib.compareInt x.1 y.1) blk off size w:=
 fun _ _ _ _ x y=>gatherLit_any x y _
theorem ltLo (x y:Int×Int):ltOf (fun x y:Int×Int=>Lib.compareInt x.1 y.1) x y=decide (x.1<y.1):=by
 unfold ltOf Lib.compareInt
 by_cases h1:x.1<y.1
 ·simp[h1]
 ·by_cases h2:y.1<x.1<;>simp[h1,h2]
theorem swoLo:SWO (ltOf fun x y:Int×Int=>Lib.compareInt x.1 y.1) where
 irrefl x:=by rw[ltLo];simp
 trans x y z h1 h2:=by rw[ltLo]at *; simp at *; omega
 ntrans x y z h1 h2:=by rw[ltLo]at *; simp at *; omega
theorem Tryz.enters39:∀args w,(callFunc 107 args).run Tryz.prog w= .ok (.enter 107 args) w:=fun _ _=>by kernel_rfl
def Sorted (B:Nat)(a:Option Addr)(l:List (Int×Int))(w w':World):Prop:=
 ∃l':List (Int×Int),l'.Perm l∧(∀i j,i<j→j<l'.length→(l'.getD i (0,0)).1≤(l'.getD j (0,0)).1)∧Lies w'.heap.size w' a l'∧RowKit.Below B w w'∧w.heap.size≤w'.heap.size∧∀k,k<w.heap.size→(∀b,a=some b→b.block≠k)→w'.heap[k]? =w.heap[k]?
theorem sort_any (g cap B:Nat)(l:List (Int×Int))(w:World)(h:Row B l (.slice (some ⟨g,0,none⟩) l.length cap) w)(hm:l.length≤8192):
  Calls Tryz.prog 106 #[.slice (some ⟨g,0,none⟩) l.length cap,.func (.func 107) #[] #[]] w fun e w'=>e= .returned (.tuple #[])∧Sorted B (some ⟨g,0,none⟩) l w w':=by
 have hlt:=World.ownsRow.lt h g rfl
 have hH:HoldsK encM 2 w g 0 l.toArray:=by
  intro j hj
  have hj':j<l.length*2:=by simpa using hj
  have hc:=World.ownsRow.cellAt h j hj'
  have hf:=World.ownsRow.frozenAt h j
  rw[←encM_flat,Array.getElem?_toList,Array.getElem?_eq_getElem hj]at hc
  rw[Nat.zero_add]
  exact⟨by rw[hc,getElem!_pos _ j hj];rfl,hf⟩
 have hcon:=AnyQ.slices_SortFunc Tryz.sortMono 2 Tryz.isAgg92 Tryz.sizeOf92 encM (fun _=>rfl) (fun x v hv=>by simp[encM]at hv;rcases hv with rfl | rfl<;>rfl) (fun x y=>Lib.compareInt x.1 y.1) swoLo 107 #[] g 0 cap l.toArray w Tryz.enters39 (cmpLaysM g 0 l.toArray.size w) hH hlt.2 (by simp;omega)
 refine hcon.mono ?_
 rintro e w' ⟨he,d',n,os,hp,hs,hw⟩
 have hkeep:∀k,k<w.heap.size→g≠k→w'.heap[k]? =w.heap[k]? :=fun k hkw hne=>by
  rw[hw]
  simp[sortWorldK,putRowK,putRow,mapBlock,ahead,grow,Array.getElem?_append,hkw,Array.getElem_modify,hne]
 have hsize:w.heap.size≤w'.heap.size:=by rw[hw];simp[sortWorldK,putRowK,ahead]
 refine⟨he,d'.toList, ?_, ?_, ?_,⟨by rw[hw];rfl,by rw[hw];rfl,by rw[hw];rfl,hsize,fun k hk=>hkeep k (by have:=hlt.1;have:=hlt.2;omega) (by have:=hlt.1;omega)⟩,hsize,fun k hk h=>hkeep k hk (h _ rfl)⟩
 ·have:=hp.2.2
  rw[Array.extract_eq_self_of_le (by rw[hp.1];exact Nat.le_refl _),Array.extract_eq_self_of_le (Nat.le_refl _)]at this
  simpa using this
 ·intro i j hij hj
  have hj':j<l.toArray.size:=by rw[←hp.1];simpa using hj
  have:=hs i j (Nat.zero_le _) hij hj'
  rw[ltLo]at this
  have hi2:i<d'.size:=by rw[hp.1];omega
  have hj2:j<d'.size:=by rw[hp.1];exact hj'
  rw[getElem!_pos d' i hi2,getElem!_pos d' j hj2]at this
  simp only[List.getD_eq_getElem?_getD]
  rw[List.getElem?_eq_getElem (by simpa using hi2),List.getElem?_eq_getElem (by simpa using hj2)]
  simpa using this
 ·have hH2:HoldsK encM 2 w' g 0 d':=by
   rw[hw]
   refine holdsK_grow _ _ _ _ _ _ _ ?_ ?_
   ·simpa [putRowK,ahead]using hlt.2
   ·exact holdsK_putRowK _ _ _ _ _ _ _ (holdsK_ahead _ _ _ _ _ _ _ hH) hp.1
  have hsz:g<w'.heap.size:=by rw[hw];simp[sortWorldK,putRowK,ahead];omega
  intro i hi
  have hi':i<d'.size:=by simpa using hi
  have h0:=(hH2.cell hi' (c:=0) (by omega)).1
  have h1:=(hH2.cell hi' (c:=1) (by omega)).1
  have hx:d'[i]! =d'.toList.getD i (0,0):=by
   rw[getElem!_pos d' i hi',List.getD_eq_getElem?_getD,List.getElem?_eq_getElem (by simpa using hi')];simp
  rw[hx]at h0 h1
  exact⟨g,0,rfl,hsz,h0,h1⟩
theorem sort_none (a:Option Addr)(cap:Nat)(fv:Value)(w:World):
  Calls Tryz.prog 106 #[.slice a 0 cap,fv] w fun e w'=>e= .returned (.tuple #[])∧w'=w:=
 AnyF.slices_SortFunc_none Tryz.sortMono a cap fv w
theorem sort_row (a:Option Addr)(n cap B:Nat)(l:List (Int×Int))(w:World)(hn:l.length=n)(h:Row B l (.slice a n cap) w)(hm:n≤8192):
  Calls Tryz.prog 106 #[.slice a n cap,.func (.func 107) #[] #[]] w fun e w'=>e= .returned (.tuple #[])∧Sorted B a l w w':=by
 subst hn
 by_cases h0:l.length=0
 ·have hl:=List.eq_nil_of_length_eq_zero h0
  subst hl
  exact(sort_none a cap _ w).mono fun _ _ ⟨he,hw⟩=>⟨he,[],List.Perm.refl _,fun i j _ hj=>absurd hj (Nat.not_lt_zero j),fun i hi=>absurd hi (Nat.not_lt_zero i),by rw[hw];exact Below.refl _ _,by rw[hw];exact Nat.le_refl _,fun k _ _=>by rw[hw]⟩
 ·obtain⟨g,cap',hv⟩:=Joins.ownsRow_form h (by omega)
  injection hv with h1 h2 h3
  subst h1
  exact sort_any g cap B l w h hm
end
section
open Go.RowKit
theorem Tryz.enters26:∀args w,(callFunc 48 args).run Tryz.prog w= .ok (.enter 48 args) w:=fun _ _=>by kernel_rfl
def mayAt (l:List (Int×Int))(i:Nat):Bool:=mst (l.getD i (0,0)).1 (l.getD i (0,0)).2
theorem mayAll_yes (a:Option Addr)(n cap:Nat)(l:List (Int×Int))(w:World)(B:Nat)(hB:B≤w.heap.size)(hn:l.length=n)(hm:n≤9223372036854775807)(hl:Lies B w a l)(h:∀i,i<n→mayAt l i=true):
  Calls Tryz.prog 46 #[.slice a n cap,.func (.func 48) #[] #[]] w fun e w'=>e= .returned (.bool true)∧Below B w w':=
 (all_yes 48 #[] a n cap l w (fun _ W=>B≤W.heap.size) (mayAt l) Tryz.enters26 hn hm B hB hl hB
  (fun _ W o h=>Nat.le_trans h ((Below.refl _ W).alloc (Nat.le_refl _) o).size)
  (fun i W _ _ hI=>(mayStand_any (l.getD i (0,0)).1 (l.getD i (0,0)).2 W).mono fun _ _ ⟨he,hb⟩=>⟨he,Nat.le_trans hI hb.size,hb.mono hI⟩)
  h).mono fun _ _ ⟨he,_,hb⟩=>⟨he,hb⟩
def LinOk (B:Nat)(c:Int)(R:List (Int×Int))(w:World)(e:Ending)(w':World):Prop:=∃v,e= .returned (.tuple #[.agg #[.int .i64 c,v],.nilIface])∧Row B R v w'∧Below B w w'
def LinErr (B:Nat)(k:Int)(w:World)(e:Ending)(w':World):Prop:=e= .returned (.tuple #[.agg #[.int .i64 0,.slice none 0 0],.iface 60 (.int .i64 k)])∧Below B w w'
theorem Row.mono {B B':Nat}{l:List (Int×Int)}{v:Value}{w:World}(h:Row B l v w)(hB:B'≤B):Row B' l v w:=Joins.ownsRow_le h hB
theorem Row.below {B:Nat}{l:List (Int×Int)}{v:Value}{w w':World}(h:Row B l v w)(hb:Below w.heap.size w w'):Row B l v w':=by
 obtain⟨h1,h2⟩:=h
 rcases h2 with h2 | ⟨g,cap,cur,hv,hg,hh,hr⟩
 ·exact⟨h1,.inl h2⟩
 refine⟨h1,.inr ?_⟩
 have hlt:g<w.heap.size:=by
  by_cases e:g<w.heap.size
  ·exact e
  ·rw[Array.getElem?_eq_none (by omega)]at hh;cases hh
 exact⟨g,cap,cur,hv,hg,by rw[hb.block g hlt];exact hh,hr⟩
theorem res_cells (w:World)(b:Nat)(x y u v:Value)(h0:w.cell? ⟨b,0,none⟩=some u)(h1:w.cell? ⟨b,1,none⟩=some v):
  (w.setCell ⟨b,0,none⟩ x).cell? ⟨b,0,none⟩=some x∧((w.setCell ⟨b,0,none⟩ x).setCell ⟨b,1,none⟩ y).cell? ⟨b,1,none⟩=some y:=by
 refine⟨World.cell?_setCell_same _ _ _ h0,World.cell?_setCell_same _ _ _ (u:=v) ?_⟩
 rw[World.cell?_setCell_other _ _ _ _ (by simp)]
 exact h1
theorem gather_ok (c:Int)(a:Option Addr)(n cap B:Nat)(l R:List (Int×Int))(w:World)(hn:l.length=n)(hrow:Row B l (.slice a n cap) w)(hB:B≤w.heap.size)(hm:n≤8192)(hbd:Bd 4398046511104 l)
  (hV:∀m∈l,0≤m.1∧m.1<1048576) (hR:IsSum l R) (hc:wi c 1073741824=true) (hk:∀m∈R,wi m.2 1073741824=true) (h64:R.length≤64):
  Calls Tryz.prog 78 #[.int .i64 c,.slice a n cap] w (LinOk B c R w):=by
 have hso:=fun W (hb:Below w.heap.size w W)=>sort_row a n cap B l W hn (hrow.below hb) hm
 have hglt:∀b,a=some b→b.block<w.heap.size:=fun b hb=>(World.ownsRow.lt hrow b.block (by rw[hb];rfl)).2
 have HA:Hid (∀i,i<R.length→mayAt R i=true):=fun i hi=>by
  have hmem:R.getD i (0,0)∈R:=by rw[List.getD_eq_getElem?_getD,List.getElem?_eq_getElem hi];simp
  unfold mayAt
  obtain⟨x,hx,hxe⟩:=hR.comes hmem
  rw[mst_t1 (by rw[←hxe];exact hV x hx)]
  exact hk _ hmem
 have HN:=Lib.hid hn
 have HR:=Lib.hid hR
 have HSO:=Lib.hid hso
 have HG:=Lib.hid hglt
 have hwi:=fun w=>within_any c 1073741824 w (by omega) (by omega)
 rw[hc]at hwi
 clear hso hn hR hrow hc hglt hk hV
 go_enter Tryz.func78,Tryz.ntmps78
 go_wp2_with fail
 refine(HSO.out _ ((Below.refl _ w).alloc (Nat.le_refl _) _)).mono ?_
 rintro e w1 ⟨rfl,l',hp,hasc,hlies,hb1,hz1,hkeep⟩
 have B1:Hid (Below B w w1):=((Below.refl B w).alloc hB _).trans hb1
 have hz1':w.heap.size<w1.heap.size:=by simp at hz1;omega
 have hblk:=hkeep w.heap.size (by simp) (fun b hb=>by have:=HG.out b hb;omega)
 have hpl:l'.length=n:=by rw[hp.length_eq,HN.out]
 have hto:=together_any a n cap l' w1 hpl hm hlies (fun m hm=>hbd m (hp.mem_iff.1 hm))
 have HT:Hid ((tog l').filter (fun m=>m.2 != 0)=R):=(tog_isSum l' hasc).unique (HR.out.perm hp.symm)
 have htl:(tog l').length≤n:=by have:=tog_len l' l'.length (Nat.le_refl _);rw[List.take_length]at this;omega
 have HK:=Lib.hid hblk
 clear hkeep hp hasc hlies hb1 hz1 hblk hbd HSO HG HR HN hpl
 go_wp2_with fail
 refine hto.mono ?_
 rintro e w2 ⟨v2,rfl,hrow2,hb2⟩
 obtain⟨a2,cap2,rfl,hlies2,_⟩:=hrow2.lies
 have B2:Hid (Below B w w2):=B1.out.trans (hb2.mono (by omega))
 have hz2:w.heap.size<w2.heap.size:=by have:=hb2.size;omega
 have hdr:=drop_any a2 (tog l').length cap2 (tog l') w2 rfl (by omega) hlies2
 rw[HT.out]at hdr
 have HB2:=Lib.hid hb2
 clear hto hrow2 hlies2 hb2
 go_wp2_with fail
 refine hdr.mono ?_
 rintro e w3 ⟨v3,rfl,hrow3,hb3⟩
 obtain⟨a3,cap3,rfl,hlies3,_⟩:=hrow3.lies
 have B3:Hid (Below B w w3):=B2.out.trans (hb3.mono (by omega))
 have hz3:w.heap.size<w3.heap.size:=by have:=hb3.size;omega
 have hblk3:w3.heap[w.heap.size]? =some (.cells #[.int .i64 0,.slice none 0 0] 36 (0,0)):=by
  rw[hb3.block _ hz2,HB2.out.block _ hz1',HK.out];exact heap_alloc_new w _
 have q0:w3.cell? ⟨w.heap.size,0,none⟩=some (.int .i64 0):=by rw[cell_of_row _ _ _ _ _ _ hblk3];rfl
 have q1:w3.cell? ⟨w.heap.size,1,none⟩=some (.slice none 0 0):=by rw[cell_of_row _ _ _ _ _ _ hblk3];rfl
 have qf:∀o,w3.frozen? ⟨w.heap.size,o,none⟩=false:=fun o=>frozen_of_row _ _ _ _ _ hblk3
 have hb4:Below w3.heap.size w3 (w3.alloc (.cells #[.int .i64 c,.slice a3 R.length cap3] 36)):=(Below.refl _ _).alloc (Nat.le_refl _) _
 have hall:=mayAll_yes a3 R.length cap3 R _ _ (Nat.le_refl _) rfl (by omega) ((hlies3.below hb4).mono hb4.size) HA.out
 have HB4:=Lib.hid hb4
 have HR3:=Lib.hid hrow3
 clear hdr hb3 hb4 hrow3 hlies3 hblk3
 go_wp2_with (first | (go_at_call 45;refine(hwi _).mono ?_;rintro e w' ⟨rfl,rfl⟩) | (go_at_call 46;refine hall.mono ?_;rintro e w5 ⟨rfl,hb5⟩;obtain⟨hc5,hf5⟩:=bcell hb5;have hz5:w3.heap.size<w5.heap.size:=(by have:=hb5.size;simp at this;omega);have hz6:w.heap.size<w5.heap.size:=(by omega)))
 have H5:Below w3.heap.size w3 w5:=HB4.out.trans (hb5.mono (by simp))
 have hrowf:Row B R (.slice a3 R.length cap3) ((w5.setCell ⟨w.heap.size,0,none⟩ (.int .i64 c)).setCell ⟨w.heap.size,1,none⟩ (.slice a3 R.length cap3)):=
  Row.mono (ownsRow_setCell_below (ownsRow_setCell_below (HR3.out.below H5) (by simpa using hz2) _) (by simpa using hz2) _) (by omega)
 have hbf:Below B w ((w5.setCell ⟨w.heap.size,0,none⟩ (.int .i64 c)).setCell ⟨w.heap.size,1,none⟩ (.slice a3 R.length cap3)):=
  ((B3.out.trans (H5.mono (by omega))).setCell (p:=⟨w.heap.size,0,none⟩) hB _).setCell (p:=⟨w.heap.size,1,none⟩) hB _
 refine bodyPost_ret (v:= .tuple #[.agg #[.int .i64 c,.slice a3 R.length cap3],.nilIface]) ?_ rfl ⟨_,rfl,hrowf,hbf⟩
 obtain⟨e0,e1⟩:=res_cells w5 w.heap.size (.int .i64 c) (.slice a3 R.length cap3) _ _ ((H5.cell (p:=⟨w.heap.size,0,none⟩) hz3).trans q0) ((H5.cell (p:=⟨w.heap.size,1,none⟩) hz3).trans q1)
 clear q0 q1 qf hc5 hf5
 simp[results,Tryz.results78,go_sem,e0,e1]
theorem gather_far1 (c:Int)(a:Option Addr)(n cap B:Nat)(l R:List (Int×Int))(w:World)(hn:l.length=n)(hrow:Row B l (.slice a n cap) w)(hB:B≤w.heap.size)(hm:n≤8192)(hbd:Bd 4398046511104 l)
  (hV:∀m∈l,0≤m.1∧m.1<1048576) (hR:IsSum l R) (hc:wi c 1073741824=false):
  Calls Tryz.prog 78 #[.int .i64 c,.slice a n cap] w (LinErr B 3 w):=by
 have hso:=fun W (hb:Below w.heap.size w W)=>sort_row a n cap B l W hn (hrow.below hb) hm
 have hglt:∀b,a=some b→b.block<w.heap.size:=fun b hb=>(World.ownsRow.lt hrow b.block (by rw[hb];rfl)).2
 have HN:=Lib.hid hn
 have HR:=Lib.hid hR
 have HSO:=Lib.hid hso
 have HG:=Lib.hid hglt
 have hwi:=fun w=>within_any c 1073741824 w (by omega) (by omega)
 rw[hc]at hwi
 clear hso hn hR hrow hc hglt hV
 go_enter Tryz.func78,Tryz.ntmps78
 go_wp2_with fail
 refine(HSO.out _ ((Below.refl _ w).alloc (Nat.le_refl _) _)).mono ?_
 rintro e w1 ⟨rfl,l',hp,hasc,hlies,hb1,hz1,hkeep⟩
 have B1:Hid (Below B w w1):=((Below.refl B w).alloc hB _).trans hb1
 have hz1':w.heap.size<w1.heap.size:=by simp at hz1;omega
 have hblk:=hkeep w.heap.size (by simp) (fun b hb=>by have:=HG.out b hb;omega)
 have hpl:l'.length=n:=by rw[hp.length_eq,HN.out]
 have hto:=together_any a n cap l' w1 hpl hm hlies (fun m hm=>hbd m (hp.mem_iff.1 hm))
 have HT:Hid ((tog l').filter (fun m=>m.2 != 0)=R):=(tog_isSum l' hasc).unique (HR.out.perm hp.symm)
 have htl:(tog l').length≤n:=by have:=tog_len l' l'.length (Nat.le_refl _);rw[List.take_length]at this;omega
 have HK:=Lib.hid hblk
 clear hkeep hp hasc hlies hb1 hz1 hblk hbd HSO HG HR HN hpl
 go_wp2_with fail
 refine hto.mono ?_
 rintro e w2 ⟨v2,rfl,hrow2,hb2⟩
 obtain⟨a2,cap2,rfl,hlies2,_⟩:=hrow2.lies
 have B2:Hid (Below B w w2):=B1.out.trans (hb2.mono (by omega))
 have hz2:w.heap.size<w2.heap.size:=by have:=hb2.size;omega
 have hdr:=drop_any a2 (tog l').length cap2 (tog l') w2 rfl (by omega) hlies2
 rw[HT.out]at hdr
 have HB2:=Lib.hid hb2
 clear hto hrow2 hlies2 hb2
 go_wp2_with fail
 refine hdr.mono ?_
 rintro e w3 ⟨v3,rfl,hrow3,hb3⟩
 obtain⟨a3,cap3,rfl,hlies3,_⟩:=hrow3.lies
 have B3:Hid (Below B w w3):=B2.out.trans (hb3.mono (by omega))
 have hz3:w.heap.size<w3.heap.size:=by have:=hb3.size;omega
 have hblk3:w3.heap[w.heap.size]? =some (.cells #[.int .i64 0,.slice none 0 0] 36 (0,0)):=by
  rw[hb3.block _ hz2,HB2.out.block _ hz1',HK.out];exact heap_alloc_new w _
 have q0:w3.cell? ⟨w.heap.size,0,none⟩=some (.int .i64 0):=by rw[cell_of_row _ _ _ _ _ _ hblk3];rfl
 have q1:w3.cell? ⟨w.heap.size,1,none⟩=some (.slice none 0 0):=by rw[cell_of_row _ _ _ _ _ _ hblk3];rfl
 have qf:∀o,w3.frozen? ⟨w.heap.size,o,none⟩=false:=fun o=>frozen_of_row _ _ _ _ _ hblk3
 have hb4:Below w3.heap.size w3 (w3.alloc (.cells #[.int .i64 c,.slice a3 R.length cap3] 36)):=(Below.refl _ _).alloc (Nat.le_refl _) _
 clear hdr hb3 hb4 hrow3 hlies3 hblk3
 go_wp2_with (go_at_call 45;refine(hwi _).mono ?_;rintro e w' ⟨rfl,rfl⟩)
 have hbf:=(((B3.out.setCell (p:=⟨w.heap.size,0,none⟩) hB (.int .i64 0)).setCell (p:=⟨w.heap.size,1,none⟩) hB (.slice none 0 0))).alloc (by simp;omega) (.cells #[.int .i64 c,.slice a3 R.length cap3] 36)
 obtain⟨e0,e1⟩:=res_cells w3 w.heap.size (.int .i64 0) (.slice none 0 0) _ _ q0 q1
 refine bodyPost_ret (v:= .tuple #[.agg #[.int .i64 0,.slice none 0 0],.iface 60 (.int .i64 3)]) ?_ rfl ⟨rfl,hbf⟩
 clear q0 q1 qf
 simp[results,Tryz.results78,go_sem,e0,e1,hz3]
end
section
open Go.RowKit
theorem append_two (w:World)(ty:TypeId){B B2:Nat}{v v2:Value}{r r2:List (Int×Int)}(h:Row B r v w)(h2:Row B2 r2 v2 w)(hB:B≤w.heap.size)(hlen:r.length+r2.length≤8192):
  ∃v' w',(Builtin.append_ #[34,34] ty #[v,v2]).run Tryz.prog w= .ok v' w'∧Row B (r ++ r2) v' w'∧w.grownBy w' v.ownBlock:=by
 obtain⟨i0,hi,hz0,hz1,hz2⟩:=info_parts Tryz.infoMono
 obtain⟨a2,cap2,rfl,hl2,hnil⟩:=h2.lies
 cases a2 with
 | none=>
  obtain⟨h0,rfl⟩:=hnil rfl
  have hr:r2=[]:=List.eq_nil_of_length_eq_zero h0
  subst hr
  exact⟨v,w,run_append_owned_none w B _ ty _ i0 2 Tryz.underlying34 hi v _ _ h,by simpa using h,World.grownBy.refl w _⟩
 | some ad=>
  obtain⟨v',w',hr,h3,h4,_⟩:=run_append_own w B 34 ty 92 i0 _ 2 16 Tryz.underlying34 hi hz0 hz1 hz2 rfl (by decide) v r.length (flat r) h ad r2.length cap2 (flat r2) (flat_len r2) hl2.news (flat_cells r2) (by unfold maxLen;omega) (by omega) hB
  refine⟨v',w',hr, ?_,h4⟩
  unfold Row
  rw[List.length_append,flat_append]
  exact h3
theorem step_append_two {w:World}{ops:Array Oper}{o:Oper}{a:Act}{K:Act→World→Prop}{Q:Exit→Act→World→Prop}{E:Prop}(hgd:o.guard=none)(s x:Operand)
  (ho:o.op= .call { callee:= .builtin .append,args:= #[s,x],argTypes:= #[34,34] })
  (B B2:Nat) (v v2:Value) (r r2:List (Int×Int)) (hs:a.eval s=v) (hx:a.eval x=v2) (h:Row B r v w) (h2:Row B2 r2 v2 w) (hB:B≤w.heap.size) (hlen:r.length+r2.length≤8192)
  (hK:∀a' cap w',Row B (r ++ r2) (.slice a' (r.length+r2.length) cap) w'→w.grownBy w' v.ownBlock→K (a.put o.dst (.slice a' (r.length+r2.length) cap)) w'):
  if Region.wanted o (yielded ops a.tmps)=true then Oper.wp Tryz.prog o a w K Q else E:=by
 have hw:Region.wanted o (yielded ops a.tmps)=true:=by simp[Region.wanted,hgd]
 rw[if_pos hw]
 obtain⟨v',w',hr,h3,h4⟩:=append_two w o.type h h2 hB hlen
 obtain⟨a',cap,rfl,_,_⟩:=h3.lies
 rw[List.length_append]at hr h3
 unfold Oper.wp execOp
 simp only[ho,resolve,invoke,builtin,Sem.run_bind,Sem.run_pure,Result.andThen_ok,List.map_toArray,List.map_cons,List.map_nil,hs,hx,hr]
 exact hK _ _ _ h3 h4
end
end Go.Proofs.YtipahfcaplbifaaGreatDoor
