/- Parts of a proof. -/
import Derived.Test.YtfinhpfjokpcfaaGreatDoorQ02
import Derived.Deep.RegionLaw
import Derived.Deep.RegionHeld3
import Derived.BigRegion
set_option linter.unusedVariables false
set_option linter.unusedSimpArgs false
set_option maxHeartbeats 60000000
set_option maxRecDepth 100000
namespace Go.Proofs.YtfinhpfjokpcfaaGreatDoor
section
open Go.RowKit
def addLast (l:List HC)(s:HC):List HC:=if 0<l.length∧hkey (l.getD (l.length - 1) hc0)=hkey s then l.take (l.length - 1) ++ [⟨(l.getD (l.length - 1) hc0).a,(l.getD (l.length - 1) hc0).f,(l.getD (l.length - 1) hc0).v+s.v⟩] else l ++ [s]
def joinTo (ys:List HC):Nat→List HC
 | 0=>[]
 | k+1=>addLast (joinTo ys k) (ys.getD k hc0)
theorem addLast_len (l:List HC)(s:HC):(addLast l s).length≤l.length+1:=by
 unfold addLast
 split
 ·rw[List.length_append,List.length_take,List.length_cons,List.length_nil];omega
 ·simp
theorem joinTo_len (ys:List HC):∀k,(joinTo ys k).length≤k
 | 0=>Nat.le_refl _
 | k+1=>Nat.le_trans (addLast_len _ _) (Nat.succ_le_succ (joinTo_len ys k))
def BoundV (l:List HC)(b:Int):Prop:=∀c,c∈l→ -b≤c.v∧c.v≤b
theorem getD_memH {l:List HC}{i:Nat}(h:i<l.length):l.getD i hc0∈l:=by
 rw[List.getD_eq_getElem?_getD,List.getElem?_eq_getElem h];exact List.getElem_mem h
theorem addLast_bound {l:List HC}{s:HC}{b c:Int}(h:BoundV l b)(hs: -c≤s.v∧s.v≤c)(hb:0≤b)(hc:0≤c):BoundV (addLast l s) (b+c):=by
 unfold addLast
 split
 ·rename_i hh
  intro x hx
  rcases List.mem_append.1 hx with h1 | h1
  ·have:=h x (List.mem_of_mem_take h1);omega
  ·obtain rfl:=List.mem_singleton.1 h1
   have:=h _ (getD_memH (l:=l) (i:=l.length - 1) (by omega))
   simp only
   omega
 ·intro x hx
  rcases List.mem_append.1 hx with h1 | h1
  ·have:=h x h1;omega
  ·obtain rfl:=List.mem_singleton.1 h1;omega
theorem joinTo_bound {ys:List HC}{c:Int}(h:BoundV ys c)(hc:0≤c):∀k,k≤ys.length→BoundV (joinTo ys k) (k*c)
 | 0,_=>fun x hx=>by cases hx
 | k+1,hk=>by
   have h1:=joinTo_bound h hc k (by omega)
   have h2:=addLast_bound h1 (h _ (getD_memH (l:=ys) (i:=k) (by omega))) (Int.mul_nonneg (by omega) hc) hc
   have e:((k+1:Nat):Int)*c=(k:Int)*c+c:=by rw[Int.natCast_add,Int.add_mul];simp
   rw[e]
   exact h2
def SRow (B:Nat)(xs:List HC)(v:Value)(w:World):Prop:=w.ownsRow B 62 3 v xs.length (hcells xs)
theorem SRow.nil (B:Nat)(w:World):SRow B [] (.slice none 0 0) w:=World.ownsRow_nil _ _ _ _
theorem SRow.below {B:Nat}{xs:List HC}{v:Value}{w w':World}(h:SRow B xs v w)(hb:Below w.heap.size w w'):SRow B xs v w':=
 World.ownsRow.kept (row:=none) h ⟨hb.os,hb.tape,hb.output,hb.size,fun q hq _=>hb.block q hq⟩ (by cases v.ownBlock<;>simp)
theorem SRow.form {B:Nat}{xs:List HC}{v:Value}{w:World}(h:SRow B xs v w)(hpos:0<xs.length):∃g cap,v= .slice (some ⟨g,0,none⟩) xs.length cap∧xs.length≤cap∧B≤g∧g<w.heap.size∧HLies w.heap.size w (some ⟨g,0,none⟩) xs:=by
 obtain⟨g,cap,rfl,h1,h2⟩:=World.ownsRow.form h hpos
 obtain⟨a,cap',e,h3,_,h5,_⟩:=own_hlies rfl h
 injection e with e1 e2 e3
 subst e1 e3
 exact⟨g,cap,rfl,h3,h1,h2,h5⟩
theorem run_append_share {w:World}(ty:TypeId)(B:Nat)(xs:List HC)(v:Value)(c:HC)(hown:SRow B xs v w)(hB:B≤w.heap.size)(hsz:xs.length≤1000000):
 ∃v' w',(Builtin.append_ #[52,52] ty #[v,.slice (some ⟨w.heap.size,0,none⟩) 1 1]).run Tryz.prog (w.alloc (.cells #[.int .i64 c.a,.string c.f,.int .i64 c.v] 62))= .ok v' w'∧SRow B (xs ++ [c]) v' w'∧Below B w w':=by
 obtain⟨i0,hi,hz0,hz1,hz2⟩:=info_parts Tryz.infoShare
 have hA:Below w.heap.size w (w.alloc (.cells #[.int .i64 c.a,.string c.f,.int .i64 c.v] 62)):=(Below.refl _ w).alloc (Nat.le_refl _) _
 have hown2:(w.alloc (.cells #[.int .i64 c.a,.string c.f,.int .i64 c.v] 62)).ownsRow B 62 3 v xs.length (hcells xs):=hown.below hA
 have hl:HLies (w.alloc (.cells #[.int .i64 c.a,.string c.f,.int .i64 c.v] 62)).heap.size (w.alloc (.cells #[.int .i64 c.a,.string c.f,.int .i64 c.v] 62)) (some ⟨w.heap.size,0,none⟩) [c]:=(hlies_new w [c] 62).mono (by simp)
 obtain⟨v',w',hr,h1,_,h3⟩:=run_append_h (P:=Tryz.prog) B 52 ty 62 i0 _ Tryz.underlying52 hi hz0 hz1 hz2 rfl v xs.length xs rfl hown2 (Nat.le_trans hB hA.size) (some ⟨w.heap.size,0,none⟩) 1 1 [c] rfl hl (by omega)
 refine⟨v',w',hr, ?_,(hA.mono hB).trans h3⟩
 unfold SRow
 rw[List.length_append]
 exact h1
theorem hcells_set:∀(xs:List HC) (i:Nat) (u:Int),i<xs.length→(hcells xs).set (i*3+2) (.int .i64 u)=hcells (xs.set i ⟨(xs.getD i hc0).a,(xs.getD i hc0).f,u⟩)
 | [],i,_,h=>absurd h (Nat.not_lt_zero i)
 | x :: xs,0,u,_=>rfl
 | x :: xs,i+1,u,h=>by
   have:=hcells_set xs i u (by simpa using h)
   rw[show(i+1)*3+2=(i*3+2)+3 by omega]
   simp only[List.set_cons_succ,List.getD_cons_succ]
   show[Value.int .i64 x.a,.string x.f,.int .i64 x.v] ++ (hcells xs).set (i*3+2) (.int .i64 u)=[Value.int .i64 x.a,.string x.f,.int .i64 x.v] ++ hcells (xs.set i ⟨(xs.getD i hc0).a,(xs.getD i hc0).f,u⟩)
   rw[this]
theorem set_last (xs:List HC)(c:HC)(h:0<xs.length):xs.set (xs.length - 1) c=xs.take (xs.length - 1) ++ [c]:=by
 rw[List.set_eq_take_append_cons_drop,if_pos (by omega),List.drop_eq_nil_of_le (by omega)]
theorem SRow.stored {B g cap m:Nat}{xs:List HC}{w:World}(h:SRow B xs (.slice (some ⟨g,0,none⟩) (m+1) cap) w)(hm:xs.length=m+1)(u:Int):SRow B (xs.take m ++ [⟨(xs.getD m hc0).a,(xs.getD m hc0).f,u⟩]) (.slice (some ⟨g,0,none⟩) (m+1) cap) (w.setCell ⟨g,m*3+2,none⟩ (.int .i64 u)):=by
 have h':w.ownsRow B 62 3 (.slice (some ⟨g,0,none⟩) (m+1) cap) (m+1) (hcells xs):=by rw[←hm]at h⊢;exact h
 have:=(World.ownsRow.stored h' (m*3+2) (.int .i64 u)).1
 rw[hcells_set xs m u (by omega)]at this
 have e:=set_last xs ⟨(xs.getD m hc0).a,(xs.getD m hc0).f,u⟩ (by omega)
 rw[hm,Nat.add_sub_cancel]at e
 rw[e]at this
 unfold SRow
 rw[List.length_append,List.length_take,hm,show min m (m+1)=m by omega]
 exact this
structure SortIs (xs zs:List HC):Prop where
 perm:xs.Perm zs
 sorted:∀i j,i<j→j<zs.length→¬kl (hkey (zs.getD j hc0)) (hkey (zs.getD i hc0))=true
def SortEnd (xs:List HC)(B:Nat)(v:Value)(W:World)(e:Ending)(w':World):Prop:=e= .returned (.tuple #[])∧∃zs,SortIs xs zs∧SRow B zs v w'∧Below B W w'
def SortSaid (xs:List HC):Prop:=∀(W:World) (B:Nat) (v:Value),SRow B xs v W→B≤W.heap.size→Calls Tryz.prog 43 #[v,.func (.func 44) #[] #[]] W (SortEnd xs B v W)
end
section
open Go.RowKit
def Str (l:List HC):Prop:=l.Pairwise fun x y=>kl (hkey x) (hkey y)=true
def tot:List HC→Key→Int
 | [],_=>0
 | x :: l,k=>(if hkey x=k then x.v else 0)+tot l k
def Hs (l:List HC)(k:Key):Prop:=∃c,c∈l∧hkey c=k
theorem tot_append:∀(l m:List HC) (k:Key),tot (l ++ m) k=tot l k+tot m k
 | [],m,k=>by simp[tot]
 | x :: l,m,k=>by
   show(if hkey x=k then x.v else 0)+tot (l ++ m) k=(if hkey x=k then x.v else 0)+tot l k+tot m k
   rw[tot_append l m k]
   omega
theorem tot_perm {l m:List HC}(h:l.Perm m)(k:Key):tot l k=tot m k:=by
 induction h with
 | nil=>rfl
 | cons x _ ih=>simp only[tot];rw[ih]
 | swap x y l=>simp only[tot];omega
 | trans _ _ h1 h2=>exact h1.trans h2
theorem hs_perm {l m:List HC}(h:l.Perm m)(k:Key):Hs l k↔Hs m k:=⟨fun⟨c,h1,h2⟩=>⟨c,h.mem_iff.1 h1,h2⟩,fun⟨c,h1,h2⟩=>⟨c,h.mem_iff.2 h1,h2⟩⟩
theorem tot_none {l:List HC}{k:Key}(h:¬Hs l k):tot l k=0:=by
 induction l with
 | nil=>rfl
 | cons x l ih=>
   show(if hkey x=k then x.v else 0)+tot l k=0
   rw[if_neg (fun e=>h ⟨x,List.mem_cons_self,e⟩),ih (fun⟨c,h1,h2⟩=>h ⟨c,List.mem_cons_of_mem _ h1,h2⟩)]
   rfl
theorem str_not {x:HC}{l:List HC}(h:Str (x :: l)):¬Hs l (hkey x):=fun⟨c,h1,h2⟩=>kl_ne ((List.pairwise_cons.1 h).1 c h1) h2.symm
theorem str_unique:∀ {l m:List HC},Str l→Str m→(∀k,Hs l k↔Hs m k)→(∀k,tot l k=tot m k)→l=m
 | [],[],_,_,_,_=>rfl
 | [],y :: m,_,_,h,_=>absurd ((h (hkey y)).2 ⟨y,List.mem_cons_self,rfl⟩) (fun⟨c,h1,_⟩=>by cases h1)
 | x :: l,[],_,_,h,_=>absurd ((h (hkey x)).1 ⟨x,List.mem_cons_self,rfl⟩) (fun⟨c,h1,_⟩=>by cases h1)
 | x :: l,y :: m,h1,h2,h,ht=>by
   have e:hkey x=hkey y:=by
    obtain⟨c,c1,c2⟩:=(h (hkey x)).1 ⟨x,List.mem_cons_self,rfl⟩
    obtain⟨d,d1,d2⟩:=(h (hkey y)).2 ⟨y,List.mem_cons_self,rfl⟩
    rcases List.mem_cons.1 c1 with rfl | c1
    ·exact c2.symm
    ·rcases List.mem_cons.1 d1 with rfl | d1
     ·exact d2
     ·have k1:=(List.pairwise_cons.1 h2).1 c c1
      have k2:=(List.pairwise_cons.1 h1).1 d d1
      rw[c2]at k1
      rw[d2]at k2
      exact absurd k2 (kl_asymm k1)
   have ev:x.v=y.v:=by
    have:=ht (hkey x)
    simp only[tot]at this
    rw[if_pos e.symm,tot_none (str_not h1),tot_none (e ▸ str_not h2),if_pos trivial]at this
    omega
   have exy:x=y:=HC.ext' e ev
   subst exy
   congr 1
   refine str_unique (List.pairwise_cons.1 h1).2 (List.pairwise_cons.1 h2).2 (fun k=> ?_) (fun k=> ?_)
   ·by_cases ek:hkey x=k
    ·subst ek
     exact⟨fun h=>absurd h (str_not h1),fun h=>absurd h (str_not h2)⟩
    ·constructor
     ·rintro⟨c,c1,c2⟩
      obtain⟨d,d1,d2⟩:=(h k).1 ⟨c,List.mem_cons_of_mem _ c1,c2⟩
      rcases List.mem_cons.1 d1 with rfl | d1
      ·exact absurd d2 ek
      ·exact⟨d,d1,d2⟩
     ·rintro⟨c,c1,c2⟩
      obtain⟨d,d1,d2⟩:=(h k).2 ⟨c,List.mem_cons_of_mem _ c1,c2⟩
      rcases List.mem_cons.1 d1 with rfl | d1
      ·exact absurd d2 ek
      ·exact⟨d,d1,d2⟩
   ·have:=ht k
    simp only[tot]at this
    omega
def addD (s:HC):Bool→List HC→List HC
 | d,[]=>if d=true then[] else[s]
 | d,x :: l=>if hkey x=hkey s then⟨s.a,s.f,x.v+s.v⟩ :: addD s true l else if(!d && kl (hkey s) (hkey x))=true then s :: x :: addD s true l else x :: addD s d l
theorem addD_done {s:HC}:∀ {l:List HC},(∀c,c∈l→kl (hkey s) (hkey c)=true)→addD s true l=l
 | [],_=>rfl
 | x :: l,h=>by
   unfold addD
   rw[if_neg (fun e=>kl_ne (h x List.mem_cons_self) e.symm),if_neg (by simp),addD_done (fun c hc=>h c (List.mem_cons_of_mem _ hc))]
structure Added (l m:List HC)(s:HC):Prop where
 str:Str m
 hs:∀k,Hs m k↔Hs l k∨hkey s=k
 tot:∀k,tot m k=tot l k+if hkey s=k then s.v else 0
theorem hs_cons {x:HC}{l:List HC}{k:Key}:Hs (x :: l) k↔hkey x=k∨Hs l k:=by
 constructor
 ·rintro⟨c,h1,h2⟩
  rcases List.mem_cons.1 h1 with rfl | h1
  ·exact .inl h2
  ·exact .inr ⟨c,h1,h2⟩
 ·rintro(h | ⟨c,h1,h2⟩)
  ·exact⟨x,List.mem_cons_self,h⟩
  ·exact⟨c,List.mem_cons_of_mem _ h1,h2⟩
theorem hs_nil {k:Key}:¬Hs [] k:=fun⟨c,h,_⟩=>by cases h
theorem addD_is {s:HC}:∀ {l:List HC},Str l→Added l (addD s false l) s
 | [],_=>⟨List.pairwise_singleton _ _,fun k=>by
     show Hs [s] k↔_
     rw[hs_cons]
     exact⟨fun h=>h.elim .inr .inl,fun h=>h.elim .inr .inl⟩,fun k=>by
     show(if hkey s=k then s.v else 0)+0=0+_
     omega⟩
 | x :: l,h=>by
   obtain⟨h1,h2⟩:=List.pairwise_cons.1 h
   by_cases e:hkey x=hkey s
   ·have ed:addD s false (x :: l)=⟨s.a,s.f,x.v+s.v⟩ :: l:=by
     unfold addD
     rw[if_pos e,addD_done (fun c hc=>by rw[←e];exact h1 c hc)]
    have ek:hkey (⟨s.a,s.f,x.v+s.v⟩:HC)=hkey s:=rfl
    rw[ed]
    refine⟨List.pairwise_cons.2 ⟨fun c hc=>by rw[ek,←e];exact h1 c hc,h2⟩,fun k=> ?_,fun k=> ?_⟩
    ·rw[hs_cons,hs_cons,ek,e]
     exact⟨fun h=>h.elim .inr (fun h=> .inl (.inr h)),fun h=>h.elim id .inl⟩
    ·simp only[tot]
     rw[ek,e]
     split<;>omega
   ·by_cases lt:kl (hkey s) (hkey x)=true
    ·have ed:addD s false (x :: l)=s :: x :: l:=by
      unfold addD
      rw[if_neg e,if_pos (by simp[lt]),addD_done (fun c hc=>kl_trans lt (h1 c hc))]
     rw[ed]
     refine⟨List.pairwise_cons.2 ⟨fun c hc=> ?_,h⟩,fun k=> ?_,fun k=> ?_⟩
     ·rcases List.mem_cons.1 hc with rfl | hc
      ·exact lt
      ·exact kl_trans lt (h1 c hc)
     ·rw[hs_cons]
      exact⟨fun h=>h.elim .inr .inl,fun h=>h.elim .inr .inl⟩
     ·simp only[tot]
      omega
    ·have ed:addD s false (x :: l)=x :: addD s false l:=by
      conv=>lhs;unfold addD
      rw[if_neg e,if_neg (by simp[lt])]
     obtain⟨i1,i2,i3⟩:=addD_is (s:=s) h2
     rw[ed]
     refine⟨List.pairwise_cons.2 ⟨fun c hc=> ?_,i1⟩,fun k=> ?_,fun k=> ?_⟩
     ·rcases(i2 (hkey c)).1 ⟨c,hc,rfl⟩with ⟨d,d1,d2⟩ | d
      ·rw[←d2];exact h1 d d1
      ·rw[←d]
       rcases kl_total e with k1 | k1
       ·exact k1
       ·exact absurd k1 lt
     ·rw[hs_cons,hs_cons,i2 k]
      constructor
      ·rintro(h | h | h)
       ·exact .inl (.inl h)
       ·exact .inl (.inr h)
       ·exact .inr h
      ·rintro((h | h) | h)
       ·exact .inl h
       ·exact .inr (.inl h)
       ·exact .inr (.inr h)
     ·simp only[tot]
      rw[i3 k]
      omega
def joinD (ys:List HC):List HC:=ys.foldl (fun l s=>addD s false l) []
theorem fold_is:∀(ys:List HC) {l:List HC},Str l→Str (ys.foldl (fun l s=>addD s false l) l)∧(∀k,Hs (ys.foldl (fun l s=>addD s false l) l) k↔Hs l k∨Hs ys k)∧(∀k,tot (ys.foldl (fun l s=>addD s false l) l) k=tot l k+tot ys k)
 | [],l,h=>⟨h,fun k=>⟨.inl,fun h=>h.elim id (fun h=>absurd h hs_nil)⟩,fun k=>by simp[tot]⟩
 | y :: ys,l,h=>by
   obtain⟨i1,i2,i3⟩:=addD_is (s:=y) h
   obtain⟨j1,j2,j3⟩:=fold_is ys i1
   refine⟨j1,fun k=> ?_,fun k=> ?_⟩
   ·show Hs (ys.foldl _ (addD y false l)) k↔_
    rw[j2 k,i2 k,hs_cons]
    constructor
    ·rintro((h | h) | h)
     ·exact .inl h
     ·exact .inr (.inl h)
     ·exact .inr (.inr h)
    ·rintro(h | h | h)
     ·exact .inl (.inl h)
     ·exact .inl (.inr h)
     ·exact .inr h
   ·show tot (ys.foldl _ (addD y false l)) k=_
    rw[j3 k,i3 k]
    simp only[tot]
    omega
theorem snoc_of {l:List HC}(h:0<l.length):l=l.take (l.length - 1) ++ [l.getD (l.length - 1) hc0]:=by
 have:=take_snocH l (l.length - 1) (by omega)
 rw[show l.length - 1+1=l.length by omega,List.take_length]at this
 exact this
theorem addLast_is {l:List HC}{s:HC}(h:Str l)(hle:∀c,c∈l→¬kl (hkey s) (hkey c)=true):Added l (addLast l s) s:=by
 by_cases e:0<l.length∧hkey (l.getD (l.length - 1) hc0)=hkey s
 ·unfold addLast
  rw[if_pos e]
  have el:=snoc_of e.1
  generalize l.take (l.length - 1)=m at el⊢
  obtain⟨_,e2⟩:=e
  generalize l.getD (l.length - 1) hc0=x at el e2⊢
  subst el
  have ek:hkey (⟨x.a,x.f,x.v+s.v⟩:HC)=hkey x:=rfl
  obtain⟨p1,_,p3⟩:=List.pairwise_append.1 h
  refine⟨List.pairwise_append.2 ⟨p1,List.pairwise_singleton _ _,fun a ha b hb=> ?_⟩,fun k=> ?_,fun k=> ?_⟩
  ·rw[List.mem_singleton.1 hb,ek]
   exact p3 a ha x (List.mem_singleton.2 rfl)
  ·constructor
   ·rintro⟨c,c1,c2⟩
    rcases List.mem_append.1 c1 with c1 | c1
    ·exact .inl ⟨c,List.mem_append_left _ c1,c2⟩
    ·rw[List.mem_singleton.1 c1,ek,e2]at c2
     exact .inr c2
   ·rintro(⟨c,c1,c2⟩ | c)
    ·rcases List.mem_append.1 c1 with c1 | c1
     ·exact⟨c,List.mem_append_left _ c1,c2⟩
     ·rw[List.mem_singleton.1 c1]at c2
      exact⟨_,List.mem_append_right _ (List.mem_singleton.2 rfl),c2⟩
    ·exact⟨_,List.mem_append_right _ (List.mem_singleton.2 rfl),by rw[ek,e2,c]⟩
  ·rw[tot_append,tot_append]
   simp only[tot]
   rw[ek,e2]
   split<;>omega
 ·unfold addLast
  rw[if_neg e]
  refine⟨List.pairwise_append.2 ⟨h,List.pairwise_singleton _ _,fun a ha b hb=> ?_⟩,fun k=> ?_,fun k=> ?_⟩
  ·rw[List.mem_singleton.1 hb]
   have hpos:0<l.length:=List.length_pos_of_mem ha
   have hne:hkey (l.getD (l.length - 1) hc0)≠hkey s:=fun h=>e ⟨hpos,h⟩
   have hlast:=hle _ (getD_memH (l:=l) (i:=l.length - 1) (by omega))
   have hls:kl (hkey (l.getD (l.length - 1) hc0)) (hkey s)=true:=by
    rcases kl_total hne with k1 | k1
    ·exact k1
    ·exact absurd k1 hlast
   have el:=snoc_of hpos
   rw[el]at ha
   rcases List.mem_append.1 ha with h1 | h1
   ·have h3:Str (l.take (l.length - 1) ++ [l.getD (l.length - 1) hc0]):=by rw[←el];exact h
    exact kl_trans ((List.pairwise_append.1 h3).2.2 a h1 _ (List.mem_singleton.2 rfl)) hls
   ·rw[List.mem_singleton.1 h1];exact hls
  ·constructor
   ·rintro⟨c,c1,c2⟩
    rcases List.mem_append.1 c1 with c1 | c1
    ·exact .inl ⟨c,c1,c2⟩
    ·rw[List.mem_singleton.1 c1]at c2;exact .inr c2
   ·rintro(⟨c,c1,c2⟩ | c)
    ·exact⟨c,List.mem_append_left _ c1,c2⟩
    ·exact⟨s,List.mem_append_right _ (List.mem_singleton.2 rfl),c⟩
  ·rw[tot_append]
   simp only[tot]
   omega
theorem joinTo_is {zs:List HC}(hs:∀i j,i<j→j<zs.length→¬kl (hkey (zs.getD j hc0)) (hkey (zs.getD i hc0))=true):∀k,k≤zs.length→Str (joinTo zs k)∧(∀q,Hs (joinTo zs k) q↔Hs (zs.take k) q)∧(∀q,tot (joinTo zs k) q=tot (zs.take k) q)
 | 0,_=>⟨List.Pairwise.nil,fun q=>Iff.rfl,fun q=>rfl⟩
 | k+1,hk=>by
   obtain⟨i1,i2,i3⟩:=joinTo_is hs k (by omega)
   obtain⟨j1,j2,j3⟩:=addLast_is (l:=joinTo zs k) (s:=zs.getD k hc0) i1 (fun c hc=>by
    obtain⟨d,d1,d2⟩:=(i2 (hkey c)).1 ⟨c,hc,rfl⟩
    obtain⟨i,hi,e⟩:=List.mem_iff_getElem.1 d1
    rw[List.length_take]at hi
    have h3:=hs i k (by omega) (by omega)
    have h4:zs.getD i hc0=d:=by
     rw[←e,List.getElem_take,List.getD_eq_getElem?_getD,List.getElem?_eq_getElem (by omega)]
     rfl
    rw[h4,d2]at h3
    exact h3)
   refine⟨j1,fun q=> ?_,fun q=> ?_⟩
   ·show Hs (addLast _ _) q↔_
    rw[j2 q,i2 q,take_snocH zs k (by omega)]
    constructor
    ·rintro(⟨c,c1,c2⟩ | c)
     ·exact⟨c,List.mem_append_left _ c1,c2⟩
     ·exact⟨_,List.mem_append_right _ (List.mem_singleton.2 rfl),c⟩
    ·rintro⟨c,c1,c2⟩
     rcases List.mem_append.1 c1 with c1 | c1
     ·exact .inl ⟨c,c1,c2⟩
     ·rw[List.mem_singleton.1 c1]at c2;exact .inr c2
   ·show tot (addLast _ _) q=_
    rw[j3 q,i3 q,take_snocH zs k (by omega),tot_append]
    simp only[tot]
    omega
theorem join_is {xs zs:List HC}(h:SortIs xs zs):joinTo zs zs.length=joinD xs:=by
 obtain⟨i1,i2,i3⟩:=joinTo_is h.sorted zs.length (Nat.le_refl _)
 obtain⟨j1,j2,j3⟩:=fold_is xs (l:=[]) List.Pairwise.nil
 have j2:∀k,Hs (joinD xs) k↔Hs [] k∨Hs xs k:=j2
 have j3:∀k,tot (joinD xs) k=tot [] k+tot xs k:=j3
 rw[List.take_length]at i2 i3
 refine str_unique i1 j1 (fun k=> ?_) (fun k=> ?_)
 ·rw[i2 k,j2 k,hs_perm h.perm k]
  exact⟨.inr,fun h=>h.elim (fun h=>absurd h hs_nil) id⟩
 ·rw[i3 k,j3 k,tot_perm h.perm k]
  simp[tot]
end
section
open Go.RowKit
theorem Tryz.neShare (x y:HC)(w:World):(binOp .neq 62 (.agg #[.int .i64 x.a,.string x.f,.int .i64 x.v]) (.agg #[.int .i64 y.a,.string y.f,.int .i64 y.v])).run Tryz.prog w= .ok (.bool (!(decide (hkey x=hkey y) && decide (x.v=y.v)))) w:=by
 simp[go_sem,hkey]
 by_cases h1:x.a=y.a<;>by_cases h2:x.f.toList=y.f.toList<;>by_cases h3:x.v=y.v<;>simp[h1,h2,h3]
theorem sames_any (xs ys:List HC)(ad:Option Addr)(n cap:Nat)(ad2:Option Addr)(n2 cap2:Nat)(w:World)(hn:xs.length=n)(hn2:ys.length=n2)(hnm:n≤9223372036854775807)(hnm2:n2≤9223372036854775807)(hl:HLies w.heap.size w ad xs)(hl2:HLies w.heap.size w ad2 ys):
 Calls Tryz.prog 18 #[.slice ad n cap,.slice ad2 n2 cap2] w (BoolEnd (xs=ys) w):=by
 have HL:=Lib.hid hl
 have HL2:=Lib.hid hl2
 have HN:=Lib.hid hn
 have HN2:=Lib.hid hn2
 clear hl hn hl2 hn2
 by_cases hnn:n=n2
 ·subst hnn
  have hnb:((n:Int) != (n:Int))=false:=by simp
  go_enter Tryz.func18,Tryz.ntmps18
  go_wp2_with fail
  go_loopw [5] (fun i wr=>∃k:Nat,i= .int .i64 k∧k≤n∧Hid (∀j,j<k→xs.getD j hc0=ys.getD j hc0)∧Hid (Below w.heap.size w wr)) (fun i _=>n - (intOf i).toNat)
  case atStart=>exact⟨0,rfl,Nat.zero_le _,fun j hj=>absurd hj (Nat.not_lt_zero j),Below.refl _ _⟩
  case round=>
   obtain⟨k,rfl,hk,hok,hb⟩:=hrel
   by_cases hlt:k<n
   ·have hlti:(k:Int)<(n:Int):=by omega
    obtain⟨b3,off3,rfl,hb3,c1,c2,c3⟩:=HL.out k (by rw[HN.out];omega)
    obtain⟨b4,off4,rfl,hb4,d1,d2,d3⟩:=HL2.out k (by rw[HN2.out];omega)
    have c1:=(hb.out.cell (p:=⟨b3,_,none⟩) hb3).trans c1
    have c2:=(hb.out.cell (p:=⟨b3,_,none⟩) hb3).trans c2
    have c3:=(hb.out.cell (p:=⟨b3,_,none⟩) hb3).trans c3
    have d1:=(hb.out.cell (p:=⟨b4,_,none⟩) hb4).trans d1
    have d2:=(hb.out.cell (p:=⟨b4,_,none⟩) hb4).trans d2
    have d3:=(hb.out.cell (p:=⟨b4,_,none⟩) hb4).trans d3
    have HOK:Hid (xs.getD k hc0=ys.getD k hc0→∀j,j<k+1→xs.getD j hc0=ys.getD j hc0):=fun h j hj=>by
     by_cases e:j=k
     ·subst e;exact h
     ·exact hok.out j (by omega)
    have HNO:Hid (xs.getD k hc0≠ys.getD k hc0→xs≠ys):=fun h e=>h (by rw[e])
    have hne:=fun W=>Tryz.neShare (xs.getD k hc0) (ys.getD k hc0) W
    have HEQ:Hid ((decide (hkey (xs.getD k hc0)=hkey (ys.getD k hc0)) && decide ((xs.getD k hc0).v=(ys.getD k hc0).v))=true↔xs.getD k hc0=ys.getD k hc0):=by
     show _↔_
     simp only[Bool.and_eq_true,decide_eq_true_eq]
     exact⟨fun⟨h1,h2⟩=>HC.ext' h1 h2,fun h=>by rw[h];exact⟨rfl,rfl⟩⟩
    clear hok
    generalize xs.getD k hc0=x at c1 c2 c3 HOK HNO hne HEQ
    generalize ys.getD k hc0=y at d1 d2 d3 HOK HNO hne HEQ
    generalize (decide (hkey x=hkey y) && decide (x.v=y.v))=z at hne HEQ
    obtain⟨xa,xf,xv⟩:=x
    obtain⟨ya,yf,yv⟩:=y
    simp only at c1 c2 c3 d1 d2 d3 hne
    cases z with
    | true=>
      have HK:=Lib.hid (HOK.out (HEQ.out.1 rfl))
      have hne:∀W,(binOp .neq 62 (.agg #[.int .i64 xa,.string xf,.int .i64 xv]) (.agg #[.int .i64 ya,.string yf,.int .i64 yv])).run Tryz.prog W= .ok (.bool false) W:=hne
      clear HOK HNO HEQ
      go_wp2_with fail
      go_quiet (fail)
      go_wp2_with fail
      go_roundw
      case rel=>exact⟨k+1,by go_num,by omega,HK,below_drewN2 hb.out _⟩
      case measure=>simp[intOf];omega
    | false=>
      have HK:=Lib.hid (HNO.out (fun h=>by have:=HEQ.out.2 h;cases this))
      have HE:Hid (∀W,Below w.heap.size w W→BoolEnd (xs=ys) w (.returned (.bool false)) W):=fun W hW=>⟨false,rfl,⟨fun h=>(by cases h),fun h=>absurd h HK.out⟩,hW⟩
      have hne:∀W,(binOp .neq 62 (.agg #[.int .i64 xa,.string xf,.int .i64 xv]) (.agg #[.int .i64 ya,.string yf,.int .i64 yv])).run Tryz.prog W= .ok (.bool true) W:=hne
      clear HOK HNO HEQ HK
      go_wp2_with fail
      go_quiet (fail)
      go_wp2_with fail
      go_ret
      exact HE.out _ (below_drewN2 hb.out _)
   ·have hlti:¬(k:Int)<(n:Int):=by omega
    have HE:Hid (∀W,Below w.heap.size w W→BoolEnd (xs=ys) w (.returned (.bool true)) W):=fun W hW=>⟨true,rfl,⟨fun _=>by
     apply List.ext_getElem (by rw[HN.out,HN2.out])
     intro i h1 h2
     have:=hok.out i (by rw[HN.out]at h1;omega)
     simpa [List.getD_eq_getElem?_getD,h1,h2]using this,fun _=>rfl⟩,hW⟩
    go_wp2_with fail
    go_ret
    exact HE.out _ hb.out
 ·have hnb:((n:Int) != (n2:Int))=true:=by simp;omega
  have HE:Hid (BoolEnd (xs=ys) w (.returned (.bool false)) w):=⟨false,rfl,⟨fun h=>(by cases h),fun h=>absurd (by rw[←HN.out,←HN2.out,h]) hnn⟩,Below.refl _ _⟩
  go_enter Tryz.func18,Tryz.ntmps18
  go_wp2_with fail
  go_ret
  exact HE.out
end
section
open Go.RowKit
theorem step_append_run {P:Program}{ops:Array Oper}{o:Oper}{a:Act}{w:World}{K:Act→World→Prop}{Q:Exit→Act→World→Prop}{E:Prop}
 (hg:o.guard=none) (s x:Operand) (t:TypeId) (hop:o.op=Op.call { callee:=Callee.builtin Builtin.append,args:= #[s,x],argTypes:= #[t,t] })
 (v1 v2 v':Value) (w':World) (h1:a.eval s=v1) (h2:a.eval x=v2) (hr:∀ty,(Builtin.append_ #[t,t] ty #[v1,v2]).run P w= .ok v' w') (hK:K (a.put o.dst v') w'):
 if Region.wanted o (yielded ops a.tmps)=true then Oper.wp P o a w K Q else E:=by
 have hw:Region.wanted o (yielded ops a.tmps)=true:=by simp[Region.wanted,hg]
 rw[if_pos hw]
 unfold Oper.wp
 simp[execOp,hop,resolve,invoke,builtin,h1,h2,hr,Result.andThen]
 exact hK
def stpJ (s:HC)(p:List HC×Bool)(x:HC):List HC×Bool:=if hkey x=hkey s then(p.1 ++ [⟨s.a,s.f,x.v+s.v⟩],true) else if(!p.2 && kl (hkey s) (hkey x))=true then(p.1 ++ [s] ++ [x],true) else(p.1 ++ [x],p.2)
def addTo (l:List HC)(s:HC)(k:Nat):List HC×Bool:=(l.take k).foldl (stpJ s) ([],false)
def fin (s:HC)(p:List HC×Bool):List HC:=if p.2=true then p.1 else p.1 ++ [s]
theorem addTo_succ (l:List HC)(s:HC)(k:Nat)(h:k<l.length):addTo l s (k+1)=stpJ s (addTo l s k) (l.getD k hc0):=by
 unfold addTo
 rw[take_snocH l k h,List.foldl_append]
 rfl
theorem fold_fin (s:HC):∀(l o:List HC) (d:Bool),fin s (l.foldl (stpJ s) (o,d))=o ++ addD s d l
 | [],o,d=>by
   cases d<;>simp[fin,addD]
 | x :: l,o,d=>by
   show fin s (l.foldl (stpJ s) (stpJ s (o,d) x))=o ++ addD s d (x :: l)
   rw[show stpJ s (o,d) x=if hkey x=hkey s then(o ++ [⟨s.a,s.f,x.v+s.v⟩],true) else if(!d && kl (hkey s) (hkey x))=true then(o ++ [s] ++ [x],true) else(o ++ [x],d) from rfl,show addD s d (x :: l)=if hkey x=hkey s then⟨s.a,s.f,x.v+s.v⟩ :: addD s true l else if(!d && kl (hkey s) (hkey x))=true then s :: x :: addD s true l else x :: addD s d l from rfl]
   by_cases h1:hkey x=hkey s
   ·rw[if_pos h1,if_pos h1,fold_fin s l];simp
   ·rw[if_neg h1,if_neg h1]
    by_cases h2:(!d && kl (hkey s) (hkey x))=true
    ·rw[if_pos h2,if_pos h2,fold_fin s l];simp
    ·rw[if_neg h2,if_neg h2,fold_fin s l];simp
theorem addTo_fin (l:List HC)(s:HC):fin s (addTo l s l.length)=addD s false l:=by
 unfold addTo
 rw[List.take_length,fold_fin s l [] false,List.nil_append]
theorem addTo_len (l:List HC)(s:HC):∀k,k≤l.length→(addTo l s k).1.length≤2*k
 | 0,_=>by simp[addTo]
 | k+1,h=>by
   have:=addTo_len l s k (by omega)
   rw[addTo_succ l s k (by omega)]
   unfold stpJ
   split
   ·simp;omega
   ·split<;>simp<;>omega
def SRowEnd (xs:List HC)(w:World)(e:Ending)(w':World):Prop:=∃v,e= .returned v∧SRow w.heap.size xs v w'∧Below w.heap.size w w'
theorem add_any (l:List HC)(s:HC)(ad:Option Addr)(n cap:Nat)(w:World)(hn:l.length=n)(hnm:n≤30000)(hl:HLies w.heap.size w ad l)(hsum:∀c,c∈l→ -9223372036854775808≤c.v+s.v∧c.v+s.v≤9223372036854775807):
 Calls Tryz.prog 65 #[.slice ad n cap,.agg #[.int .i64 s.a,.string s.f,.int .i64 s.v]] w (SRowEnd (addD s false l) w):=by
 have HB1:Hid (Below w.heap.size w (w.alloc (.cells #[.int .i64 s.a,.string s.f,.int .i64 s.v] 62))):=(Below.refl _ w).alloc (Nat.le_refl _) _
 have hnew:=heap_alloc_new w (.cells #[.int .i64 s.a,.string s.f,.int .i64 s.v] 62)
 have HSC:Hid (∀W,Below (w.alloc (.cells #[.int .i64 s.a,.string s.f,.int .i64 s.v] 62)).heap.size (w.alloc (.cells #[.int .i64 s.a,.string s.f,.int .i64 s.v] 62)) W→W.cell? ⟨w.heap.size,0,none⟩=some (.int .i64 s.a)∧W.cell? ⟨w.heap.size,1,none⟩=some (.string s.f)∧W.cell? ⟨w.heap.size,2,none⟩=some (.int .i64 s.v)):=fun W hW=>
  ⟨(hW.cell (p:=⟨w.heap.size,_,none⟩) (lt_of_some hnew)).trans ((cell_of_row _ _ _ _ _ _ hnew).trans rfl),(hW.cell (p:=⟨w.heap.size,_,none⟩) (lt_of_some hnew)).trans ((cell_of_row _ _ _ _ _ _ hnew).trans rfl),(hW.cell (p:=⟨w.heap.size,_,none⟩) (lt_of_some hnew)).trans ((cell_of_row _ _ _ _ _ _ hnew).trans rfl)⟩
 have HL:Hid (HLies (w.alloc (.cells #[.int .i64 s.a,.string s.f,.int .i64 s.v] 62)).heap.size (w.alloc (.cells #[.int .i64 s.a,.string s.f,.int .i64 s.v] 62)) ad l):=hl.up HB1.out
 have HN:=Lib.hid hn
 have HSUM:=Lib.hid hsum
 have HFI:=Lib.hid (addTo_fin l s)
 have HB:=Lib.hid (fun a f b g W=>rbelow_any a f b g W)
 clear hl hn hsum hnew
 obtain⟨sa,sf,sv⟩:=s
 go_enter Tryz.func65,Tryz.ntmps65
 go_wp2_with fail
 generalize w.alloc (.cells #[.int .i64 sa,.string sf,.int .i64 sv] 62)=w1 at HB1 HSC HL⊢
 have HG0:Hid (∃g,g=w.heap.size):=⟨_,rfl⟩
 go_loopw [5,6,7] (fun o d i wr=>∃k:Nat,i= .int .i64 k∧d= .bool (addTo l ⟨sa,sf,sv⟩ k).2∧k≤n∧Hid (SRow w1.heap.size (addTo l ⟨sa,sf,sv⟩ k).1 o wr)∧Hid (Below w1.heap.size w1 wr)) (fun _ _ i _=>n - (intOf i).toNat)
 case atStart=>exact⟨0,rfl,rfl,Nat.zero_le _,SRow.nil _ _,Below.refl _ _⟩
 case round=>
  obtain⟨k,rfl,rfl,hk,hrow,hb⟩:=hrel
  have HTL:Hid ((addTo l ⟨sa,sf,sv⟩ k).1.length≤2*k):=addTo_len l ⟨sa,sf,sv⟩ k (by rw[HN.out];exact hk)
  by_cases hlt:k<n
  ·have hlti:(k:Int)<(n:Int):=by omega
   obtain⟨b3,off3,rfl,hb3,c1,c2,c3⟩:=HL.out k (by rw[HN.out];exact hlt)
   have HCL:Hid (∀W,Below w1.heap.size w1 W→W.cell? ⟨b3,off3+k*3,none⟩=some (.int .i64 (l.getD k hc0).a)∧W.cell? ⟨b3,off3+k*3+1,none⟩=some (.string (l.getD k hc0).f)∧W.cell? ⟨b3,off3+k*3+2,none⟩=some (.int .i64 (l.getD k hc0).v)):=fun W hW=>⟨(hW.cell (p:=⟨b3,_,none⟩) hb3).trans c1,(hW.cell (p:=⟨b3,_,none⟩) hb3).trans c2,(hW.cell (p:=⟨b3,_,none⟩) hb3).trans c3⟩
   have HT:Hid (addTo l ⟨sa,sf,sv⟩ (k+1)=stpJ ⟨sa,sf,sv⟩ (addTo l ⟨sa,sf,sv⟩ k) (l.getD k hc0)):=addTo_succ l ⟨sa,sf,sv⟩ k (by rw[HN.out];exact hlt)
   have HSM:Hid (-9223372036854775808≤(l.getD k hc0).v+sv∧(l.getD k hc0).v+sv≤9223372036854775807):=HSUM.out _ (getD_memH (by rw[HN.out];exact hlt))
   obtain⟨q1,q2,q3⟩:=HCL.out wr hb.out
   obtain⟨p1,p2,p3⟩:=HSC.out wr hb.out
   clear c1 c2 c3
   generalize addTo l ⟨sa,sf,sv⟩ k=p at HT HTL hrow
   obtain⟨xs,d⟩:=p
   simp only at HT HTL hrow
   generalize l.getD k hc0=x at HCL HT HSM q1 q2 q3
   obtain⟨xa,xf,xv⟩:=x
   simp only at HCL HSM q1 q2 q3
   by_cases e1:xa=sa∧xf.toList=sf.toList
   ·have he1:(xa == sa)=true:=by simp[e1.1]
    have he2:(xf.toList == sf.toList)=true:=by simp[e1.2]
    have HT:Hid (addTo l ⟨sa,sf,sv⟩ (k+1)=(xs ++ [⟨sa,sf,xv+sv⟩],true)):=by
     show _=_
     rw[HT.out]
     unfold stpJ
     rw[if_pos (by unfold hkey;rw[e1.1,e1.2])]
    clear e1
    go_wp2_with fail
    go_quiet (fail)
    have HB0:Hid (Below w1.heap.size w1 (wr.drewN nq)):=below_drewN2 hb.out _
    have HR0:Hid (SRow w1.heap.size xs u5 (wr.drewN nq)):=hrow.out.below (below_drewN2 (Below.refl _ wr) _)
    generalize wr.drewN nq=W0 at HB0 HR0
    clear q1 q2 q3 p1 p2 p3
    obtain⟨q1,q2,q3⟩:=HCL.out W0 HB0.out
    obtain⟨p1,p2,p3⟩:=HSC.out W0 HB0.out
    have HB2:Hid (Below w1.heap.size w1 W0.drew):=HB0.out.drew
    have HR2:Hid (SRow w1.heap.size xs u5 W0.drew):=HR0.out.below (Below.refl _ _).drew
    have hw:∀p q:Int,p=xv→q=sv→IntKind.i64.wrap (p+q)=p+q:=fun p q e1 e2=>by rw[e1,e2];exact IntWalk.i64_in _ (by have:=HSM.out;omega)
    go_wp2_with fail
    obtain⟨v6,w6,hr6,hrow6,hb6⟩:=run_append_share (w:=W0.drew) 52 w1.heap.size xs u5 ⟨sa,sf,xv+sv⟩ HR2.out HB2.out.size (by have:=HTL.out;omega)
    have HR6:Hid (SRow w1.heap.size (addTo l ⟨sa,sf,sv⟩ (k+1)).1 v6 w6):=by show SRow _ _ _ _;rw[HT.out];exact hrow6
    have HB6:=Lib.hid (HB2.out.trans hb6)
    have hd6:(addTo l ⟨sa,sf,sv⟩ (k+1)).2=true:=by rw[HT.out]
    have HRUN:Hid (∀ty,(Builtin.append_ #[52,52] ty #[u5,.slice (some ⟨W0.heap.size,0,none⟩) 1 1]).run Tryz.prog (W0.alloc (.cells #[.int .i64 sa,.string sf,.int .i64 (xv+sv)] 62)).drew= .ok v6 w6):=fun ty=>hr6
    have HS6:Hid (w6.cell? ⟨w.heap.size,0,none⟩=some (.int .i64 sa)∧w6.cell? ⟨w.heap.size,1,none⟩=some (.string sf)∧w6.cell? ⟨w.heap.size,2,none⟩=some (.int .i64 sv)∧w6.cell? ⟨b3,off3+k*3+2,none⟩=some (.int .i64 xv)):=⟨(HSC.out w6 HB6.out).1,(HSC.out w6 HB6.out).2.1,(HSC.out w6 HB6.out).2.2,(HCL.out w6 HB6.out).2.2⟩
    clear hr6 hrow6 hb6 HT HTL HR0 HR2 hrow hb
    go_region_held3 (fun w'=>w'.cell? ⟨w.heap.size,0,none⟩=some (.int .i64 sa)∧w'.cell? ⟨w.heap.size,1,none⟩=some (.string sf)∧w'.cell? ⟨w.heap.size,2,none⟩=some (.int .i64 sv)∧w'.cell? ⟨b3,off3+k*3+2,none⟩=some (.int .i64 xv))
     (first | go_keep | exact HS6.out)
     ((refine step_append_run (by rfl) _ _ _ (by rfl) _ _ v6 w6 (by rfl) (by rfl) HRUN.out ?_))
    clear q1 q2 q3 p1 p2 p3
    go_wp2
    clear hw
    go_roundw
    case rel=>exact⟨k+1,by go_num,by rw[hd6],by omega,HR6,HB6⟩
    case measure=>simp[intOf];omega
   ·have HT:Hid (addTo l ⟨sa,sf,sv⟩ (k+1)=if(!d && kl (sa,sf.toList) (xa,xf.toList))=true then(xs ++ [⟨sa,sf,sv⟩] ++ [⟨xa,xf,xv⟩],true) else(xs ++ [⟨xa,xf,xv⟩],d)):=by
     show _=_
     rw[HT.out]
     unfold stpJ
     rw[if_neg (show ¬hkey (⟨xa,xf,xv⟩:HC)=hkey ⟨sa,sf,sv⟩ from fun h=>e1 (hkey_eq.1 h))]
     rfl
    have HC:Hid (∀W,Calls Tryz.prog 66 #[.int .i64 sa,.string sf,.int .i64 xa,.string xf] W fun e w'=>e= .returned (.bool (kl (sa,sf.toList) (xa,xf.toList)))∧w'=W):=HB.out sa sf xa xf
    generalize kl (sa,sf.toList) (xa,xf.toList)=z at HC HT
    clear HSM
    by_cases e2:xa=sa
    ·have he1:(xa == sa)=true:=by simp[e2]
     have he2:(xf.toList == sf.toList)=false:=by simp;exact fun h=>e1 ⟨e2,h⟩
     clear e1 e2
     go_wp2_with fail
     go_quiet (fail)
     have HB0:Hid (Below w1.heap.size w1 (wr.drewN nq)):=below_drewN2 hb.out _
     have HR0:Hid (SRow w1.heap.size xs u5 (wr.drewN nq)):=hrow.out.below (below_drewN2 (Below.refl _ wr) _)
     generalize wr.drewN nq=W0 at HB0 HR0
     clear q1 q2 q3 p1 p2 p3 hrow hb
     obtain⟨q1,q2,q3⟩:=HCL.out W0 HB0.out
     obtain⟨p1,p2,p3⟩:=HSC.out W0 HB0.out
     go_wp2_with fail
     go_quiet ((go_at_call 66;exact Calls.quiet_of_same (HC.out _)))
     have HB4:Hid (Below w1.heap.size w1 (W0.drewN nq)):=below_drewN2 HB0.out _
     have HR4:Hid (SRow w1.heap.size xs u5 (W0.drewN nq)):=HR0.out.below (below_drewN2 (Below.refl _ W0) _)
     generalize W0.drewN nq=W4 at HB4 HR4
     clear HB0 HR0 q1 q2 q3 p1 p2 p3
     obtain⟨q1,q2,q3⟩:=HCL.out W4 HB4.out
     obtain⟨p1,p2,p3⟩:=HSC.out W4 HB4.out
     cases d with
     | true=>
       simp only[Bool.not_true,Bool.false_and,Bool.false_eq_true,if_false]at HT
       obtain⟨v6,w6,hr6,hrow6,hb6⟩:=run_append_share (w:=W4) 52 w1.heap.size xs u5 ⟨xa,xf,xv⟩ HR4.out HB4.out.size (by have:=HTL.out;omega)
       have HR6:Hid (SRow w1.heap.size (addTo l ⟨sa,sf,sv⟩ (k+1)).1 v6 w6):=by show SRow _ _ _ _;rw[HT.out];exact hrow6
       have HB6:=Lib.hid (HB4.out.trans hb6)
       have hd6:(addTo l ⟨sa,sf,sv⟩ (k+1)).2=true:=by rw[HT.out]
       have hr6:∀ty,(Builtin.append_ #[52,52] ty #[u5,.slice (some ⟨W4.heap.size,0,none⟩) 1 1]).run Tryz.prog (W4.alloc (.cells #[.int .i64 xa,.string xf,.int .i64 xv] 62))= .ok v6 w6:=fun ty=>hr6
       clear hrow6 hb6 HT HTL HR4
       go_wp2_with (at_builtin;refine Lib.wpList_append_run _ rfl _ _ _ _ rfl _ _ rfl rfl _ _ (hr6 _) ?_)
       go_roundw
       case rel=>exact⟨k+1,by go_num,by rw[hd6],by omega,HR6,HB6⟩
       case measure=>simp[intOf];omega
     | false=>
       cases z with
       | false=>
         simp only[Bool.not_false,Bool.true_and,Bool.false_eq_true,if_false]at HT
         obtain⟨v6,w6,hr6,hrow6,hb6⟩:=run_append_share (w:=W4) 52 w1.heap.size xs u5 ⟨xa,xf,xv⟩ HR4.out HB4.out.size (by have:=HTL.out;omega)
         have HR6:Hid (SRow w1.heap.size (addTo l ⟨sa,sf,sv⟩ (k+1)).1 v6 w6):=by show SRow _ _ _ _;rw[HT.out];exact hrow6
         have HB6:=Lib.hid (HB4.out.trans hb6)
         have hd6:(addTo l ⟨sa,sf,sv⟩ (k+1)).2=false:=by rw[HT.out]
         have hr6:∀ty,(Builtin.append_ #[52,52] ty #[u5,.slice (some ⟨W4.heap.size,0,none⟩) 1 1]).run Tryz.prog (W4.alloc (.cells #[.int .i64 xa,.string xf,.int .i64 xv] 62))= .ok v6 w6:=fun ty=>hr6
         clear hrow6 hb6 HT HTL HR4
         go_wp2_with (at_builtin;refine Lib.wpList_append_run _ rfl _ _ _ _ rfl _ _ rfl rfl _ _ (hr6 _) ?_)
         go_roundw
         case rel=>exact⟨k+1,by go_num,by rw[hd6],by omega,HR6,HB6⟩
         case measure=>simp[intOf];omega
       | true=>
         simp only[Bool.not_false,Bool.true_and,if_true]at HT
         obtain⟨v5,w5,hr5,hrow5,hb5⟩:=run_append_share (w:=W4) 52 w1.heap.size xs u5 ⟨sa,sf,sv⟩ HR4.out HB4.out.size (by have:=HTL.out;omega)
         have HB5:=Lib.hid (HB4.out.trans hb5)
         obtain⟨v6,w6,hr6,hrow6,hb6⟩:=run_append_share (w:=w5) 52 w1.heap.size (xs ++ [⟨sa,sf,sv⟩]) v5 ⟨xa,xf,xv⟩ hrow5 HB5.out.size (by have:=HTL.out;rw[List.length_append];simp;omega)
         have HR6:Hid (SRow w1.heap.size (addTo l ⟨sa,sf,sv⟩ (k+1)).1 v6 w6):=by show SRow _ _ _ _;rw[HT.out];exact hrow6
         have HB6:=Lib.hid (HB5.out.trans hb6)
         have hd6:(addTo l ⟨sa,sf,sv⟩ (k+1)).2=true:=by rw[HT.out]
         have hr5:∀ty,(Builtin.append_ #[52,52] ty #[u5,.slice (some ⟨W4.heap.size,0,none⟩) 1 1]).run Tryz.prog (W4.alloc (.cells #[.int .i64 sa,.string sf,.int .i64 sv] 62))= .ok v5 w5:=fun ty=>hr5
         have hr6:∀ty,(Builtin.append_ #[52,52] ty #[v5,.slice (some ⟨w5.heap.size,0,none⟩) 1 1]).run Tryz.prog (w5.alloc (.cells #[.int .i64 xa,.string xf,.int .i64 xv] 62))= .ok v6 w6:=fun ty=>hr6
         obtain⟨y1,y2,y3⟩:=HCL.out w5 HB5.out
         clear hrow5 hb5 hrow6 hb6 HT HTL HR4 HB4
         go_wp2_with (at_builtin;first | refine Lib.wpList_append_run _ rfl _ _ _ _ rfl _ _ rfl rfl _ _ (hr5 _) ?_ | refine Lib.wpList_append_run _ rfl _ _ _ _ rfl _ _ rfl rfl _ _ (hr6 _) ?_)
         go_roundw
         case rel=>exact⟨k+1,by go_num,by rw[hd6],by omega,HR6,HB6⟩
         case measure=>simp[intOf];omega
    ·have he1:(xa == sa)=false:=by simp[e2]
     clear e1 e2
     go_wp2_with fail
     go_quiet (fail)
     have HB0:Hid (Below w1.heap.size w1 (wr.drewN nq)):=below_drewN2 hb.out _
     have HR0:Hid (SRow w1.heap.size xs u5 (wr.drewN nq)):=hrow.out.below (below_drewN2 (Below.refl _ wr) _)
     generalize wr.drewN nq=W0 at HB0 HR0
     clear q1 q2 q3 p1 p2 p3 hrow hb
     obtain⟨q1,q2,q3⟩:=HCL.out W0 HB0.out
     obtain⟨p1,p2,p3⟩:=HSC.out W0 HB0.out
     go_wp2_with fail
     go_quiet ((go_at_call 66;exact Calls.quiet_of_same (HC.out _)))
     have HB4:Hid (Below w1.heap.size w1 (W0.drewN nq)):=below_drewN2 HB0.out _
     have HR4:Hid (SRow w1.heap.size xs u5 (W0.drewN nq)):=HR0.out.below (below_drewN2 (Below.refl _ W0) _)
     generalize W0.drewN nq=W4 at HB4 HR4
     clear HB0 HR0 q1 q2 q3 p1 p2 p3
     obtain⟨q1,q2,q3⟩:=HCL.out W4 HB4.out
     obtain⟨p1,p2,p3⟩:=HSC.out W4 HB4.out
     cases d with
     | true=>
       simp only[Bool.not_true,Bool.false_and,Bool.false_eq_true,if_false]at HT
       obtain⟨v6,w6,hr6,hrow6,hb6⟩:=run_append_share (w:=W4) 52 w1.heap.size xs u5 ⟨xa,xf,xv⟩ HR4.out HB4.out.size (by have:=HTL.out;omega)
       have HR6:Hid (SRow w1.heap.size (addTo l ⟨sa,sf,sv⟩ (k+1)).1 v6 w6):=by show SRow _ _ _ _;rw[HT.out];exact hrow6
       have HB6:=Lib.hid (HB4.out.trans hb6)
       have hd6:(addTo l ⟨sa,sf,sv⟩ (k+1)).2=true:=by rw[HT.out]
       have hr6:∀ty,(Builtin.append_ #[52,52] ty #[u5,.slice (some ⟨W4.heap.size,0,none⟩) 1 1]).run Tryz.prog (W4.alloc (.cells #[.int .i64 xa,.string xf,.int .i64 xv] 62))= .ok v6 w6:=fun ty=>hr6
       clear hrow6 hb6 HT HTL HR4
       go_wp2_with (at_builtin;refine Lib.wpList_append_run _ rfl _ _ _ _ rfl _ _ rfl rfl _ _ (hr6 _) ?_)
       go_roundw
       case rel=>exact⟨k+1,by go_num,by rw[hd6],by omega,HR6,HB6⟩
       case measure=>simp[intOf];omega
     | false=>
       cases z with
       | false=>
         simp only[Bool.not_false,Bool.true_and,Bool.false_eq_true,if_false]at HT
         obtain⟨v6,w6,hr6,hrow6,hb6⟩:=run_append_share (w:=W4) 52 w1.heap.size xs u5 ⟨xa,xf,xv⟩ HR4.out HB4.out.size (by have:=HTL.out;omega)
         have HR6:Hid (SRow w1.heap.size (addTo l ⟨sa,sf,sv⟩ (k+1)).1 v6 w6):=by show SRow _ _ _ _;rw[HT.out];exact hrow6
         have HB6:=Lib.hid (HB4.out.trans hb6)
         have hd6:(addTo l ⟨sa,sf,sv⟩ (k+1)).2=false:=by rw[HT.out]
         have hr6:∀ty,(Builtin.append_ #[52,52] ty #[u5,.slice (some ⟨W4.heap.size,0,none⟩) 1 1]).run Tryz.prog (W4.alloc (.cells #[.int .i64 xa,.string xf,.int .i64 xv] 62))= .ok v6 w6:=fun ty=>hr6
         clear hrow6 hb6 HT HTL HR4
         go_wp2_with (at_builtin;refine Lib.wpList_append_run _ rfl _ _ _ _ rfl _ _ rfl rfl _ _ (hr6 _) ?_)
         go_roundw
         case rel=>exact⟨k+1,by go_num,by rw[hd6],by omega,HR6,HB6⟩
         case measure=>simp[intOf];omega
       | true=>
         simp only[Bool.not_false,Bool.true_and,if_true]at HT
         obtain⟨v5,w5,hr5,hrow5,hb5⟩:=run_append_share (w:=W4) 52 w1.heap.size xs u5 ⟨sa,sf,sv⟩ HR4.out HB4.out.size (by have:=HTL.out;omega)
         have HB5:=Lib.hid (HB4.out.trans hb5)
         obtain⟨v6,w6,hr6,hrow6,hb6⟩:=run_append_share (w:=w5) 52 w1.heap.size (xs ++ [⟨sa,sf,sv⟩]) v5 ⟨xa,xf,xv⟩ hrow5 HB5.out.size (by have:=HTL.out;rw[List.length_append];simp;omega)
         have HR6:Hid (SRow w1.heap.size (addTo l ⟨sa,sf,sv⟩ (k+1)).1 v6 w6):=by show SRow _ _ _ _;rw[HT.out];exact hrow6
         have HB6:=Lib.hid (HB5.out.trans hb6)
         have hd6:(addTo l ⟨sa,sf,sv⟩ (k+1)).2=true:=by rw[HT.out]
         have hr5:∀ty,(Builtin.append_ #[52,52] ty #[u5,.slice (some ⟨W4.heap.size,0,none⟩) 1 1]).run Tryz.prog (W4.alloc (.cells #[.int .i64 sa,.string sf,.int .i64 sv] 62))= .ok v5 w5:=fun ty=>hr5
         have hr6:∀ty,(Builtin.append_ #[52,52] ty #[v5,.slice (some ⟨w5.heap.size,0,none⟩) 1 1]).run Tryz.prog (w5.alloc (.cells #[.int .i64 xa,.string xf,.int .i64 xv] 62))= .ok v6 w6:=fun ty=>hr6
         obtain⟨y1,y2,y3⟩:=HCL.out w5 HB5.out
         clear hrow5 hb5 hrow6 hb6 HT HTL HR4 HB4
         go_wp2_with (at_builtin;first | refine Lib.wpList_append_run _ rfl _ _ _ _ rfl _ _ rfl rfl _ _ (hr5 _) ?_ | refine Lib.wpList_append_run _ rfl _ _ _ _ rfl _ _ rfl rfl _ _ (hr6 _) ?_)
         go_roundw
         case rel=>exact⟨k+1,by go_num,by rw[hd6],by omega,HR6,HB6⟩
         case measure=>simp[intOf];omega
  ·have hlti:¬(k:Int)<(n:Int):=by omega
   obtain rfl:k=n:=by omega
   have hkl:Hid (l.length=k):=HN.out
   have HI:Hid (fin ⟨sa,sf,sv⟩ (addTo l ⟨sa,sf,sv⟩ k)=addD ⟨sa,sf,sv⟩ false l):=by
    have:=HFI.out
    rw[HN.out]at this
    exact this
   have BB:=Lib.hid (HB1.out.trans (hb.out.mono HB1.out.size))
   obtain⟨p1,p2,p3⟩:=HSC.out wr hb.out
   generalize addTo l ⟨sa,sf,sv⟩ k=p at HI hrow HTL
   obtain⟨xs,d⟩:=p
   simp only at HI hrow HTL
   cases d with
   | true=>
     have HE:Hid (SRowEnd (addD ⟨sa,sf,sv⟩ false l) w (.returned u5) wr):=⟨_,rfl,by rw[←HI.out];unfold fin;rw[if_pos rfl];exact ownsRow_lower hrow.out HB1.out.size,BB.out⟩
     clear HI hrow HTL hb
     go_wp2_with fail
     go_ret
     exact HE.out
   | false=>
     obtain⟨v6,w6,hr6,hrow6,hb6⟩:=run_append_share (w:=wr) 52 w1.heap.size xs u5 ⟨sa,sf,sv⟩ hrow.out hb.out.size (by have:=HTL.out;omega)
     have HE:Hid (SRowEnd (addD ⟨sa,sf,sv⟩ false l) w (.returned v6) w6):=⟨_,rfl,by rw[←HI.out];unfold fin;rw[if_neg (by simp)];exact ownsRow_lower hrow6 HB1.out.size,HB1.out.trans ((hb.out.trans hb6).mono HB1.out.size)⟩
     have hr6:∀ty,(Builtin.append_ #[52,52] ty #[u5,.slice (some ⟨wr.heap.size,0,none⟩) 1 1]).run Tryz.prog (wr.alloc (.cells #[.int .i64 sa,.string sf,.int .i64 sv] 62))= .ok v6 w6:=fun ty=>hr6
     clear HI hrow HTL hb hrow6 hb6
     go_wp2_with (at_builtin;refine Lib.wpList_append_run _ rfl _ _ _ _ rfl _ _ rfl rfl _ _ (hr6 _) ?_)
     go_ret
     exact HE.out
end
section
open Go.RowKit
def le (x y:HC):Prop:=¬kl (hkey y) (hkey x)=true
theorem le_refl (x:HC):le x x:=kl_irrefl _
theorem le_trans {x y z:HC}(h1:le x y)(h2:le y z):le x z:=fun h=>by
 by_cases e:hkey y=hkey x
 ·unfold le at h2;rw[e]at h2;exact h2 h
 ·rcases kl_total e with h3 | h3
  ·exact h1 h3
  ·exact h2 (kl_trans h h3)
theorem le_of_lt {x y:HC}(h:kl (hkey x) (hkey y)=true):le x y:=kl_asymm h
abbrev at' (xs:List HC)(i:Nat):HC:=xs.getD i hc0
theorem at_set {xs:List HC}{i j:Nat}{c:HC}(hi:i<xs.length):at' (xs.set i c) j=if j=i then c else at' xs j:=by
 unfold at'
 rw[List.getD_eq_getElem?_getD,List.getElem?_set,List.getD_eq_getElem?_getD]
 by_cases h:i=j
 ·subst h;rw[if_pos rfl,if_pos hi,if_pos rfl];rfl
 ·rw[if_neg h,if_neg (fun e=>h e.symm)]
def swp (xs:List HC)(i j:Nat):List HC:=(xs.set i (at' xs j)).set j (at' xs i)
theorem swp_at {xs:List HC}{i j k:Nat}(hi:i<xs.length)(hj:j<xs.length):at' (swp xs i j) k=if k=j then at' xs i else if k=i then at' xs j else at' xs k:=by
 unfold swp
 rw[at_set (by simpa using hj)]
 by_cases h:k=j
 ·rw[if_pos h,if_pos h]
 ·rw[if_neg h,if_neg h,at_set hi]
theorem swp_perm {xs:List HC}{i j:Nat}(hi:i<xs.length)(hj:j<xs.length):xs.Perm (swp xs i j):=by
 have e1:at' xs i=xs[i]:=by simp[at',List.getD_eq_getElem?_getD,hi]
 have e2:at' xs j=xs[j]:=by simp[at',List.getD_eq_getElem?_getD,hj]
 unfold swp
 rw[e1,e2]
 exact(List.set_set_perm hi hj).symm
theorem hcells_set3:∀(xs:List HC) (i:Nat) (c:HC),i<xs.length→(((hcells xs).set (i*3) (.int .i64 c.a)).set (i*3+1) (.string c.f)).set (i*3+2) (.int .i64 c.v)=hcells (xs.set i c)
 | [],i,_,h=>absurd h (Nat.not_lt_zero i)
 | x :: xs,0,c,_=>rfl
 | x :: xs,i+1,c,h=>by
   have:=hcells_set3 xs i c (by simpa using h)
   rw[show(i+1)*3=i*3+3 by omega,show i*3+3+1=i*3+1+3 by omega,show i*3+3+2=i*3+2+3 by omega]
   simp only[List.set_cons_succ]
   show[Value.int .i64 x.a,.string x.f,.int .i64 x.v] ++ (((hcells xs).set (i*3) (.int .i64 c.a)).set (i*3+1) (.string c.f)).set (i*3+2) (.int .i64 c.v)=[Value.int .i64 x.a,.string x.f,.int .i64 x.v] ++ hcells (xs.set i c)
   rw[this]
structure RowAt (B g n cap:Nat)(xs:List HC)(w:World):Prop where
 len:xs.length=n
 row:w.ownsRow B 62 3 (.slice (some ⟨g,0,none⟩) n cap) n (hcells xs)
 cap:n≤cap∧cap≤9223372036854775807
 low:B≤g∧g<w.heap.size
theorem RowAt.below {B g n cap:Nat}{xs:List HC}{w w':World}(h:RowAt B g n cap xs w)(hb:Below w.heap.size w w'):RowAt B g n cap xs w':=
 ⟨h.len,World.ownsRow.kept (row:=none) h.row ⟨hb.os,hb.tape,hb.output,hb.size,fun q hq _=>hb.block q hq⟩ (by simp[Value.ownBlock]),h.cap,h.low.1,Nat.lt_of_lt_of_le h.low.2 hb.size⟩
theorem RowAt.cells {B g n cap:Nat}{xs:List HC}{w:World}(h:RowAt B g n cap xs w){i:Nat}(hi:i<n):w.cell? ⟨g,i*3,none⟩=some (.int .i64 (at' xs i).a)∧w.cell? ⟨g,i*3+1,none⟩=some (.string (at' xs i).f)∧w.cell? ⟨g,i*3+2,none⟩=some (.int .i64 (at' xs i).v):=by
 obtain⟨g1,g2,g3⟩:=hcells_get xs i (by rw[h.len];exact hi)
 exact⟨(World.ownsRow.cellAt h.row _ (by omega)).trans g1,(World.ownsRow.cellAt h.row _ (by omega)).trans g2,(World.ownsRow.cellAt h.row _ (by omega)).trans g3⟩
theorem RowAt.frozen {B g n cap:Nat}{xs:List HC}{w:World}(h:RowAt B g n cap xs w)(j:Nat):w.frozen? ⟨g,j,none⟩=false:=World.ownsRow.frozenAt h.row j
def put3 (w:World)(g i:Nat)(c:HC):World:=((w.setCell ⟨g,i*3,none⟩ (.int .i64 c.a)).setCell ⟨g,i*3+1,none⟩ (.string c.f)).setCell ⟨g,i*3+2,none⟩ (.int .i64 c.v)
theorem RowAt.put {B g n cap:Nat}{xs:List HC}{w:World}(h:RowAt B g n cap xs w){i:Nat}(hi:i<n)(c:HC):RowAt B g n cap (xs.set i c) (put3 w g i c)∧Below B w (put3 w g i c):=by
 refine⟨⟨by simpa using h.len, ?_,h.cap,h.low.1,by simpa [put3]using h.low.2⟩,((((Below.refl B w).setCell (p:=⟨g,_,none⟩) h.low.1 _).setCell (p:=⟨g,_,none⟩) h.low.1 _).setCell (p:=⟨g,_,none⟩) h.low.1 _)⟩
 rw[←hcells_set3 xs i c (by rw[h.len];exact hi)]
 exact(World.ownsRow.stored (World.ownsRow.stored (World.ownsRow.stored h.row _ _).1 _ _).1 _ _).1
theorem RowAt.swap {B g n cap:Nat}{xs:List HC}{w:World}(h:RowAt B g n cap xs w){i j:Nat}(hi:i<n)(hj:j<n):RowAt B g n cap (swp xs i j) (put3 (put3 w g i (at' xs j)) g j (at' xs i))∧Below B w (put3 (put3 w g i (at' xs j)) g j (at' xs i)):=by
 obtain⟨h1,b1⟩:=h.put hi (at' xs j)
 obtain⟨h2,b2⟩:=h1.put hj (at' xs i)
 exact⟨h2,b1.trans b2⟩
def SortedSeg (xs:List HC)(a b:Nat):Prop:=∀p q,a≤p→p<q→q<b→le (at' xs p) (at' xs q)
structure Seg (xs0 xs:List HC)(a b:Nat):Prop where
 perm:xs0.Perm xs
 out:∀k,k<a∨b≤k→at' xs k=at' xs0 k
 inn:∀k,a≤k→k<b→∃q,a≤q∧q<b∧at' xs k=at' xs0 q
theorem Seg.refl (xs:List HC)(a b:Nat):Seg xs xs a b:=⟨List.Perm.refl _,fun _ _=>rfl,fun k h1 h2=>⟨k,h1,h2,rfl⟩⟩
theorem Seg.swap {xs0 xs:List HC}{a b i j:Nat}(h:Seg xs0 xs a b)(hi:i<xs.length)(hj:j<xs.length)(hia:a≤i∧i<b)(hja:a≤j∧j<b):Seg xs0 (swp xs i j) a b:=
 ⟨h.perm.trans (swp_perm hi hj),fun k hk=>(by rw[swp_at hi hj,if_neg (by omega),if_neg (by omega)];exact h.out k hk),fun k h1 h2=>by
   rw[swp_at hi hj]
   split
   ·exact h.inn i hia.1 hia.2
   ·split
    ·exact h.inn j hja.1 hja.2
    ·exact h.inn k h1 h2⟩
theorem Seg.trans {x y z:List HC}{a b:Nat}(h:Seg x y a b)(k:Seg y z a b):Seg x z a b:=⟨h.perm.trans k.perm,fun q hq=>(k.out q hq).trans (h.out q hq),fun q h1 h2=>by
 obtain⟨r,r1,r2,r3⟩:=k.inn q h1 h2
 obtain⟨s,s1,s2,s3⟩:=h.inn r r1 r2
 exact⟨s,s1,s2,r3.trans s3⟩⟩
theorem Seg.mono {x y:List HC}{a b c d:Nat}(h:Seg x y a b)(h1:c≤a)(h2:b≤d):Seg x y c d:=⟨h.perm,fun q hq=>h.out q (by omega),fun q h3 h4=>by
 by_cases e:a≤q∧q<b
 ·obtain⟨r,r1,r2,r3⟩:=h.inn q e.1 e.2
  exact⟨r,by omega,by omega,r3⟩
 ·exact⟨q,h3,h4,h.out q (by omega)⟩⟩
structure Ins (xs:List HC)(a i j:Nat):Prop where
 oth:∀p q,a≤p→p<q→q≤i→p≠j→q≠j→le (at' xs p) (at' xs q)
 up:∀q,j<q→q≤i→le (at' xs j) (at' xs q)
theorem Ins.start {xs:List HC}{a i:Nat}(h:SortedSeg xs a i):Ins xs a i i:=⟨fun p q h1 h2 h3 h4 h5=>h p q h1 h2 (by omega),fun q h1 h2=>by omega⟩
theorem Ins.step {xs:List HC}{a i j:Nat}(h:Ins xs a i (j+1))(hi:i<xs.length)(hj:a≤j)(hji:j+1≤i)(hlt:kl (hkey (at' xs (j+1))) (hkey (at' xs j))=true):Ins (swp xs (j+1) j) a i j:=by
 have e:∀k,at' (swp xs (j+1) j) k=if k=j then at' xs (j+1) else if k=j+1 then at' xs j else at' xs k:=fun k=>swp_at (by omega) (by omega)
 refine⟨fun p q h1 h2 h3 h4 h5=> ?_,fun q h1 h2=> ?_⟩
 ·rw[e p,e q,if_neg h4,if_neg h5]
  by_cases hp:p=j+1
  ·rw[if_pos hp,if_neg (by omega)]
   exact h.oth j q hj (by omega) h3 (by omega) (by omega)
  ·rw[if_neg hp]
   by_cases hq:q=j+1
   ·rw[if_pos hq]
    exact h.oth p j h1 (by omega) (by omega) (by omega) (by omega)
   ·rw[if_neg hq]
    exact h.oth p q h1 h2 h3 hp hq
 ·rw[e j,e q,if_pos rfl,if_neg (by omega)]
  by_cases hq:q=j+1
  ·rw[if_pos hq];exact le_of_lt hlt
  ·rw[if_neg hq];exact h.up q (by omega) h2
theorem Ins.done {xs:List HC}{a i j:Nat}(h:Ins xs a i j)(hj:a≤j)(hji:j≤i)(hx:j=a∨le (at' xs (j - 1)) (at' xs j)):SortedSeg xs a (i+1):=fun p q h1 h2 h3=>by
 by_cases hp:p=j
 ·subst hp;exact h.up q h2 (by omega)
 ·by_cases hq:q=j
  ·subst hq
   rcases hx with rfl | hx
   ·omega
   ·by_cases e:p=q - 1
    ·rw[e];exact hx
    ·exact le_trans (h.oth p (q - 1) h1 (by omega) (by omega) hp (by omega)) hx
  ·exact h.oth p q h1 h2 (by omega) hp hq
end
end Go.Proofs.YtfinhpfjokpcfaaGreatDoor
