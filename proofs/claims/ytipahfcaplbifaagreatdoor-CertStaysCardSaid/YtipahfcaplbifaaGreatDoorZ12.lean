/- Parts of a proof. -/
import Derived.Test.YtipahfcaplbifaaGreatDoorZ05
import Derived.BigRegion
import Derived.Lib.AppendZerosOnto
import Derived.Deep.AppendLies
import Derived.Deep.RegionLaw
set_option linter.unusedVariables false
set_option linter.unusedSimpArgs false
set_option maxHeartbeats 60000000
set_option maxRecDepth 100000
namespace Go.Proofs.YtipahfcaplbifaaGreatDoor
namespace Prp
open Go.RowKit
theorem Tryz.infoInts:(Tryz.prog.info? 23).map (fun i=>(i.zero,i.size,i.bytes))=some (some (.slice none 0 0),1,24):=by kernel_rfl
end Prp
namespace Prp
open Go.RowKit
theorem gforms_len (xs:List GT):(gforms xs).length=xs.length:=by simp[gforms]
theorem gforms_append (xs ys:List GT):gforms (xs ++ ys)=gforms xs ++ gforms ys:=by simp[gforms]
theorem gcells_append (xs ys:List GT):gcells (xs ++ ys)=gcells xs ++ gcells ys:=by simp[gcells]
theorem gcells_len (xs:List GT):(gcells xs).length=xs.length:=by simp[gcells]
theorem gforms_get {xs:List GT}{i:Nat}(hi:i<xs.length):(gforms xs).getD i []=xs[i].l:=by simp[gforms,List.getD_eq_getElem?_getD,hi]
theorem CLies.rows {B:Nat}{w:World}{a:Option Addr}:∀ {cs:List (List Int)},CLies B w a cs→∃xs:List GT,gforms xs=cs∧(∀x∈xs,Nums B w x.a x.l)∧(0<cs.length→∃b off,a=some ⟨b,off,none⟩∧b<B∧∀j u,(gcells xs)[j]? =some u→w.cell? ⟨b,off+j,none⟩=some u):=by
 intro cs h
 obtain⟨xs,hxl,hx⟩:=list_ofD ⟨none,0,[]⟩ cs.length (fun i (x:GT)=>x.l=cs.getD i []∧Nums B w x.a x.l∧∃b off,a=some ⟨b,off,none⟩∧b<B∧w.cell? ⟨b,off+i,none⟩=some (.slice x.a x.l.length x.cap)) (fun i hi=>by
  obtain⟨b,off,ta,tcap,ha,hlt,h1,h2⟩:=h i hi
  exact⟨⟨ta,tcap,cs.getD i []⟩,rfl,h2,b,off,ha,hlt,h1⟩)
 have hxi:∀i (hi:i<xs.length),xs.getD i ⟨none,0,[]⟩=xs[i]:=fun i hi=>by simp[List.getD_eq_getElem?_getD,hi]
 refine⟨xs, ?_,fun x hx'=> ?_,fun hpos=> ?_⟩
 ·apply List.ext_getElem (by rw[gforms_len];exact hxl)
  intro i h1 h2
  have h3:=(hx i h2).1
  have h4:i<xs.length:=by rw[gforms_len]at h1;exact h1
  rw[hxi i h4]at h3
  rw[show(gforms xs)[i]=xs[i].l by simp[gforms],h3]
  simp[List.getD_eq_getElem?_getD,h2]
 ·obtain⟨i,hi,rfl⟩:=List.getElem_of_mem hx'
  have h3:=(hx i (by omega)).2.1
  rwa [hxi i hi]at h3
 ·obtain⟨_,_,b,off,ha,hlt,_⟩:=hx 0 hpos
  refine⟨b,off,ha,hlt,fun j u hu=> ?_⟩
  have hj:j<xs.length:=by have:=(List.getElem?_eq_some_iff.1 hu).1;rwa [gcells_len]at this
  obtain⟨_,_,b',off',ha',_,hc⟩:=hx j (by omega)
  rw[hxi j hj]at hc
  rw[ha]at ha'
  obtain⟨rfl,rfl⟩:b=b'∧off=off':=by injection ha' with e;injection e with e1 e2 e3;exact⟨e1,e2⟩
  rw[hc,←hu]
  simp[gcells,hj]
theorem run_append_rows {P:Program}{w:World}(B:Nat)(t ty e:TypeId)(i:TypeInfo)(z:Value)(ht:P.underlying t=some (.slice e))(hi:P.info? e=some i)(hz:i.zero=some z)(hs:i.size=1)(hby:i.bytes=24)(hzs:z.cells.size=1)
 (v:Value) (n:Nat) (xs:List GT) (hn:xs.length=n) (hown:w.ownsRow B e 1 v n (gcells xs)) (hB:B≤w.heap.size) (a:Option Addr) (m cap:Nat) (ys:List GT) (hm:ys.length=m)
 (hl:0<m→∃b off,a=some ⟨b,off,none⟩∧∀j u,(gcells ys)[j]? =some u→w.cell? ⟨b,off+j,none⟩=some u) (hsz:(n+m)*24≤140737488355328):
 ∃v' w',(Builtin.append_ #[t,t] ty #[v,.slice a m cap]).run P w= .ok v' w'∧w'.ownsRow B e 1 v' (n+m) (gcells (xs ++ ys))∧w.grownBy w' v.ownBlock∧Below B w w':=by
 have hvb:=fun k (hk:v.ownBlock=some k)=>(World.ownsRow.lt hown k hk).1
 by_cases h0:m=0
 ·subst h0
  have hy:ys=[]:=List.length_eq_zero_iff.1 hm
  subst hy
  refine⟨v,w, ?_,by simpa using hown,⟨rfl,rfl,rfl,Nat.le_refl _,fun _ _ _=>rfl⟩,Below.refl _ _⟩
  have hf:∀ad:Addr,(Builtin.firstCells 1 0 (.slice (some ad) 0 cap)).run P w= .ok #[] w:=fun ad=>run_firstCells_some w 1 0 ad 0 cap [] (by simp) (fun j u h=>by cases h)
  have hf0:=run_firstCells_none (P:=P) w 1 0 0 cap
  rcases hown.2 with ⟨rfl,rfl⟩ | ⟨g,cap',cur,rfl,_,_,hnc,_⟩
  ·cases a<;>simp[Builtin.append_,run_underlying ht,sizeOf,typeInfo,hi,hs,Builtin.lenOf,hf,hf0]
  ·cases a<;>simp[Builtin.append_,run_underlying ht,sizeOf,typeInfo,hi,hs,Builtin.lenOf,hf,hf0,hnc,storeCells]
 ·obtain⟨b,off,rfl,hc⟩:=hl (by omega)
  obtain⟨g,cap',w',hr,h2,h3,h4,h5⟩:=run_append_lies (P:=P) w t ty B e i z 1 24 ht hi hz hs hby hzs (by decide) v n (gcells xs) hown ⟨b,off,none⟩ m cap (gcells ys) (by rw[gcells_len];omega)
   (fun j u hu=>by rw[show(⟨b,off,none⟩:Addr).add j=⟨b,off+j,none⟩ by unfold Addr.add;split<;>simp_all];exact hc j u hu)
   (fun u hu=>by obtain⟨x,_,rfl⟩:=List.mem_map.1 hu;rfl) (by omega) (by unfold maxLen;omega) hsz hB _ rfl
  exact⟨_,w',hr,by rw[gcells_append];exact h2,h3,(Below.refl B w).grown h3 hB hvb⟩
theorem own_clies {B:Nat}{xs:List GT}{v:Value}{n:Nat}{w:World}(hn:xs.length=n)(hr:w.ownsRow B 23 1 v n (gcells xs))(hx:∀x∈xs,Nums w.heap.size w x.a x.l):∃a cap,v= .slice a n cap∧n≤cap∧cap≤9223372036854775807∧CLies w.heap.size w a (gforms xs):=by
 subst hn
 have hc:=fun g=>World.ownsRow.cells hr (g:=g)
 have hlt:=World.ownsRow.lt hr
 obtain⟨_,h1 | ⟨g,cap,cur,hv,h2⟩⟩:=hr
 ·refine⟨none,0,by rw[h1.1,h1.2],by omega,by omega,fun i hi=> ?_⟩
  rw[gforms_len]at hi;omega
 ·subst hv
  have hcp:=h2.2.2
  have hcm:cap≤9223372036854775807:=hcp.2.1
  refine⟨some ⟨g,0,none⟩,cap,rfl,hcp.1,hcm,fun i hi=> ?_⟩
  have hi:i<xs.length:=by rwa [gforms_len]at hi
  have e2:(gcells xs)[i]? =some (.slice xs[i].a xs[i].l.length xs[i].cap):=by simp[gcells,hi]
  rw[gforms_get hi]
  refine⟨g,0,xs[i].a,xs[i].cap,rfl,(hlt g rfl).2, ?_,hx _ (List.getElem_mem hi)⟩
  have:=hc g rfl i _ e2
  rwa [show(⟨g,0,none⟩:Addr).add i=⟨g,0+i,none⟩ by unfold Addr.add;split<;>simp_all]at this
theorem grow_any (n:Nat)(w:World)(hn:n≤1000000):
 Calls Tryz.prog 90 #[.slice none 0 0,.int .i64 n] w fun e w'=>∃v,e= .returned v∧w'.ownsRow w.heap.size 23 1 v 0 []∧Below w.heap.size w w':=by
 obtain⟨i0,hi,hz0,hz1,hz2⟩:=info_parts Tryz.infoInts
 by_cases h0:n=0
 ·subst h0
  go_enter Tryz.func90,Tryz.ntmps90
  go_wp2_with fail
  go_ret
  exact⟨_,rfl,World.ownsRow_nil _ _ _ _,Below.refl _ _⟩
 ·have hrz:∀ty,(Builtin.append_ #[41,3] ty #[.slice none 0 0,.int .i64 n]).run Tryz.prog w= .ok (.slice (some ⟨w.heap.size,0,none⟩) n (grownCap w n 0 23)) (w.drew.alloc (.cells (Builtin.zeroCells (Value.slice none 0 0).cells n ++ Builtin.zeroCells (Value.slice none 0 0).cells (grownCap w n 0 23 - n)) 23)):=fun ty=>by
   have h:=Lib.run_append_grow_zeros w 41 3 ty 23 i0 _ .i64 .i64 Tryz.underlying41 Tryz.underlying3 hi hz0 none 0 0 [] (run_firstCells_none w.drew i0.size 0 0 0) n (by omega) (by omega) (by omega) (by omega) (by rw[hz2];omega)
    (by have:=nextslicecap_le (need:=0+n) (old:=0) (by omega);rw[hz2];omega)
   simpa using h
  have h1:¬((n:Int)<0):=by omega
  have h4:(n:Int) > 0:=by omega
  have h5:(0:Int)<(n:Int):=by omega
  have HG:Hid (n≤grownCap w n 0 23∧grownCap w n 0 23≤maxLen):=⟨grownCap_ge w _ _ _,grownCap_le_maxLen w n 0 _ (by unfold maxLen;omega)⟩
  generalize grownCap w n 0 23=G at hrz HG
  go_enter Tryz.func90,Tryz.ntmps90
  go_wp2_with (at_builtin;refine Lib.wpList_append_run _ rfl _ _ _ _ rfl _ _ rfl rfl _ _ (hrz _) ?_)
  all_goals
   go_ret
   refine⟨_,rfl,World.ownsRow_made w.drew _ G (Nat.le_refl _) HG.out.2 ?_,(Below.refl _ w).drew.alloc (Nat.le_refl _) _⟩
   have:=HG.out.1
   simp[size_zeroCells,Value.cells]
   omega
theorem concat_any (g:Nat)(a:Option Addr)(m cap:Nat)(cs:List (List Int))(a2:Option Addr)(m2 cap2:Nat)(ss:List (List Int))(w:World)(hm:cs.length=m)(hm2:ss.length=m2)(h1:m≤40000)(h2:m2≤40000)(hl:CLies w.heap.size w a cs)(hl2:CLies w.heap.size w a2 ss)
 (hg:w.cell? ⟨g,0,none⟩=some (.slice a m cap)) (hg2:w.cell? ⟨g,1,none⟩=some (.slice a2 m2 cap2)) (hgb:g<w.heap.size):
 Calls Tryz.prog 58 #[.slice (some ⟨g,0,none⟩) 2 2] w fun e w'=>∃b cap',e= .returned (.slice b (m+m2) cap')∧m+m2≤cap'∧cap'≤9223372036854775807∧CLies w'.heap.size w' b (cs ++ ss)∧Below w.heap.size w w':=by
 obtain⟨i0,hi,hz0,hz1,hz2⟩:=info_parts Tryz.infoInts
 obtain⟨xs,rfl,hx,hxc⟩:=hl.rows
 obtain⟨ys,rfl,hy,hyc⟩:=hl2.rows
 rw[gforms_len]at hm hxc hm2 hyc
 have HX:=Lib.hid hx
 have HY:=Lib.hid hy
 have HXC:=Lib.hid hxc
 have HYC:=Lib.hid hyc
 have HM:=Lib.hid hm
 have HM2:=Lib.hid hm2
 have e1:=hg
 have e2:=hg2
 have hw1:IntKind.i64.wrap (0+(m:Int))=(m:Int):=by rw[Int.zero_add];exact IntWalk.i64_in _ (by omega)
 have hw2:IntKind.i64.wrap ((m:Int)+(m2:Int))=((m+m2:Nat):Int):=by rw[←Int.natCast_add];exact IntWalk.i64_in _ (by omega)
 have hn1:¬((m:Int)<0):=by omega
 have hn2:¬(((m+m2:Nat):Int)<0):=by omega
 have HGR:=Lib.hid (grow_any (m+m2) w (by omega))
 clear hl hl2 hx hy hxc hyc hm hm2
 go_enter Tryz.func58,Tryz.ntmps58
 go_wp2_with fail
 refine wp_loop_rounds 3 ?_
 rw[rounds_succ]
 go_wp2_with fail
 rw[rounds_succ]
 go_wp2_with fail
 rw[rounds_succ]
 go_wp2_with fail
 refine HGR.out.mono ?_
 rintro e w1 ⟨v,rfl,ho1,hb1⟩
 have hg3:=(hb1.cell (p:=⟨g,0,none⟩) hgb).trans hg
 have hg4:=(hb1.cell (p:=⟨g,1,none⟩) hgb).trans hg2
 have B1:=Lib.hid hb1
 have O1:=Lib.hid ho1
 clear hb1 ho1 HGR hg hg2 e1 e2
 go_wp2_with fail
 refine wp_loop_rounds 3 ?_
 rw[rounds_succ]
 obtain⟨v2,w2,hr2,ho2,hgr2,hb2⟩:=run_append_rows (P:=Tryz.prog) (w:=w1) w.heap.size 41 41 23 i0 _ Tryz.underlying41 hi hz0 hz1 hz2 rfl v 0 [] rfl O1.out B1.out.size a m cap xs HM.out (fun h=>by
  obtain⟨b,off,rfl,hlt,h3⟩:=HXC.out (by rw[HM.out];exact h)
  exact⟨b,off,rfl,fun j u hu=>(B1.out.cell (p:=⟨b,off+j,none⟩) hlt).trans (h3 j u hu)⟩) (by omega)
 have B2:=Lib.hid (B1.out.trans hb2)
 have O2:=Lib.hid ho2
 have hg5:=(hb2.cell (p:=⟨g,1,none⟩) hgb).trans hg4
 clear hb2 ho2 hgr2
 go_wp2_with (at_builtin;refine Lib.wpList_append_run _ rfl _ _ _ _ rfl _ _ rfl rfl _ _ hr2 ?_)
 rw[rounds_succ]
 obtain⟨v3,w3,hr3,ho3,hgr3,hb3⟩:=run_append_rows (P:=Tryz.prog) (w:=w2) w.heap.size 41 41 23 i0 _ Tryz.underlying41 hi hz0 hz1 hz2 rfl v2 (0+m) ([] ++ xs) (by rw[List.nil_append,HM.out,Nat.zero_add]) O2.out B2.out.size a2 m2 cap2 ys HM2.out (fun h=>by
  obtain⟨b,off,rfl,hlt,h3⟩:=HYC.out (by rw[HM2.out];exact h)
  exact⟨b,off,rfl,fun j u hu=>(B2.out.cell (p:=⟨b,off+j,none⟩) hlt).trans (h3 j u hu)⟩) (by omega)
 have B3:=Lib.hid (B2.out.trans hb3)
 have O3:=Lib.hid ho3
 clear hb3 ho3 hgr3
 go_wp2_with (at_builtin;refine Lib.wpList_append_run _ rfl _ _ _ _ rfl _ _ rfl rfl _ _ hr3 ?_)
 rw[rounds_succ]
 go_wp2_with fail
 go_ret
 have hk:=own_clies (by rw[List.nil_append,List.length_append,HM.out,HM2.out,Nat.zero_add]) O3.out (fun x hx=>by
  rw[List.nil_append]at hx
  rcases List.mem_append.1 hx with h | h
  ·exact((HX.out x h).below B3.out).mono B3.out.size
  ·exact((HY.out x h).below B3.out).mono B3.out.size)
 obtain⟨b,cap',rfl,hc1,hc2,hc⟩:=hk
 rw[Nat.zero_add]at hc1⊢
 exact⟨b,cap',rfl,hc1,hc2,by rw[←gforms_append];exact hc,B3.out⟩
end Prp
namespace Prp
open Go.RowKit
theorem Tryz.eqNil (w:World):(binOp .eql 26 .nilIface .nilIface).run Tryz.prog w= .ok (.bool true) w:=by simp[go_sem]
end Prp
namespace Prp
open Go.RowKit
def negs (l:List Int):List Int:=l.map fun x=> -x
theorem negs_len (l:List Int):(negs l).length=l.length:=by simp[negs]
theorem negs_get (l:List Int)(i:Nat)(h:i<l.length):(negs l).getD i 0= -(l.getD i 0):=by simp[negs,List.getD_eq_getElem?_getD,h]
theorem getD_mem0 {l:List Int}{i:Nat}(h:i<l.length):l.getD i 0∈l:=by
 rw[List.getD_eq_getElem?_getD,List.getElem?_eq_getElem h];exact List.getElem_mem h
theorem inR_neg {n:Nat}{x:Int}(h:inR n x):inR n (-x):=by unfold inR at h⊢;omega
theorem negs_in {n:Nat}{l:List Int}(h:∀x,x∈l→inR n x):∀x,x∈negs l→inR n x:=fun x hx=>by
 obtain⟨y,hy,rfl⟩:=List.mem_map.1 hx
 exact inR_neg (h y hy)
structure Opp (b k i:Nat)(ls:List Int)(wr:World):Prop where
 arr:∃f,Arr wr b k f∧∀j,j<i→f j= -(ls.getD j 0)
 fr:∀o,wr.frozen? ⟨b,o,none⟩=false
 lt:b<wr.heap.size
theorem Opp.step {b k i:Nat}{ls:List Int}{wr:World}(h:Opp b k i ls wr)(hi:i<k){x:Int}(hx:x= -(ls.getD i 0)):Opp b k (i+1) ls (wr.setCell ⟨b,i,none⟩ (.int .i64 x)):=by
 obtain⟨f,h1,h2⟩:=h.arr
 refine⟨⟨upd f i x,h1.set hi x,fun j hj=> ?_⟩,fun o=>(World.frozen?_setCell _ _ _ _).trans (h.fr o),by rw[World.size_setCell];exact h.lt⟩
 by_cases e:j=i
 ·subst e;rw[upd_same];exact hx
 ·rw[upd_ne e];exact h2 j (by omega)
theorem Opp.nums {b k:Nat}{ls:List Int}{wr:World}(h:Opp b k k ls wr)(hk:ls.length=k):Nums wr.heap.size wr (some ⟨b,0,none⟩) (negs ls):=fun i hi=>by
 rw[negs_len]at hi
 obtain⟨f,h1,h2⟩:=h.arr
 refine⟨b,0,rfl,h.lt, ?_⟩
 rw[negs_get ls i hi,Nat.zero_add,←h2 i (by omega)]
 exact h1 i (by omega)
theorem madeOpp (w:World)(k:Nat)(ls:List Int):Opp w.heap.size k 0 ls (w.alloc (.cells (madeCells #[.int .i64 0] k) 3)):=by
 have hn:=heap_alloc_new w (.cells (madeCells #[.int .i64 0] k) 3)
 refine⟨⟨fun _=>0,fun i hi=> ?_,fun j hj=>absurd hj (Nat.not_lt_zero j)⟩,fun o=>frozen_of_row _ _ _ _ _ hn,lt_of_some hn⟩
 rw[cell_of_row _ _ _ _ _ _ hn]
 simp[madeCells,hi,Nat.mod_one]
theorem fK_ok {n:Nat}{cs:List (List Int)}{ls:List Int}(h:chkK n cs=0)(hl:∀x,x∈ls→inR n x):fK n cs ls=0:=by
 unfold fK;rw[if_neg (by rw[h];decide),if_pos (litsB_iff.2 hl)]
theorem FollowIs.iff {n:Nat}{cs:List (List Int)}{ls:List Int}{b:Bool}{A:Nat→Int}(h:FollowIs n cs ls b A):b=true↔Conf cs ls:=by
 cases h with
 | conf h=>exact⟨fun _=>h,fun _=>rfl⟩
 | ok _ _ _ h=>exact⟨fun h'=>by simp at h',fun h'=>absurd h' h⟩
theorem rfol_any (hbeg:BeginSaid)(n:Nat)(cs:List (List Int))(ls:List Int)(hc:chkK n cs=0)(hs:∀x,x∈ls→inR n x)(a:Option Addr)(m cap:Nat)(a2:Option Addr)(k cap2:Nat)(w:World)(hm:cs.length=m)(hk:ls.length=k)(hk4:k≤40000)(hl:CLies w.heap.size w a cs)(hl2:Nums w.heap.size w a2 ls):
 Calls Tryz.prog 59 #[.int .i64 n,.slice a m cap,.slice a2 k cap2] w fun e w'=>∃b,e= .returned (.bool b)∧(b=true↔Conf cs (negs ls))∧Below w.heap.size w w':=by
 obtain⟨n0,e0,hn,hm2,hkk,hcs⟩:=chkK_zero hc
 have hm3:m≤16384:=by omega
 have hnn:n≤8192:=by omega
 have HFO:=Lib.hid (fun W (hb:Below w.heap.size w W) (b cap5:Nat) (h5:Nums W.heap.size W (some ⟨b,0,none⟩) (negs ls))=>follow_any hbeg n a m cap cs (some ⟨b,0,none⟩) k cap5 (negs ls) W hm (by omega) ((hl.below hb).mono hb.size) (fun _ j hj=>by
  have:=hkk (cs.getD j []) (by rw[List.getD_eq_getElem?_getD,List.getElem?_eq_getElem (by omega)];exact List.getElem_mem _)
  omega) ((negs_len ls).trans hk) (by omega) h5)
 have HFK:=Lib.hid (fK_ok hc (negs_in hs))
 have HS:=Lib.hid hs
 have HK:=Lib.hid hk
 have HL2:=Lib.hid hl2
 have HMK:=Lib.hid (madeOpp w k ls)
 have B1:Hid (Below w.heap.size w (w.alloc (.cells (madeCells #[.int .i64 0] k) 3))):=(Below.refl _ w).alloc (Nat.le_refl _) _
 have hmk:=run_make_ints w k k rfl hk4
 have n2:=fun W=>Tryz.eqNil W
 clear hc hs hm hk hl hl2 hbeg e0 hm2 hkk hcs
 go_enter Tryz.func59,Tryz.ntmps59
 go_wp2_with fail
 go_loopw [18] (fun i wr=>∃j:Nat,j≤k∧i= .int .i64 j∧Hid (Opp w.heap.size k j ls wr)∧Hid (Below w.heap.size w wr)) (fun i _=>k - (intOf i).toNat)
 case atStart=>exact⟨0,Nat.zero_le _,rfl,HMK,B1⟩
 case round=>
  obtain⟨j,hj,rfl,hop,hb⟩:=hrel
  by_cases hlt:j<k
  ·obtain⟨b3,off3,rfl,h3l,c3⟩:=HL2.out j (by rw[HK.out];exact hlt)
   have c3:=(hb.out.cell (p:=⟨b3,off3+j,none⟩) h3l).trans c3
   have hin:=HS.out (ls.getD j 0) (getD_mem0 (by rw[HK.out];exact hlt))
   have hwn:IntKind.i64.wrap (-(ls.getD j 0))= -(ls.getD j 0):=IntWalk.i64_in _ (by unfold inR at hin;omega)
   have HST:=Lib.hid (fun(x:Int) (hx:x= -(ls.getD j 0))=>hop.out.step hlt hx)
   obtain⟨f,hf1,_⟩:=hop.out.arr
   have hcell:=hf1 j hlt
   have hfr:=hop.out.fr j
   have hlti:(j:Int)<(k:Int):=by omega
   clear hin
   generalize ls.getD j 0=y at c3 hwn HST
   generalize f j=z at hcell
   clear hf1
   go_wp2_with fail
   go_roundw
   case rel=>exact⟨j+1,by omega,by go_num,HST.out _ rfl,hb.out.setCell (p:=⟨w.heap.size,j,none⟩) (Nat.le_refl _) _⟩
   case measure=>simp[intOf];omega
  ·obtain rfl:j=k:=by omega
   have HN:=Lib.hid (hop.out.nums HK.out)
   clear hop HMK
   go_wp2_with fail
   refine(HFO.out _ hb.out _ _ HN.out).mono ?_
   rintro e w5 ⟨hb5,v,b,rfl,h0,h1⟩
   rw[HFK.out,codeV_zero]
   obtain⟨m1,A,e1,_,_,hf,_⟩:=h1 HFK.out
   have e1:n=m1:=by omega
   subst e1
   have HI:=Lib.hid hf.iff
   have BE:=Lib.hid (hb.out.trans (hb5.mono hb.out.size))
   clear hf h0 h1 hb5
   go_wp2_with fail
   all_goals
    go_ret
    exact⟨_,rfl,HI.out,BE.out⟩
end Prp
namespace Prp
open Go.RowKit Go.Extern.Stop Go.Stop Go.Extern
def Laid0 (w:World):Prop:=w.cell? ⟨0,0,none⟩=some (.iface 162 (.agg #[.pointer (some ⟨4,26,none⟩)]))
theorem Laid0.pos {w:World}(h:Laid0 w):0<w.heap.size:=by
 rcases Nat.eq_zero_or_pos w.heap.size with h0 | h1
 ·unfold Laid0 at h;simp[World.cell?,h0]at h
 ·exact h1
theorem Laid0.below {w w':World}{B:Nat}(h:Laid0 w)(hb:Below B w w')(hB:0<B):Laid0 w':=(hb.cell (p:=⟨0,0,none⟩) hB).trans h
theorem Tryz.isCompP:(Tryz.prog.info? 76).map (·.comparable)=some true:=by kernel_rfl
theorem Tryz.isSizeS:(Tryz.prog.info? 79).map (·.size)=some 2:=by kernel_rfl
theorem Tryz.neSame (g:Addr)(W:World):(binOp .neq 26 (.iface 76 (.pointer (some g))) (.iface 76 (.pointer (some g)))).run Tryz.prog W= .ok (.bool false) W:=by
 obtain⟨i,hi,hcmp⟩:=Option.map_eq_some_iff.1 Tryz.isCompP
 obtain⟨j,hj,hjs⟩:=Option.map_eq_some_iff.1 Tryz.isSizeS
 simp only[binOp]
 simp[Op.equal,Op.maxDepth,run_equalIn_iface_ptr_same (P:=Tryz.prog) W 9998 g Tryz.underlying26 Tryz.underlying76 hi hcmp hj]
theorem sis_any (g:Nat)(at' k:Int)(w:World)(hg:Laid0 w)(hgb:g<w.heap.size)(h0:w.cell? ⟨g,0,none⟩=some (.int .i64 at'))(h1:w.cell? ⟨g,1,none⟩=some (.iface 60 (.int .i64 k))):
 Calls Tryz.prog 21 #[.iface 76 (.pointer (some ⟨g,0,none⟩)),.int .i64 at',.int .i64 k] w fun e w'=>e= .returned (.bool true)∧Below w.heap.size w w':=by
 have hb0:Below w.heap.size w (w.alloc (.cells #[.pointer none] 76)):=(Below.refl _ w).alloc (Nat.le_refl _) _
 have hn:=heap_alloc_new w (.cells #[.pointer none] 76)
 have HAS:=Lib.hid (as_spot ⟨g,0,none⟩ w.heap.size (.pointer none) (w.alloc (.cells #[.pointer none] 76)) (hg.below hb0 hg.pos) ((cell_of_row _ _ _ _ _ _ hn).trans rfl) (frozen_of_row _ _ _ _ _ hn) (lt_of_some hn))
 have HB0:=Lib.hid hb0
 have HIS:=Lib.hid (fun W h=>is_spotcode g k W h)
 have ne:=Tryz.neSame ⟨g,0,none⟩
 have e1:=fun W=>Tryz.eqCode k k W
 have hkk:(k == k)=true:=by simp
 have haa:(at' == at')=true:=by simp
 clear hg hn hb0
 go_enter Tryz.func21,Tryz.ntmps21
 go_wp2_with fail
 refine HAS.out.mono ?_
 rintro e w1 ⟨rfl,hc1,hb1,hz1⟩
 have q0:w1.cell? ⟨g,0,none⟩=some (.int .i64 at'):=(hb1.cell (p:=⟨g,0,none⟩) hgb).trans ((HB0.out.cell (p:=⟨g,0,none⟩) hgb).trans h0)
 have q1:w1.cell? ⟨g,1,none⟩=some (.iface 60 (.int .i64 k)):=(hb1.cell (p:=⟨g,1,none⟩) hgb).trans ((HB0.out.cell (p:=⟨g,1,none⟩) hgb).trans h1)
 have HB1:Hid (Below w.heap.size w w1):=HB0.out.trans hb1
 clear hb1 h0 h1 HAS
 go_wp2_with fail
 refine(HIS.out _ q1).mono ?_
 rintro e w2 ⟨rfl,rfl⟩
 go_wp2_with fail
 go_ret
 exact⟨rfl,HB1.out⟩
end Prp
namespace Prp
open Go.RowKit
theorem CLies.take {B:Nat}{w:World}{a:Option Addr}{cs:List (List Int)}(h:CLies B w a cs)(k:Nat):CLies B w a (cs.take k):=fun i hi=>by
 rw[List.length_take]at hi
 have e:(cs.take k).getD i []=cs.getD i []:=by
  rw[List.getD_eq_getElem?_getD,List.getElem?_take,if_pos (by omega),List.getD_eq_getElem?_getD]
 rw[e]
 exact h i (by omega)
structure Few (cs ss:List (List Int)):Prop where
 l1:cs.length≤20000
 l2:ss.length≤100
 k1:∀c,c∈cs→c.length≤100000
 k2:∀c,c∈ss→c.length≤100
theorem Few.k {cs ss:List (List Int)}(h:Few cs ss):∀c,c∈cs ++ ss→c.length≤100000:=fun c hc=>by
 rcases List.mem_append.1 hc with h1 | h1
 ·exact h.k1 c h1
 ·have:=h.k2 c h1;omega
theorem Few.l {cs ss:List (List Int)}(h:Few cs ss):(cs ++ ss).length≤20100:=by rw[List.length_append];have:=h.l1;have:=h.l2;omega
theorem getD_memC {cs:List (List Int)}{i:Nat}(h:i<cs.length):cs.getD i []∈cs:=by
 rw[List.getD_eq_getElem?_getD,List.getElem?_eq_getElem h];exact List.getElem_mem h
theorem sumTo_takeC (cs:List (List Int))(k:Nat):∀j,j≤k→sumTo (cs.take k) j=sumTo cs j
 | 0,_=>rfl
 | j+1,h=>by
   have e:(cs.take k).getD j []=cs.getD j []:=by
    rw[List.getD_eq_getElem?_getD,List.getElem?_take,if_pos (by omega),List.getD_eq_getElem?_getD]
   have e2:sumTo (cs.take k) (j+1)=sumTo (cs.take k) j+((cs.take k).getD j []).length:=rfl
   rw[e2,e,sumTo_takeC cs k j (by omega)]
   rfl
theorem chkK_take {n:Int}{cs:List (List Int)}(h:cs.length≤20100)(hk:∀c,c∈cs→c.length≤100000)(h0:chkK n cs=0)(k:Nat):chkK n (cs.take k)=0:=by
 have h1:sumTo (cs.take k) (cs.take k).length≤sumTo cs cs.length:=by
  rw[sumTo_takeC cs k _ (by rw[List.length_take];omega)]
  exact sumTo_mono cs (by rw[List.length_take];omega)
 have h2:(cs.take k).length≤cs.length:=by rw[List.length_take];omega
 unfold chkK at h0⊢
 by_cases c1:n<0∨8192<n
 ·rw[if_pos c1]at h0;cases h0
 ·rw[if_neg c1]at h0⊢
  by_cases c2:16384<cs.length
  ·rw[if_pos c2]at h0;cases h0
  ·rw[if_neg c2]at h0
   rw[if_neg (by omega)]
   by_cases c3:131072<sumTo cs cs.length
   ·rw[if_pos c3]at h0;cases h0
   ·rw[if_neg c3]at h0
    rw[if_neg (by omega)]
    by_cases c4:cs.all (litsB n)=true
    ·rw[if_pos (List.all_eq_true.2 fun c hc=>List.all_eq_true.1 c4 c (List.mem_of_mem_take hc))]
    ·rw[if_neg c4]at h0;cases h0
def OkAt (cs ss:List (List Int))(i:Nat):Prop:=Conf ((cs ++ ss).take (cs.length+i)) (negs (ss.getD i []))
inductive RupIs (n:Int) (cs ss:List (List Int)):Int→Int→Prop
 | one:chkK n cs≠0→RupIs n cs ss (chkK n cs) (-1)
 | two:chkK n cs=0→chkK n (cs ++ ss)≠0→RupIs n cs ss (chkK n (cs ++ ss)) (-1)
 | step (i:Nat):chkK n cs=0→chkK n (cs ++ ss)=0→i<ss.length→(∀j,j<i→OkAt cs ss j)→¬OkAt cs ss i→RupIs n cs ss 9 i
 | opn:chkK n cs=0→chkK n (cs ++ ss)=0→(∀j,j<ss.length→OkAt cs ss j)→[]∉cs ++ ss→RupIs n cs ss 8 (-1)
 | yes:chkK n cs=0→chkK n (cs ++ ss)=0→(∀j,j<ss.length→OkAt cs ss j)→[]∈cs ++ ss→RupIs n cs ss 0 (-1)
theorem RupIs.unique {n:Int}{cs ss:List (List Int)}{x at' x2 at2:Int}(h:RupIs n cs ss x at')(h2:RupIs n cs ss x2 at2):x=x2∧at'=at2:=by
 cases h with
 | one h=>
   cases h2 with
   | one=>exact⟨rfl,rfl⟩
   | two h3=>exact absurd h3 h
   | step i h3=>exact absurd h3 h
   | opn h3=>exact absurd h3 h
   | yes h3=>exact absurd h3 h
 | two h h'=>
   cases h2 with
   | one h3=>exact absurd h h3
   | two h3=>exact⟨rfl,rfl⟩
   | step i _ h3=>exact absurd h3 h'
   | opn _ h3=>exact absurd h3 h'
   | yes _ h3=>exact absurd h3 h'
 | step i h h' hi hj hn=>
   cases h2 with
   | one h3=>exact absurd h h3
   | two _ h3=>exact absurd h' h3
   | step k _ _ hk hjk hnk=>
     rcases Nat.lt_trichotomy i k with hlt | rfl | hlt
     ·exact absurd (hjk i hlt) hn
     ·exact⟨rfl,rfl⟩
     ·exact absurd (hj k hlt) hnk
   | opn _ _ h3=>exact absurd (h3 i hi) hn
   | yes _ _ h3=>exact absurd (h3 i hi) hn
 | opn h h' ha he=>
   cases h2 with
   | one h3=>exact absurd h h3
   | two _ h3=>exact absurd h' h3
   | step k _ _ hk hjk hnk=>exact absurd (ha k hk) hnk
   | opn=>exact⟨rfl,rfl⟩
   | yes _ _ _ h3=>exact absurd h3 he
 | yes h h' ha he=>
   cases h2 with
   | one h3=>exact absurd h h3
   | two _ h3=>exact absurd h' h3
   | step k _ _ hk hjk hnk=>exact absurd (ha k hk) hnk
   | opn _ _ _ h3=>exact absurd he h3
   | yes=>exact⟨rfl,rfl⟩
theorem RupIs.in {n:Int}{cs ss:List (List Int)}{x at':Int}(h:RupIs n cs ss x at'):(0≤x∧x≤16)∧(0≤at'→x≠0)∧ -1≤at':=by
 have h1:=chkK_in n cs
 have h2:=chkK_in n (cs ++ ss)
 cases h<;>refine⟨⟨by omega,by omega⟩,fun h=>by omega,by omega⟩
theorem nil_mem {cs:List (List Int)}{k:Nat}(hk:k<cs.length)(h:(cs.getD k []).length=0):[]∈cs:=by
 have:=getD_memC hk
 rwa [List.length_eq_zero_iff.1 h]at this
theorem nil_not {cs:List (List Int)}(h:∀k,k<cs.length→(cs.getD k []).length≠0):[]∉cs:=fun hm=>by
 obtain⟨k,hk,e⟩:=List.getElem_of_mem hm
 exact h k hk (by rw[List.getD_eq_getElem?_getD,List.getElem?_eq_getElem hk,e];rfl)
theorem codeErr (B:Nat)(x:Int)(w:World):ErrIs B x (-1) (codeV x) w:=⟨fun _=>rfl,fun h=>by omega⟩
end Prp
namespace Prp
open Go.RowKit
def RupEnd (n:Int)(cs ss:List (List Int))(w:World)(e:Ending)(w':World):Prop:=
 ∃er x at',e= .returned er∧RupIs n cs ss x at'∧ErrIs w.heap.size x at' er w'∧Below w.heap.size w w'
theorem spotErr {B:Nat}(at':Nat)(W:World)(h:B≤W.heap.size):ErrIs B 9 at' (.iface 76 (.pointer (some ⟨W.heap.size,0,none⟩))) (W.alloc (.cells #[.int .i64 at',.iface 60 (.int .i64 9)] 79)):=by
 have hn:=heap_alloc_new W (.cells #[.int .i64 at',.iface 60 (.int .i64 9)] 79)
 refine⟨fun h=>by omega,fun _=>⟨W.heap.size,rfl,h,by simp,(cell_of_row _ _ _ _ _ _ hn).trans rfl,(cell_of_row _ _ _ _ _ _ hn).trans rfl⟩⟩
theorem rup_any (hbeg:BeginSaid)(n:Int)(a:Option Addr)(m cap:Nat)(cs:List (List Int))(a2:Option Addr)(m2 cap2:Nat)(ss:List (List Int))(w:World)(h1:GivenC w a m cs)(h2:GivenC w a2 m2 ss)(hf:Few cs ss):
 Calls Tryz.prog 35 #[.int .i64 n,.slice a m cap,.slice a2 m2 cap2] w (RupEnd n cs ss w):=by
 have hm1:=h1.hm
 have hm2:=h2.hm
 have hm3:m≤20000:=by have:=hf.l1;omega
 have hm4:m2≤100:=by have:=hf.l2;omega
 have big:∀(l:List (List Int)) (k:Nat),(∀c,c∈l→c.length≤100000)→l.length=k→k≤16384→∀j,j<k→(l.getD j []).length≤4611686018427387904:=fun l k hl hk _ j hj=>by
  have:=hl _ (getD_memC (cs:=l) (i:=j) (by omega));omega
 have HCK:=Lib.hid (check_any n a m cap cs w h1.hm h1.hmm h1.hl (big cs m hf.k1 hm1))
 have n1:=fun t v W=>Tryz.neIface t v W
 have n2:=fun W=>Tryz.neNil W
 by_cases c1:chkK n cs=0
 ·rw[c1,codeV_zero]at HCK
  obtain⟨n0,rfl,hn,_,_,_⟩:=chkK_zero c1
  have HCA:=Lib.hid (fun(W:World) (b:Option Addr) (cap5:Nat) (hl:CLies W.heap.size W b (cs ++ ss))=>check_any n0 b (m+m2) cap5 (cs ++ ss) W (by rw[List.length_append];omega) (by omega) hl (big _ _ hf.k (by rw[List.length_append];omega)))
  have H1:=Lib.hid h1
  have H2:=Lib.hid h2
  have HCO:=Lib.hid (fun(W:World) (g:Nat) (hb:Below w.heap.size w W)=>concat_any g a m cap cs a2 m2 cap2 ss W hm1 hm2 (by omega) (by omega) ((h1.hl.below hb).mono hb.size) ((h2.hl.below hb).mono hb.size))
  have HF:=Lib.hid hf
  by_cases c2:chkK n0 (cs ++ ss)=0
  ·rw[c2,codeV_zero]at HCA
   have HIN:Hid (∀j,j<m2→∀x,x∈ss.getD j []→inR n0 x):=fun j hj x hx=>by
    obtain⟨n3,e3,_,_,_,h5⟩:=chkK_zero c2
    obtain rfl:n0=n3:=by omega
    exact h5 _ (List.mem_append_right _ (getD_memC (by omega))) x hx
   have HFO:=Lib.hid (fun(W:World) (b:Option Addr) (cap5:Nat) (hl:CLies W.heap.size W b (cs ++ ss)) (j:Nat) (hj:j<m2) (ta:Option Addr) (tcap:Nat) (hn5:Nums W.heap.size W ta (ss.getD j []))=>
    rfol_any hbeg n0 ((cs ++ ss).take (cs.length+j)) (ss.getD j []) (chkK_take hf.l hf.k c2 _) (HIN.out j hj) b (m+j) cap5 ta (ss.getD j []).length tcap W (by rw[List.length_take,List.length_append];omega) rfl (by have:=hf.k2 _ (getD_memC (cs:=ss) (i:=j) (by omega));omega) (hl.take _) hn5)
   have HC1:=Lib.hid c1
   have HC2:=Lib.hid c2
   have HM1:=Lib.hid hm1
   have HM2:=Lib.hid hm2
   clear c1 c2 h1 h2 hf big hm1 hm2 HIN
   go_enter Tryz.func35,Tryz.ntmps35
   go_wp2_with fail
   refine HCK.out.mono ?_
   rintro e w1 ⟨rfl,hb1⟩
   have B1:Hid (Below w.heap.size w (w1.alloc (.cells #[.slice a m cap,.slice a2 m2 cap2] 41))):=hb1.alloc hb1.size _
   clear hb1 HCK
   go_wp2_with fail
   refine(HCO.out _ w1.heap.size B1.out (by simp) (by simp) (by simp)).mono ?_
   rintro e w2 ⟨b,cap5,rfl,hc1,hc2,hcl,hb2⟩
   have B2:=Lib.hid (B1.out.trans (hb2.mono B1.out.size))
   have HCL:=Lib.hid hcl
   clear hb2 hcl B1 HCO
   go_wp2_with fail
   refine(HCA.out _ _ _ HCL.out).mono ?_
   rintro e w3 ⟨rfl,hb3⟩
   have HCL3:=Lib.hid ((HCL.out.below hb3).mono hb3.size)
   have B3:=Lib.hid (B2.out.trans (hb3.mono B2.out.size))
   clear hb3 HCL B2 HCA
   go_wp2_with fail
   go_loopw [32] (fun i wr=>∃j:Nat,j≤m2∧i= .int .i64 j∧Hid (∀k,k<j→OkAt cs ss k)∧Hid (Below w3.heap.size w3 wr)) (fun i _=>m2 - (intOf i).toNat)
   case atStart=>exact⟨0,Nat.zero_le _,rfl,fun k hk=>absurd hk (Nat.not_lt_zero k),Below.refl _ _⟩
   case round=>
    obtain⟨j,hj,rfl,hok,hbr⟩:=hrel
    obtain⟨wo,rfl⟩:∃wo:World,wo=wr:=⟨_,rfl⟩
    have BR:=Lib.hid (B3.out.trans (hbr.out.mono B3.out.size))
    have HCR:=Lib.hid ((HCL3.out.below hbr.out).mono hbr.out.size)
    by_cases hlt:j<m2
    ·have hlti:(j:Int)<(m2:Int):=by omega
     obtain⟨b3,off3,ta,tcap,rfl,hb3l,d1,dn⟩:=H2.out.hl j (by rw[HM2.out];exact hlt)
     have d1:=(BR.out.cell (p:=⟨b3,off3+j,none⟩) hb3l).trans d1
     have HDN:=Lib.hid ((dn.below BR.out).mono BR.out.size)
     obtain⟨b5,off5,_,_,rfl,_⟩:=HCR.out 0 (by rw[List.length_append,HM1.out,HM2.out];omega)
     have hwa:IntKind.i64.wrap ((m:Int)+(j:Int))=((m+j:Nat):Int):=by rw[←Int.natCast_add];exact IntWalk.i64_in _ (by omega)
     have hs1:¬(((m+j:Nat):Int)<0):=by omega
     have hs2:m+j≤cap5:=by omega
     have HFJ:=Lib.hid (HFO.out wo _ cap5 HCR.out j hlt ta tcap HDN.out)
     have HOK:Hid (Conf ((cs ++ ss).take (cs.length+j)) (negs (ss.getD j []))↔OkAt cs ss j):=Iff.rfl
     clear dn HDN HFO
     generalize (ss.getD j []).length=lj at d1 HFJ
     go_wp2_with fail
     refine HFJ.out.mono ?_
     rintro e w4 ⟨bb,rfl,hiff,hb4⟩
     have B4:=Lib.hid (BR.out.trans (hb4.mono BR.out.size))
     have hb4:=Lib.hid (hbr.out.trans (hb4.mono hbr.out.size))
     cases bb with
     | false=>
       have HNO:Hid (¬OkAt cs ss j):=fun h=>by have:=hiff.2 (HOK.out.2 h);cases this
       have HE:Hid (RupEnd n0 cs ss w (.returned (.iface 76 (.pointer (some ⟨w4.heap.size,0,none⟩)))) (w4.alloc (.cells #[.int .i64 j,.iface 60 (.int .i64 9)] 79))):=
        ⟨_,_,_,rfl,.step j HC1.out HC2.out (by rw[HM2.out];exact hlt) hok.out HNO.out,spotErr j w4 B4.out.size,B4.out.alloc B4.out.size _⟩
       clear hiff HNO HFJ HOK
       go_wp2_with fail
       go_ret
       exact HE.out
     | true=>
       have HOK2:Hid (∀k,k<j+1→OkAt cs ss k):=fun k hk=>by
        by_cases e:k=j
        ·subst e;exact HOK.out.1 (hiff.1 rfl)
        ·exact hok.out k (by omega)
       clear hiff HFJ HOK
       go_wp2_with fail
       go_roundw
       case rel=>exact⟨j+1,by omega,by go_num,HOK2,hb4⟩
       case measure=>simp[intOf];omega
    ·obtain rfl:j=m2:=by omega
     have HOK:Hid (∀k,k<ss.length→OkAt cs ss k):=fun k hk=>hok.out k (by rw[HM2.out]at hk;exact hk)
     clear hok HFO H2
     go_wp2_with fail
     go_loopw [55] (fun i wr=>∃k:Nat,k≤m+j∧i= .int .i64 k∧Hid (∀q,q<k→((cs ++ ss).getD q []).length≠0)∧Hid (Below wo.heap.size wo wr)) (fun i _=>m+j - (intOf i).toNat)
     case atStart=>exact⟨0,Nat.zero_le _,rfl,fun k hk=>absurd hk (Nat.not_lt_zero k),Below.refl _ _⟩
     case round=>
      obtain⟨k,hk,rfl,hno,hbq⟩:=hrel
      have HLA:Hid ((cs ++ ss).length=m+j):=by show _=_;rw[List.length_append,HM1.out,HM2.out]
      have BQ:=Lib.hid (BR.out.trans (hbq.out.mono BR.out.size))
      by_cases hlt2:k<m+j
      ·have hlti:(k:Int)<((m+j:Nat):Int):=by omega
       have hlti2:(k:Int)<(m:Int)+(j:Int):=by omega
       obtain⟨b3,off3,ta,tcap,rfl,hb3l,d1,_⟩:=HCR.out k (by rw[HLA.out];exact hlt2)
       have d1:=(hbq.out.cell (p:=⟨b3,off3+k,none⟩) hb3l).trans d1
       by_cases hz:((cs ++ ss).getD k []).length=0
       ·have HE:Hid (∀W,Below w.heap.size w W→RupEnd n0 cs ss w (.returned .nilIface) W):=fun W hb=>⟨_,0,_,rfl,.yes HC1.out HC2.out HOK.out (nil_mem (by rw[HLA.out];exact hlt2) hz),codeErr _ _ _,hb⟩
        rw[hz]at d1
        clear hz
        go_wp2_with fail
        go_ret
        exact HE.out _ BQ.out
       ·have hno2:Hid (∀q,q<k+1→((cs ++ ss).getD q []).length≠0):=fun q hq=>by
         by_cases e:q=k
         ·subst e;exact hz
         ·exact hno.out q (by omega)
        generalize ((cs ++ ss).getD k []).length=lk at d1 hz
        have hzi:((lk:Int) == 0)=false:=by simp;omega
        have hzn:¬(lk=0):=hz
        clear hz
        go_wp2_with fail
        go_roundw
        case rel=>exact⟨k+1,by omega,by go_num,hno2,hbq⟩
        case measure=>simp[intOf];omega
      ·obtain rfl:k=m+j:=by omega
       have HE:Hid (∀W,Below w.heap.size w W→RupEnd n0 cs ss w (.returned (.iface 60 (.int .i64 8))) W):=fun W hb=>⟨_,8,_,rfl,.opn HC1.out HC2.out HOK.out (nil_not (by rw[HLA.out];exact hno.out)),codeErr _ _ _,hb⟩
       go_wp2_with fail
       go_ret
       exact HE.out _ BQ.out
  ·have HR:Hid (∀W,Below w.heap.size w W→RupEnd n0 cs ss w (.returned (codeV (chkK n0 (cs ++ ss)))) W):=fun W hb=>⟨_,_,_,rfl,.two c1 c2,codeErr _ _ _,hb⟩
   rw[codeV_ne c2]at HCA HR
   clear c1 c2 h1 h2 hf big hm1 hm2 hbeg
   go_enter Tryz.func35,Tryz.ntmps35
   go_wp2_with fail
   refine HCK.out.mono ?_
   rintro e w1 ⟨rfl,hb1⟩
   have B1:Hid (Below w.heap.size w (w1.alloc (.cells #[.slice a m cap,.slice a2 m2 cap2] 41))):=hb1.alloc hb1.size _
   clear hb1 HCK
   go_wp2_with fail
   refine(HCO.out _ w1.heap.size B1.out (by simp) (by simp) (by simp)).mono ?_
   rintro e w2 ⟨b,cap5,rfl,hc1,hc2,hcl,hb2⟩
   have B2:=Lib.hid (B1.out.trans (hb2.mono B1.out.size))
   have HCL:=Lib.hid hcl
   clear hb2 hcl B1 HCO
   go_wp2_with fail
   refine(HCA.out _ _ _ HCL.out).mono ?_
   rintro e w3 ⟨rfl,hb3⟩
   have B3:=Lib.hid (B2.out.trans (hb3.mono B2.out.size))
   clear hb3 HCL B2 HCA
   go_wp2_with fail
   go_ret
   exact HR.out _ B3.out
 ·have HR:Hid (∀W,Below w.heap.size w W→RupEnd n cs ss w (.returned (codeV (chkK n cs))) W):=fun W hb=>⟨_,_,_,rfl,.one c1,codeErr _ _ _,hb⟩
  rw[codeV_ne c1]at HCK HR
  clear h1 h2 hf big hbeg
  go_enter Tryz.func35,Tryz.ntmps35
  go_wp2_with fail
  refine HCK.out.mono ?_
  rintro e w1 ⟨rfl,hb1⟩
  go_wp2_with fail
  go_ret
  exact HR.out _ hb1
end Prp
end Go.Proofs.YtipahfcaplbifaaGreatDoor
