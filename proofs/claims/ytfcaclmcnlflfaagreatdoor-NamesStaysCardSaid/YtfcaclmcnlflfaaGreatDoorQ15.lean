/- Parts of a proof. -/
import Derived.Test.YtfcaclmcnlflfaaGreatDoorQ11
import Derived.Lib.AppendZerosOnto
set_option linter.unusedVariables false
set_option linter.unusedSimpArgs false
set_option maxHeartbeats 60000000
set_option maxRecDepth 100000
namespace Go.Proofs.YtfcaclmcnlflfaaGreatDoor
section
open Go.RowKit
theorem run_cat_any {w:World}(B:Nat)(xs ys:List ByteArray)(v y:Value)(h:OwnL strSh 9 B xs v w)(hB:B≤w.heap.size)(hy:Pak.Slot strSh (Pak.Lo w.heap.size) w y ys)(hsz:xs.length+ys.length≤1000000):
 ∃v' w',(∀ty,(Builtin.append_ #[38,38] ty #[v,y]).run Tryz.prog w= .ok v' w')∧OwnL strSh 9 B (xs ++ ys) v' w'∧Below B w w':=by
 obtain⟨i0,hi,hz0,hz1,hz2⟩:=info_parts Tryz.infoStrN
 obtain⟨css,c1,c2,c3⟩:=h.row
 by_cases h0:ys=[]
 ·subst h0
  obtain⟨a,cap,rfl,hs⟩:=hy
  rw[List.append_nil]
  refine⟨v,w,fun ty=> ?_,h,Below.refl _ _⟩
  have hf:∀ad:Addr,(Builtin.firstCells 1 0 (.slice (some ad) 0 cap)).run Tryz.prog w= .ok #[] w:=fun ad=>run_firstCells_some w 1 0 ad 0 cap [] (by simp) (fun j u h=>by cases h)
  have hf0:=run_firstCells_none (P:=Tryz.prog) w 1 0 0 cap
  rcases c2.2 with ⟨rfl,hl0⟩ | ⟨g,cap',cur,rfl,_,_,hnc,_⟩
  ·cases a<;>simp[hl0,Builtin.append_,run_underlying Tryz.underlying38,sizeOf,typeInfo,hi,hz1,Builtin.lenOf,hf,hf0]
  ·cases a<;>simp[Builtin.append_,run_underlying Tryz.underlying38,sizeOf,typeInfo,hi,hz1,Builtin.lenOf,hf,hf0,hnc,storeCells]
 ·obtain⟨a,cap,rfl,hs⟩:=hy
  have hpos:0<ys.length:=List.length_pos_iff.2 h0
  obtain⟨b,off,_,rfl,hbl,_,_⟩:=hs.2 0 hpos
  have hat:∀j (hj:j<ys.length),w.cell? ⟨b,off+j,none⟩=some (.string ys[j])∧ys[j].size≤maxLen:=fun j hj=>by
   obtain⟨b2,off2,cs,e,_,hc,rfl,hl⟩:=hs.2 j hj
   injection e with e
   injection e with e1 e2 e3
   subst e1 e2
   have:=hc 0 _ rfl
   rw[show strSh.k=1 from rfl,Nat.mul_one,Nat.add_zero]at this
   exact⟨this,hl⟩
  have hnews:∀j u,(ys.map Value.string)[j]? =some u→w.cell? ((⟨b,off,none⟩:Addr).add j)=some u:=fun j u hu=>by
   obtain⟨hj,rfl⟩:=List.getElem?_eq_some_iff.1 hu
   rw[show(⟨b,off,none⟩:Addr).add j=⟨b,off+j,none⟩ by unfold Addr.add;split<;>simp_all,List.getElem_map]
   exact(hat j (by simpa using hj)).1
  have h1:∀u∈ys.map Value.string,u.oneCell'=true:=fun u hu=>by
   obtain⟨s,_,rfl⟩:=List.mem_map.1 hu
   rfl
  have hvb:∀g,v.ownBlock=some g→B≤g:=fun g e=>(World.ownsRow.lt c2 g e).1
  obtain⟨g,cap',w',hr,h2,h3,h4,h5⟩:=run_append_lies (P:=Tryz.prog) w 38 38 B 9 i0 _ 1 16 Tryz.underlying38 hi hz0 hz1 hz2 rfl (by decide) v xs.length css.flatten c2 ⟨b,off,none⟩ ys.length cap (ys.map Value.string) (by simp) hnews h1 hpos (by unfold maxLen;omega) (by omega) hB _ rfl
  refine⟨_,w',fun ty=>hr,⟨⟨css ++ ys.map (fun s=>[Value.string s]),by simp[c1], ?_,fun i hi hi2=> ?_⟩⟩,(Below.refl B w).grown h3 hB hvb⟩
  ·rw[List.flatten_append,List.length_append]
   rw[flat_strs]
   exact h2
  ·by_cases hlt:i<xs.length
   ·rw[List.getElem_append_left (by omega),List.getElem_append_left hlt]
    exact⟨(c3 i hlt (by omega)).1,(c3 i hlt (by omega)).2⟩
   ·have hiy:i - xs.length<ys.length:=by rw[List.length_append]at hi;omega
    rw[List.getElem_append_right (by omega),List.getElem_append_right (by omega),List.getElem_map]
    have e:i - css.length=i - xs.length:=by omega
    exact⟨by simp only[e],(hat _ hiy).2⟩
theorem growStr_any (n:Nat)(w:World)(hn:n≤1000000):
 Calls Tryz.prog 74 #[.slice none 0 0,.int .i64 n] w fun e w'=>∃v,e= .returned v∧OwnL strSh 9 w.heap.size [] v w'∧Below w.heap.size w w':=by
 obtain⟨i0,hi,hz0,hz1,hz2⟩:=info_parts Tryz.infoStrN
 by_cases h0:n=0
 ·subst h0
  go_enter Tryz.func74,Tryz.ntmps74
  go_wp2_with fail
  go_ret
  exact⟨_,rfl,OwnL.nil _ _ _ _,Below.refl _ _⟩
 ·have hrz:∀ty,(Builtin.append_ #[38,3] ty #[.slice none 0 0,.int .i64 n]).run Tryz.prog w= .ok (.slice (some ⟨w.heap.size,0,none⟩) n (grownCap w n 0 9)) (w.drew.alloc (.cells (Builtin.zeroCells (Value.string ⟨#[]⟩).cells n ++ Builtin.zeroCells (Value.string ⟨#[]⟩).cells (grownCap w n 0 9 - n)) 9)):=fun ty=>by
   have h:=Lib.run_append_grow_zeros w 38 3 ty 9 i0 _ .i64 .i64 Tryz.underlying38 Tryz.underlying3 hi hz0 none 0 0 [] (run_firstCells_none w.drew i0.size 0 0 0) n (by omega) (by omega) (by omega) (by omega) (by rw[hz2];omega)
    (by have:=nextslicecap_le (need:=0+n) (old:=0) (by omega);rw[hz2];omega)
   simpa using h
  have h1:¬((n:Int)<0):=by omega
  have h4:(n:Int) > 0:=by omega
  have h5:(0:Int)<(n:Int):=by omega
  have HG:Hid (n≤grownCap w n 0 9∧grownCap w n 0 9≤maxLen):=⟨grownCap_ge w _ _ _,grownCap_le_maxLen w n 0 _ (by unfold maxLen;omega)⟩
  generalize grownCap w n 0 9=G at hrz HG
  go_enter Tryz.func74,Tryz.ntmps74
  go_wp2_with (at_builtin;refine Lib.wpList_append_run _ rfl _ _ _ _ rfl _ _ rfl rfl _ _ (hrz _) ?_)
  all_goals
   go_ret
   refine⟨_,rfl,⟨⟨[],rfl,World.ownsRow_made w.drew _ G (Nat.le_refl _) HG.out.2 ?_,fun i hi=>absurd hi (Nat.not_lt_zero i)⟩⟩,(Below.refl _ w).drew.alloc (Nat.le_refl _) _⟩
   have:=HG.out.1
   simp[size_zeroCells,Value.cells,strSh]
   omega
def OwEnd (xs:List ByteArray)(w:World)(r:Ending)(w':World):Prop:=∃v,r= .returned v∧OwnL strSh 9 w.heap.size xs v w'∧Below w.heap.size w w'
theorem concatStr_any (g:Nat)(a:Option Addr)(m cap:Nat)(xs:List ByteArray)(a2:Option Addr)(m2 cap2:Nat)(ys:List ByteArray)(w:World)(hm:xs.length=m)(hm2:ys.length=m2)(h1:m≤40000)(h2:m2≤40000)(hl:Pak.Sits strSh (Pak.Lo w.heap.size) w a xs)(hl2:Pak.Sits strSh (Pak.Lo w.heap.size) w a2 ys)
 (hg:w.cell? ⟨g,0,none⟩=some (.slice a m cap)) (hg2:w.cell? ⟨g,1,none⟩=some (.slice a2 m2 cap2)) (hgb:g<w.heap.size):
 Calls Tryz.prog 36 #[.slice (some ⟨g,0,none⟩) 2 2] w (OwEnd (xs ++ ys) w):=by
 have HX:=Lib.hid hl
 have HY:=Lib.hid hl2
 have HM:=Lib.hid hm
 have HM2:=Lib.hid hm2
 have e1:=hg
 have e2:=hg2
 have hw1:IntKind.i64.wrap (m:Int)=(m:Int):=IntWalk.i64_in _ (by omega)
 have hw2:IntKind.i64.wrap ((m:Int)+(m2:Int))=((m+m2:Nat):Int):=by rw[←Int.natCast_add];exact IntWalk.i64_in _ (by omega)
 have hn1:¬((m:Int)<0):=by omega
 have hn2:¬(((m+m2:Nat):Int)<0):=by omega
 have HGR:=Lib.hid (growStr_any (m+m2) w (by omega))
 have HZ:=Lib.hid (And.intro h1 h2)
 clear hl hl2 hm hm2 h1 h2
 go_enter Tryz.func36,Tryz.ntmps36
 go_wp2_with fail
 refine wp_loop_rounds 3 ?_
 rw[rounds_succ]
 go_wp2_with fail
 rw[rounds_succ]
 go_wp2_with fail
 rw[rounds_succ]
 go_wp2_with fail
 refine HGR.out.mono ?_
 rintro e w1 ⟨v,rfl,ho1,hb1⟩
 have hg3:=(hb1.cell (p:=⟨g,0,none⟩) hgb).trans hg
 have hg4:=(hb1.cell (p:=⟨g,1,none⟩) hgb).trans hg2
 have B1:=Lib.hid hb1
 have O1:=Lib.hid ho1
 clear hb1 ho1 HGR hg hg2 e1 e2
 go_wp2_with fail
 refine wp_loop_rounds 3 ?_
 rw[rounds_succ]
 obtain⟨v2,w2,hr2,ho2,hb2⟩:=run_cat_any (w:=w1) w.heap.size [] xs v (.slice a m cap) O1.out B1.out.size ⟨a,cap,by rw[HM.out],HX.out.below B1.out B1.out.size⟩ (by have:=HM.out;have:=HZ.out.1;simp only[List.length_nil];omega)
 have B2:=Lib.hid (B1.out.trans hb2)
 have O2:=Lib.hid ho2
 have hg5:=(hb2.cell (p:=⟨g,1,none⟩) hgb).trans hg4
 clear hb2 ho2
 go_wp2_with (at_builtin;refine Lib.wpList_append_run _ rfl _ _ _ _ rfl _ _ rfl rfl _ _ (hr2 _) ?_)
 rw[rounds_succ]
 obtain⟨v3,w3,hr3,ho3,hb3⟩:=run_cat_any (w:=w2) w.heap.size ([] ++ xs) ys v2 (.slice a2 m2 cap2) O2.out B2.out.size ⟨a2,cap2,by rw[HM2.out],HY.out.below B2.out B2.out.size⟩ (by have:=HM.out;have:=HM2.out;have:=HZ.out;simp only[List.nil_append];omega)
 have B3:=Lib.hid (B2.out.trans hb3)
 have O3:=Lib.hid ho3
 clear hb3 ho3 hr2
 go_wp2_with (at_builtin;refine Lib.wpList_append_run _ rfl _ _ _ _ rfl _ _ rfl rfl _ _ (hr3 _) ?_)
 rw[rounds_succ]
 go_wp2_with fail
 go_ret
 exact⟨_,rfl,O3.out,B3.out⟩
theorem hasW_mem {s:ByteArray}{l:List ByteArray}{j:Nat}(h:j<l.length)(e:l[j]=s):hasW s l=true:=List.any_eq_true.2 ⟨l[j],List.getElem_mem h,decide_eq_true e⟩
theorem hasW_not {s:ByteArray}{l:List ByteArray}(h:∀q,(hq:q<l.length)→l[q]≠s):hasW s l=false:=List.any_eq_false.2 fun x hx e=>by
 obtain⟨q,hq,rfl⟩:=List.getElem_of_mem hx
 exact h q hq (of_decide_eq_true e)
theorem index_any (s:ByteArray)(a:Option Addr)(m cap:Nat)(xs:List ByteArray)(w:World)(hm:xs.length=m)(hs:Pak.Sits strSh (Pak.Lo w.heap.size) w a xs):
 Calls Tryz.prog 75 #[.slice a m cap,.string s] w fun r w'=>∃i:Int,r= .returned (.int .i64 i)∧decide (i ≥ 0)=hasW s xs∧w'=w:=by
 have HS:=Lib.hid hs
 have HM:=Lib.hid hm
 have hmm:m≤9223372036854775807:=by rw[←hm];exact hs.1
 have HHIT:Hid (∀j (h:j<xs.length),xs[j]=s→hasW s xs=true):=Lib.hid fun j h e=>hasW_mem h e
 have HMISS:Hid ((∀q,(hq:q<xs.length)→xs[q]≠s)→hasW s xs=false):=Lib.hid fun h=>hasW_not h
 clear hs hm
 generalize hasW s xs=y at HHIT HMISS
 go_enter Tryz.func75,Tryz.ntmps75
 go_wp2_with fail
 go_loopw [8] (fun i wr=>∃j:Nat,j≤m∧i= .int .i64 j∧Hid (∀q,(hq:q<xs.length)→q<j→xs[q]≠s)∧wr=w) (fun i _=>m - (intOf i).toNat)
 case atStart=>exact⟨0,Nat.zero_le _,rfl,fun q _ h=>absurd h (Nat.not_lt_zero _),rfl⟩
 case round=>
  obtain⟨j,hj,rfl,hno,rfl⟩:=hrel
  by_cases hlt:j<m
  ·have hlx:j<xs.length:=by rw[HM.out];exact hlt
   obtain⟨b,off,cs,rfl,hbl,hc,rfl,_⟩:=HS.out.2 j hlx
   have c0:=hc 0 _ rfl
   rw[show strSh.k=1 from rfl,Nat.mul_one,Nat.add_zero]at c0
   have HH:=Lib.hid (HHIT.out j hlx)
   have HN:Hid (¬xs[j]=s→∀q,(hq:q<xs.length)→q<j+1→xs[q]≠s):=fun h q hq hlq=>by
    by_cases e:q=j
    ·subst e;exact h
    ·exact hno.out q hq (by omega)
   have hji:(j:Int)<(m:Int):=by omega
   clear hc hno
   generalize xs[j]=xn at c0 HH HN
   by_cases hx:xn=s
   ·obtain rfl:=HH.out hx
    subst hx
    have e0:(xn.toList == xn.toList)=true:=beq_self_eq_true _
    go_wp2_with fail
    go_ret
    exact⟨_,rfl,by simp,rfl⟩
   ·have e0:=nbs_ne hx
    have e00:=nbs_ne (fun h=>hx h.symm)
    have HN2:=Lib.hid (HN.out hx)
    clear hx HN HH
    go_wp2_with fail
    go_roundw
    case rel=>exact⟨j+1,by omega,by go_num,HN2,by first | rfl | trivial⟩
    case measure=>simp[intOf];omega
  ·obtain rfl:j=m:=by omega
   have hji:¬(j:Int)<(j:Int):=by omega
   have HY:Hid (y=false):=Lib.hid (HMISS.out fun q hq=>hno.out q hq (by rw[←HM.out];exact hq))
   obtain rfl:=HY.out
   clear hno
   go_wp2_with fail
   go_ret
   exact⟨_,rfl,by decide,rfl⟩
theorem contains_any (s:ByteArray)(a:Option Addr)(m cap:Nat)(xs:List ByteArray)(w:World)(hm:xs.length=m)(hs:Pak.Sits strSh (Pak.Lo w.heap.size) w a xs):
 Calls Tryz.prog 38 #[.slice a m cap,.string s] w fun r w'=>r= .returned (.bool (hasW s xs))∧Below w.heap.size w w':=by
 have F:=Lib.hid (index_any s a m cap xs w hm hs)
 clear hs hm
 generalize hasW s xs=y at F
 go_enter Tryz.func38,Tryz.ntmps38
 go_wp2_with fail
 refine F.out.mono ?_
 rintro r w2 ⟨i,rfl,hi,rfl⟩
 clear F
 go_wp2_with fail
 go_ret
 exact⟨by rw[←hi];rfl,Below.refl _ _⟩
end
end Go.Proofs.YtfcaclmcnlflfaaGreatDoor
