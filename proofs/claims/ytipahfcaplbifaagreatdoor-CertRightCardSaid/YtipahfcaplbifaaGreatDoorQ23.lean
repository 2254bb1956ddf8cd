/- Parts of a proof. -/
import Derived.Test.YtipahfcaplbifaaGreatDoorQ02
import Derived.Test.YtipahfcaplbifaaGreatDoorQ09
import Derived.Test.YtipahfcaplbifaaGreatDoorQ21
import Derived.Test.YtipahfcaplbifaaGreatDoorQ22
import Derived.Test.YtipahfcaplbifaaGreatDoorQShelf
import Derived.Sort.OwnSortedInts
import Derived.Lib.OwnBridge
import Derived.Maps.RangeWalk
import Derived.Maps.AppendAt
import Derived.Deep.RegionLaw
import Derived.Deep.AppendLies
import Derived.Deep.DrawnRows
import Derived.Maps.Range
import Derived.Deep.RegionHeld3
set_option linter.unusedVariables false
set_option linter.unusedSimpArgs false
set_option maxHeartbeats 60000000
set_option maxRecDepth 100000
namespace Go.Proofs.YtipahfcaplbifaaGreatDoor
namespace Cut
open Go.RowKit Go.Sort Go.Maps
def ints (zs:List Int):List Value:=zs.map (Value.int .i64)
theorem ints_append (l r:List Int):ints (l ++ r)=ints l ++ ints r:=by simp[ints]
theorem Tryz.infoInt:(Tryz.prog.info? 3).map (fun i=>(i.zero,i.size,i.bytes))=some (some (.int .i64 0),1,8):=by kernel_rfl
def IRow (B:Nat)(zs:List Int)(v:Value)(w:World):Prop:=w.ownsRow B 3 1 v zs.length (ints zs)
theorem IRow.at {B:Nat}{zs:List Int}{v:Value}{w:World}(h:IRow B zs v w):(v= .slice none 0 0∧zs=[])∨∃g cap,v= .slice (some ⟨g,0,none⟩) zs.length cap∧B≤g:=by
 rcases h.2 with ⟨h1,h2⟩ | ⟨g,cap,cur,h1,h2,_⟩
 ·exact .inl ⟨h1,List.eq_nil_of_length_eq_zero h2⟩
 ·exact .inr ⟨g,cap,h1,h2⟩
def srt (zs:List Int):List Int:=zs.mergeSort fun x y=>decide (x≤y)
theorem srt_len (zs:List Int):(srt zs).length=zs.length:=List.length_mergeSort zs
theorem grow_below {B:Nat}{w:World}{g n:Nat}{os:Array Obj}(d:Array Int)(hB:B≤w.heap.size)(hg:B≤g):Below B w (grow (putRow (Value.int .i64) (Sort.ahead w n) g 0 d) os):=
 (Below.refl B w).grown (grownBy_sortedI d) hB (fun k hk=>by injection hk with hk;omega)
theorem sort_irow {B:Nat}{zs:List Int}{v:Value}{w:World}(h:IRow B zs v w)(hB:B≤w.heap.size)(hz:zs.length<4611686018427387904):
 Calls Tryz.prog 156 #[v] w fun e w'=>e= .returned (.tuple #[])∧IRow B (srt zs) v w'∧Below B w w':=by
 by_cases hv:v= .slice none 0 0
 ·subst hv
  rcases h.at with ⟨_,rfl⟩ | ⟨g,cap,e,_⟩
  ·refine(Tryz.slices_Sort_int_none none 0 w).mono ?_
   rintro e w' ⟨rfl,rfl⟩
   exact⟨rfl,by rw[show srt []=[] from List.eq_nil_of_length_eq_zero (srt_len [])];exact h,Below.refl _ _⟩
  ·cases e
 ·obtain⟨g,cap,rfl,hg,hgl,hcap,hmax,hlen,hH⟩:=Lib.holds_of_ownsRow (enc:=Value.int .i64) h hv
  refine(Tryz.slices_Sort_int g 0 cap zs w hH hgl hz).mono ?_
  rintro e w' ⟨rfl,n,os,rfl⟩
  obtain⟨_,⟨e0,_⟩ | ⟨g',cap',cur,e0,_,hb,h1,h2,h3,_⟩⟩:=h
  ·cases e0
  ·simp only[Value.slice.injEq,Option.some.injEq,Addr.mk.injEq,and_true,true_and]at e0
   obtain⟨rfl,rfl⟩:=e0
   refine⟨rfl, ?_,grow_below _ hB hg⟩
   unfold IRow
   rw[srt_len]
   exact ownsRow_sortedI (srt_len zs) hg hb h1 h2 h3
theorem vars_sum {T R:List (Int×Int)}(hR:IsSum T R){vs:List Int}(hd:vs.Nodup)(hm:∀u,u∈vs↔coef T u≠0):srt vs=R.map (·.1):=by
 have hmr:∀u,u∈R.map (·.1)↔coef T u≠0:=fun u=>by
  rw[←hR.eq u]
  constructor
  ·intro h
   obtain⟨m,hm,rfl⟩:=List.mem_map.1 h
   rw[coef_up hR.up hm]
   exact hR.nz m hm
  ·intro h
   by_cases e:u∈R.map (·.1)
   ·exact e
   ·exact absurd (coef_none (fun m hm h2=>e (List.mem_map.2 ⟨m,hm,h2⟩))) h
 have hup:(R.map (·.1)).Pairwise (·<·):=List.pairwise_map.2 hR.up
 have hp:(srt vs).Perm (R.map (·.1)):=(List.mergeSort_perm _ _).trans ((List.perm_ext_iff_of_nodup hd (hup.imp (fun h=>by omega))).2 fun u=>by rw[hm u,hmr u])
 have hs:(srt vs).Pairwise (·≤·):=by
  have:=List.pairwise_mergeSort (le:=fun x y:Int=>decide (x≤y)) (fun a b c h1 h2=>by simp at *; omega) (fun a b=>by simp;omega) vs
  exact this.imp (fun h=>by simpa using h)
 exact hp.eq_of_pairwise (fun a b _ _ h1 h2=>by omega) hs (hup.imp (fun h=>by omega))
end Cut
namespace Cut
open Go.RowKit Go.Sort Go.Maps
theorem one_at (w:World)(x:Value)(t:TypeId)(N:Nat)(hN:w.heap.size=N):∀j u,[x][j]? =some u→(w.alloc (.cells #[x] t)).cell? ((⟨N,0,none⟩:Addr).add j)=some u:=by
 subst hN
 exact cell_one_new w x t
theorem one_int (x:Int):∀u∈[Value.int .i64 x],u.oneCell'=true:=by
 intro u hu
 obtain rfl:=List.mem_singleton.1 hu
 rfl
theorem standing_any (T R:List (Int×Int))(n B:Nat)(w:World)(hs:Sums T n B w)(hR:IsSum T R)(hn:n≤65536):
 Calls Tryz.prog 133 #[.map (some B)] w fun e w'=>∃v,e= .returned v∧IRow w.heap.size (R.map (·.1)) v w'∧Below w.heap.size w w':=by
 obtain⟨D,hown,hat0⟩:=hs.ex
 obtain⟨i0,hi,hz0,hz1,hz2⟩:=info_parts Tryz.infoInt
 have HAT:=Lib.hid hat0
 have HRS:=Lib.hid hR
 have hBz:=hown.lt
 clear hs hat0 hR
 go_enter Tryz.func133,Tryz.ntmps133
 go_wp2_with (first | (at_range;refine wpList_range_own _ rfl _ 199 rfl 3 3 Tryz.lawInt Tryz.underlying199 _ B n D rfl hown ?_;intro w0 hrg0 hg0 hs0) | go_in)
 go_frame
 go_loopw [3] (fun s wr=>∃(left:Lit→Bool) (cnt:Nat) (vs:List Int),wr.ranges Tryz.prog 3 (plainElem Tryz.prog 3) B w.heap.size n D left cnt∧Hid (IRow (w.heap.size+1) vs s wr)∧Hid (∀u:Int,u∈vs↔coef T u≠0∧left (.int .i64 u)=false)∧Hid vs.Nodup∧Hid (Below w.heap.size w wr)∧Hid (vs.length+cnt≤Maps.size D)) (fun _ wr=>wr.rangeLeft B w.heap.size)
 case atStart=>
  refine⟨_,_,[],hrg0,World.ownsRow_nil _ _ _ _,fun u=> ?_,List.nodup_nil, ?_,by show 0+_≤_;omega⟩
  ·constructor
   ·intro h;cases h
   ·rintro⟨h1,h2⟩
    have h3:=atKey_of_not_has h2 (.lit (.int .i64 0))
    rw[HAT.out u]at h3
    injection h3 with h3
    injection h3 with h3 h4
    exact absurd h4 h1
  ·exact(Below.refl _ _).grown hg0 (Nat.le_refl _) (fun k hk=>by cases hk)
 case round=>
  obtain⟨left,cnt,vs,hrg,hrow,hmem,hnd,hb,hvn⟩:=hrel
  have hsn:=hown.size_le
  have hvn':=hvn.out
  go_wp2_with (first | (at_next;refine wpList_next_ranges_ii _ rfl _ rfl 3 3 .i64 .i64 Tryz.lawInt Tryz.underlying3 Tryz.underlying3 B w.heap.size n D left cnt rfl hrg ?_ ?_) | go_in)
  ·intro hc0 hl0
   have hvs:=vars_sum HRS.out hnd.out (fun u=>by rw[hmem.out u];exact⟨fun h=>h.1,fun h=>⟨h,hl0 _⟩⟩)
   have hzr:=hrg.lt
   go_wp2_with fail
   refine(sort_irow hrow.out (by omega) (by omega)).mono ?_
   rintro e w2 ⟨rfl,hr2,hb2⟩
   have HR2:=Lib.hid hr2
   have HB2:=Lib.hid (hb.out.trans (hb2.mono (by omega)))
   clear hr2 hb2
   go_wp2_with fail
   go_ret
   refine⟨_,rfl, ?_,HB2.out⟩
   rw[←hvs]
   exact Joins.ownsRow_le HR2.out (Nat.le_succ _)
  ·intro x c w1 cnt1 hwx hwc hlx hat hrg1 hlt hg1 hs1 hen
   have hcx:c=coef T x:=by
    have h1:=(hat (.lit (.int .i64 0))).symm.trans (HAT.out x)
    injection h1 with h1
    injection h1
   have hzr:=hrg.lt
   have hsk:∀u:Int,u≠x→(Lit.int .i64 u).sameKey (.int .i64 x)=false:=fun u h=>sameKey_ne (fun e=>h (by injection e))
   have hsx:(Lit.int .i64 x).sameKey (.int .i64 x)=true:=WideAt.sameKey_self trivial
   have hrow1:IRow (w.heap.size+1) vs u3 w1:=by
    refine World.ownsRow.kept (row:=some w.heap.size) hrow.out hg1 ?_
    cases hv:u3.ownBlock with
    | none=>exact .inl rfl
    | some g=>
      right
      intro e
      injection e with e
      have:=(World.ownsRow.lt hrow.out g hv).1
      omega
   have hb1:Below w.heap.size w w1:=hb.out.grown hg1 (by omega) (fun k hk=>by injection hk with hk;omega)
   by_cases hc0:c=0
   ·go_wp2
    refine⟨⟨_,cnt1,vs,hrg1,hrow1,fun u=> ?_,hnd.out,hb1,by show _≤_;omega⟩,by rw[hrg1.left_eq,hrg.left_eq];omega⟩
    rw[hmem.out u]
    by_cases e:u=x
    ·subst e
     rw[←hcx,hc0]
     simp
    ·rw[hsk u e]
     simp
   ·have HRW:Hid (IRow (w.heap.size+1) vs u3 (w1.alloc (.cells #[.int .i64 x] 3))):=World.ownsRow.alloc hrow1 _
    have hgb:∀g,u3.ownBlock=some g→w.heap.size+1≤g:=fun g hg=>(World.ownsRow.lt hrow.out g hg).1
    have HS1:=Lib.hid hs1
    clear hs1
    go_wp2_with (at_builtin;refine wpList_append_own_at _ rfl _ _ 23 rfl (w.heap.size+1) 3 i0 _ 1 8 Tryz.underlying23 hi hz0 hz1 hz2 rfl (by decide) u3 vs.length (ints vs) rfl HRW.out ⟨w1.heap.size,0,none⟩ 1 1 [.int .i64 x] rfl rfl ?c2 ?c3 ?c4 ?c5 ?c6 ?_)
    case c2=>exact one_at _ _ _ _ (by simp)
    case c3=>exact one_int x
    case c4=>unfold maxLen;omega
    case c5=>omega
    case c6=>have:=HS1.out;simp;omega
    intro v2 w2 hown2 hgrow2 _ hat2
    go_wp2_with fail
    have hs9:=HS1.out
    have hza:(w1.alloc (.cells #[.int .i64 x] 3)).heap.size=w1.heap.size+1:=by simp
    have hrg2:=(hrg1.alloc (.cells #[.int .i64 x] 3)).kept hgrow2 (fun e=>by have:=hgb B e.symm;omega) (fun e=>by have:=hgb _ e.symm;omega)
    have hrow2:IRow (w.heap.size+1) (vs ++ [x]) v2 w2:=by
     unfold IRow
     rw[List.length_append,ints_append]
     exact hown2
    refine⟨⟨_,cnt1,vs ++ [x],hrg2,hrow2,fun u=> ?_, ?_,(hb1.alloc hb1.size _).grown hgrow2 (by omega) (fun k hk=>by have:=hgb k hk;omega),by show _≤_;rw[List.length_append];show vs.length+1+cnt1≤_;omega⟩,by rw[hrg2.left_eq,hrg.left_eq];omega⟩
    ·rw[List.mem_append,List.mem_singleton,hmem.out u]
     by_cases e:u=x
     ·subst e
      rw[hsx]
      simp
      exact fun h=>hc0 (hcx.trans h)
     ·rw[hsk u e]
      simp[e]
    ·show(vs ++ [x]).Nodup
     refine List.nodup_append.2 ⟨hnd.out,by simp,fun a ha b hb e=> ?_⟩
     rw[List.mem_singleton]at hb
     subst hb
     subst e
     have:=((hmem.out _).1 ha).2
     rw[hlx]at this
     cases this
end Cut
section
open Go.RowKit
def Some (B:Nat)(m:Int)(w:World)(e:Ending)(w':World):Prop:=∃v:Int,e= .returned (.int .i64 v)∧ -1≤v∧v≤m∧Below B w w'
theorem light_any:∀(n:Nat) (f:FT) (cs:List Value) (m d:Int) (w:World),0≤m→m≤1048576→0≤d→d≤1048576→FLies w.heap.size w n f cs→
 Calls Tryz.prog 29 #[.agg cs.toArray,.int .i64 m,.int .i64 d] w (Some w.heap.size m w)
 | 0,_,_,_,_,_,_,_,_,_,h=>h.elim
 | n+1,f,cs,m,d,w,h0,h1,d0,d1,h=>by
   have IH:=light_any n
   obtain⟨ta,tcap,ka,kcap,rfl,_,ht4,hk4,hks⟩:=h
   have HI:=Lib.hid IH
   have HK:=Lib.hid hks
   have B0:=Lib.hid (box_start w f.kind f.c ta ka f.t.length tcap f.ks.length kcap)
   clear IH hks
   generalize f.kind=fk at B0
   generalize f.c=fc at B0
   generalize f.t.length=ft at B0 ht4
   generalize hl:f.ks.length=len at B0 HK hk4
   clear hl
   have hno:∀r:Int,r= -1→Hid (Some w.heap.size m w (.returned (.int .i64 r)) (w.alloc (.cells #[.int .i64 fk,.int .i64 fc,.slice ta ft tcap,.slice ka len kcap] 39))):=fun r hr=>⟨r,rfl,by omega,by omega,B0.out.bel⟩
   by_cases hd:d=0
   ·have e1:(d == 0)=true:=by simpa using hd
    have hn:=hno _ rfl
    clear hno HI HK hd
    go_enter Tryz.func29,Tryz.ntmps29
    go_wp2_with fail
    go_ret
    exact hn.out
   ·have e1:(d == 0)=false:=by simpa using hd
    by_cases hm:m=0
    ·have e2:decide (m - 1<0)=true:=by simp;omega
     have hn:=hno _ rfl
     clear hno HI HK hd
     go_enter Tryz.func29,Tryz.ntmps29
     go_wp2_with fail
     go_ret
     exact hn.out
    ·have e2:¬m - 1<0:=by omega
     by_cases ht:m - 1<(ft:Int)
     ·have hn:=hno _ rfl
      clear hno HI HK hd
      go_enter Tryz.func29,Tryz.ntmps29
      go_wp2_with fail
      go_ret
      exact hn.out
     ·by_cases hk:m - 1<(len:Int)
      ·have hn:=hno _ rfl
       clear hno HI HK hd
       go_enter Tryz.func29,Tryz.ntmps29
       go_wp2_with fail
       go_ret
       exact hn.out
      ·clear hno
       go_enter Tryz.func29,Tryz.ntmps29
       go_wp2_with fail
       go_loopw [1,7] (fun s i wr=>∃(k:Nat) (v:Int),k≤len∧i= .int .i64 k∧s= .int .i64 v∧0≤v∧v≤m - 1∧Hid (Box w wr w.heap.size fk fc ta ft tcap ka len kcap)) (fun _ i _=>len - (intOf i).toNat)
       case atStart=>exact⟨0,m - 1 - ft,Nat.zero_le _,rfl,rfl,by omega,by omega,B0⟩
       case round=>
        obtain⟨k,v,hkk,rfl,rfl,hv1,hv2,hbx⟩:=hrel
        obtain⟨bz,_,_,_,q3,hb⟩:=hbx.out
        by_cases hlt:k<len
        ·obtain⟨b,off,c0,c1,c2,c3,rfl,hblt,g0,g1,g2,g3,hf⟩:=HK.out k hlt
         rw[←hb.cell (p:=⟨b,_,none⟩) hblt]at g0 g1 g2 g3
         obtain⟨ck,cc,cta,ctn,ctcap,cka,ckn,ckcap,rfl,rfl,rfl,rfl⟩:=hf.form
         have hih:=HI.out (f.ks.getD k default) _ v (d - 1) wr (by omega) (by omega) (by omega) (by omega) ((hf.below hb).mono hb.size)
         clear hf
         go_wp2_with fail
         refine hih.mono ?_
         rintro e w1 ⟨u,rfl,hu1,hu2,hb1⟩
         have HB1:=Lib.hid (hbx.out.below hb1 bz)
         clear g0 g1 g2 g3 hih hb1 hb hbx q3
         by_cases hun:u<0
         ·go_wp2_with fail
          go_ret
          exact⟨-1,rfl,by omega,by omega,HB1.out.bel⟩
         ·go_wp2_with fail
          go_roundw
          case rel=>exact⟨k+1,u,by omega,by go_num,rfl,by omega,by omega,HB1⟩
          case measure=>simp[intOf];omega
        ·clear HI HK
         go_wp2_with fail
         go_ret
         exact⟨v,rfl,by omega,by omega,hb⟩
end
namespace Cut
open Go.RowKit Go.Maps
def divT (g:Int)(R:List (Int×Int)):List (Int×Int):=R.map fun m=>(m.1,m.2.tdiv g)
theorem divT_len (g:Int)(R:List (Int×Int)):(divT g R).length=R.length:=by simp[divT]
theorem divT_get (g:Int)(R:List (Int×Int))(k:Nat)(h:k<R.length):(divT g R).getD k (0,0)=((R.getD k (0,0)).1,(R.getD k (0,0)).2.tdiv g):=by
 simp[divT,List.getD_eq_getElem?_getD,h]
def allIn (M:Int)(R:List (Int×Int)):Bool:=R.all fun m=>wi m.2 M
theorem allIn_get {M:Int}{R:List (Int×Int)}(h:allIn M R=true)(k:Nat)(hk:k<R.length):wi (R.getD k (0,0)).2 M=true:=by
 have:=List.all_eq_true.1 h R[k] (List.getElem_mem hk)
 simpa [List.getD_eq_getElem?_getD,hk]using this
theorem allIn_of {M:Int}{R:List (Int×Int)}(h:∀k,k<R.length→wi (R.getD k (0,0)).2 M=true):allIn M R=true:=by
 refine List.all_eq_true.2 fun m hm=> ?_
 obtain⟨k,hk,rfl⟩:=List.getElem_of_mem hm
 have:=h k hk
 simpa [List.getD_eq_getElem?_getD,hk]using this
theorem allIn_not {M:Int}{R:List (Int×Int)}{k:Nat}(hk:k<R.length)(h:wi (R.getD k (0,0)).2 M=false):allIn M R=false:=by
 cases e:allIn M R
 ·rfl
 ·rw[allIn_get e k hk]at h;cases h
def divK (u:Int)(D:List (Int×Int)):Int:=if wi u 1073741824=true∧allIn 1073741824 D=true then(if 64<D.length then 2 else 0) else 3
def LEnd (B:Nat)(x C:Int)(D:List (Int×Int))(w:World)(e:Ending)(w':World):Prop:=∃v,e= .returned (.tuple #[.agg #[.int .i64 C,v],codeV x])∧Row B D v w'∧Below B w w'
theorem LEnd.none {B:Nat}{x:Int}{w:World}{e:Ending}{w':World}(he:e= .returned (.tuple #[.agg #[.int .i64 0,.slice none 0 0],codeV x]))(hb:Below B w w'):LEnd B x 0 [] w e w':=⟨_,he,World.ownsRow_nil _ _ _ _,hb⟩
structure DivSt (w W:World)(u:Int)(v:Value)(r:List (Int×Int)):Prop where
 row:Row (w.heap.size+2) r v W
 r0:W.cell? ⟨w.heap.size,0,none⟩=some (.int .i64 0)
 r1:W.cell? ⟨w.heap.size,1,none⟩=some (.slice none 0 0)
 rf:∀o,W.frozen? ⟨w.heap.size,o,none⟩=false
 m0:W.cell? ⟨w.heap.size+1,0,none⟩=some (.int .i64 u)
 m1:W.cell? ⟨w.heap.size+1,1,none⟩=some v
 mf:∀o,W.frozen? ⟨w.heap.size+1,o,none⟩=false
 mz:w.heap.size+1<W.heap.size
 bel:Below w.heap.size w W
theorem DivSt.start (w:World)(u:Int):DivSt w ((w.alloc (.cells #[.int .i64 0,.slice none 0 0] 36)).alloc (.cells #[.int .i64 u,.slice none 0 0] 36)) u (.slice none 0 0) []:=by
 have h0:=heap_alloc_new w (.cells #[.int .i64 0,.slice none 0 0] 36)
 have hb:=(Below.refl w.heap.size w).alloc (Nat.le_refl _) (.cells #[.int .i64 0,.slice none 0 0] 36)
 have hz:(w.alloc (.cells #[.int .i64 0,.slice none 0 0] 36)).heap.size=w.heap.size+1:=by simp
 generalize w.alloc (.cells #[.int .i64 0,.slice none 0 0] 36)=w1 at h0 hb hz⊢
 have h1:=heap_alloc_new w1 (.cells #[.int .i64 u,.slice none 0 0] 36)
 have hb1:=(Below.refl w1.heap.size w1).alloc (Nat.le_refl _) (.cells #[.int .i64 u,.slice none 0 0] 36)
 rw[hz]at h1
 have hlt:w.heap.size<w1.heap.size:=by omega
 exact⟨World.ownsRow_nil _ _ _ _,(hb1.cell (p:=⟨w.heap.size,0,none⟩) hlt).trans (by rw[cell_of_row _ _ _ _ _ _ h0];rfl),(hb1.cell (p:=⟨w.heap.size,1,none⟩) hlt).trans (by rw[cell_of_row _ _ _ _ _ _ h0];rfl),fun o=>(hb1.frozen (p:=⟨w.heap.size,o,none⟩) hlt).trans (frozen_of_row _ _ _ _ _ h0),
  by rw[cell_of_row _ _ _ _ _ _ h1];rfl,by rw[cell_of_row _ _ _ _ _ _ h1];rfl,fun o=>frozen_of_row _ _ _ _ _ h1,by have:(w1.alloc (.cells #[.int .i64 u,.slice none 0 0] 36)).heap.size=w1.heap.size+1:=by simp
                                                                                                                   omega,hb.trans (hb1.mono (by omega))⟩
theorem DivSt.below {w W w6 w5:World}{u:Int}{v:Value}{r:List (Int×Int)}(h:DivSt w W u v r)(hb5:Below (w.heap.size+2) W w5)(hg:w5.grownBy w6 v.ownBlock):Below (w.heap.size+2) W w6:=
 hb5.grown hg (Nat.le_trans h.mz hb5.size) (fun j hj=>(World.ownsRow.lt h.row j hj).1)
theorem DivSt.far {w W w6 w5:World}{u:Int}{v:Value}{r:List (Int×Int)}(h:DivSt w W u v r)(hb5:Below (w.heap.size+2) W w5)(hg:w5.grownBy w6 v.ownBlock):
 w6.cell? ⟨w.heap.size+1,1,none⟩=some v∧∀o,w6.frozen? ⟨w.heap.size+1,o,none⟩=false:=by
 have hb6:=h.below hb5 hg
 exact⟨(hb6.cell (p:=⟨w.heap.size+1,1,none⟩) (Nat.lt_succ_self _)).trans h.m1,fun o=>(hb6.frozen (p:=⟨w.heap.size+1,o,none⟩) (Nat.lt_succ_self _)).trans (h.mf o)⟩
theorem DivSt.step {w W w6 w5:World}{u:Int}{v v6:Value}{r r6:List (Int×Int)}(h:DivSt w W u v r)(hb5:Below (w.heap.size+2) W w5)(hg:w5.grownBy w6 v.ownBlock)(hr:Row (w.heap.size+2) r6 v6 w6):
 DivSt w (w6.setCell ⟨w.heap.size+1,1,none⟩ v6) u v6 r6:=by
 have hb6:=h.below hb5 hg
 have hz6:w.heap.size+1<w6.heap.size:=Nat.lt_of_lt_of_le h.mz hb6.size
 have k:w6.grownBy (w6.setCell ⟨w.heap.size+1,1,none⟩ v6) (some (w.heap.size+1)):=⟨rfl,rfl,rfl,Nat.le_of_eq (World.size_setCell _ _ _).symm,fun q _ hq=>Below.heap_setCell _ _ _ _ (fun e=>hq (by rw[e]))⟩
 have hc:∀b o,b<w.heap.size+1→(w6.setCell ⟨w.heap.size+1,1,none⟩ v6).cell? ⟨b,o,none⟩=W.cell? ⟨b,o,none⟩:=fun b o hb=>by
  rw[World.cell?_setCell_other _ _ _ _ (by simp<;>omega)]
  exact hb6.cell (p:=⟨b,o,none⟩) (by show b<_;omega)
 have hf:∀b o,b≤w.heap.size+1→(w6.setCell ⟨w.heap.size+1,1,none⟩ v6).frozen? ⟨b,o,none⟩=W.frozen? ⟨b,o,none⟩:=fun b o hb=>(World.frozen?_setCell _ _ _ _).trans (hb6.frozen (p:=⟨b,o,none⟩) (by show b<_;omega))
 refine⟨World.ownsRow.kept hr k (.inr (fun e=> ?_)),(hc _ _ (by omega)).trans h.r0,(hc _ _ (by omega)).trans h.r1,fun o=>(hf _ o (by omega)).trans (h.rf o), ?_, ?_,fun o=>(hf _ o (Nat.le_refl _)).trans (h.mf o),by rw[World.size_setCell];exact hz6,(h.bel.trans (hb6.mono (by omega))).setCell (p:=⟨w.heap.size+1,1,none⟩) (by show _≤w.heap.size+1;omega) _⟩
 ·have:=(World.ownsRow.lt hr _ e).1;omega
 ·rw[World.cell?_setCell_other _ _ _ _ (by simp)]
  exact(hb6.cell (p:=⟨w.heap.size+1,0,none⟩) (Nat.lt_succ_self _)).trans h.m0
 ·exact World.cell?_setCell_same _ _ _ (h.far hb5 hg).1
theorem DivSt.alloc {w W:World}{u:Int}{v:Value}{r:List (Int×Int)}(h:DivSt w W u v r)(o:Obj):DivSt w (W.alloc o) u v r:=by
 have hb:Below (w.heap.size+2) W (W.alloc o):=(Below.refl _ W).alloc h.mz o
 have h0:w.heap.size<w.heap.size+2:=by omega
 have h1:w.heap.size+1<w.heap.size+2:=by omega
 exact⟨World.ownsRow.alloc h.row o,(hb.cell (p:=⟨w.heap.size,0,none⟩) h0).trans h.r0,(hb.cell (p:=⟨w.heap.size,1,none⟩) h0).trans h.r1,fun j=>(hb.frozen (p:=⟨w.heap.size,j,none⟩) h0).trans (h.rf j),(hb.cell (p:=⟨w.heap.size+1,0,none⟩) h1).trans h.m0,(hb.cell (p:=⟨w.heap.size+1,1,none⟩) h1).trans h.m1,fun j=>(hb.frozen (p:=⟨w.heap.size+1,j,none⟩) h1).trans (h.mf j),Nat.lt_of_lt_of_le h.mz hb.size,h.bel.trans (hb.mono (by omega))⟩
theorem below2 {B:Nat}{w W:World}{No:Nat}(h:Below B w W)(hB:B≤No)(x0 x1:Value):Below B w ((W.setCell ⟨No,0,none⟩ x0).setCell ⟨No,1,none⟩ x1):=(h.setCell (p:=⟨No,0,none⟩) hB _).setCell (p:=⟨No,1,none⟩) hB _
theorem res2 {W:World}{No:Nat}{y0 y1:Value}(h0:W.cell? ⟨No,0,none⟩=some y0)(h1:W.cell? ⟨No,1,none⟩=some y1)(x0 x1:Value):
 ((W.setCell ⟨No,0,none⟩ x0).setCell ⟨No,1,none⟩ x1).cell? ⟨No,0,none⟩=some x0∧((W.setCell ⟨No,0,none⟩ x0).setCell ⟨No,1,none⟩ x1).cell? ⟨No,1,none⟩=some x1:=by
 refine⟨?_,World.cell?_setCell_same _ _ _ (u:=y1) (by rw[World.cell?_setCell_other _ _ _ _ (by simp)];exact h1)⟩
 rw[World.cell?_setCell_other _ _ _ _ (by simp)]
 exact World.cell?_setCell_same _ _ _ h0
theorem _root_.Go.Proofs.YtipahfcaplbifaaGreatDoor.Row.set2 {B:Nat}{l:List (Int×Int)}{v:Value}{W:World}{No:Nat}(h:Row B l v W)(hN:No<B)(x0 x1:Value):Row B l v ((W.setCell ⟨No,0,none⟩ x0).setCell ⟨No,1,none⟩ x1):=by
 have k:∀(V:World) o x,V.grownBy (V.setCell ⟨No,o,none⟩ x) (some No):=fun V o x=>⟨rfl,rfl,rfl,Nat.le_of_eq (World.size_setCell _ _ _).symm,fun q _ hq=>Below.heap_setCell _ _ _ _ (fun e=>hq (by rw[e]))⟩
 have h1:Row B l v (W.setCell ⟨No,0,none⟩ x0):=World.ownsRow.kept h (k W 0 x0) (.inr (fun e=>by have:=(World.ownsRow.lt h _ e).1;omega))
 exact World.ownsRow.kept h1 (k _ 1 x1) (.inr (fun e=>by have:=(World.ownsRow.lt h1 _ e).1;omega))
theorem IRow.nums {B:Nat}{zs:List Int}{v:Value}{w:World}(h:IRow B zs v w):∃a cap,v= .slice a zs.length cap∧Nums w.heap.size w a zs:=by
 have hc:=fun g=>World.ownsRow.cells h (g:=g)
 have hlt:=World.ownsRow.lt h
 obtain⟨_,h1 | ⟨g,cap,cur,hv,h2⟩⟩:=h
 ·exact⟨none,0,by rw[h1.1,h1.2],fun i hi=>by omega⟩
 ·subst hv
  refine⟨some ⟨g,0,none⟩,cap,rfl,fun i hi=>⟨g,0,rfl,(hlt g rfl).2, ?_⟩⟩
  have:=hc g rfl i (.int .i64 (zs.getD i 0)) (by simp[ints,List.getD_eq_getElem?_getD,hi])
  rwa [show(⟨g,0,none⟩:Addr).add i=⟨g,0+i,none⟩ by unfold Addr.add;split<;>simp_all]at this
theorem map_getD (R:List (Int×Int))(k:Nat)(h:k<R.length):(R.map (·.1)).getD k 0=(R.getD k (0,0)).1:=by simp[List.getD_eq_getElem?_getD,h]
end Cut
namespace Cut
open Go.RowKit Go.Maps
structure DivIs (u:Int)(D:List (Int×Int))(x C:Int)(E:List (Int×Int)):Prop where
 ok:divK u D=0→x=0∧C=u∧E=D
 bad:divK u D≠0→x=divK u D∧C=0∧E=[]
theorem divK_far {u:Int}{D:List (Int×Int)}(h:wi u 1073741824=false∨allIn 1073741824 D=false):divK u D=3:=by
 unfold divK;rw[if_neg (by rintro⟨h1,h2⟩;rw[h1,h2]at h;simp at h)]
theorem divK_in {u:Int}{D:List (Int×Int)}(h:wi u 1073741824=true)(h2:allIn 1073741824 D=true):divK u D=if 64<D.length then 2 else 0:=by
 unfold divK;rw[if_pos ⟨h,h2⟩]
theorem divided_any (c g:Int)(B nm:Nat)(T R:List (Int×Int))(va:Option Addr)(vn vcap:Nat)(w:World)(hg:1≤g∧g≤1073741824)(hc: -4398046511104≤c∧c≤4398046511104)(hs:Sums T nm B w)(hR:IsSum T R)(hin:allIn 4398046511104 R=true)(hvn:R.length=vn)(hv:Nums w.heap.size w va (R.map (·.1)))(hvm:vn≤65536)(hvb:∀m∈R,0≤m.1∧m.1≤1073741824)(x C:Int)(E:List (Int×Int))(hx:DivIs (upI c g) (divT g R) x C E):
 Calls Tryz.prog 135 #[.int .i64 c,.map (some B),.slice va vn vcap,.int .i64 g] w (LEnd w.heap.size x C E w):=by
 have hg1:=hg.1
 have hg2:=hg.2
 have hg0:g≠0:=by omega
 have hup:=Lib.hid (fun W=>cup_any c g W hg1 ⟨by omega,by omega⟩)
 have HS:=Lib.hid hs
 have HV:=Lib.hid hv
 have HVN:=Lib.hid hvn
 have HRS:=Lib.hid hR
 have HIN:=Lib.hid hin
 have S0:=Lib.hid (DivSt.start w (upI c g))
 have HDL:=Lib.hid (divT_len g R)
 have HDG:=Lib.hid (fun k h=>divT_get g R k h)
 have HRL:=Lib.hid hvn
 have HX:=Lib.hid hx
 have HVB:=Lib.hid hvb
 clear hs hv hvn hR hin hg hx hvb
 generalize upI c g=u at hup S0 HX
 generalize divT g R=D at HDL HDG HX
 obtain⟨i0,hi,hz0,hz1,hz2⟩:=info_parts Tryz.infoMono
 go_enter Tryz.func135,Tryz.ntmps135
 go_wp2_with fail
 refine(hup.out _).mono ?_
 rintro e w4 ⟨rfl,rfl⟩
 go_wp2_with fail
 generalize (w.alloc (.cells #[.int .i64 0,.slice none 0 0] 36)).alloc (.cells #[.int .i64 u,.slice none 0 0] 36)=w5 at S0⊢
 clear hup
 go_loopw [21] (fun i wr=>∃(k:Nat) (v:Value),k≤vn∧i= .int .i64 k∧Hid (DivSt w wr u v (D.take k))) (fun i _=>vn - (intOf i).toNat)
 case atStart=>exact⟨0,_,Nat.zero_le _,rfl,S0⟩
 case round=>
  clear S0
  obtain⟨k,v,hk,rfl,hst⟩:=hrel
  obtain⟨wo,rfl⟩:∃wo:World,wo=wr:=⟨_,rfl⟩
  obtain⟨hrow,q0,q1,qf,m0,m1,mf,mz,hbel⟩:=hst.out
  by_cases hlt:k<vn
  ·have hkR:k<R.length:=by rw[HRL.out];exact hlt
   obtain⟨b,off,ea,hblt,c1⟩:=(HV.out.below hbel) k (by rw[List.length_map];exact hkR)
   subst ea
   rw[map_getD R k hkR]at c1
   have hts:=take_snoc D k (by rw[HDL.out];exact hkR)
   rw[HDG.out k hkR]at hts
   have hrt:(D.take k).length≤65536:=by rw[List.length_take];omega
   have HT3:=Lib.hid hts
   have hin:=allIn_get HIN.out k hkR
   have hmem:R.getD k (0,0)∈R:=by rw[List.getD_eq_getElem?_getD,List.getElem?_eq_getElem hkR];exact List.getElem_mem hkR
   have hvb:=HVB.out _ hmem
   have hco:coef T (R.getD k (0,0)).1=(R.getD k (0,0)).2:=by rw[←HRS.out.eq,coef_up HRS.out.up hmem]
   obtain⟨DD,hown,hat0⟩:=HS.out.ex
   have hv0:=hat0 (R.getD k (0,0)).1
   rw[hco]at hv0
   have hownk:wo.ownsMap Tryz.prog 3 (plainElem Tryz.prog 3) B nm DD:=hown.kept (row:=none) ⟨hbel.os,hbel.tape,hbel.output,hbel.size,fun q hq _=>hbel.block q hq⟩ (by simp)
   generalize (R.getD k (0,0)).1=V at c1 HT3 hv0 hvb
   generalize (R.getD k (0,0)).2=K at HT3 hin hv0
   have hKb: -4398046511104≤K∧K≤4398046511104:=by unfold wi at hin;simpa using hin
   have hq:=tdiv_in (c:=K) (g:=g) (B:=4398046511104) (by omega)
   have hwq:IntKind.i64.wrap (K.tdiv g)=K.tdiv g:=IntWalk.i64_in _ (by omega)
   have hlk:(Instr.lookup 199 (.map (some B)) (.int .i64 V) false).run Tryz.prog wo.drew= .ok (.int .i64 K) wo.drew:=by
    obtain⟨c',hrun,hat,hwc⟩:=(hownk.drew).lookup_int Tryz.lawInt Tryz.underlying199 Tryz.underlying3 (Tryz.zeroInt _) (key:= .int .i64 V) (kl:= .int .i64 V) (keyOf_int_mk Tryz.underlying3 (WalkArith.wf_i64 (by omega)))
    obtain rfl:c'=K:=by have h9:=hat.symm.trans hv0;injection h9 with h9;injection h9
    exact hrun
   generalize D.take k=r at hst HT3 hrt hrow
   have HROW:Hid (((wo.alloc (.cells #[.int .i64 V,.int .i64 (K.tdiv g)] 92)).drew).ownsRow (w.heap.size+2) 92 2 v r.length (flat r)):=(World.ownsRow.alloc hrow _).drew
   have HB5:Hid (Below (w.heap.size+2) wo ((wo.alloc (.cells #[.int .i64 V,.int .i64 (K.tdiv g)] 92)).drew)):=((Below.refl _ wo).alloc mz _).drew
   have NEWS:=Lib.hid (World.news_of_block (w:=(wo.alloc (.cells #[.int .i64 V,.int .i64 (K.tdiv g)] 92)).drew) (cs:= #[.int .i64 V,.int .i64 (K.tdiv g)]) (t:=92) (fr:=(0,0)) (heap_alloc_new wo _))
   have HM:=Lib.hid mz
   have m1a:(wo.alloc (.cells #[.int .i64 V,.int .i64 (K.tdiv g)] 92)).cell? ⟨w.heap.size+1,1,none⟩=some v:=(((Below.refl _ wo).alloc (Nat.le_refl _) _).cell (p:=⟨w.heap.size+1,1,none⟩) mz).trans m1
   clear hrow qf mf hbel hts m0 mz hq q0 q1 hin hKb hmem hco hown hat0 hv0 hownk
   go_wp2_with fail
   go_region_law (first
    | (refine step_append_lies _ (by rfl) _ _ _ (by rfl) (w.heap.size+2) 92 i0 _ 2 16 Tryz.underlying34 hi hz0 hz1 hz2 rfl (by omega) v r.length (flat r) (by rfl) HROW.out
        ⟨wo.heap.size,0,none⟩ 1 1 [.int .i64 V,.int .i64 (K.tdiv g)] (by rfl) (by rfl) NEWS.out (by simp[Value.oneCell']) (by omega) (by unfold maxLen;omega) (by omega) (by have:=HM.out;simp;omega) (wo.heap.size+1) (by simp) ?_
       intro gg cap2 w6 hown6 hgrow6 hat6 hlt6
       have FAR:=Lib.hid (hst.out.far HB5.out hgrow6)
       have o61:=FAR.out.1
       have o6f:=FAR.out.2))
   all_goals
    have ST:Hid (DivSt w (w6.setCell ⟨w.heap.size+1,1,none⟩ (.slice (some ⟨gg,0,none⟩) (r.length+1) cap2)) u (.slice (some ⟨gg,0,none⟩) (r.length+1) cap2) (D.take (k+1))):=by
     refine hst.out.step HB5.out hgrow6 ?_
     rw[HT3.out]
     unfold Row
     rw[List.length_append,flat_append]
     exact hown6
    clear o61 o6f hown6 hgrow6 hat6 hlt6 FAR
    generalize w6.setCell ⟨w.heap.size+1,1,none⟩ (.slice (some ⟨gg,0,none⟩) (r.length+1) cap2)=w7 at ST⊢
    go_wp2_with fail
    go_roundw
    case rel=>exact⟨k+1,_,by omega,by go_num,ST⟩
    case measure=>simp[intOf];omega
  ·obtain rfl:k=vn:=by omega
   have hrow1:Row (w.heap.size+2) D v wo:=by
    rw[List.take_of_length_le (by rw[HDL.out,HRL.out];exact Nat.le_refl _)]at hrow
    exact hrow
   obtain⟨a3,cap3,rfl,hlies3,_⟩:=hrow1.lies
   have hDL:D.length=k:=by rw[HDL.out,HRL.out]
   rw[hDL]at hrow1 m1
   have S1:Hid (DivSt w wo u (.slice a3 k cap3) D):=by
    have:=hst.out
    rw[List.take_of_length_le (by rw[hDL];exact Nat.le_refl _),hDL]at this
    exact this
   have HL3:=Lib.hid hlies3
   have HDN:=Lib.hid hDL
   clear hst hrow hlies3 hDL HDL HDG HIN HRS HV HVN HS hrow1
   have CW:Hid (∀W,Calls Tryz.prog 134 #[.int .i64 u,.int .i64 1073741824] W fun e w'=>e= .returned (.bool (wi u 1073741824))∧W=w'):=fun W=>cwithin_any u 1073741824 W (by omega) (by omega)
   by_cases hwu:wi u 1073741824=true
   ·rw[hwu]at CW
    go_wp2_with fail
    refine(CW.out _).mono ?_
    rintro e w4 ⟨rfl,rfl⟩
    go_wp2_with fail
    clear CW m0 m1 mf mz q0 q1 qf hbel
    go_loopw [47] (fun i wr=>∃(j:Nat),j≤k∧i= .int .i64 j∧Hid (DivSt w wr u (.slice a3 k cap3) D)∧Hid (Below wo.heap.size wo wr)∧Hid (∀m,m<j→wi (D.getD m (0,0)).2 1073741824=true)) (fun i _=>k - (intOf i).toNat)
    case atStart=>exact⟨0,Nat.zero_le _,rfl,S1,Below.refl _ _,fun m hm=>absurd hm (Nat.not_lt_zero _)⟩
    case round=>
     clear S1
     obtain⟨j,hj,rfl,hsi,hbi,hai⟩:=hrel
     obtain⟨hrow2,q0,q1,qf,m0,m1,mf,mz,hbel⟩:=hsi.out
     by_cases hjt:j<k
     ·obtain⟨b3,off3,rfl,hb3,d1,d2⟩:=(HL3.out.below hbi.out) j (by rw[HDN.out];exact hjt)
      have hkj:wi (D.getD j (0,0)).2 1073741824=true→Hid (∀m,m<j+1→wi (D.getD m (0,0)).2 1073741824=true):=fun h m hm=>by
       by_cases e:m=j
       ·subst e;exact h
       ·exact hai.out m (by omega)
      have hbad:wi (D.getD j (0,0)).2 1073741824=false→Hid (x=3∧C=0∧E=[]):=fun h=>by
       have hk3:=divK_far (u:=u) (.inr (allIn_not (by rw[HDN.out];exact hjt) h))
       have:=HX.out.bad (by rw[hk3];decide)
       rw[hk3]at this
       exact this
      have CJ:Hid (∀W,Calls Tryz.prog 134 #[.int .i64 (D.getD j (0,0)).2,.int .i64 1073741824] W fun e w'=>e= .returned (.bool (wi (D.getD j (0,0)).2 1073741824))∧W=w'):=fun W=>cwithin_any _ 1073741824 W (by omega) (by omega)
      generalize (D.getD j (0,0)).1=V at d1
      generalize (D.getD j (0,0)).2=K at d2 hkj hbad CJ
      have SA:=Lib.hid (hsi.out.alloc (.cells #[.int .i64 V,.int .i64 K] 92))
      have BA:Hid (Below wo.heap.size wo (wr.alloc (.cells #[.int .i64 V,.int .i64 K] 92))):=hbi.out.alloc hbi.out.size _
      by_cases hwk:wi K 1073741824=true
      ·rw[hwk]at CJ
       have HKJ:=hkj hwk
       clear hkj hbad qf mf hbel hrow2 q0 q1 m0
       go_wp2_with fail
       refine(CJ.out _).mono ?_
       rintro e w4 ⟨rfl,rfl⟩
       go_wp2_with fail
       refine⟨⟨j+1,by omega,by go_num,SA,BA,HKJ⟩,by simp[intOf];omega⟩
      ·rw[Bool.not_eq_true]at hwk
       rw[hwk]at CJ
       obtain⟨rfl,rfl,rfl⟩:=(hbad hwk).out
       clear hkj hbad qf mf hbel hrow2 q0 q1 m0
       go_wp2_with fail
       refine(CJ.out _).mono ?_
       rintro e w4 ⟨rfl,rfl⟩
       obtain⟨_,q0,q1,qf,m0,m1,mf,mz,hbel⟩:=SA.out
       generalize wr.alloc (.cells #[.int .i64 V,.int .i64 K] 92)=w9 at SA BA q0 q1 qf m0 m1 mf mz hbel⊢
       obtain⟨e0,e1⟩:=res2 q0 q1 (.int .i64 0) (.slice none 0 0)
       have HE:=Lib.hid (And.intro e0 e1)
       have HBE:=Lib.hid hbel
       clear e0 e1 hbel
       go_wp2_with fail
       refine bodyPost_ret (v:= .tuple #[.agg #[.int .i64 0,.slice none 0 0],.iface 60 (.int .i64 3)]) ?_ rfl (LEnd.none rfl (below2 HBE.out (Nat.le_refl _) _ _))
       obtain⟨e0,e1⟩:=HE.out
       simp[results,Tryz.results135,go_sem,e0,e1]
     ·obtain rfl:j=k:=by omega
      have hall:=allIn_of (M:=1073741824) (R:=D) (fun m hm=>hai.out m (by rw[HDN.out]at hm;exact hm))
      have hdk:=divK_in hwu hall
      rw[HDN.out]at hdk
      by_cases h64:64<j
      ·rw[if_pos h64]at hdk
       obtain⟨hx0,rfl,rfl⟩:=HX.out.bad (by rw[hdk];decide)
       rw[hdk]at hx0
       subst hx0
       obtain⟨e0,e1⟩:=res2 q0 q1 (.int .i64 0) (.slice none 0 0)
       have HE:=Lib.hid (And.intro e0 e1)
       have HBE:=Lib.hid hbel
       clear e0 e1 hbel hdk hall
       go_wp2_with fail
       refine bodyPost_ret (v:= .tuple #[.agg #[.int .i64 0,.slice none 0 0],.iface 60 (.int .i64 2)]) ?_ rfl (LEnd.none rfl (below2 HBE.out (Nat.le_refl _) _ _))
       obtain⟨e0,e1⟩:=HE.out
       simp[results,Tryz.results135,go_sem,e0,e1]
      ·rw[if_neg h64]at hdk
       obtain⟨rfl,rfl,rfl⟩:=HX.out.ok hdk
       obtain⟨e0,e1⟩:=res2 q0 q1 (.int .i64 C) (.slice a3 j cap3)
       have HE:=Lib.hid (And.intro e0 e1)
       have HBE:=Lib.hid hbel
       have HRW:=Lib.hid hrow2
       clear e0 e1 hbel hdk hall hrow2
       go_wp2_with fail
       refine bodyPost_ret (v:= .tuple #[.agg #[.int .i64 C,.slice a3 j cap3],.nilIface]) ?_ rfl ⟨.slice a3 j cap3,rfl,Joins.ownsRow_le (HRW.out.set2 (by omega) _ _) (by omega),below2 HBE.out (Nat.le_refl _) _ _⟩
       obtain⟨e0,e1⟩:=HE.out
       simp[results,Tryz.results135,go_sem,e0,e1]
   ·rw[Bool.not_eq_true]at hwu
    rw[hwu]at CW
    have hk3:=divK_far (D:=D) (.inl hwu)
    obtain⟨hx0,rfl,rfl⟩:=HX.out.bad (by rw[hk3];decide)
    rw[hk3]at hx0
    subst hx0
    obtain⟨e0,e1⟩:=res2 q0 q1 (.int .i64 0) (.slice none 0 0)
    have HE:=Lib.hid (And.intro e0 e1)
    have HBE:=Lib.hid hbel
    clear e0 e1 hbel hk3
    go_wp2_with fail
    refine(CW.out _).mono ?_
    rintro e w4 ⟨rfl,rfl⟩
    go_wp2_with fail
    refine bodyPost_ret (v:= .tuple #[.agg #[.int .i64 0,.slice none 0 0],.iface 60 (.int .i64 3)]) ?_ rfl (LEnd.none rfl (below2 HBE.out (Nat.le_refl _) _ _))
    obtain⟨e0,e1⟩:=HE.out
    simp[results,Tryz.results135,go_sem,e0,e1]
end Cut
namespace Cut
open Go.RowKit Go.Maps
def sumOf (l:List (Int×Int)):List (Int×Int):=(tog (l.mergeSort fun a b=>decide (a.1≤b.1))).filter fun m=>m.2 != 0
theorem sumOf_is (l:List (Int×Int)):IsSum l (sumOf l):=by
 refine(tog_isSum (l.mergeSort fun a b=>decide (a.1≤b.1)) ?_).perm (List.mergeSort_perm _ _)
 intro i j hij hj
 have hs:=List.pairwise_mergeSort (le:=fun a b:Int×Int=>decide (a.1≤b.1)) (fun a b c h1 h2=>by simp at *; omega) (fun a b=>by simp;omega) l
 have:=List.pairwise_iff_getElem.1 hs i j (by omega) hj hij
 simp only[List.getD_eq_getElem?_getD]
 rw[List.getElem?_eq_getElem hj,List.getElem?_eq_getElem (by omega)]
 simpa using this
theorem sumOf_len (l:List (Int×Int)):(sumOf l).length≤l.length:=by
 have h1:=tog_len (l.mergeSort fun a b=>decide (a.1≤b.1)) _ (Nat.le_refl _)
 rw[List.take_length,List.length_mergeSort]at h1
 exact Nat.le_trans (List.length_filter_le _ _) h1
def lsOk (ls:List (Int×List (Int×Int))):Prop:=∀i,i<ls.length→snd (ls.getD i (0,[])).1 (ls.getD i (0,[])).2=true
theorem partsK_zero {n:Int}{ps:List (Int×Int)}:∀ {k},partsK n ps k=0→∀j,j<k→partK n (ps.getD j (0,0))=0
 | 0,_,j,hj=>absurd hj (Nat.not_lt_zero _)
 | k+1,h,j,hj=>by
   have h':(if partsK n ps k=0 then partK n (ps.getD k (0,0)) else partsK n ps k)=0:=h
   by_cases e:partsK n ps k=0
   ·rw[if_pos e]at h'
    by_cases hjk:j=k
    ·subst hjk;exact h'
    ·exact partsK_zero e j (by omega)
   ·rw[if_neg e]at h';exact absurd h' e
theorem stepK_ok {ls:List (Int×List (Int×Int))}{ps:List (Int×Int)}{div:Int}(h:stepK ls.length ps div=0)(hok:lsOk ls):partsOk ls ps∧1≤div∧div≤1073741824:=by
 unfold stepK at h
 by_cases h64:64<ps.length
 ·rw[if_pos h64]at h;cases h
 ·rw[if_neg h64]at h
  by_cases hp:partsK ls.length ps ps.length=0
  ·rw[if_pos hp]at h
   by_cases hd:div<1∨1073741824<div
   ·rw[if_pos hd]at h;cases h
   ·refine⟨⟨by omega,fun k hk=> ?_⟩,by omega,by omega⟩
    have h1:=partsK_zero hp k hk
    unfold partK at h1
    by_cases a:(ps.getD k (0,0)).1<0∨(ls.length:Int)≤(ps.getD k (0,0)).1
    ·rw[if_pos a]at h1;cases h1
    ·rw[if_neg a]at h1
     by_cases b:(ps.getD k (0,0)).2<1∨4096<(ps.getD k (0,0)).2
     ·rw[if_pos b]at h1;cases h1
     ·exact⟨⟨by omega,by omega⟩,⟨by omega,by omega⟩,hok _ (by omega)⟩
  ·rw[if_neg hp]at h;exact absurd h hp
def allDiv (g:Int)(R:List (Int×Int)):Bool:=R.all fun m=>m.2.tmod g == 0
theorem allDiv_of {g:Int}{R:List (Int×Int)}(h:∀k,k<R.length→(R.getD k (0,0)).2.tmod g=0):allDiv g R=true:=by
 refine List.all_eq_true.2 fun m hm=> ?_
 obtain⟨k,hk,rfl⟩:=List.getElem_of_mem hm
 have:=h k hk
 simpa [List.getD_eq_getElem?_getD,hk]using this
theorem allDiv_get {g:Int}{R:List (Int×Int)}(h:allDiv g R=true)(k:Nat)(hk:k<R.length):(R.getD k (0,0)).2.tmod g=0:=by
 have:=List.all_eq_true.1 h R[k] (List.getElem_mem hk)
 simpa [List.getD_eq_getElem?_getD,hk]using this
theorem allDiv_not {g:Int}{R:List (Int×Int)}{k:Nat}(hk:k<R.length)(h:(R.getD k (0,0)).2.tmod g≠0):allDiv g R=false:=by
 cases e:allDiv g R
 ·rfl
 ·exact absurd (allDiv_get e k hk) h
def tellK (n c div:Int)(ps R:List (Int×Int)):Int:=
 if stepK n ps div≠0 then stepK n ps div
 else if wi c 4398046511104=false∨allIn 4398046511104 R=false then 3
 else if allDiv div R=false then 7
 else divK (upI c div) (divT div R)
structure TellIs (n c div:Int)(ps R:List (Int×Int))(x C:Int)(E:List (Int×Int)):Prop where
 ok:tellK n c div ps R=0→x=0∧C=upI c div∧E=divT div R
 bad:tellK n c div ps R≠0→x=tellK n c div ps R∧C=0∧E=[]
theorem tellK_step {n c div:Int}{ps R:List (Int×Int)}(h:stepK n ps div≠0):tellK n c div ps R=stepK n ps div:=by unfold tellK;rw[if_pos h]
theorem tellK_far {n c div:Int}{ps R:List (Int×Int)}(h:stepK n ps div=0)(h2:wi c 4398046511104=false∨allIn 4398046511104 R=false):tellK n c div ps R=3:=by
 unfold tellK;rw[if_neg (by omega),if_pos h2]
theorem tellK_div {n c div:Int}{ps R:List (Int×Int)}(h:stepK n ps div=0)(h2:wi c 4398046511104=true)(h3:allIn 4398046511104 R=true)(h4:allDiv div R=false):tellK n c div ps R=7:=by
 unfold tellK;rw[if_neg (by omega),if_neg (by simp[h2,h3]),if_pos h4]
theorem tellK_ok {n c div:Int}{ps R:List (Int×Int)}(h:stepK n ps div=0)(h2:wi c 4398046511104=true)(h3:allIn 4398046511104 R=true)(h4:allDiv div R=true):tellK n c div ps R=divK (upI c div) (divT div R):=by
 unfold tellK;rw[if_neg (by omega),if_neg (by simp[h2,h3]),if_neg (by simp[h4])]
structure TellSt (w W:World)(pa:Option Addr)(pn pcap:Nat)(div:Int):Prop where
 s0:W.cell? ⟨w.heap.size,0,none⟩=some (.slice pa pn pcap)
 s1:W.cell? ⟨w.heap.size,1,none⟩=some (.int .i64 div)
 r0:W.cell? ⟨w.heap.size+1,0,none⟩=some (.int .i64 0)
 r1:W.cell? ⟨w.heap.size+1,1,none⟩=some (.slice none 0 0)
 rf:∀o,W.frozen? ⟨w.heap.size+1,o,none⟩=false
 mz:w.heap.size+1<W.heap.size
 bel:Below w.heap.size w W
theorem TellSt.below {w W W':World}{pa:Option Addr}{pn pcap B:Nat}{div:Int}(h:TellSt w W pa pn pcap div)(hb:Below B W W')(hB:w.heap.size+2≤B):TellSt w W' pa pn pcap div:=by
 have h0:w.heap.size<B:=by omega
 have h1:w.heap.size+1<B:=by omega
 exact⟨(hb.cell (p:=⟨w.heap.size,0,none⟩) h0).trans h.s0,(hb.cell (p:=⟨w.heap.size,1,none⟩) h0).trans h.s1,(hb.cell (p:=⟨w.heap.size+1,0,none⟩) h1).trans h.r0,(hb.cell (p:=⟨w.heap.size+1,1,none⟩) h1).trans h.r1,fun o=>(hb.frozen (p:=⟨w.heap.size+1,o,none⟩) h1).trans (h.rf o),Nat.lt_of_lt_of_le h.mz hb.size,h.bel.trans (hb.mono (by omega))⟩
theorem TellSt.start (w:World)(pa:Option Addr)(pn pcap:Nat)(div:Int):TellSt w ((w.alloc (.cells #[.slice pa pn pcap,.int .i64 div] 104)).alloc (.cells #[.int .i64 0,.slice none 0 0] 36)) pa pn pcap div:=by
 have h0:=heap_alloc_new w (.cells #[.slice pa pn pcap,.int .i64 div] 104)
 have hb:=(Below.refl w.heap.size w).alloc (Nat.le_refl _) (.cells #[.slice pa pn pcap,.int .i64 div] 104)
 have hz:(w.alloc (.cells #[.slice pa pn pcap,.int .i64 div] 104)).heap.size=w.heap.size+1:=by simp
 generalize w.alloc (.cells #[.slice pa pn pcap,.int .i64 div] 104)=w1 at h0 hb hz⊢
 have h1:=heap_alloc_new w1 (.cells #[.int .i64 0,.slice none 0 0] 36)
 have hb1:=(Below.refl w1.heap.size w1).alloc (Nat.le_refl _) (.cells #[.int .i64 0,.slice none 0 0] 36)
 rw[hz]at h1
 have hlt:w.heap.size<w1.heap.size:=by omega
 have hz2:(w1.alloc (.cells #[.int .i64 0,.slice none 0 0] 36)).heap.size=w1.heap.size+1:=by simp
 exact⟨(hb1.cell (p:=⟨w.heap.size,0,none⟩) hlt).trans (by rw[cell_of_row _ _ _ _ _ _ h0];rfl),(hb1.cell (p:=⟨w.heap.size,1,none⟩) hlt).trans (by rw[cell_of_row _ _ _ _ _ _ h0];rfl),
  by rw[cell_of_row _ _ _ _ _ _ h1];rfl,by rw[cell_of_row _ _ _ _ _ _ h1];rfl,fun o=>frozen_of_row _ _ _ _ _ h1,by omega,hb.trans (hb1.mono (by omega))⟩
theorem Sums.below {T:List (Int×Int)}{n B B':Nat}{w w':World}(h:Sums T n B w)(hb:Below B' w w')(hB:B<B'):Sums T n B w':=by
 obtain⟨D,⟨es,clock,h1,F,hs,hD⟩,h2⟩:=h.ex
 exact⟨D,⟨es,clock,(hb.block B hB).trans h1,F,hs,hD⟩,h2⟩
theorem LLies.below {B:Nat}{w w':World}{a:Option Addr}{ls:List (Int×List (Int×Int))}(h:LLies B w a ls)(hb:Below B w w'):LLies B w' a ls:=fun i hi=>by
 obtain⟨b,off,ta,tcap,ha,hlt,h1,h2,h3⟩:=h i hi
 exact⟨b,off,ta,tcap,ha,hlt,(hb.cell (p:=⟨b,_,none⟩) hlt).trans h1,(hb.cell (p:=⟨b,_,none⟩) hlt).trans h2,h3.below hb⟩
theorem LLies.mono {B B':Nat}{w:World}{a:Option Addr}{ls:List (Int×List (Int×Int))}(h:LLies B w a ls)(hB:B≤B'):LLies B' w a ls:=fun i hi=>by
 obtain⟨b,off,ta,tcap,ha,hlt,h1,h2,h3⟩:=h i hi
 exact⟨b,off,ta,tcap,ha,by omega,h1,h2,h3.mono hB⟩
theorem codeV_zero:codeV 0= .nilIface:=rfl
theorem codeV_ne {k:Int}(h:k≠0):codeV k= .iface 60 (.int .i64 k):=if_neg h
theorem tTo_vars {ls:List (Int×List (Int×Int))}{ps:List (Int×Int)}(h:partsOk ls ps):∀k,k≤ps.length→∀m∈tTo ls ps k,0≤m.1∧m.1<1048576
 | 0,_,m,hm=>by cases hm
 | k+1,hk,m,hm=>by
   rcases List.mem_append.1 hm with hm | hm
   ·exact tTo_vars h k (by omega) m hm
   ·obtain⟨p,hp,rfl⟩:=List.mem_map.1 hm
    obtain⟨_,_,hs⟩:=h.2 k (by omega)
    obtain⟨i,hi,rfl⟩:=List.getElem_of_mem hp
    have:=okAt_in ((snd_iff.1 hs).2.2 i hi)
    rw[List.getD_eq_getElem?_getD,List.getElem?_eq_getElem hi,Option.getD_some]at this
    exact⟨this.2.2.1,this.2.2.2.1⟩
end Cut
namespace Cut
open Go.RowKit
theorem upI_ceil {c g:Int}(hg:1≤g):c≤upI c g*g∧(upI c g - 1)*g<c:=by
 have h1:c.tmod g+g*c.tdiv g=c:=Int.tmod_add_mul_tdiv c g
 have h2:c.tmod g<g:=Int.tmod_lt_of_pos c (by omega)
 have h3: -g<c.tmod g:=by
  have:=Int.natAbs_tmod c g
  have h4:c.natAbs % g.natAbs<g.natAbs:=Nat.mod_lt _ (by omega)
  omega
 rw[Int.mul_comm]at h1
 unfold upI
 generalize c.tdiv g=q at h1⊢
 generalize c.tmod g=r at h1 h2 h3⊢
 have e1:(q+1)*g=q*g+g:=by rw[Int.add_mul,Int.one_mul]
 have e2:(q - 1)*g=q*g - g:=by rw[Int.sub_mul,Int.one_mul]
 generalize q*g=X at h1 e1 e2
 split
 ·rw[e1,show q+1 - 1=q by omega]
  constructor
  ·omega
  ·rename_i h5
   have:q*g=X:=by have:=e1;rw[Int.add_mul,Int.one_mul]at this;omega
   omega
 ·rw[e2]
  have:q*g=X:=by have:=e1;rw[Int.add_mul,Int.one_mul]at this;omega
  omega
theorem upI_near (c g:Int):c.tdiv g=upI c g∨c.tdiv g=upI c g - 1:=by
 unfold upI
 split<;>omega
theorem rup_any (c g:Int)(w:World)(hg:1≤g∧g≤1073741824)(hc: -281474976710656≤c∧c≤281474976710656):
 Calls Tryz.prog 124 #[.int .i64 c,.int .i64 g] w fun e w'=>e= .returned (.int .i64 (upI c g))∧w=w':=by
 have hg0:g≠0:=by omega
 obtain⟨k1,k2⟩:=upI_ceil (c:=c) hg.1
 have hn:=upI_near c g
 have hub:=upI_in (c:=c) (g:=g) (B:=281474976710656) (by omega)
 have hqb:=tdiv_in (c:=c) (g:=g) (B:=281474976710656) (by omega)
 have hwd:IntKind.i64.wrap (c.tdiv g)=c.tdiv g:=IntWalk.i64_in _ (by omega)
 generalize upI c g=u at k1 k2 hn hub⊢
 have e2:(u - 1)*g=u*g - g:=by rw[Int.sub_mul,Int.one_mul]
 have hw1:IntKind.i64.wrap (u*g)=u*g:=IntWalk.i64_in _ (by rw[e2]at k2;omega)
 have hw2:IntKind.i64.wrap ((u - 1)*g)=(u - 1)*g:=IntWalk.i64_in _ (by rw[e2]at k2⊢;omega)
 have k1':¬u*g<c:=by omega
 have k2':¬c≤(u - 1)*g:=by omega
 have HN:=Lib.hid hn
 clear hn e2 k1
 go_enter Tryz.func124,Tryz.ntmps124
 go_wp2_with fail
 go_loopw [5] (fun s wr=>∃q:Int,s= .int .i64 q∧(q=u∨q=u - 1)∧w=wr) (fun s _=>(u - intOf s).toNat)
 case atStart=>exact⟨c.tdiv g,rfl,HN.out,rfl⟩
 case round=>
  obtain⟨q,rfl,hq,rfl⟩:=hrel
  rcases hq with rfl | rfl
  ·go_wp2_with fail
   go_loopw [5] (fun s wr=>s= .int .i64 q∧w=wr) (fun _ _=>0)
   case atStart=>exact⟨rfl,rfl⟩
   case round=>
    obtain⟨rfl,rfl⟩:=hrel
    go_wp2_with fail
    go_ret
    exact⟨rfl,rfl⟩
  ·have k3:(u - 1)*g<c:=by omega
   go_wp2_with fail
   go_roundw
   case rel=>exact⟨u,by go_num,.inl rfl,trivial⟩
   case measure=>simp[intOf];omega
end Cut
section
open Go.RowKit
def litF:Nat→FT→Prop
 | 0,_=>False
 | n+1,f=>f.t.length≤1048576∧f.ks.length≤1048576∧∀i,i<f.ks.length→litF n (f.ks.getD i default)
end
section
open Go.RowKit
def ORow (B:Nat)(css:List (List Value))(v:Value)(w:World):Prop:=w.ownsRow B 39 4 v css.length css.flatten
end
end Go.Proofs.YtipahfcaplbifaaGreatDoor
