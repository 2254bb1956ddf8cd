/- Parts of a proof. -/
import Derived.Test.YtipahfcaplbifaaGreatDoorZ06
import Derived.Test.YtipahfcaplbifaaGreatDoorZ13
import Derived.Test.YtipahfcaplbifaaGreatDoorZ14
import Derived.Maps.AppendAt
import Derived.Maps.Range
import Derived.Deep.RegionHeld3
import Derived.Deep.AppendLies
import Derived.Deep.DrawnRows
set_option linter.unusedVariables false
set_option linter.unusedSimpArgs false
set_option maxHeartbeats 60000000
set_option maxRecDepth 100000
namespace Go.Proofs.YtipahfcaplbifaaGreatDoor
section
open Go.RowKit
def litF:Nat→FT→Prop
 | 0,_=>False
 | n+1,f=>f.t.length≤1048576∧f.ks.length≤1048576∧∀i,i<f.ks.length→litF n (f.ks.getD i default)
def SomeL (L:Prop)(B:Nat)(m:Int)(w:World)(e:Ending)(w':World):Prop:=∃v:Int,e= .returned (.int .i64 v)∧ -1≤v∧v≤m∧(0≤v→L)∧Below B w w'
theorem litn_any:∀(n:Nat) (f:FT) (cs:List Value) (m d:Int) (w:World),0≤m→m≤1048576→0≤d→d≤1048576→FLies w.heap.size w n f cs→
 Calls Tryz.prog 29 #[.agg cs.toArray,.int .i64 m,.int .i64 d] w (SomeL (litF n f) w.heap.size m w)
 | 0,_,_,_,_,_,_,_,_,_,h=>h.elim
 | n+1,f,cs,m,d,w,h0,h1,d0,d1,h=>by
   have IH:=litn_any n
   obtain⟨ta,tcap,ka,kcap,rfl,_,ht4,hk4,hks⟩:=h
   have HI:=Lib.hid IH
   have HK:=Lib.hid hks
   have B0:=Lib.hid (box_start w f.kind f.c ta ka f.t.length tcap f.ks.length kcap)
   have HLT:Hid (f.t.length≤1048576→f.ks.length≤1048576→(∀i,i<f.ks.length→litF n (f.ks.getD i default))→litF (n+1) f):=fun h1 h2 h3=>⟨h1,h2,h3⟩
   clear IH hks
   generalize f.kind=fk at B0
   generalize f.c=fc at B0
   generalize f.t.length=ft at B0 ht4 HLT
   generalize hl:f.ks.length=len at B0 HK hk4 HLT
   clear hl
   have hno:∀r:Int,r= -1→Hid (SomeL (litF (n+1) f) w.heap.size m w (.returned (.int .i64 r)) (w.alloc (.cells #[.int .i64 fk,.int .i64 fc,.slice ta ft tcap,.slice ka len kcap] 39))):=fun r hr=>⟨r,rfl,by omega,by omega,fun h=>by omega,B0.out.bel⟩
   by_cases hd:d=0
   ·have e1:(d == 0)=true:=by simpa using hd
    have hn:=hno _ rfl
    clear hno HI HK hd
    go_enter Tryz.func29,Tryz.ntmps29
    go_wp2_with fail
    go_ret
    exact hn.out
   ·have e1:(d == 0)=false:=by simpa using hd
    by_cases hm:m=0
    ·have e2:decide (m - 1<0)=true:=by simp;omega
     have hn:=hno _ rfl
     clear hno HI HK hd
     go_enter Tryz.func29,Tryz.ntmps29
     go_wp2_with fail
     go_ret
     exact hn.out
    ·have e2:¬m - 1<0:=by omega
     by_cases ht:m - 1<(ft:Int)
     ·have hn:=hno _ rfl
      clear hno HI HK hd
      go_enter Tryz.func29,Tryz.ntmps29
      go_wp2_with fail
      go_ret
      exact hn.out
     ·by_cases hk:m - 1<(len:Int)
      ·have hn:=hno _ rfl
       clear hno HI HK hd
       go_enter Tryz.func29,Tryz.ntmps29
       go_wp2_with fail
       go_ret
       exact hn.out
      ·clear hno
       go_enter Tryz.func29,Tryz.ntmps29
       go_wp2_with fail
       go_loopw [1,7] (fun s i wr=>∃(k:Nat) (v:Int),k≤len∧i= .int .i64 k∧s= .int .i64 v∧0≤v∧v≤m - 1∧Hid (∀j,j<k→litF n (f.ks.getD j default))∧Hid (Box w wr w.heap.size fk fc ta ft tcap ka len kcap)) (fun _ i _=>len - (intOf i).toNat)
       case atStart=>exact⟨0,m - 1 - ft,Nat.zero_le _,rfl,rfl,by omega,by omega,fun j hj=>absurd hj (Nat.not_lt_zero j),B0⟩
       case round=>
        obtain⟨k,v,hkk,rfl,rfl,hv1,hv2,hlit,hbx⟩:=hrel
        obtain⟨bz,_,_,_,q3,hb⟩:=hbx.out
        by_cases hlt:k<len
        ·obtain⟨b,off,c0,c1,c2,c3,rfl,hblt,g0,g1,g2,g3,hf⟩:=HK.out k hlt
         rw[←hb.cell (p:=⟨b,_,none⟩) hblt]at g0 g1 g2 g3
         obtain⟨ck,cc,cta,ctn,ctcap,cka,ckn,ckcap,rfl,rfl,rfl,rfl⟩:=hf.form
         have hih:=HI.out (f.ks.getD k default) _ v (d - 1) wr (by omega) (by omega) (by omega) (by omega) ((hf.below hb).mono hb.size)
         clear hf
         go_wp2_with fail
         refine hih.mono ?_
         rintro e w1 ⟨u,rfl,hu1,hu2,hul,hb1⟩
         have HB1:=Lib.hid (hbx.out.below hb1 bz)
         clear g0 g1 g2 g3 hih hb1 hb hbx q3
         by_cases hun:u<0
         ·go_wp2_with fail
          go_ret
          exact⟨-1,rfl,by omega,by omega,fun h=>by omega,HB1.out.bel⟩
         ·have hlit2:Hid (∀j,j<k+1→litF n (f.ks.getD j default)):=fun j hj=>by
           by_cases ej:j=k
           ·rw[ej];exact hul (by omega)
           ·exact hlit.out j (by omega)
          clear hul hlit
          go_wp2_with fail
          go_roundw
          case rel=>exact⟨k+1,u,by omega,by go_num,rfl,by omega,by omega,hlit2,HB1⟩
          case measure=>simp[intOf];omega
        ·clear HI HK
         go_wp2_with fail
         go_ret
         exact⟨v,rfl,by omega,by omega,fun _=>HLT.out (by omega) (by omega) (fun i hi=>hlit.out i (by omega)),hb⟩
end
section
open Go.RowKit
theorem run_append_none {P:Program}(w:World)(base:Nat)(t ty e:TypeId)(i:TypeInfo)(size:Nat)(ht:P.underlying t=some (.slice e))(hi:P.info? e=some i)
 (v:Value) (n:Nat) (xs:List Value) (hown:w.ownsRow base e size v n xs) (c:Nat):
 (Builtin.append_ #[t,t] ty #[v,.slice none 0 c]).run P w= .ok v w:=by
 rcases hown.2 with ⟨rfl,rfl⟩ | ⟨g,cap,cur,rfl,_,_,hnc,_⟩
 ·simp[Builtin.append_,run_underlying ht,sizeOf,typeInfo,hi,Builtin.lenOf,Builtin.firstCells]
 ·simp[Builtin.append_,run_underlying ht,sizeOf,typeInfo,hi,Builtin.lenOf,Builtin.firstCells,hnc,storeCells]
theorem step_append_src {w:World}{ops:Array Oper}{o:Oper}{a:Act}{K:Act→World→Prop}{Q:Exit→Act→World→Prop}{E:Prop}(hgd:o.guard=none)(s x:Operand)
 (ho:o.op= .call { callee:= .builtin .append,args:= #[s,x],argTypes:= #[34,34] })
 (B Bx:Nat) (v:Value) (hs:a.eval s=v) (h:Row B [] v w) (ad:Option Addr) (n cap:Nat) (l:List (Int×Int)) (hx:a.eval x= .slice ad n cap) (hl:Lies Bx w ad l) (hn:l.length=n)
 (hbytes:n*16≤140737488351232) (hB:B≤w.heap.size)
 (hK:∀a' cap' w',Row B l (.slice a' n cap') w'→w.grownBy w' v.ownBlock→((Value.slice a' n cap').ownBlock=v.ownBlock∨(Value.slice a' n cap').ownBlock=some w.heap.size)→K (a.put o.dst (.slice a' n cap')) w'):
 if Region.wanted o (yielded ops a.tmps)=true then Oper.wp Tryz.prog o a w K Q else E:=by
 have hw:Region.wanted o (yielded ops a.tmps)=true:=by simp[Region.wanted,hgd]
 rw[if_pos hw]
 obtain⟨i0,hi,hz0,hz1,hz2⟩:=info_parts Tryz.infoMono
 obtain⟨v',w',hr,h3,h4,h5⟩:∃v' w',(Builtin.append_ #[34,34] o.type #[v,.slice ad n cap]).run Tryz.prog w= .ok v' w'∧Row B l v' w'∧w.grownBy w' v.ownBlock∧(v'.ownBlock=v.ownBlock∨v'.ownBlock=some w.heap.size):=by
  cases ad with
  | none=>
    have h0:l=[]:=by
     cases l with
     | nil=>rfl
     | cons m r=>
       obtain⟨_,_,e,_⟩:=hl 0 (by simp)
       cases e
    subst h0
    obtain rfl:n=0:=by simpa using hn.symm
    exact⟨v,w,run_append_none w B _ o.type _ i0 2 Tryz.underlying34 hi v _ _ h cap,h,World.grownBy.refl w _,.inl rfl⟩
  | some ad=>
    obtain⟨v',w',hr,h3,h4,_,h6⟩:=run_append_own_at w B 34 o.type 92 i0 _ 2 16 Tryz.underlying34 hi hz0 hz1 hz2 rfl (by decide) v 0 [] h ad n cap (flat l) (by rw[flat_len,hn]) hl.news (flat_cells l) (by unfold maxLen;omega) (by omega) hB
    refine⟨v',w',hr, ?_,h4,h6⟩
    unfold Row
    rw[hn]
    simpa using h3
 obtain⟨a',cap',rfl,_,_⟩:=h3.lies
 rw[hn]at hr h3 h5
 unfold Oper.wp execOp
 simp only[ho,resolve,invoke,builtin,Sem.run_bind,Sem.run_pure,Result.andThen_ok,List.map_toArray,List.map_cons,List.map_nil,hs,hx,hr]
 exact hK _ _ _ h3 h4 h5
def ORow (B:Nat)(css:List (List Value))(v:Value)(w:World):Prop:=w.ownsRow B 39 4 v css.length css.flatten
theorem step_append_form {w:World}{ops:Array Oper}{o:Oper}{a:Act}{K:Act→World→Prop}{Q:Exit→Act→World→Prop}{E:Prop}(hgd:o.guard=none)(s x:Operand)
 (ho:o.op= .call { callee:= .builtin .append,args:= #[s,x],argTypes:= #[37,37] })
 (B:Nat) (v:Value) (hs:a.eval s=v) (css:List (List Value)) (h:ORow B css v w) (ad:Addr) (cap:Nat) (cs:List Value) (hx:a.eval x= .slice (some ad) 1 cap) (hcs:cs.length=4)
 (hnews:∀j u,cs[j]? =some u→w.cell? (ad.add j)=some u) (h1:∀u∈cs,u.oneCell'=true) (hlen:css.length≤1048576) (hB:B≤w.heap.size)
 (hK:∀v' w',ORow B (css ++ [cs]) v' w'→w.grownBy w' v.ownBlock→(v'.ownBlock=v.ownBlock∨v'.ownBlock=some w.heap.size)→K (a.put o.dst v') w'):
 if Region.wanted o (yielded ops a.tmps)=true then Oper.wp Tryz.prog o a w K Q else E:=by
 have hw:Region.wanted o (yielded ops a.tmps)=true:=by simp[Region.wanted,hgd]
 rw[if_pos hw]
 obtain⟨i0,hi,hz0,hz1,hz2⟩:=info_parts Tryz.infoForm
 obtain⟨v',w',hr,h3,h4,_,h5⟩:=run_append_own_at w B 37 o.type 39 i0 _ 4 64 Tryz.underlying37 hi hz0 hz1 hz2 rfl (by decide) v css.length css.flatten h ad 1 cap cs (by rw[hcs]) hnews h1 (by unfold maxLen;omega) (by omega) hB
 unfold Oper.wp execOp
 simp only[ho,resolve,invoke,builtin,Sem.run_bind,Sem.run_pure,Result.andThen_ok,List.map_toArray,List.map_cons,List.map_nil,hs,hx,hr]
 refine hK _ _ ?_ h4 h5
 unfold ORow
 rw[List.length_append,List.flatten_append,List.flatten_singleton]
 exact h3
theorem row_fresh (B:Nat)(W:World)(N:Nat)(hN:W.heap.size=N)(hB:B≤N):Row B [] (.slice (some ⟨N,0,none⟩) 0 0) (W.alloc (.cells #[] 92)).drew:=by
 subst hN
 have h:(W.alloc (.cells #[] 92)).ownsRow B 92 2 (.slice (some ⟨W.heap.size,0,none⟩) 0 0) 0 []:=World.ownsRow_made W #[] 0 hB (by decide) rfl
 exact h
end
section
open Go.RowKit
def SK (N No:Nat)(v:Value)(W:World)(b:Nat):Prop:=N+1<b∧b<W.heap.size∧b≠No∧v.ownBlock≠some b
structure CS (N No n:Nat)(f:FT)(a3:Option Addr)(k:Nat)(css:List (List Value))(v:Value)(W:World):Prop where
 row:ORow N css v W
 len:css.length=k
 four:∀c∈css,c.length=4
 own:∀g,v.ownBlock=some g→No<g
 lt:N+1<No
 ltz:No<W.heap.size
 ts:LiesQ (SK N No v W) W a3 f.t
 ks:∀j,j<k→FLiesQ (SK N No v W) W n (f.ks.getD j default) (css.getD j [])
theorem getD_snoc {α:Type}(l:List α)(x d:α)(j:Nat):(l ++ [x]).getD j d=if j<l.length then l.getD j d else if j=l.length then x else d:=by
 rw[List.getD_eq_getElem?_getD,List.getD_eq_getElem?_getD]
 split
 ·rw[List.getElem?_append_left (by assumption)]
 ·rw[List.getElem?_append_right (by omega)]
  split
  ·rename_i h;subst h;simp
  ·rw[List.getElem?_eq_none (by simp;omega)];rfl
theorem CS.step {N No n:Nat}{f:FT}{a3:Option Addr}{k:Nat}{css:List (List Value)}{v v' x:Value}{W w1 w2:World}{cs1:List Value}{o:Obj}(h:CS N No n f a3 k css v W)(hb:Below W.heap.size W w1)
 (hk:FLiesQ (fun b=>W.heap.size≤b∧b<w1.heap.size) w1 n (f.ks.getD k default) cs1) (hrow:ORow N (css ++ [cs1]) v' w2) (hg:(w1.alloc o).grownBy w2 v.ownBlock) (hat:v'.ownBlock=v.ownBlock∨v'.ownBlock=some (w1.heap.size+1)):
 CS N No n f a3 (k+1) (css ++ [cs1]) v' (w2.setCell ⟨No,3,none⟩ x):=by
 have hz:=hb.size
 have hz2:w1.heap.size<w2.heap.size:=by have:=hg.size;simp at this;omega
 have hlz:=h.ltz
 have hll:=h.lt
 have hown:∀g,v.ownBlock=some g→g<W.heap.size:=fun g hg=>(World.ownsRow.lt h.row g hg).2
 have hc:∀b o,b<w1.heap.size→b≠No→v.ownBlock≠some b→(w2.setCell ⟨No,3,none⟩ x).cell? ⟨b,o,none⟩=w1.cell? ⟨b,o,none⟩:=fun b o h1 h2 h3=>by
  rw[World.cell?_setCell_other _ _ _ _ (by first | (simp;done) | (simp;omega)),hg.cell_far ⟨b,o,none⟩ (by first | (simp;done) | (simp;omega)) (fun e=>h3 e.symm)]
  exact((Below.refl w1.heap.size w1).alloc (Nat.le_refl _) _).cell (p:=⟨b,o,none⟩) h1
 have hne:∀b,b<w1.heap.size→v.ownBlock≠some b→v'.ownBlock≠some b:=fun b h1 h2 e=>by
  rcases hat with e2 | e2
  ·exact h2 (by rw[←e2];exact e)
  ·rw[e2]at e;injection e with e;omega
 have hsz:(w2.setCell ⟨No,3,none⟩ x).heap.size=w2.heap.size:=World.size_setCell _ _ _
 have hS:∀b,SK N No v W b→SK N No v' (w2.setCell ⟨No,3,none⟩ x) b:=fun b ⟨h1,h2,h3,h4⟩=>⟨h1,by omega,h3,hne b (by omega) h4⟩
 have hK:∀b o,SK N No v W b→(w2.setCell ⟨No,3,none⟩ x).cell? ⟨b,o,none⟩=W.cell? ⟨b,o,none⟩:=fun b o ⟨h1,h2,h3,h4⟩=>(hc b o (by omega) h3 h4).trans (hb.cell (p:=⟨b,o,none⟩) h2)
 refine⟨?_,by rw[List.length_append,h.len];rfl,fun c hcm=> ?_,fun g hgg=> ?_,hll,by omega,h.ts.keep hS hK,fun j hj=> ?_⟩
 ·refine World.ownsRow.kept (row:=some No) hrow ⟨rfl,rfl,rfl,by rw[World.size_setCell];exact Nat.le_refl _,fun q _ hq=>Below.heap_setCell _ _ _ _ (fun e=>hq (by rw[e]))⟩ ?_
  cases hv:v'.ownBlock with
  | none=>exact .inl rfl
  | some g=>
    right
    intro e
    injection e with e
    rcases hat with e2 | e2
    ·rw[hv]at e2
     have:=h.own g e2.symm
     omega
    ·rw[hv]at e2;injection e2 with e2;omega
 ·rcases List.mem_append.1 hcm with hcm | hcm
  ·exact h.four c hcm
  ·obtain rfl:=List.mem_singleton.1 hcm
   obtain⟨_,_,_,_,rfl⟩:=hk.four
   rfl
 ·rcases hat with e2 | e2
  ·exact h.own g (by rw[←e2];exact hgg)
  ·rw[e2]at hgg;injection hgg with hgg;omega
 ·rw[getD_snoc,h.len]
  by_cases hjk:j<k
  ·rw[if_pos hjk]
   exact(h.ks j hjk).keep hS hK
  ·obtain rfl:j=k:=by omega
   rw[if_neg hjk,if_pos rfl]
   refine hk.keep (fun b ⟨h1,h2⟩=>⟨by omega,by omega,by omega, ?_⟩) (fun b o ⟨h1,h2⟩=>hc b o h2 (by omega) ?_)
   ·exact hne b h2 (fun e=>by have:=hown b e;omega)
   ·exact fun e=>by have:=hown b e;omega
structure OB (W:World)(No:Nat)(fk fc:Int)(a3:Option Addr)(ft cap3:Nat)(v:Value):Prop where
 o0:W.cell? ⟨No,0,none⟩=some (.int .i64 fk)
 o1:W.cell? ⟨No,1,none⟩=some (.int .i64 fc)
 o2:W.cell? ⟨No,2,none⟩=some (.slice a3 ft cap3)
 o3:W.cell? ⟨No,3,none⟩=some v
 fz:∀o,W.frozen? ⟨No,o,none⟩=false
structure RB (W:World)(M:Nat):Prop where
 r0:W.cell? ⟨M,0,none⟩=some (.int .i64 0)
 r1:W.cell? ⟨M,1,none⟩=some (.int .i64 0)
 r2:W.cell? ⟨M,2,none⟩=some (.slice none 0 0)
 r3:W.cell? ⟨M,3,none⟩=some (.slice none 0 0)
 fz:∀o,W.frozen? ⟨M,o,none⟩=false
theorem OB.keep {W W':World}{No:Nat}{fk fc:Int}{a3:Option Addr}{ft cap3:Nat}{v:Value}(h:OB W No fk fc a3 ft cap3 v)(hk:∀o,W'.cell? ⟨No,o,none⟩=W.cell? ⟨No,o,none⟩)(hf:∀o,W'.frozen? ⟨No,o,none⟩=W.frozen? ⟨No,o,none⟩):OB W' No fk fc a3 ft cap3 v:=
 ⟨(hk _).trans h.o0,(hk _).trans h.o1,(hk _).trans h.o2,(hk _).trans h.o3,fun o=>(hf o).trans (h.fz o)⟩
theorem RB.keep {W W':World}{M:Nat}(h:RB W M)(hk:∀o,W'.cell? ⟨M,o,none⟩=W.cell? ⟨M,o,none⟩)(hf:∀o,W'.frozen? ⟨M,o,none⟩=W.frozen? ⟨M,o,none⟩):RB W' M:=
 ⟨(hk _).trans h.r0,(hk _).trans h.r1,(hk _).trans h.r2,(hk _).trans h.r3,fun o=>(hf o).trans (h.fz o)⟩
theorem OB.set {W:World}{No:Nat}{fk fc:Int}{a3:Option Addr}{ft cap3:Nat}{v:Value}(h:OB W No fk fc a3 ft cap3 v)(x:Value):OB (W.setCell ⟨No,3,none⟩ x) No fk fc a3 ft cap3 x:=
 ⟨by rw[World.cell?_setCell_other _ _ _ _ (by simp)];exact h.o0,by rw[World.cell?_setCell_other _ _ _ _ (by simp)];exact h.o1,by rw[World.cell?_setCell_other _ _ _ _ (by simp)];exact h.o2,World.cell?_setCell_same _ _ _ h.o3,fun o=>by rw[World.frozen?_setCell];exact h.fz o⟩
theorem CS.done {N No n:Nat}{f:FT}{a3:Option Addr}{cap3:Nat}{css:List (List Value)}{v:Value}{W w':World}(h:CS N No n f a3 f.ks.length css v W)(ht:f.t.length≤9223372036854775807)(hk:f.ks.length≤9223372036854775807)
 (hz:W.heap.size≤w'.heap.size) (hc:∀b o,N+1<b→w'.cell? ⟨b,o,none⟩=W.cell? ⟨b,o,none⟩) (hcap:∃kcap,v= .slice (v.ownBlock.map fun g=>⟨g,0,none⟩) f.ks.length kcap):
 ∃c3,v=c3∧FLiesQ (fun b=>N≤b∧b<w'.heap.size) w' (n+1) f [.int .i64 f.kind,.int .i64 f.c,.slice a3 f.t.length cap3,c3]:=by
 obtain⟨kcap,hv⟩:=hcap
 have hlt:=h.lt
 refine⟨v,rfl,a3,cap3,v.ownBlock.map (fun g=>⟨g,0,none⟩),kcap,by rw[←hv],h.ts.keep (fun b ⟨h1,h2,_,_⟩=>⟨by omega,by omega⟩) (fun b o ⟨h1,_,_,_⟩=>hc b o h1),ht,hk,fun i hi=> ?_⟩
 have hfour:(css.getD i []).length=4:=by
  have:=h.len
  rw[List.getD_eq_getElem?_getD,List.getElem?_eq_getElem (by omega)]
  exact h.four _ (List.getElem_mem _)
 obtain⟨c0,c1,c2,c3,e⟩:∃c0 c1 c2 c3,css.getD i []=[c0,c1,c2,c3]:=(h.ks i hi).four
 cases hob:v.ownBlock with
 | none=>
   rcases h.row.2 with ⟨rfl,h0⟩ | ⟨g,cap,cur,hvv,_⟩
   ·have:=h.len;omega
   ·rw[hvv]at hob;cases hob
 | some g=>
   have hg:=h.own g hob
   have hcell:=fun j hj=>(World.ownsRow.cells h.row hob (i*4+j) _ ((flat4_get css h.four i j (by have:=h.len;omega) hj).trans (List.getElem?_eq_getElem (show j<(css.getD i []).length by omega))))
   have ha:∀k,(⟨g,0,none⟩:Addr).add k=⟨g,0+k,none⟩:=fun k=>by
    unfold Addr.add
    by_cases hk0:k=0
    ·subst hk0;rfl
    ·rw[if_neg hk0]
   have q0:=hcell 0 (by omega)
   have q1:=hcell 1 (by omega)
   have q2:=hcell 2 (by omega)
   have q3:=hcell 3 (by omega)
   simp only[e]at q0 q1 q2 q3
   rw[ha,←Nat.add_assoc]at q0 q1 q2 q3
   have hfk:=h.ks i hi
   rw[e]at hfk
   have hgz:=(World.ownsRow.lt h.row g hob).2
   refine⟨g,0,c0,c1,c2,c3,rfl,⟨by omega,by omega⟩,(hc _ _ (by omega)).trans q0,(hc _ _ (by omega)).trans q1,(hc _ _ (by omega)).trans q2,(hc _ _ (by omega)).trans q3,hfk.keep (fun b ⟨h1,h2,_,_⟩=>⟨by omega,by omega⟩) (fun b o ⟨h1,_,_,_⟩=>hc b o h1)⟩
theorem three_alloc {W:World}{N:Nat}{x y z:Value}(h:W.cell? ⟨N,0,none⟩=some x∧W.cell? ⟨N,1,none⟩=some y∧W.cell? ⟨N,2,none⟩=some z)(hN:N<W.heap.size)(o:Obj):(W.alloc o).cell? ⟨N,0,none⟩=some x∧(W.alloc o).cell? ⟨N,1,none⟩=some y∧(W.alloc o).cell? ⟨N,2,none⟩=some z:=by
 have hb:Below W.heap.size W (W.alloc o):=(Below.refl _ W).alloc (Nat.le_refl _) _
 exact⟨(hb.cell (p:=⟨N,0,none⟩) hN).trans h.1,(hb.cell (p:=⟨N,1,none⟩) hN).trans h.2.1,(hb.cell (p:=⟨N,2,none⟩) hN).trans h.2.2⟩
theorem three_grown {W W':World}{N:Nat}{x y z:Value}{row:Option Nat}(h:W.cell? ⟨N,0,none⟩=some x∧W.cell? ⟨N,1,none⟩=some y∧W.cell? ⟨N,2,none⟩=some z)(hN:N<W.heap.size)(hg:W.grownBy W' row)(hne:some N≠row):
 (W'.cell? ⟨N,0,none⟩=some x∧W'.cell? ⟨N,1,none⟩=some y∧W'.cell? ⟨N,2,none⟩=some z)∧∀o:Obj,(W'.alloc o).cell? ⟨N,0,none⟩=some x∧(W'.alloc o).cell? ⟨N,1,none⟩=some y∧(W'.alloc o).cell? ⟨N,2,none⟩=some z:=by
 have h1:W'.cell? ⟨N,0,none⟩=some x∧W'.cell? ⟨N,1,none⟩=some y∧W'.cell? ⟨N,2,none⟩=some z:=⟨hg.cell h.1 hne,hg.cell h.2.1 hne,hg.cell h.2.2 hne⟩
 exact⟨h1,fun o=>three_alloc h1 (Nat.lt_of_lt_of_le hN hg.size) o⟩
def set4 (W:World)(No:Nat)(x0 x1 x2 x3:Value):World:=(((W.setCell ⟨No,0,none⟩ x0).setCell ⟨No,1,none⟩ x1).setCell ⟨No,2,none⟩ x2).setCell ⟨No,3,none⟩ x3
theorem set4_far (W:World)(No:Nat)(x0 x1 x2 x3:Value)(b o:Nat)(h:b≠No):(set4 W No x0 x1 x2 x3).cell? ⟨b,o,none⟩=W.cell? ⟨b,o,none⟩:=by
 unfold set4
 have hn:∀j,(⟨b,o,none⟩:Addr)≠⟨No,j,none⟩:=fun j e=>h (by injection e)
 have hn':∀j,(⟨No,j,none⟩:Addr)≠⟨b,o,none⟩:=fun j e=>h (by injection e with e;exact e.symm)
 rw[World.cell?_setCell_other _ _ _ _ (by first | exact hn 3 | exact hn' 3),World.cell?_setCell_other _ _ _ _ (by first | exact hn 2 | exact hn' 2),World.cell?_setCell_other _ _ _ _ (by first | exact hn 1 | exact hn' 1),World.cell?_setCell_other _ _ _ _ (by first | exact hn 0 | exact hn' 0)]
theorem set4_frozen (W:World)(No:Nat)(x0 x1 x2 x3:Value)(p:Addr):(set4 W No x0 x1 x2 x3).frozen? p=W.frozen? p:=by
 unfold set4
 rw[World.frozen?_setCell,World.frozen?_setCell,World.frozen?_setCell,World.frozen?_setCell]
theorem set4_size (W:World)(No:Nat)(x0 x1 x2 x3:Value):(set4 W No x0 x1 x2 x3).heap.size=W.heap.size:=by
 unfold set4
 rw[World.size_setCell,World.size_setCell,World.size_setCell,World.size_setCell]
theorem set4_below {w W:World}{B No:Nat}(h:Below B w W)(hB:B≤No)(x0 x1 x2 x3:Value):Below B w (set4 W No x0 x1 x2 x3):=
 (((h.setCell (p:=⟨No,0,none⟩) hB _).setCell (p:=⟨No,1,none⟩) hB _).setCell (p:=⟨No,2,none⟩) hB _).setCell (p:=⟨No,3,none⟩) hB _
theorem set4_at {W:World}{No:Nat}{u0 u1 u2 u3:Value}(h0:W.cell? ⟨No,0,none⟩=some u0)(h1:W.cell? ⟨No,1,none⟩=some u1)(h2:W.cell? ⟨No,2,none⟩=some u2)(h3:W.cell? ⟨No,3,none⟩=some u3)(x0 x1 x2 x3:Value):
 (set4 W No x0 x1 x2 x3).cell? ⟨No,0,none⟩=some x0∧(set4 W No x0 x1 x2 x3).cell? ⟨No,1,none⟩=some x1∧(set4 W No x0 x1 x2 x3).cell? ⟨No,2,none⟩=some x2∧(set4 W No x0 x1 x2 x3).cell? ⟨No,3,none⟩=some x3:=by
 unfold set4
 refine⟨?_, ?_, ?_, ?_⟩
 ·rw[World.cell?_setCell_other _ _ _ _ (by simp),World.cell?_setCell_other _ _ _ _ (by simp),World.cell?_setCell_other _ _ _ _ (by simp)]
  exact World.cell?_setCell_same _ _ _ h0
 ·rw[World.cell?_setCell_other _ _ _ _ (by simp),World.cell?_setCell_other _ _ _ _ (by simp)]
  refine World.cell?_setCell_same _ _ _ (u:=u1) ?_
  rw[World.cell?_setCell_other _ _ _ _ (by simp)];exact h1
 ·rw[World.cell?_setCell_other _ _ _ _ (by simp)]
  refine World.cell?_setCell_same _ _ _ (u:=u2) ?_
  rw[World.cell?_setCell_other _ _ _ _ (by simp),World.cell?_setCell_other _ _ _ _ (by simp)];exact h2
 ·refine World.cell?_setCell_same _ _ _ (u:=u3) ?_
  rw[World.cell?_setCell_other _ _ _ _ (by simp),World.cell?_setCell_other _ _ _ _ (by simp),World.cell?_setCell_other _ _ _ _ (by simp)];exact h3
theorem three_set4 {W:World}{N No:Nat}{x y z:Value}(h:W.cell? ⟨N,0,none⟩=some x∧W.cell? ⟨N,1,none⟩=some y∧W.cell? ⟨N,2,none⟩=some z)(hN:N≠No)(x0 x1 x2 x3:Value):(set4 W No x0 x1 x2 x3).cell? ⟨N,0,none⟩=some x∧(set4 W No x0 x1 x2 x3).cell? ⟨N,1,none⟩=some y∧(set4 W No x0 x1 x2 x3).cell? ⟨N,2,none⟩=some z:=
 ⟨(set4_far _ _ _ _ _ _ _ _ hN).trans h.1,(set4_far _ _ _ _ _ _ _ _ hN).trans h.2.1,(set4_far _ _ _ _ _ _ _ _ hN).trans h.2.2⟩
theorem three_chain {W:World}{N No:Nat}{x y z:Value}(h:W.cell? ⟨N,0,none⟩=some x∧W.cell? ⟨N,1,none⟩=some y∧W.cell? ⟨N,2,none⟩=some z)(hN:N≠No)(x0 x1 x2 x3:Value):((((W.setCell ⟨No,0,none⟩ x0).setCell ⟨No,1,none⟩ x1).setCell ⟨No,2,none⟩ x2).setCell ⟨No,3,none⟩ x3).cell? ⟨N,0,none⟩=some x∧((((W.setCell ⟨No,0,none⟩ x0).setCell ⟨No,1,none⟩ x1).setCell ⟨No,2,none⟩ x2).setCell ⟨No,3,none⟩ x3).cell? ⟨N,1,none⟩=some y∧((((W.setCell ⟨No,0,none⟩ x0).setCell ⟨No,1,none⟩ x1).setCell ⟨No,2,none⟩ x2).setCell ⟨No,3,none⟩ x3).cell? ⟨N,2,none⟩=some z:=three_set4 h hN x0 x1 x2 x3
theorem lies_sk {N No ft cap3 g1 g2:Nat}{a3:Option Addr}{l:List (Int×Int)}{w3 W:World}(hrow:Row N l (.slice a3 ft cap3) w3)(hat:(Value.slice a3 ft cap3).ownBlock=some g1∨(Value.slice a3 ft cap3).ownBlock=some g2)
 (hS:∀b,b<w3.heap.size→(b=g1∨b=g2)→N+1<b∧b≠No) (hz:w3.heap.size≤W.heap.size) (hc:∀b o,b<w3.heap.size→b≠No→W.cell? ⟨b,o,none⟩=w3.cell? ⟨b,o,none⟩):LiesQ (SK N No (.slice none 0 0) W) W a3 l:=fun i hi=>by
 obtain⟨a',cap',e,hl,_⟩:=hrow.lies
 injection e with e1 e2 e3
 subst e1
 obtain⟨b,off,ea,hbl,c1,c2⟩:=hl i hi
 subst ea
 have hb:b=g1∨b=g2:=by
  rcases hat with h | h
  ·left;injection h
  ·right;injection h
 obtain⟨h1,h2⟩:=hS b hbl hb
 exact⟨b,off,rfl,⟨h1,by omega,h2,fun e=>by cases e⟩,(hc _ _ hbl h2).trans c1,(hc _ _ hbl h2).trans c2⟩
structure Begin (w w4:World)(n:Nat)(f:FT)(No:Nat)(fk fc:Int)(ta:Option Addr)(ft tcap:Nat)(ka:Option Addr)(len kcap:Nat)(a3:Option Addr)(cap3:Nat):Prop where
 cs:CS w.heap.size No n f a3 0 [] (.slice none 0 0) w4
 ob:OB w4 No fk fc a3 ft cap3 (.slice none 0 0)
 rb:RB w4 (w.heap.size+1)
 bx:Box w w4 w.heap.size fk fc ta ft tcap ka len kcap
theorem begin_a {w w2 w3:World}{n:Nat}{f:FT}{fk fc:Int}{ta ka a3:Option Addr}{ft tcap len kcap cap3 g1:Nat}(hrow:Row w.heap.size f.t (.slice a3 ft cap3) w3)(hg:w2.grownBy w3 (some g1))
 (hat:(Value.slice a3 ft cap3).ownBlock=some g1∨(Value.slice a3 ft cap3).ownBlock=some w2.heap.size) (hg1:w.heap.size+1<g1) (hz:w.heap.size+1<w2.heap.size) (hB:w.heap.size≤w2.heap.size) (hbx:Box w w2 w.heap.size fk fc ta ft tcap ka len kcap) (hrb:RB w2 (w.heap.size+1)):
 Begin w (w3.alloc (.cells #[.int .i64 fk,.int .i64 fc,.slice a3 ft cap3,.slice none 0 0] 39)) n f w3.heap.size fk fc ta ft tcap ka len kcap a3 cap3:=by
 have hsz:=hg.size
 have hb4:Below w3.heap.size w3 (w3.alloc (.cells #[.int .i64 fk,.int .i64 fc,.slice a3 ft cap3,.slice none 0 0] 39)):=(Below.refl _ w3).alloc (Nat.le_refl _) _
 have hn:=heap_alloc_new w3 (.cells #[.int .i64 fk,.int .i64 fc,.slice a3 ft cap3,.slice none 0 0] 39)
 have hk:∀b o,b<w2.heap.size→b≠g1→(w3.alloc (.cells #[.int .i64 fk,.int .i64 fc,.slice a3 ft cap3,.slice none 0 0] 39)).cell? ⟨b,o,none⟩=w2.cell? ⟨b,o,none⟩:=fun b o h1 h2=>(hb4.cell (p:=⟨b,o,none⟩) (by show b<_;omega)).trans (hg.cell_far ⟨b,o,none⟩ h1 (fun e=>h2 (by injection e)))
 have hf:∀b o,b<w2.heap.size→b≠g1→(w3.alloc (.cells #[.int .i64 fk,.int .i64 fc,.slice a3 ft cap3,.slice none 0 0] 39)).frozen? ⟨b,o,none⟩=w2.frozen? ⟨b,o,none⟩:=fun b o h1 h2=>(hb4.frozen (p:=⟨b,o,none⟩) (by show b<_;omega)).trans (hg.frozen_far ⟨b,o,none⟩ h1 (fun e=>h2 (by injection e)))
 refine⟨⟨World.ownsRow_nil _ _ _ _,rfl,fun c hc=>(by cases hc),fun g hg=>(by cases hg),by omega,by simp,lies_sk hrow hat (fun b h1 h2=>⟨by omega,by omega⟩) hb4.size (fun b o h1 _=>hb4.cell (p:=⟨b,o,none⟩) h1),fun j hj=>absurd hj (Nat.not_lt_zero j)⟩,
  ⟨by rw[cell_of_row _ _ _ _ _ _ hn];rfl,by rw[cell_of_row _ _ _ _ _ _ hn];rfl,by rw[cell_of_row _ _ _ _ _ _ hn];rfl,by rw[cell_of_row _ _ _ _ _ _ hn];rfl,fun o=>frozen_of_row _ _ _ _ _ hn⟩,
  hrb.keep (fun o=>hk _ _ hz (by omega)) (fun o=>hf _ _ hz (by omega)),
  ⟨by have:=hb4.size;omega,(hk _ _ (by omega) (by omega)).trans hbx.c0,(hk _ _ (by omega) (by omega)).trans hbx.c1,(hk _ _ (by omega) (by omega)).trans hbx.c2,(hk _ _ (by omega) (by omega)).trans hbx.c3,(hbx.bel.grown hg hB (fun k hk=>by injection hk with hk;omega)).trans (hb4.mono (by omega))⟩⟩
theorem begin_b {w w2 w3:World}{n:Nat}{f:FT}{fk fc:Int}{ta ka a3:Option Addr}{ft tcap len kcap cap3 g1 No:Nat}(hrow:Row w.heap.size f.t (.slice a3 ft cap3) w3)(hg:w2.grownBy w3 (some g1))
 (hat:(Value.slice a3 ft cap3).ownBlock=some g1∨(Value.slice a3 ft cap3).ownBlock=some w2.heap.size) (hg1:w.heap.size+1<g1) (hgn:g1≠No) (hz:w.heap.size+1<w2.heap.size) (hB:w.heap.size≤w2.heap.size) (hNo:w.heap.size+1<No) (hNo2:No<w2.heap.size) (hbx:Box w w2 w.heap.size fk fc ta ft tcap ka len kcap) (hrb:RB w2 (w.heap.size+1))
 (o0:w3.cell? ⟨No,0,none⟩=some (.int .i64 0)) (o1:w3.cell? ⟨No,1,none⟩=some (.int .i64 0)) (o2:w3.cell? ⟨No,2,none⟩=some (.slice none 0 0)) (o3:w3.cell? ⟨No,3,none⟩=some (.slice none 0 0)) (of3:∀o,w3.frozen? ⟨No,o,none⟩=false):
 Begin w ((((w3.setCell ⟨No,0,none⟩ (.int .i64 fk)).setCell ⟨No,1,none⟩ (.int .i64 fc)).setCell ⟨No,2,none⟩ (.slice a3 ft cap3)).setCell ⟨No,3,none⟩ (.slice none 0 0)) n f No fk fc ta ft tcap ka len kcap a3 cap3:=by
 show Begin w (set4 w3 No (.int .i64 fk) (.int .i64 fc) (.slice a3 ft cap3) (.slice none 0 0)) n f No fk fc ta ft tcap ka len kcap a3 cap3
 have hsz:=hg.size
 have hs4:=set4_size w3 No (.int .i64 fk) (.int .i64 fc) (.slice a3 ft cap3) (.slice none 0 0)
 have hk:∀b o,b<w2.heap.size→b≠g1→b≠No→(set4 w3 No (.int .i64 fk) (.int .i64 fc) (.slice a3 ft cap3) (.slice none 0 0)).cell? ⟨b,o,none⟩=w2.cell? ⟨b,o,none⟩:=fun b o h1 h2 h3=>(set4_far _ _ _ _ _ _ _ _ h3).trans (hg.cell_far ⟨b,o,none⟩ h1 (fun e=>h2 (by injection e)))
 have hf:∀b o,b<w2.heap.size→b≠g1→(set4 w3 No (.int .i64 fk) (.int .i64 fc) (.slice a3 ft cap3) (.slice none 0 0)).frozen? ⟨b,o,none⟩=w2.frozen? ⟨b,o,none⟩:=fun b o h1 h2=>(set4_frozen _ _ _ _ _ _ _).trans (hg.frozen_far ⟨b,o,none⟩ h1 (fun e=>h2 (by injection e)))
 obtain⟨p0,p1,p2,p3⟩:=set4_at o0 o1 o2 o3 (.int .i64 fk) (.int .i64 fc) (.slice a3 ft cap3) (.slice none 0 0)
 refine⟨⟨World.ownsRow_nil _ _ _ _,rfl,fun c hc=>(by cases hc),fun g hg=>(by cases hg),hNo,by omega,lies_sk hrow hat (fun b h1 h2=>⟨by omega,by omega⟩) (by omega) (fun b o h1 h2=>set4_far _ _ _ _ _ _ _ _ h2),fun j hj=>absurd hj (Nat.not_lt_zero j)⟩,
  ⟨p0,p1,p2,p3,fun o=>(set4_frozen _ _ _ _ _ _ _).trans (of3 o)⟩,
  hrb.keep (fun o=>hk _ _ hz (by omega) (by omega)) (fun o=>hf _ _ hz (by omega)),
  ⟨by omega,(hk _ _ (by omega) (by omega) (by omega)).trans hbx.c0,(hk _ _ (by omega) (by omega) (by omega)).trans hbx.c1,(hk _ _ (by omega) (by omega) (by omega)).trans hbx.c2,(hk _ _ (by omega) (by omega) (by omega)).trans hbx.c3,set4_below (hbx.bel.grown hg hB (fun k hk=>by injection hk with hk;omega)) (by omega) _ _ _ _⟩⟩
theorem FLiesQ.form {S:Nat→Prop}{w:World}:∀ {n:Nat} {f:FT} {cs:List Value},FLiesQ S w n f cs→∃(k c:Int) (ta:Option Addr) (tn tcap:Nat) (ka:Option Addr) (kn kcap:Nat),cs=[.int .i64 k,.int .i64 c,.slice ta tn tcap,.slice ka kn kcap]
 | 0,_,_,h=>h.elim
 | _+1,_,_,⟨_,_,_,_,h1,_⟩=>⟨_,_,_,_,_,_,_,_,h1⟩
theorem four_one (k c:Int)(ta:Option Addr)(tn tcap:Nat)(ka:Option Addr)(kn kcap:Nat):∀u∈[Value.int .i64 k,.int .i64 c,.slice ta tn tcap,.slice ka kn kcap],u.oneCell'=true:=by
 intro u hu
 simp at hu
 rcases hu with rfl | rfl | rfl | rfl<;>rfl
theorem four_new (W:World)(x0 x1 x2 x3:Value)(t:TypeId)(M:Nat)(hM:W.heap.size=M):∀j u,[x0,x1,x2,x3][j]? =some u→(W.alloc (.cells #[x0,x1,x2,x3] t)).cell? ((⟨M,0,none⟩:Addr).add j)=some u:=by
 subst hM
 intro j u hj
 have hb:=heap_alloc_new W (.cells #[x0,x1,x2,x3] t)
 match j,hj with
 | 0,hj=>simp at hj;subst hj;exact cell_of_row _ _ _ _ _ _ hb
 | 1,hj=>simp at hj;subst hj;exact cell_of_row _ _ _ _ _ _ hb
 | 2,hj=>simp at hj;subst hj;exact cell_of_row _ _ _ _ _ _ hb
 | 3,hj=>simp at hj;subst hj;exact cell_of_row _ _ _ _ _ _ hb
theorem ORow.form {B:Nat}{css:List (List Value)}{v:Value}{w:World}(h:ORow B css v w):∃a kcap,v= .slice a css.length kcap∧a=v.ownBlock.map fun g=>⟨g,0,none⟩:=by
 rcases h.2 with ⟨rfl,h0⟩ | ⟨g,cap,cur,hv,_⟩
 ·exact⟨none,0,by rw[h0],rfl⟩
 ·exact⟨some ⟨g,0,none⟩,cap,hv,by rw[hv];rfl⟩
theorem round_far {B No:Nat}{css:List (List Value)}{v v6:Value}{W w5 w6:World}{o:Obj}(hrow:ORow B css v W)(hb:Below W.heap.size W w5)(hg:(w5.alloc o).grownBy w6 v.ownBlock)(b p:Nat)(h1:b<W.heap.size)(h2:v.ownBlock≠some b):
 w6.cell? ⟨b,p,none⟩=W.cell? ⟨b,p,none⟩∧w6.frozen? ⟨b,p,none⟩=W.frozen? ⟨b,p,none⟩∧(b≠No→(w6.setCell ⟨No,3,none⟩ v6).cell? ⟨b,p,none⟩=W.cell? ⟨b,p,none⟩):=by
 have hz:=hb.size
 have ha:Below w5.heap.size w5 (w5.alloc o):=(Below.refl _ w5).alloc (Nat.le_refl _) _
 have e1:w6.cell? ⟨b,p,none⟩=W.cell? ⟨b,p,none⟩:=by
  rw[hg.cell_far ⟨b,p,none⟩ (by have:=ha.size;show b<_;omega) (fun e=>h2 e.symm),ha.cell (p:=⟨b,p,none⟩) (by show b<_;omega)]
  exact hb.cell (p:=⟨b,p,none⟩) h1
 refine⟨e1, ?_,fun h3=> ?_⟩
 ·rw[hg.frozen_far ⟨b,p,none⟩ (by have:=ha.size;show b<_;omega) (fun e=>h2 e.symm),ha.frozen (p:=⟨b,p,none⟩) (by show b<_;omega)]
  exact hb.frozen (p:=⟨b,p,none⟩) h1
 ·rw[World.cell?_setCell_other _ _ _ _ (by first | (simp;done) | (simp;omega))]
  exact e1
end
section
open Go.RowKit
theorem rfine_0 (n:Nat)(f:FT)(cs:List Value)(w:World)(IH:∀(f:FT) (cs:List Value) (w:World),FLies w.heap.size w n f cs→Calls Tryz.prog 94 #[.agg cs.toArray] w fun e w'=>e= .returned (.bool (sndF n f))∧Below w.heap.size w w')
 (h:FLies w.heap.size w (n+1) f cs) (hk:f.kind=0):
 Calls Tryz.prog 94 #[.agg cs.toArray] w fun e w'=>e= .returned (.bool (sndF (n+1) f))∧Below w.heap.size w w':=by
 obtain⟨ta,tcap,ka,kcap,rfl,hlt,ht4,hk4,hks⟩:=h
 have HC:=Lib.hid (fun W (hb:Below w.heap.size w W)=>rcheck_any f.c ta f.t.length tcap f.t W rfl ht4 ((hlt.below hb).mono hb.size))
 have HI:=Lib.hid IH
 have HK:=Lib.hid hks
 have HR:Hid (sndF (n+1) f=(ownV f.kind f.c f.t.length f.ks.length (snd f.c f.t) && decide (∀i,i<f.ks.length→sndF n (f.ks.getD i default)=true))):=rfl
 have HA1:=Lib.hid (fun i (hi:i<f.ks.length) (h:sndF n (f.ks.getD i default)=false)=>decide_eq_false (p:=∀i,i<f.ks.length→sndF n (f.ks.getD i default)=true) (fun hh=>by rw[hh i hi]at h;cases h))
 have HA2:=Lib.hid (fun h=>decide_eq_true (p:=∀i,i<f.ks.length→sndF n (f.ks.getD i default)=true) h)
 have B0:=Lib.hid (box_start w f.kind f.c ta ka f.t.length tcap f.ks.length kcap)
 clear IH hks hlt
 generalize sndF (n+1) f=r at HR
 generalize decide (∀i,i<f.ks.length→sndF n (f.ks.getD i default)=true)=all at HR HA1 HA2
 generalize snd f.c f.t=sn at HC HR
 generalize f.kind=fk at B0 HR hk
 generalize f.c=fc at B0 HC HR
 generalize f.t.length=ft at B0 HC HR ht4
 generalize hl:f.ks.length=len at B0 HK hk4 HR HA1 HA2
 clear hl
 have hcw:=HC.out _ B0.out.bel
 have hl0:len=0→all=true:=fun e=>HA2.out (fun i hi=>by omega)
 have hlen:len=0∨(((len:Int) == 0)=false∧(0:Int)<(len:Int)):=by
  by_cases h:len=0
  ·exact .inl h
  ·exact .inr ⟨by simp;omega,by omega⟩
 subst hk
 ·rcases hlen with rfl | ⟨h3,hpos⟩
  ·cases h1:(fc == 0)<;>cases h2:((ft:Int) == 0)
   all_goals
    clear hcw
    go_enter Tryz.func94,Tryz.ntmps94
    go_wp2_with fail
    go_loopw [5,6] (fun s i wr=>∃o:Bool,s= .bool o∧Hid (r=o)∧i= .int .i64 0∧Hid (Below w.heap.size w wr)) (fun _ _ _=>0)
    case atStart=>exact⟨_,rfl,by show _=_;rw[HR.out];simp_all [ownV],rfl,B0.out.bel⟩
    case round=>
     obtain⟨o,rfl,hro,rfl,hb⟩:=hrel
     go_wp2_with fail
     go_ret
     have e:=hro.out
     subst e
     exact⟨rfl,hb.out⟩
  ·cases h1:(fc == 0)<;>cases h2:((ft:Int) == 0)
   all_goals
    clear hcw
    go_enter Tryz.func94,Tryz.ntmps94
    go_wp2_with fail
    go_loopw [5,6] (fun s i wr=>s= .bool false∧Hid (r=false)∧i= .int .i64 0∧Hid (Below w.heap.size w wr)) (fun _ _ _=>0)
    case atStart=>exact⟨rfl,by show _=_;rw[HR.out];simp_all [ownV],rfl,B0.out.bel⟩
    case round=>
     obtain⟨rfl,hro,rfl,hb⟩:=hrel
     go_wp2_with fail
     go_ret
     have e:=hro.out
     subst e
     exact⟨rfl,hb.out⟩
theorem rfine_1 (n:Nat)(f:FT)(cs:List Value)(w:World)(IH:∀(f:FT) (cs:List Value) (w:World),FLies w.heap.size w n f cs→Calls Tryz.prog 94 #[.agg cs.toArray] w fun e w'=>e= .returned (.bool (sndF n f))∧Below w.heap.size w w')
 (h:FLies w.heap.size w (n+1) f cs) (hk:f.kind=1):
 Calls Tryz.prog 94 #[.agg cs.toArray] w fun e w'=>e= .returned (.bool (sndF (n+1) f))∧Below w.heap.size w w':=by
 obtain⟨ta,tcap,ka,kcap,rfl,hlt,ht4,hk4,hks⟩:=h
 have HC:=Lib.hid (fun W (hb:Below w.heap.size w W)=>rcheck_any f.c ta f.t.length tcap f.t W rfl ht4 ((hlt.below hb).mono hb.size))
 have HI:=Lib.hid IH
 have HK:=Lib.hid hks
 have HR:Hid (sndF (n+1) f=(ownV f.kind f.c f.t.length f.ks.length (snd f.c f.t) && decide (∀i,i<f.ks.length→sndF n (f.ks.getD i default)=true))):=rfl
 have HA1:=Lib.hid (fun i (hi:i<f.ks.length) (h:sndF n (f.ks.getD i default)=false)=>decide_eq_false (p:=∀i,i<f.ks.length→sndF n (f.ks.getD i default)=true) (fun hh=>by rw[hh i hi]at h;cases h))
 have HA2:=Lib.hid (fun h=>decide_eq_true (p:=∀i,i<f.ks.length→sndF n (f.ks.getD i default)=true) h)
 have B0:=Lib.hid (box_start w f.kind f.c ta ka f.t.length tcap f.ks.length kcap)
 clear IH hks hlt
 generalize sndF (n+1) f=r at HR
 generalize decide (∀i,i<f.ks.length→sndF n (f.ks.getD i default)=true)=all at HR HA1 HA2
 generalize snd f.c f.t=sn at HC HR
 generalize f.kind=fk at B0 HR hk
 generalize f.c=fc at B0 HC HR
 generalize f.t.length=ft at B0 HC HR ht4
 generalize hl:f.ks.length=len at B0 HK hk4 HR HA1 HA2
 clear hl
 have hcw:=HC.out _ B0.out.bel
 have hl0:len=0→all=true:=fun e=>HA2.out (fun i hi=>by omega)
 have hlen:len=0∨(((len:Int) == 0)=false∧(0:Int)<(len:Int)):=by
  by_cases h:len=0
  ·exact .inl h
  ·exact .inr ⟨by simp;omega,by omega⟩
 subst hk
 ·rcases hlen with rfl | ⟨h3,hpos⟩
  ·cases h1:(fc == 0)<;>cases h2:((ft:Int) == 0)
   all_goals
    clear hcw
    go_enter Tryz.func94,Tryz.ntmps94
    go_wp2_with fail
    go_loopw [5,6] (fun s i wr=>∃o:Bool,s= .bool o∧Hid (r=o)∧i= .int .i64 0∧Hid (Below w.heap.size w wr)) (fun _ _ _=>0)
    case atStart=>exact⟨_,rfl,by show _=_;rw[HR.out];simp_all [ownV],rfl,B0.out.bel⟩
    case round=>
     obtain⟨o,rfl,hro,rfl,hb⟩:=hrel
     go_wp2_with fail
     go_ret
     have e:=hro.out
     subst e
     exact⟨rfl,hb.out⟩
  ·cases h1:(fc == 0)<;>cases h2:((ft:Int) == 0)
   all_goals
    clear hcw
    go_enter Tryz.func94,Tryz.ntmps94
    go_wp2_with fail
    go_loopw [5,6] (fun s i wr=>s= .bool false∧Hid (r=false)∧i= .int .i64 0∧Hid (Below w.heap.size w wr)) (fun _ _ _=>0)
    case atStart=>exact⟨rfl,by show _=_;rw[HR.out];simp_all [ownV],rfl,B0.out.bel⟩
    case round=>
     obtain⟨rfl,hro,rfl,hb⟩:=hrel
     go_wp2_with fail
     go_ret
     have e:=hro.out
     subst e
     exact⟨rfl,hb.out⟩
theorem rfine_2 (n:Nat)(f:FT)(cs:List Value)(w:World)(IH:∀(f:FT) (cs:List Value) (w:World),FLies w.heap.size w n f cs→Calls Tryz.prog 94 #[.agg cs.toArray] w fun e w'=>e= .returned (.bool (sndF n f))∧Below w.heap.size w w')
 (h:FLies w.heap.size w (n+1) f cs) (hk:f.kind=2):
 Calls Tryz.prog 94 #[.agg cs.toArray] w fun e w'=>e= .returned (.bool (sndF (n+1) f))∧Below w.heap.size w w':=by
 obtain⟨ta,tcap,ka,kcap,rfl,hlt,ht4,hk4,hks⟩:=h
 have HC:=Lib.hid (fun W (hb:Below w.heap.size w W)=>rcheck_any f.c ta f.t.length tcap f.t W rfl ht4 ((hlt.below hb).mono hb.size))
 have HI:=Lib.hid IH
 have HK:=Lib.hid hks
 have HR:Hid (sndF (n+1) f=(ownV f.kind f.c f.t.length f.ks.length (snd f.c f.t) && decide (∀i,i<f.ks.length→sndF n (f.ks.getD i default)=true))):=rfl
 have HA1:=Lib.hid (fun i (hi:i<f.ks.length) (h:sndF n (f.ks.getD i default)=false)=>decide_eq_false (p:=∀i,i<f.ks.length→sndF n (f.ks.getD i default)=true) (fun hh=>by rw[hh i hi]at h;cases h))
 have HA2:=Lib.hid (fun h=>decide_eq_true (p:=∀i,i<f.ks.length→sndF n (f.ks.getD i default)=true) h)
 have B0:=Lib.hid (box_start w f.kind f.c ta ka f.t.length tcap f.ks.length kcap)
 clear IH hks hlt
 generalize sndF (n+1) f=r at HR
 generalize decide (∀i,i<f.ks.length→sndF n (f.ks.getD i default)=true)=all at HR HA1 HA2
 generalize snd f.c f.t=sn at HC HR
 generalize f.kind=fk at B0 HR hk
 generalize f.c=fc at B0 HC HR
 generalize f.t.length=ft at B0 HC HR ht4
 generalize hl:f.ks.length=len at B0 HK hk4 HR HA1 HA2
 clear hl
 have hcw:=HC.out _ B0.out.bel
 have hl0:len=0→all=true:=fun e=>HA2.out (fun i hi=>by omega)
 have hlen:len=0∨(((len:Int) == 0)=false∧(0:Int)<(len:Int)):=by
  by_cases h:len=0
  ·exact .inl h
  ·exact .inr ⟨by simp;omega,by omega⟩
 subst hk
 ·rcases hlen with rfl | ⟨h3,hpos⟩
  ·cases h1:(fc == 0)<;>cases h2:((ft:Int) == 0)<;>cases sn
   all_goals
    go_enter Tryz.func94,Tryz.ntmps94
    go_wp2_with fail
    refine hcw.mono ?_
    rintro e w1 ⟨rfl,hb1⟩
    have T1:=Lib.hid (B0.out.below hb1 B0.out.lt)
    clear hb1 hcw
    go_wp2_with fail
    go_loopw [5,6] (fun s i wr=>∃o:Bool,s= .bool o∧Hid (r=o)∧i= .int .i64 0∧Hid (Below w.heap.size w wr)) (fun _ _ _=>0)
    case atStart=>exact⟨_,rfl,by show _=_;rw[HR.out];simp_all [ownV],rfl,T1.out.bel⟩
    case round=>
     obtain⟨o,rfl,hro,rfl,hb⟩:=hrel
     go_wp2_with fail
     go_ret
     have e:=hro.out
     subst e
     exact⟨rfl,hb.out⟩
  ·cases h1:(fc == 0)<;>cases h2:((ft:Int) == 0)
   all_goals
    clear hcw
    go_enter Tryz.func94,Tryz.ntmps94
    go_wp2_with fail
    go_loopw [5,6] (fun s i wr=>s= .bool false∧Hid (r=false)∧i= .int .i64 0∧Hid (Below w.heap.size w wr)) (fun _ _ _=>0)
    case atStart=>exact⟨rfl,by show _=_;rw[HR.out];simp_all [ownV],rfl,B0.out.bel⟩
    case round=>
     obtain⟨rfl,hro,rfl,hb⟩:=hrel
     go_wp2_with fail
     go_ret
     have e:=hro.out
     subst e
     exact⟨rfl,hb.out⟩
theorem rfine_3 (n:Nat)(f:FT)(cs:List Value)(w:World)(IH:∀(f:FT) (cs:List Value) (w:World),FLies w.heap.size w n f cs→Calls Tryz.prog 94 #[.agg cs.toArray] w fun e w'=>e= .returned (.bool (sndF n f))∧Below w.heap.size w w')
 (h:FLies w.heap.size w (n+1) f cs) (hk:f.kind=3):
 Calls Tryz.prog 94 #[.agg cs.toArray] w fun e w'=>e= .returned (.bool (sndF (n+1) f))∧Below w.heap.size w w':=by
 obtain⟨ta,tcap,ka,kcap,rfl,hlt,ht4,hk4,hks⟩:=h
 have HC:=Lib.hid (fun W (hb:Below w.heap.size w W)=>rcheck_any f.c ta f.t.length tcap f.t W rfl ht4 ((hlt.below hb).mono hb.size))
 have HI:=Lib.hid IH
 have HK:=Lib.hid hks
 have HR:Hid (sndF (n+1) f=(ownV f.kind f.c f.t.length f.ks.length (snd f.c f.t) && decide (∀i,i<f.ks.length→sndF n (f.ks.getD i default)=true))):=rfl
 have HA1:=Lib.hid (fun i (hi:i<f.ks.length) (h:sndF n (f.ks.getD i default)=false)=>decide_eq_false (p:=∀i,i<f.ks.length→sndF n (f.ks.getD i default)=true) (fun hh=>by rw[hh i hi]at h;cases h))
 have HA2:=Lib.hid (fun h=>decide_eq_true (p:=∀i,i<f.ks.length→sndF n (f.ks.getD i default)=true) h)
 have B0:=Lib.hid (box_start w f.kind f.c ta ka f.t.length tcap f.ks.length kcap)
 clear IH hks hlt
 generalize sndF (n+1) f=r at HR
 generalize decide (∀i,i<f.ks.length→sndF n (f.ks.getD i default)=true)=all at HR HA1 HA2
 generalize snd f.c f.t=sn at HC HR
 generalize f.kind=fk at B0 HR hk
 generalize f.c=fc at B0 HC HR
 generalize f.t.length=ft at B0 HC HR ht4
 generalize hl:f.ks.length=len at B0 HK hk4 HR HA1 HA2
 clear hl
 have hcw:=HC.out _ B0.out.bel
 have hl0:len=0→all=true:=fun e=>HA2.out (fun i hi=>by omega)
 have hlen:len=0∨(((len:Int) == 0)=false∧(0:Int)<(len:Int)):=by
  by_cases h:len=0
  ·exact .inl h
  ·exact .inr ⟨by simp;omega,by omega⟩
 subst hk
 ·rcases hlen with rfl | ⟨h3,hpos⟩
  ·cases h1:(fc == 0)<;>cases h2:((ft:Int) == 0)<;>cases sn
   all_goals
    go_enter Tryz.func94,Tryz.ntmps94
    go_wp2_with fail
    refine hcw.mono ?_
    rintro e w1 ⟨rfl,hb1⟩
    have T1:=Lib.hid (B0.out.below hb1 B0.out.lt)
    clear hb1 hcw
    go_wp2_with fail
    go_loopw [5,6] (fun s i wr=>∃o:Bool,s= .bool o∧Hid (r=o)∧i= .int .i64 0∧Hid (Below w.heap.size w wr)) (fun _ _ _=>0)
    case atStart=>exact⟨_,rfl,by show _=_;rw[HR.out];simp_all [ownV],rfl,T1.out.bel⟩
    case round=>
     obtain⟨o,rfl,hro,rfl,hb⟩:=hrel
     go_wp2_with fail
     go_ret
     have e:=hro.out
     subst e
     exact⟨rfl,hb.out⟩
  ·cases h1:(fc == 0)<;>cases h2:((ft:Int) == 0)
   all_goals
    clear hcw
    go_enter Tryz.func94,Tryz.ntmps94
    go_wp2_with fail
    go_loopw [5,6] (fun s i wr=>s= .bool false∧Hid (r=false)∧i= .int .i64 0∧Hid (Below w.heap.size w wr)) (fun _ _ _=>0)
    case atStart=>exact⟨rfl,by show _=_;rw[HR.out];simp_all [ownV],rfl,B0.out.bel⟩
    case round=>
     obtain⟨rfl,hro,rfl,hb⟩:=hrel
     go_wp2_with fail
     go_ret
     have e:=hro.out
     subst e
     exact⟨rfl,hb.out⟩
end
end Go.Proofs.YtipahfcaplbifaaGreatDoor
