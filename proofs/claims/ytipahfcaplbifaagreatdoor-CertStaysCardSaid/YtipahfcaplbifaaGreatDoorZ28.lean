/- Parts of a proof. -/
import Derived.Test.YtipahfcaplbifaaGreatDoorZ15
import Derived.Test.YtipahfcaplbifaaGreatDoorZ17
import Derived.Test.YtipahfcaplbifaaGreatDoorZ21
import Derived.Test.YtipahfcaplbifaaGreatDoorZ22
set_option linter.unusedVariables false
set_option linter.unusedSimpArgs false
set_option maxHeartbeats 60000000
set_option maxRecDepth 100000
namespace Go.Proofs.YtipahfcaplbifaaGreatDoor
section
open Go.RowKit
theorem form_cells {W:World}{b:Nat}{x0 x1 x2 x3:Value}(h:W.heap[b]? =some (.cells #[x0,x1,x2,x3] 39 (0,0))):W.cell? ⟨b,0,none⟩=some x0∧W.cell? ⟨b,1,none⟩=some x1∧W.cell? ⟨b,2,none⟩=some x2∧W.cell? ⟨b,3,none⟩=some x3:=
 ⟨(cell_of_row _ _ _ _ _ _ h).trans rfl,(cell_of_row _ _ _ _ _ _ h).trans rfl,(cell_of_row _ _ _ _ _ _ h).trans rfl,(cell_of_row _ _ _ _ _ _ h).trans rfl⟩
end
section
open Go.RowKit
def litT (c:Int)(l:List (Int×Int)):FT:=
 if snd c l=true then
  if l.length=0 then .mk (if c≤0 then 0 else 1) 0 [] []
  else if 0<(l.getD 0 (0,0)).2.tdiv (gAt l l.length) then .mk 2 (upI c (gAt l l.length)) (redL (gAt l l.length) l) []
  else if wi (1 - upI c (gAt l l.length)) 1073741824=true then .mk 4 0 [] [.mk 2 (1 - upI c (gAt l l.length)) (scale (-1) (redL (gAt l l.length) l)) []]
  else .mk 0 0 [] []
 else .mk 0 0 [] []
def litK (c:Int)(l:List (Int×Int)):Int:=
 if snd c l=true then
  if l.length=0 then 0
  else if 0<(l.getD 0 (0,0)).2.tdiv (gAt l l.length) then 0
  else if wi (1 - upI c (gAt l l.length)) 1073741824=true then 0
  else 3
 else 5
theorem litK_sound {c:Int}{l:List (Int×Int)}(h:snd c l=true):litK c l=0∨litK c l=3:=by
 unfold litK
 rw[if_pos h]
 split
 ·exact .inl rfl
 ·split
  ·exact .inl rfl
  ·split
   ·exact .inl rfl
   ·exact .inr rfl
inductive IsLit:FT→Prop where
 | yes:IsLit (.mk 0 0 [] [])
 | no:IsLit (.mk 1 0 [] [])
 | le (c:Int) (t:List (Int×Int)):IsLit (.mk 2 c t [])
 | not (c:Int) (t:List (Int×Int)):IsLit (.mk 4 0 [] [.mk 2 c t []])
theorem litT_is (c:Int)(l:List (Int×Int)):IsLit (litT c l):=by
 unfold litT
 split
 ·split
  ·split
   ·exact .yes
   ·exact .no
  ·split
   ·exact .le _ _
   ·split
    ·exact .not _ _
    ·exact .yes
 ·exact .yes
def oppF:FT→FT
 | .mk k c t ks=>if k=0 then .mk 1 0 [] [] else if k=1 then .mk 0 0 [] [] else if k=4 then ks.getD 0 default else .mk 4 0 [] [.mk k c t ks]
def bothT (f:FT)(so:Bool):Option FT:=
 if litK f.c f.t=0 then
  if litK (-f.c) (scale (-1) f.t)=0 then
   some (if so then .mk 5 0 [] [litT f.c f.t,litT (-f.c) (scale (-1) f.t)] else .mk 6 0 [] [oppF (litT f.c f.t),oppF (litT (-f.c) (scale (-1) f.t))])
  else none
 else none
def normF:Nat→FT→Bool→Option FT
 | 0,_,_=>none
 | n+1,f,so=>
   if f.kind=0∨f.kind=1 then some (if so then .mk f.kind 0 [] [] else oppF (.mk f.kind 0 [] []))
   else if f.kind=2 then(if litK f.c f.t=0 then some (if so then litT f.c f.t else oppF (litT f.c f.t)) else none)
   else if f.kind=3 then bothT f so
   else if f.kind=4 then normF n (f.ks.getD 0 default) (!so)
   else if(f.ks.all fun k=>(normF n k so).isSome)=true then some (.mk (if so then f.kind else 11 - f.kind) 0 [] (f.ks.map fun k=>(normF n k so).getD default))
   else none
def kidsT (n:Nat)(f:FT)(so:Bool):FT:= .mk (if so then f.kind else 11 - f.kind) 0 [] (f.ks.map fun k=>(normF n k so).getD default)
theorem kidsT_get {n:Nat}{f:FT}{so:Bool}{j:Nat}{g:FT}(hj:j<f.ks.length)(h:normF n (f.ks.getD j default) so=some g):(kidsT n f so).ks.getD j default=g:=by
 show(f.ks.map fun k=>(normF n k so).getD default).getD j default=g
 rw[List.getD_eq_getElem?_getD,List.getElem?_eq_getElem hj]at h
 simp only[Option.getD_some]at h
 simp[List.getD_eq_getElem?_getD,hj,h]
theorem kidsT_len (n:Nat)(f:FT)(so:Bool):(kidsT n f so).ks.length=f.ks.length:=by
 show(f.ks.map _).length=_
 rw[List.length_map]
theorem FLiesQ.up {S:Nat→Prop}{w:World}:∀ {n m:Nat} {f:FT} {cs:List Value},FLiesQ S w n f cs→n≤m→FLiesQ S w m f cs
 | 0,_,_,_,h,_=>h.elim
 | n+1,0,_,_,_,hm=>absurd hm (by omega)
 | n+1,m+1,f,cs,⟨ta,tcap,ka,kcap,h1,h2,h3,h4,h5⟩,hm=>⟨ta,tcap,ka,kcap,h1,h2,h3,h4,fun i hi=>by
   obtain⟨b,off,c0,c1,c2,c3,e,hb,g0,g1,g2,g3,hf⟩:=h5 i hi
   exact⟨b,off,c0,c1,c2,c3,e,hb,g0,g1,g2,g3,hf.up (by omega)⟩⟩
def NormEnd (B m:Nat)(o:Option FT)(x y:Value)(w:World)(e:Ending)(w':World):Prop:=
 ∃cs,e= .returned (.tuple #[.agg cs.toArray,if o.isSome then x else y])∧FLiesQ (fun b=>B≤b∧b<w'.heap.size) w' m (o.getD (.mk 0 0 [] [])) cs∧Below B w w'
theorem lit_both (c:Int)(a:Option Addr)(n cap:Nat)(l:List (Int×Int))(w:World)(hn:l.length=n)(hm:n≤9223372036854775807)(hl:Lies w.heap.size w a l):
 Calls Tryz.prog 111 #[.agg #[.int .i64 c,.slice a n cap]] w (LitEnd w.heap.size (litT c l) (codeV (litK c l)) w)∧
 Calls Tryz.prog 96 #[.agg #[.int .i64 c,.slice a n cap]] w (LitEnd w.heap.size (litT c l) (.int .i64 (litK c l)) w):=by
 unfold litT litK
 by_cases hs:snd c l=true
 ·rw[if_pos hs,if_pos hs]
  by_cases h0:n=0
  ·subst h0
   obtain rfl:l=[]:=List.eq_nil_of_length_eq_zero hn
   exact⟨literal_none c a cap w hs _ rfl,rlit_none c a cap w hs _ rfl⟩
  ·have h0':0<n:=by omega
   subst hn
   rw[if_neg h0,if_neg h0]
   by_cases hp:0<(l.getD 0 (0,0)).2.tdiv (gAt l l.length)
   ·rw[if_pos hp,if_pos hp]
    refine⟨(literal_pos c a _ cap l w rfl hl hs h0' hp).mono fun e w' h=> ?_,rlit_terms c a _ cap l w rfl hl hs h0' _ _ ⟨fun _=>⟨rfl,rfl⟩,fun h=>absurd hp h,fun h=>absurd hp h⟩⟩
    obtain⟨v,rfl,hrow,hbl⟩:=h
    obtain⟨a3,cap3,rfl,hl3⟩:=hrow.liesQ
    have h64:=(snd_iff.1 hs).2.1
    exact⟨_,rfl,flies_leafS (by rw[redL_len];omega) hl3,hbl⟩
   ·rw[if_neg hp,if_neg hp]
    by_cases hw:wi (1 - upI c (gAt l l.length)) 1073741824=true
    ·rw[if_pos hw,if_pos hw]
     exact⟨(literal_neg c a _ cap l w rfl hl hs h0' hp).1 hw,rlit_terms c a _ cap l w rfl hl hs h0' _ _ ⟨fun h=>absurd h hp,fun _ _=>⟨rfl,rfl⟩,fun _ h=>(by rw[hw]at h;cases h)⟩⟩
    ·rw[if_neg hw,if_neg hw]
     rw[Bool.not_eq_true]at hw
     exact⟨(literal_neg c a _ cap l w rfl hl hs h0' hp).2 hw,rlit_terms c a _ cap l w rfl hl hs h0' _ _ ⟨fun h=>absurd h hp,fun _ h=>(by rw[hw]at h;cases h),fun _ _=>⟨rfl,rfl⟩⟩⟩
 ·rw[if_neg hs,if_neg hs]
  rw[Bool.not_eq_true]at hs
  exact⟨literal_bad c a n cap l w hn hm hl hs,rlit_bad c a n cap l w hn hm hl hs⟩
end
section
open Go.RowKit
theorem args_start (w:World)(k c:Int)(ta ka:Option Addr)(tn tcap kn kcap:Nat):
 Box w ((w.alloc (.cells #[.int .i64 k,.int .i64 c,.slice ta tn tcap,.slice ka kn kcap] 39)).alloc (.cells #[.int .i64 0,.int .i64 0,.slice none 0 0,.slice none 0 0] 39)) w.heap.size k c ta tn tcap ka kn kcap∧
 FB ((w.alloc (.cells #[.int .i64 k,.int .i64 c,.slice ta tn tcap,.slice ka kn kcap] 39)).alloc (.cells #[.int .i64 0,.int .i64 0,.slice none 0 0,.slice none 0 0] 39)) (w.heap.size+1):=by
 have hz:(w.alloc (.cells #[.int .i64 k,.int .i64 c,.slice ta tn tcap,.slice ka kn kcap] 39)).heap.size=w.heap.size+1:=by simp
 have hb:=(Below.refl (w.alloc (.cells #[.int .i64 k,.int .i64 c,.slice ta tn tcap,.slice ka kn kcap] 39)).heap.size (w.alloc (.cells #[.int .i64 k,.int .i64 c,.slice ta tn tcap,.slice ka kn kcap] 39))).alloc (Nat.le_refl _) (.cells #[.int .i64 0,.int .i64 0,.slice none 0 0,.slice none 0 0] 39)
 exact⟨(box_start w k c ta ka tn tcap kn kcap).below hb (by rw[hz];omega),fb_new _ _ hz⟩
theorem FLiesQ.one {S:Nat→Prop}{w:World}{n:Nat}{k c:Int}{t:List (Int×Int)}{cs:List Value}(h:FLiesQ S w (n+1) (.mk k c t []) cs):FLiesQ S w 1 (.mk k c t []) cs:=by
 obtain⟨ta,tcap,ka,kcap,h1,h2,h3,h4,_⟩:=h
 exact⟨ta,tcap,ka,kcap,h1,h2,h3,h4,fun i hi=>absurd hi (by simp[FT.ks])⟩
theorem not_lies {S:Nat→Prop}{w:World}{n g:Nat}{f:FT}{x0 x1 x2 x3:Value}(h:FLiesQ S w n f [x0,x1,x2,x3])(hg:S g)(g0:w.cell? ⟨g,0,none⟩=some x0)(g1:w.cell? ⟨g,1,none⟩=some x1)(g2:w.cell? ⟨g,2,none⟩=some x2)(g3:w.cell? ⟨g,3,none⟩=some x3):
 FLiesQ S w (n+1) (.mk 4 0 [] [f]) [.int .i64 4,.int .i64 0,.slice none 0 0,.slice (some ⟨g,0,none⟩) 1 1]:=by
 refine⟨none,0,some ⟨g,0,none⟩,1,rfl,fun i hi=>absurd hi (Nat.not_lt_zero i),by simp[FT.t],by simp[FT.ks],fun i hi=> ?_⟩
 obtain rfl:i=0:=by simpa [FT.ks]using hi
 exact⟨g,0,x0,x1,x2,x3,rfl,hg,by simpa using g0,by simpa using g1,by simpa using g2,by simpa using g3,h⟩
def OppEnd (S:Nat→Prop)(f:FT)(w:World)(e:Ending)(w':World):Prop:=∃cs,e= .returned (.agg cs.toArray)∧FLiesQ (fun b=>S b∨(w.heap.size≤b∧b<w'.heap.size)) w' 2 f cs∧Below w.heap.size w w'
theorem opp_flat (k:Int)(hk:k=0∨k=1)(S:Nat→Prop)(ta ka:Option Addr)(tcap kcap:Nat)(w:World):
 Calls Tryz.prog 82 #[.agg #[.int .i64 k,.int .i64 0,.slice ta 0 tcap,.slice ka 0 kcap]] w (OppEnd S (.mk (1 - k) 0 [] []) w)∧
 Calls Tryz.prog 95 #[.agg #[.int .i64 k,.int .i64 0,.slice ta 0 tcap,.slice ka 0 kcap]] w (OppEnd S (.mk (1 - k) 0 [] []) w):=by
 have ST:=Lib.hid (args_start w k 0 ta ka 0 tcap 0 kcap)
 obtain⟨_,p0,_,_,_,_⟩:=ST.out.1
 obtain⟨r0,r1,r2,r3,rf⟩:=ST.out.2
 generalize hW:(w.alloc (.cells #[.int .i64 k,.int .i64 0,.slice ta 0 tcap,.slice ka 0 kcap] 39)).alloc (.cells #[.int .i64 0,.int .i64 0,.slice none 0 0,.slice none 0 0] 39)=W0 at ST p0 r0 r1 r2 r3 rf
 rcases hk with rfl | rfl
 ·constructor
  ·go_enter Tryz.func82,Tryz.ntmps82
   go_wp2_with fail
   clear r0 r1 r2 r3 rf p0 hW
   refine bodyPost_ret (v:= .agg #[.int .i64 1,.int .i64 0,.slice none 0 0,.slice none 0 0]) ?_ rfl ⟨_,rfl,flies_flat,below4 ST.out.1.bel (Nat.le_succ _) _ _ _ _⟩
   obtain⟨e0,e1,e2,e3⟩:=res4 ST.out.2 (.int .i64 1) (.int .i64 0) (.slice none 0 0) (.slice none 0 0)
   simp[results,Tryz.results82,go_sem,e0,e1,e2,e3]
  ·go_enter Tryz.func95,Tryz.ntmps95
   go_wp2_with fail
   clear r0 r1 r2 r3 rf p0 hW
   refine bodyPost_ret (v:= .agg #[.int .i64 1,.int .i64 0,.slice none 0 0,.slice none 0 0]) ?_ rfl ⟨_,rfl,flies_flat,below4 ST.out.1.bel (Nat.le_succ _) _ _ _ _⟩
   obtain⟨e0,e1,e2,e3⟩:=res4 ST.out.2 (.int .i64 1) (.int .i64 0) (.slice none 0 0) (.slice none 0 0)
   simp[results,Tryz.results95,go_sem,e0,e1,e2,e3]
 ·constructor
  ·go_enter Tryz.func82,Tryz.ntmps82
   go_wp2_with fail
   clear r0 r1 r2 r3 rf p0 hW
   refine bodyPost_ret (v:= .agg #[.int .i64 0,.int .i64 0,.slice none 0 0,.slice none 0 0]) ?_ rfl ⟨_,rfl,flies_flat,below4 ST.out.1.bel (Nat.le_succ _) _ _ _ _⟩
   obtain⟨e0,e1,e2,e3⟩:=res4 ST.out.2 (.int .i64 0) (.int .i64 0) (.slice none 0 0) (.slice none 0 0)
   simp[results,Tryz.results82,go_sem,e0,e1,e2,e3]
  ·go_enter Tryz.func95,Tryz.ntmps95
   go_wp2_with fail
   clear r0 r1 r2 r3 rf p0 hW
   refine bodyPost_ret (v:= .agg #[.int .i64 0,.int .i64 0,.slice none 0 0,.slice none 0 0]) ?_ rfl ⟨_,rfl,flies_flat,below4 ST.out.1.bel (Nat.le_succ _) _ _ _ _⟩
   obtain⟨e0,e1,e2,e3⟩:=res4 ST.out.2 (.int .i64 0) (.int .i64 0) (.slice none 0 0) (.slice none 0 0)
   simp[results,Tryz.results95,go_sem,e0,e1,e2,e3]
theorem FLiesQ.past {S:Nat→Prop}{w W:World}{No n:Nat}{f:FT}{cs:List Value}(h:FLiesQ S w n f cs)(hS:∀b,S b→b<w.heap.size)(hb:Below w.heap.size w W)(hN:w.heap.size≤No)(x0 x1 x2 x3:Value)(T:Nat→Prop):
 FLiesQ (fun b=>S b∨T b) ((((W.setCell ⟨No,0,none⟩ x0).setCell ⟨No,1,none⟩ x1).setCell ⟨No,2,none⟩ x2).setCell ⟨No,3,none⟩ x3) n f cs:=
 h.keep (fun _=> .inl) (fun b o hsb=>(below4 hb hN x0 x1 x2 x3).cell (p:=⟨b,o,none⟩) (hS b hsb))
theorem opp_le (c:Int)(t:List (Int×Int))(S:Nat→Prop)(cs:List Value)(w:World)(hS:∀b,S b→b<w.heap.size)(h:FLiesQ S w 2 (.mk 2 c t []) cs):
 Calls Tryz.prog 82 #[.agg cs.toArray] w (OppEnd S (.mk 4 0 [] [.mk 2 c t []]) w)∧
 Calls Tryz.prog 95 #[.agg cs.toArray] w (OppEnd S (.mk 4 0 [] [.mk 2 c t []]) w):=by
 have H1:=Lib.hid h.one
 obtain⟨ta,tcap,ka,kcap,rfl,_⟩:=h
 simp only[FT.kind,FT.c,FT.t,FT.ks,List.length_nil]at H1⊢
 generalize t.length=tn at H1⊢
 have ST:=Lib.hid (args_start w 2 c ta ka tn tcap 0 kcap)
 obtain⟨_,p0,p1,p2,p3,_⟩:=ST.out.1
 obtain⟨r0,r1,r2,r3,rf⟩:=ST.out.2
 have SZ:Hid (w.heap.size+2=((w.alloc (.cells #[.int .i64 2,.int .i64 c,.slice ta tn tcap,.slice ka 0 kcap] 39)).alloc (.cells #[.int .i64 0,.int .i64 0,.slice none 0 0,.slice none 0 0] 39)).heap.size):=by show _=_;simp
 generalize hW:(w.alloc (.cells #[.int .i64 2,.int .i64 c,.slice ta tn tcap,.slice ka 0 kcap] 39)).alloc (.cells #[.int .i64 0,.int .i64 0,.slice none 0 0,.slice none 0 0] 39)=W0 at ST SZ p0 p1 p2 p3 r0 r1 r2 r3 rf
 constructor
 ·clear r0 r1 r2 r3 rf
  go_enter Tryz.func82,Tryz.ntmps82
  go_wp2_with fail
  clear hW
  refine(not_any 2 c ta tn tcap ka 0 kcap _).mono ?_
  rintro e w6 ⟨g6,rfl,hg6,hgz6,k0,k1,k2,k3,hb6⟩
  have hz:=SZ.out
  have hN6:w.heap.size+1<W0.heap.size:=by omega
  have F6:=Lib.hid (ST.out.2.below hb6 hN6)
  have B6:=Lib.hid (ST.out.1.bel.trans (hb6.mono (by omega)))
  have KK:Hid ((((w6.setCell ⟨w.heap.size+1,0,none⟩ (.int .i64 4)).setCell ⟨w.heap.size+1,1,none⟩ (.int .i64 0)).setCell ⟨w.heap.size+1,2,none⟩ (.slice none 0 0)).setCell ⟨w.heap.size+1,3,none⟩ (.slice (some ⟨g6,0,none⟩) 1 1)=set4 w6 (w.heap.size+1) (.int .i64 4) (.int .i64 0) (.slice none 0 0) (.slice (some ⟨g6,0,none⟩) 1 1)):=rfl
  have FIN:Hid (FLiesQ (fun b=>S b∨(w.heap.size≤b∧b<(set4 w6 (w.heap.size+1) (.int .i64 4) (.int .i64 0) (.slice none 0 0) (.slice (some ⟨g6,0,none⟩) 1 1)).heap.size)) (set4 w6 (w.heap.size+1) (.int .i64 4) (.int .i64 0) (.slice none 0 0) (.slice (some ⟨g6,0,none⟩) 1 1)) 2 (.mk 4 0 [] [.mk 2 c t []]) [.int .i64 4,.int .i64 0,.slice none 0 0,.slice (some ⟨g6,0,none⟩) 1 1]):=by
   have hgn:g6≠w.heap.size+1:=by omega
   refine not_lies (x0:= .int .i64 2) (x1:= .int .i64 c) (x2:= .slice ta tn tcap) (x3:= .slice ka 0 kcap) (H1.out.past hS B6.out (Nat.le_succ _) _ _ _ _ _) (.inr ⟨by omega,by rw[set4_size];exact hgz6⟩) ?_ ?_ ?_ ?_
   ·exact(set4_far _ _ _ _ _ _ _ _ hgn).trans k0
   ·exact(set4_far _ _ _ _ _ _ _ _ hgn).trans k1
   ·exact(set4_far _ _ _ _ _ _ _ _ hgn).trans k2
   ·exact(set4_far _ _ _ _ _ _ _ _ hgn).trans k3
  clear hg6 hgz6 k0 k1 k2 k3 hb6 p0 p1 p2 p3
  obtain⟨r0,r1,r2,r3,rf⟩:=F6.out
  go_wp2_with fail
  clear r0 r1 r2 r3 rf
  refine bodyPost_ret (v:= .agg #[.int .i64 4,.int .i64 0,.slice none 0 0,.slice (some ⟨g6,0,none⟩) 1 1]) ?_ rfl ⟨_,rfl,FIN.out,below4 B6.out (Nat.le_succ _) _ _ _ _⟩
  obtain⟨e0,e1,e2,e3⟩:=res4 F6.out (.int .i64 4) (.int .i64 0) (.slice none 0 0) (.slice (some ⟨g6,0,none⟩) 1 1)
  simp[results,Tryz.results82,go_sem,e0,e1,e2,e3]
 ·have hba:Below W0.heap.size W0 (W0.alloc (.cells #[.int .i64 2,.int .i64 c,.slice ta tn tcap,.slice ka 0 kcap] 39)):=(Below.refl _ W0).alloc (Nat.le_refl _) _
  have hz:=SZ.out
  have BA:=Lib.hid (ST.out.1.bel.trans (hba.mono (by omega)))
  have FA:=Lib.hid (ST.out.2.below hba (by omega))
  have FIN:Hid (FLiesQ (fun b=>S b∨(w.heap.size≤b∧b<(set4 (W0.alloc (.cells #[.int .i64 2,.int .i64 c,.slice ta tn tcap,.slice ka 0 kcap] 39)) (w.heap.size+1) (.int .i64 4) (.int .i64 0) (.slice none 0 0) (.slice (some ⟨W0.heap.size,0,none⟩) 1 1)).heap.size))
   (set4 (W0.alloc (.cells #[.int .i64 2,.int .i64 c,.slice ta tn tcap,.slice ka 0 kcap] 39)) (w.heap.size+1) (.int .i64 4) (.int .i64 0) (.slice none 0 0) (.slice (some ⟨W0.heap.size,0,none⟩) 1 1)) 2 (.mk 4 0 [] [.mk 2 c t []]) [.int .i64 4,.int .i64 0,.slice none 0 0,.slice (some ⟨W0.heap.size,0,none⟩) 1 1]):=by
   have hn:=heap_alloc_new W0 (.cells #[.int .i64 2,.int .i64 c,.slice ta tn tcap,.slice ka 0 kcap] 39)
   obtain⟨k0,k1,k2,k3⟩:=form_cells hn
   have hgn:W0.heap.size≠w.heap.size+1:=by omega
   refine not_lies (x0:= .int .i64 2) (x1:= .int .i64 c) (x2:= .slice ta tn tcap) (x3:= .slice ka 0 kcap) (H1.out.past hS BA.out (Nat.le_succ _) _ _ _ _ _) (.inr ⟨by omega,by rw[set4_size];exact lt_of_some hn⟩) ?_ ?_ ?_ ?_
   ·exact(set4_far _ _ _ _ _ _ _ _ hgn).trans k0
   ·exact(set4_far _ _ _ _ _ _ _ _ hgn).trans k1
   ·exact(set4_far _ _ _ _ _ _ _ _ hgn).trans k2
   ·exact(set4_far _ _ _ _ _ _ _ _ hgn).trans k3
  clear hba r0 r1 r2 r3 rf
  obtain⟨r0,r1,r2,r3,rf⟩:=FA.out
  go_enter Tryz.func95,Tryz.ntmps95
  go_wp2_with fail
  clear r0 r1 r2 r3 rf p0 p1 p2 p3 hW
  refine bodyPost_ret (v:= .agg #[.int .i64 4,.int .i64 0,.slice none 0 0,.slice (some ⟨W0.heap.size,0,none⟩) 1 1]) ?_ rfl ⟨_,rfl,FIN.out,below4 BA.out (Nat.le_succ _) _ _ _ _⟩
  obtain⟨e0,e1,e2,e3⟩:=res4 FA.out (.int .i64 4) (.int .i64 0) (.slice none 0 0) (.slice (some ⟨W0.heap.size,0,none⟩) 1 1)
  simp[results,Tryz.results95,go_sem,e0,e1,e2,e3]
theorem opp_not (c:Int)(t:List (Int×Int))(S:Nat→Prop)(cs:List Value)(w:World)(hS:∀b,S b→b<w.heap.size)(h:FLiesQ S w 2 (.mk 4 0 [] [.mk 2 c t []]) cs):
 Calls Tryz.prog 82 #[.agg cs.toArray] w (OppEnd S (.mk 2 c t []) w)∧
 Calls Tryz.prog 95 #[.agg cs.toArray] w (OppEnd S (.mk 2 c t []) w):=by
 obtain⟨ta,tcap,ka,kcap,rfl,_,_,_,hk⟩:=h
 obtain⟨b,off,c0,c1,c2,c3,ea,hsb,g0,g1,g2,g3,hf⟩:=hk 0 (by simp[FT.ks])
 subst ea
 obtain⟨ta',tcap',ka',kcap',e4,_⟩:=id hf
 injection e4 with e0 e4
 injection e4 with e1 e4
 injection e4 with e2 e4
 injection e4 with e3 _
 subst e0
 subst e1
 subst e2
 subst e3
 simp only[Nat.zero_mul,Nat.add_zero]at g0 g1 g2 g3
 have HF:=Lib.hid hf
 simp only[FT.kind,FT.c,FT.t,FT.ks,List.length_nil,List.length_cons,Nat.zero_add,List.getD_cons_zero]at g0 g1 g2 g3 HF⊢
 have hbl:=hS b hsb
 have ST:=Lib.hid (args_start w 4 0 ta (some ⟨b,off,none⟩) 0 tcap 1 kcap)
 obtain⟨_,p0,_,_,p3,bel⟩:=ST.out.1
 obtain⟨r0,r1,r2,r3,rf⟩:=ST.out.2
 rw[←bel.cell (p:=⟨b,_,none⟩) hbl]at g0 g1 g2 g3
 generalize t.length=tn at g2 HF
 clear hf hk bel
 generalize hW:(w.alloc (.cells #[.int .i64 4,.int .i64 0,.slice ta 0 tcap,.slice (some ⟨b,off,none⟩) 1 kcap] 39)).alloc (.cells #[.int .i64 0,.int .i64 0,.slice none 0 0,.slice none 0 0] 39)=W0 at ST p0 p3 r0 r1 r2 r3 rf g0 g1 g2 g3
 constructor
 ·go_enter Tryz.func82,Tryz.ntmps82
  go_wp2_with fail
  clear r0 r1 r2 r3 rf p0 p3 hW g0 g1 g2 g3
  refine bodyPost_ret (v:= .agg #[.int .i64 2,.int .i64 c,.slice ta' tn tcap',.slice ka' 0 kcap']) ?_ rfl ⟨_,rfl,(HF.out.past hS ST.out.1.bel (Nat.le_succ _) _ _ _ _ _).up (by omega),below4 ST.out.1.bel (Nat.le_succ _) _ _ _ _⟩
  obtain⟨e0,e1,e2,e3⟩:=res4 ST.out.2 (.int .i64 2) (.int .i64 c) (.slice ta' tn tcap') (.slice ka' 0 kcap')
  simp[results,Tryz.results82,go_sem,e0,e1,e2,e3]
 ·go_enter Tryz.func95,Tryz.ntmps95
  go_wp2_with fail
  clear r0 r1 r2 r3 rf p0 p3 hW g0 g1 g2 g3
  refine bodyPost_ret (v:= .agg #[.int .i64 2,.int .i64 c,.slice ta' tn tcap',.slice ka' 0 kcap']) ?_ rfl ⟨_,rfl,(HF.out.past hS ST.out.1.bel (Nat.le_succ _) _ _ _ _ _).up (by omega),below4 ST.out.1.bel (Nat.le_succ _) _ _ _ _⟩
  obtain⟨e0,e1,e2,e3⟩:=res4 ST.out.2 (.int .i64 2) (.int .i64 c) (.slice ta' tn tcap') (.slice ka' 0 kcap')
  simp[results,Tryz.results95,go_sem,e0,e1,e2,e3]
theorem opp_any (f:FT)(hf:IsLit f)(S:Nat→Prop)(cs:List Value)(w:World)(hS:∀b,S b→b<w.heap.size)(h:FLiesQ S w 2 f cs):
 Calls Tryz.prog 82 #[.agg cs.toArray] w (OppEnd S (oppF f) w)∧
 Calls Tryz.prog 95 #[.agg cs.toArray] w (OppEnd S (oppF f) w):=by
 cases hf with
 | yes=>
   obtain⟨ta,tcap,ka,kcap,rfl,_⟩:=h
   exact opp_flat 0 (.inl rfl) S ta ka tcap kcap w
 | no=>
   obtain⟨ta,tcap,ka,kcap,rfl,_⟩:=h
   exact opp_flat 1 (.inr rfl) S ta ka tcap kcap w
 | le c t=>exact opp_le c t S cs w hS h
 | not c t=>exact opp_not c t S cs w hS h
end
section
open Go.RowKit
theorem litT_bad {c:Int}{l:List (Int×Int)}(h:litK c l≠0):litT c l= .mk 0 0 [] []:=by
 unfold litK at h
 unfold litT
 split
 ·rename_i h1
  rw[if_pos h1]at h
  split
  ·rename_i h2
   rw[if_pos h2]at h
   exact absurd rfl h
  ·rename_i h2
   rw[if_neg h2]at h
   split
   ·rename_i h3
    rw[if_pos h3]at h
    exact absurd rfl h
   ·rename_i h3
    rw[if_neg h3]at h
    split
    ·rename_i h4
     rw[if_pos h4]at h
     exact absurd rfl h
    ·rfl
 ·rfl
theorem FLiesQ.set {S S':Nat→Prop}{w:World}{No n:Nat}{f:FT}{cs:List Value}(h:FLiesQ S w n f cs)(hne:∀b,S b→b≠No)(hS:∀b,S b→S' b)(x0 x1 x2 x3:Value):
 FLiesQ S' ((((w.setCell ⟨No,0,none⟩ x0).setCell ⟨No,1,none⟩ x1).setCell ⟨No,2,none⟩ x2).setCell ⟨No,3,none⟩ x3) n f cs:=
 h.keep hS (fun b o hb=>set4_far w No x0 x1 x2 x3 b o (hne b hb))
structure Ret (w V:World)(m:Nat)(f:FT)(x0 x1 x2 x3:Value):Prop where
 lies:FLiesQ (fun b=>w.heap.size≤b∧b<V.heap.size) V m f [x0,x1,x2,x3]
 bel:Below w.heap.size w V
 e0:V.cell? ⟨w.heap.size+1,0,none⟩=some x0
 e1:V.cell? ⟨w.heap.size+1,1,none⟩=some x1
 e2:V.cell? ⟨w.heap.size+1,2,none⟩=some x2
 e3:V.cell? ⟨w.heap.size+1,3,none⟩=some x3
theorem ret_set {S:Nat→Prop}{w w3:World}{m:Nat}{f:FT}{x0 x1 x2 x3:Value}(hF:FB w3 (w.heap.size+1))(hB:Below w.heap.size w w3)(h:FLiesQ S w3 m f [x0,x1,x2,x3])(hS:∀b,S b→w.heap.size≤b∧b≠w.heap.size+1∧b<w3.heap.size):
 Ret w ((((w3.setCell ⟨w.heap.size+1,0,none⟩ x0).setCell ⟨w.heap.size+1,1,none⟩ x1).setCell ⟨w.heap.size+1,2,none⟩ x2).setCell ⟨w.heap.size+1,3,none⟩ x3) m f x0 x1 x2 x3:=by
 obtain⟨e0,e1,e2,e3⟩:=res4 hF x0 x1 x2 x3
 exact⟨h.set (fun b hb=>(hS b hb).2.1) (fun b hb=>⟨(hS b hb).1,by rw[four_size];exact(hS b hb).2.2⟩) x0 x1 x2 x3,below4 hB (Nat.le_succ _) x0 x1 x2 x3,e0,e1,e2,e3⟩
theorem lin_start (w:World)(c:Int)(a:Option Addr)(n cap:Nat):
 (((w.alloc (.cells #[.int .i64 c,.slice a n cap] 36)).alloc (.cells #[.int .i64 0,.int .i64 0,.slice none 0 0,.slice none 0 0] 39)).cell? ⟨w.heap.size,0,none⟩=some (.int .i64 c)∧
 ((w.alloc (.cells #[.int .i64 c,.slice a n cap] 36)).alloc (.cells #[.int .i64 0,.int .i64 0,.slice none 0 0,.slice none 0 0] 39)).cell? ⟨w.heap.size,1,none⟩=some (.slice a n cap))∧
 Below w.heap.size w ((w.alloc (.cells #[.int .i64 c,.slice a n cap] 36)).alloc (.cells #[.int .i64 0,.int .i64 0,.slice none 0 0,.slice none 0 0] 39))∧
 FB ((w.alloc (.cells #[.int .i64 c,.slice a n cap] 36)).alloc (.cells #[.int .i64 0,.int .i64 0,.slice none 0 0,.slice none 0 0] 39)) (w.heap.size+1)∧
 w.heap.size+2=((w.alloc (.cells #[.int .i64 c,.slice a n cap] 36)).alloc (.cells #[.int .i64 0,.int .i64 0,.slice none 0 0,.slice none 0 0] 39)).heap.size:=by
 have hb2:=(Below.refl (w.alloc (.cells #[.int .i64 c,.slice a n cap] 36)).heap.size (w.alloc (.cells #[.int .i64 c,.slice a n cap] 36))).alloc (Nat.le_refl _) (.cells #[.int .i64 0,.int .i64 0,.slice none 0 0,.slice none 0 0] 39)
 exact⟨⟨by rw[hb2.cell (p:=⟨w.heap.size,0,none⟩) (by simp)];simp,by rw[hb2.cell (p:=⟨w.heap.size,1,none⟩) (by simp)];simp⟩,((Below.refl _ w).alloc (Nat.le_refl _) _).alloc (by simp) _,fb_new _ _ (by simp),by simp⟩
theorem nliteral_ok (c:Int)(a:Option Addr)(n cap:Nat)(l:List (Int×Int))(w:World)(hn:l.length=n)(hm:n≤9223372036854775807)(hl:Lies w.heap.size w a l)(hk:litK c l=0)(so:Bool):
 Calls Tryz.prog 79 #[.agg #[.int .i64 c,.slice a n cap],.bool so] w (LitEnd w.heap.size (if so then litT c l else oppF (litT c l)) .nilIface w):=by
 have HC:Hid (∀W,Below w.heap.size w W→Calls Tryz.prog 111 #[.agg #[.int .i64 c,.slice a n cap]] W (LitEnd W.heap.size (litT c l) .nilIface W)):=fun W hb=>by
  have:=(lit_both c a n cap l W hn hm ((hl.below hb).mono hb.size)).1
  rw[hk]at this
  exact this
 have ST:=Lib.hid (lin_start w c a n cap)
 have HI:=Lib.hid (litT_is c l)
 clear hl hn hm hk
 generalize litT c l=f at HC HI⊢
 have n1:=fun W=>Tryz.neNil W
 obtain⟨l0,l1⟩:=ST.out.1
 generalize hW:(w.alloc (.cells #[.int .i64 c,.slice a n cap] 36)).alloc (.cells #[.int .i64 0,.int .i64 0,.slice none 0 0,.slice none 0 0] 39)=W0 at ST l0 l1
 have Z0:=ST.out.2.2.2
 cases so
 ·go_enter Tryz.func79,Tryz.ntmps79
  go_wp2_with fail
  clear hW
  refine(HC.out _ ST.out.2.1).mono ?_
  rintro e w3 ⟨cs3,rfl,hf3,hb3⟩
  have HF3:=Lib.hid hf3
  obtain⟨fk,fc,ta,tn,tcap,ka,kn,kcap,rfl⟩:=hf3.form
  have hba:Below w3.heap.size w3 (w3.alloc (.cells #[.int .i64 fk,.int .i64 fc,.slice ta tn tcap,.slice ka kn kcap] 39)):=(Below.refl _ _).alloc (Nat.le_refl _) _
  have hz3:=hb3.size
  have B3:=Lib.hid ((ST.out.2.1.trans (hb3.mono (by omega))).trans (hba.mono (by omega)))
  have F3:=Lib.hid ((ST.out.2.2.1.below hb3 (by omega)).below hba (by omega))
  have HF4:Hid (FLiesQ (fun b=>w.heap.size+2≤b∧b<w3.heap.size) (w3.alloc (.cells #[.int .i64 fk,.int .i64 fc,.slice ta tn tcap,.slice ka kn kcap] 39)) 2 f [.int .i64 fk,.int .i64 fc,.slice ta tn tcap,.slice ka kn kcap]):=
   HF3.out.keep (fun b ⟨h1,h2⟩=>⟨by omega,h2⟩) (fun b o ⟨h1,h2⟩=>hba.cell (p:=⟨b,o,none⟩) h2)
  have Z3:w.heap.size+2≤w3.heap.size:=by omega
  have HZ4:=hba.size
  obtain⟨t0,t1,t2,t3⟩:=form_cells (heap_alloc_new w3 (.cells #[.int .i64 fk,.int .i64 fc,.slice ta tn tcap,.slice ka kn kcap] 39))
  have HOP:=Lib.hid ((opp_any f HI.out _ _ _ (fun b ⟨h1,h2⟩=>Nat.lt_of_lt_of_le h2 HZ4) HF4.out).1)
  clear l0 l1 hb3 hba hf3
  go_wp2_with fail
  refine HOP.out.mono ?_
  rintro e w5 ⟨cs5,rfl,hf5,hb5⟩
  have HF5:=Lib.hid hf5
  obtain⟨gk,gc,ua,un,ucap,va,vn,vcap,rfl⟩:=hf5.form
  have hz5:=hb5.size
  have B5:=Lib.hid (B3.out.trans (hb5.mono (by omega)))
  have F5:=Lib.hid (F3.out.below hb5 (by omega))
  have RT:=Lib.hid (ret_set F5.out B5.out HF5.out (fun b hb=>by rcases hb with ⟨h1,h2⟩ | ⟨h1,h2⟩<;>exact⟨by omega,by omega,by omega⟩))
  clear t0 t1 t2 t3 hb5 hf5
  obtain⟨r0,r1,r2,r3,rf⟩:=F5.out
  go_wp2_with fail
  clear r0 r1 r2 r3 rf
  refine bodyPost_ret (v:= .tuple #[.agg #[.int .i64 gk,.int .i64 gc,.slice ua un ucap,.slice va vn vcap],.nilIface]) ?_ rfl ⟨_,rfl,RT.out.lies,RT.out.bel⟩
  obtain⟨_,_,e0,e1,e2,e3⟩:=RT.out
  simp[results,Tryz.results79,go_sem,e0,e1,e2,e3]
 ·go_enter Tryz.func79,Tryz.ntmps79
  go_wp2_with fail
  clear hW
  refine(HC.out _ ST.out.2.1).mono ?_
  rintro e w3 ⟨cs3,rfl,hf3,hb3⟩
  have HF3:=Lib.hid hf3
  obtain⟨fk,fc,ta,tn,tcap,ka,kn,kcap,rfl⟩:=hf3.form
  have hz3:=hb3.size
  have hba:Below w3.heap.size w3 (w3.alloc (.cells #[.int .i64 fk,.int .i64 fc,.slice ta tn tcap,.slice ka kn kcap] 39)):=(Below.refl _ _).alloc (Nat.le_refl _) _
  have hzb:=hba.size
  have F3:=Lib.hid ((ST.out.2.2.1.below hb3 (by omega)).below hba (by omega))
  have RT:=Lib.hid (ret_set F3.out ((ST.out.2.1.trans (hb3.mono (by omega))).trans (hba.mono (by omega))) (HF3.out.keep (S':=fun b=>W0.heap.size≤b∧b<w3.heap.size) (fun _ h=>h) (fun b o ⟨h1,h2⟩=>hba.cell (p:=⟨b,o,none⟩) h2)) (fun b ⟨h1,h2⟩=>⟨by omega,by omega,by omega⟩))
  obtain⟨t0,t1,t2,t3⟩:=form_cells (heap_alloc_new w3 (.cells #[.int .i64 fk,.int .i64 fc,.slice ta tn tcap,.slice ka kn kcap] 39))
  clear l0 l1 hb3 hf3 hba
  obtain⟨r0,r1,r2,r3,rf⟩:=F3.out
  go_wp2_with fail
  clear r0 r1 r2 r3 rf
  refine bodyPost_ret (v:= .tuple #[.agg #[.int .i64 fk,.int .i64 fc,.slice ta tn tcap,.slice ka kn kcap],.nilIface]) ?_ rfl ⟨_,rfl,RT.out.lies,RT.out.bel⟩
  obtain⟨_,_,e0,e1,e2,e3⟩:=RT.out
  simp[results,Tryz.results79,go_sem,e0,e1,e2,e3]
theorem nliteral_far (c:Int)(a:Option Addr)(n cap:Nat)(l:List (Int×Int))(w:World)(hn:l.length=n)(hm:n≤9223372036854775807)(hl:Lies w.heap.size w a l)(hk:litK c l=3)(so:Bool):
 Calls Tryz.prog 79 #[.agg #[.int .i64 c,.slice a n cap],.bool so] w (LitEnd w.heap.size (.mk 0 0 [] []) (.iface 60 (.int .i64 3)) w):=by
 have HC:Hid (∀W,Below w.heap.size w W→Calls Tryz.prog 111 #[.agg #[.int .i64 c,.slice a n cap]] W (LitEnd W.heap.size (.mk 0 0 [] []) (.iface 60 (.int .i64 3)) W)):=fun W hb=>by
  have:=(lit_both c a n cap l W hn hm ((hl.below hb).mono hb.size)).1
  rw[litT_bad (by rw[hk];decide),hk]at this
  exact this
 have ST:=Lib.hid (lin_start w c a n cap)
 clear hl hn hm hk
 have n1:=fun W=>Tryz.neCode 3 W
 obtain⟨l0,l1⟩:=ST.out.1
 generalize hW:(w.alloc (.cells #[.int .i64 c,.slice a n cap] 36)).alloc (.cells #[.int .i64 0,.int .i64 0,.slice none 0 0,.slice none 0 0] 39)=W0 at ST l0 l1
 have Z0:=ST.out.2.2.2
 go_enter Tryz.func79,Tryz.ntmps79
 go_wp2_with fail
 clear hW
 refine(HC.out _ ST.out.2.1).mono ?_
 rintro e w3 ⟨cs3,rfl,hf3,hb3⟩
 have HF3:=Lib.hid hf3
 obtain⟨fk,fc,ta,tn,tcap,ka,kn,kcap,rfl⟩:=hf3.form
 have hz3:=hb3.size
 have hba:Below w3.heap.size w3 (w3.alloc (.cells #[.int .i64 fk,.int .i64 fc,.slice ta tn tcap,.slice ka kn kcap] 39)):=(Below.refl _ _).alloc (Nat.le_refl _) _
 have hzb:=hba.size
 have F3:=Lib.hid ((ST.out.2.2.1.below hb3 (by omega)).below hba (by omega))
 have RT:=Lib.hid (ret_set F3.out ((ST.out.2.1.trans (hb3.mono (by omega))).trans (hba.mono (by omega))) (HF3.out.keep (S':=fun b=>W0.heap.size≤b∧b<w3.heap.size) (fun _ h=>h) (fun b o ⟨h1,h2⟩=>hba.cell (p:=⟨b,o,none⟩) h2)) (fun b ⟨h1,h2⟩=>⟨by omega,by omega,by omega⟩))
 obtain⟨t0,t1,t2,t3⟩:=form_cells (heap_alloc_new w3 (.cells #[.int .i64 fk,.int .i64 fc,.slice ta tn tcap,.slice ka kn kcap] 39))
 clear l0 l1 hb3 hf3 hba
 obtain⟨r0,r1,r2,r3,rf⟩:=F3.out
 go_wp2_with fail
 clear r0 r1 r2 r3 rf
 refine bodyPost_ret (v:= .tuple #[.agg #[.int .i64 fk,.int .i64 fc,.slice ta tn tcap,.slice ka kn kcap],.iface 60 (.int .i64 3)]) ?_ rfl ⟨_,rfl,RT.out.lies,RT.out.bel⟩
 obtain⟨_,_,e0,e1,e2,e3⟩:=RT.out
 simp[results,Tryz.results79,go_sem,e0,e1,e2,e3]
theorem joint_any (k:Int)(so:Bool)(w:World)(h:5≤k∧k≤6):
 Calls Tryz.prog 112 #[.int .i64 k,.bool so] w fun e w'=>e= .returned (.int .i64 (if so then k else 11 - k))∧w=w':=by
 have hw1:IntKind.i64.wrap (11 - k)=11 - k:=IntWalk.i64_in _ (by omega)
 cases so
 ·go_enter Tryz.func112,Tryz.ntmps112
  go_wp2
  go_ret
  exact⟨rfl,rfl⟩
 ·go_enter Tryz.func112,Tryz.ntmps112
  go_wp2
  go_ret
  exact⟨rfl,rfl⟩
end
end Go.Proofs.YtipahfcaplbifaaGreatDoor
