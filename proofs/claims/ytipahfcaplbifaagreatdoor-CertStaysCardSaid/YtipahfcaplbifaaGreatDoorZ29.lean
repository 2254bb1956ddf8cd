/- Parts of a proof. -/
import Derived.Test.YtipahfcaplbifaaGreatDoorZ17
import Derived.Test.YtipahfcaplbifaaGreatDoorZ28
set_option linter.unusedVariables false
set_option linter.unusedSimpArgs false
set_option maxHeartbeats 60000000
set_option maxRecDepth 100000
namespace Go.Proofs.YtipahfcaplbifaaGreatDoor
section
open Go.RowKit
theorem scale_get (x:Int)(l:List (Int×Int))(k:Nat)(h:k<l.length):(scale x l).getD k (0,0)=((l.getD k (0,0)).1,x*(l.getD k (0,0)).2):=by
 unfold scale
 simp[List.getD_eq_getElem?_getD,h]
theorem scale_last (x:Int)(l:List (Int×Int))(i:Nat)(h:i<l.length):lastAt (scale x l) i=lastAt l i:=by
 unfold lastAt
 by_cases h0:i=0
 ·rw[if_pos h0,if_pos h0]
 ·rw[if_neg h0,if_neg h0,scale_get x l (i - 1) (by omega)]
theorem snd_neg {c:Int}{l:List (Int×Int)}(hs:snd c l=true):snd (-c) (scale (-1) l)=true:=by
 obtain⟨hwc,h64,hall⟩:=snd_iff.1 hs
 have hcb: -1073741824≤c∧c≤1073741824:=by unfold wi at hwc;simpa using hwc
 refine snd_iff.2 ⟨wi_t (by omega),by rw[scale_len];exact h64,fun i hi=> ?_⟩
 rw[scale_len]at hi
 obtain⟨h1,h2,h3,h4,h5,h6⟩:=okAt_in (hall i hi)
 refine okAt_mkG ?_
 rw[scale_last _ _ _ hi,scale_get _ _ _ hi]
 refine⟨h1, ?_,h3,h4, ?_, ?_⟩
 ·show -1*(l.getD i (0,0)).2≠0
  omega
 ·show -1073741824≤ -1*(l.getD i (0,0)).2
  omega
 ·show -1*(l.getD i (0,0)).2≤1073741824
  omega
theorem neg_sumR {c:Int}{l:List (Int×Int)}(hs:snd c l=true):IsSum (scale (-1) l ++ scale 0 []) (scale (-1) l):=by
 have h:=neg_sum hs
 rw[show scale 1 []=[] from rfl,List.nil_append]at h
 rw[show scale 0 []=[] from rfl,List.append_nil]
 exact h
theorem neg_add (c:Int)(a:Option Addr)(n cap:Nat)(l:List (Int×Int))(w:World)(hn:l.length=n)(hl:Lies w.heap.size w a l)(hs:snd c l=true):
 Calls Tryz.prog 50 #[.agg #[.int .i64 c,.slice a n cap],.agg #[.int .i64 0,.slice none 0 0],.int .i64 (-1),.int .i64 0] w (LinOk w.heap.size (-c) (scale (-1) l) w):=by
 have h64:=(snd_iff.1 hs).2.1
 obtain⟨hs1,hs2⟩:=both_terms (cb:=0) (x:= -1) (y:=0) (lb:=[]) hs (by decide) (by omega) (by omega)
 have hn':=(snd_iff.1 (snd_neg hs)).1
 have e:(-1:Int)*c+0*0= -c:=by omega
 have:=add_ok c 0 (-1) 0 a none n 0 cap 0 l [] (scale (-1) l) w hn rfl hl (fun i hi=>absurd hi (Nat.not_lt_zero i)) hs (by decide) (by omega) (by omega)
  (fun a n cap W B hn hrow hB hm=>gather_ok _ a n cap B _ (scale (-1) l) W hn hrow hB hm hs1 hs2 (neg_sumR hs) (by rw[e];exact hn') (neg_wi hs) (by rw[scale_len];omega))
 rw[e]at this
 exact this
theorem pair_lies {S:Nat→Prop}{w:World}{n g:Nat}{k:Int}{f1 f2:FT}{x0 x1 x2 x3 y0 y1 y2 y3:Value}(h1:FLiesQ S w n f1 [x0,x1,x2,x3])(h2:FLiesQ S w n f2 [y0,y1,y2,y3])(hg:S g)(hb:w.heap[g]? =some (.cells #[x0,x1,x2,x3,y0,y1,y2,y3] 39 (0,0))):
 FLiesQ S w (n+1) (.mk k 0 [] [f1,f2]) [.int .i64 k,.int .i64 0,.slice none 0 0,.slice (some ⟨g,0,none⟩) 2 2]:=by
 refine⟨none,0,some ⟨g,0,none⟩,2,rfl,fun i hi=>absurd hi (Nat.not_lt_zero i),by simp[FT.t],by simp[FT.ks],fun i hi=> ?_⟩
 have hi2:i<2:=by simpa [FT.ks]using hi
 have hc:∀o,w.cell? ⟨g,o,none⟩= #[x0,x1,x2,x3,y0,y1,y2,y3][o]? :=fun o=>cell_of_row _ _ _ _ _ _ hb
 match i,hi2 with
 | 0,_=>exact⟨g,0,x0,x1,x2,x3,rfl,hg,(hc _).trans rfl,(hc _).trans rfl,(hc _).trans rfl,(hc _).trans rfl,h1⟩
 | 1,_=>exact⟨g,0,y0,y1,y2,y3,rfl,hg,(hc _).trans rfl,(hc _).trans rfl,(hc _).trans rfl,(hc _).trans rfl,h2⟩
theorem Ret.drew {w V:World}{m:Nat}{f:FT}{x0 x1 x2 x3:Value}(h:Ret w V m f x0 x1 x2 x3):Ret w V.drew m f x0 x1 x2 x3:=
 ⟨FLiesQ.keep (S:=fun b=>w.heap.size≤b∧b<V.heap.size) (w:=V) (w':=V.drew) (fun _ h=>h) (fun _ _ _=>rfl) h.lies,h.bel.drew,h.e0,h.e1,h.e2,h.e3⟩
theorem ret_pair0 {S:Nat→Prop}{w W:World}{n:Nat}{J:Int}{f1 f2:FT}{x0 x1 x2 x3 y0 y1 y2 y3:Value}(hF:FB W (w.heap.size+1))(hB:Below w.heap.size w W)(hz:w.heap.size+1<W.heap.size)(h1:FLiesQ S W n f1 [x0,x1,x2,x3])(h2:FLiesQ S W n f2 [y0,y1,y2,y3])
 (hS:∀b,S b→w.heap.size≤b∧b≠w.heap.size+1∧b<W.heap.size):
 Ret w (((((W.setCell ⟨w.heap.size+1,0,none⟩ (.int .i64 J)).setCell ⟨w.heap.size+1,1,none⟩ (.int .i64 0)).setCell ⟨w.heap.size+1,2,none⟩ (.slice none 0 0)).setCell ⟨w.heap.size+1,3,none⟩ (.slice (some ⟨W.heap.size,0,none⟩) 2 2)).alloc (.cells #[x0,x1,x2,x3,y0,y1,y2,y3] 39)) (n+1) (.mk J 0 [] [f1,f2]) (.int .i64 J) (.int .i64 0) (.slice none 0 0) (.slice (some ⟨W.heap.size,0,none⟩) 2 2):=by
 obtain⟨e0,e1,e2,e3⟩:=res4 hF (.int .i64 J) (.int .i64 0) (.slice none 0 0) (.slice (some ⟨W.heap.size,0,none⟩) 2 2)
 have hs:=four_size W (w.heap.size+1) (.int .i64 J) (.int .i64 0) (.slice none 0 0) (.slice (some ⟨W.heap.size,0,none⟩) 2 2)
 have h1':=h1.set (No:=w.heap.size+1) (fun b hb=>(hS b hb).2.1) (fun b hb=>hb) (.int .i64 J) (.int .i64 0) (.slice none 0 0) (.slice (some ⟨W.heap.size,0,none⟩) 2 2)
 have h2':=h2.set (No:=w.heap.size+1) (fun b hb=>(hS b hb).2.1) (fun b hb=>hb) (.int .i64 J) (.int .i64 0) (.slice none 0 0) (.slice (some ⟨W.heap.size,0,none⟩) 2 2)
 have hb4:=below4 hB (Nat.le_succ _) (.int .i64 J) (.int .i64 0) (.slice none 0 0) (.slice (some ⟨W.heap.size,0,none⟩) 2 2)
 generalize (((W.setCell ⟨w.heap.size+1,0,none⟩ (.int .i64 J)).setCell ⟨w.heap.size+1,1,none⟩ (.int .i64 0)).setCell ⟨w.heap.size+1,2,none⟩ (.slice none 0 0)).setCell ⟨w.heap.size+1,3,none⟩ (.slice (some ⟨W.heap.size,0,none⟩) 2 2)=V at e0 e1 e2 e3 hs h1' h2' hb4⊢
 have hba:Below V.heap.size V (V.alloc (.cells #[x0,x1,x2,x3,y0,y1,y2,y3] 39)):=(Below.refl _ _).alloc (Nat.le_refl _) _
 have hn:=heap_alloc_new V (.cells #[x0,x1,x2,x3,y0,y1,y2,y3] 39)
 have hl:=lt_of_some hn
 have hbs:=hb4.size
 rw[hs]at hn hl
 have hk:∀b o,b<W.heap.size→(V.alloc (.cells #[x0,x1,x2,x3,y0,y1,y2,y3] 39)).cell? ⟨b,o,none⟩=V.cell? ⟨b,o,none⟩:=fun b o hb=>hba.cell (p:=⟨b,o,none⟩) (by show b<_;omega)
 refine⟨pair_lies (h1'.keep (fun b hb=>⟨(hS b hb).1,by have:=(hS b hb).2.2;omega⟩) (fun b o hb=>hk b o (hS b hb).2.2)) (h2'.keep (fun b hb=>⟨(hS b hb).1,by have:=(hS b hb).2.2;omega⟩) (fun b o hb=>hk b o (hS b hb).2.2)) ⟨by omega,hl⟩ hn,hb4.trans (hba.mono hbs),(hk _ _ hz).trans e0,(hk _ _ hz).trans e1,(hk _ _ hz).trans e2,(hk _ _ hz).trans e3⟩
theorem ret_pair {S:Nat→Prop}{w W:World}{n:Nat}{J:Int}{f1 f2:FT}{x0 x1 x2 x3 y0 y1 y2 y3:Value}(hF:FB W (w.heap.size+1))(hB:Below w.heap.size w W)(hz:w.heap.size+1<W.heap.size)(h1:FLiesQ S W n f1 [x0,x1,x2,x3])(h2:FLiesQ S W n f2 [y0,y1,y2,y3])
 (hS:∀b,S b→w.heap.size≤b∧b≠w.heap.size+1∧b<W.heap.size):
 Ret w (((((W.setCell ⟨w.heap.size+1,0,none⟩ (.int .i64 J)).setCell ⟨w.heap.size+1,1,none⟩ (.int .i64 0)).setCell ⟨w.heap.size+1,2,none⟩ (.slice none 0 0)).setCell ⟨w.heap.size+1,3,none⟩ (.slice (some ⟨W.heap.size,0,none⟩) 2 2)).alloc (.cells #[x0,x1,x2,x3,y0,y1,y2,y3] 39)).drew (n+1) (.mk J 0 [] [f1,f2]) (.int .i64 J) (.int .i64 0) (.slice none 0 0) (.slice (some ⟨W.heap.size,0,none⟩) 2 2):=
 (ret_pair0 hF hB hz h1 h2 hS).drew
theorem pair_keep {W:World}{M1 M2 No:Nat}{x0 x1 x2 x3 p0 p1 p2 p3 q0 q1 q2 q3:Value}{o:Obj}
 (hp:W.cell? ⟨M1,0,none⟩=some p0∧W.cell? ⟨M1,1,none⟩=some p1∧W.cell? ⟨M1,2,none⟩=some p2∧W.cell? ⟨M1,3,none⟩=some p3)
 (hq:W.cell? ⟨M2,0,none⟩=some q0∧W.cell? ⟨M2,1,none⟩=some q1∧W.cell? ⟨M2,2,none⟩=some q2∧W.cell? ⟨M2,3,none⟩=some q3) (h1:M1<W.heap.size) (h2:M2<W.heap.size) (n1:M1≠No) (n2:M2≠No):
 ((((((W.setCell ⟨No,0,none⟩ x0).setCell ⟨No,1,none⟩ x1).setCell ⟨No,2,none⟩ x2).setCell ⟨No,3,none⟩ x3).alloc o).drew.cell? ⟨M1,0,none⟩=some p0∧(((((W.setCell ⟨No,0,none⟩ x0).setCell ⟨No,1,none⟩ x1).setCell ⟨No,2,none⟩ x2).setCell ⟨No,3,none⟩ x3).alloc o).drew.cell? ⟨M1,1,none⟩=some p1∧(((((W.setCell ⟨No,0,none⟩ x0).setCell ⟨No,1,none⟩ x1).setCell ⟨No,2,none⟩ x2).setCell ⟨No,3,none⟩ x3).alloc o).drew.cell? ⟨M1,2,none⟩=some p2∧(((((W.setCell ⟨No,0,none⟩ x0).setCell ⟨No,1,none⟩ x1).setCell ⟨No,2,none⟩ x2).setCell ⟨No,3,none⟩ x3).alloc o).drew.cell? ⟨M1,3,none⟩=some p3)∧
 ((((((W.setCell ⟨No,0,none⟩ x0).setCell ⟨No,1,none⟩ x1).setCell ⟨No,2,none⟩ x2).setCell ⟨No,3,none⟩ x3).alloc o).drew.cell? ⟨M2,0,none⟩=some q0∧(((((W.setCell ⟨No,0,none⟩ x0).setCell ⟨No,1,none⟩ x1).setCell ⟨No,2,none⟩ x2).setCell ⟨No,3,none⟩ x3).alloc o).drew.cell? ⟨M2,1,none⟩=some q1∧(((((W.setCell ⟨No,0,none⟩ x0).setCell ⟨No,1,none⟩ x1).setCell ⟨No,2,none⟩ x2).setCell ⟨No,3,none⟩ x3).alloc o).drew.cell? ⟨M2,2,none⟩=some q2∧(((((W.setCell ⟨No,0,none⟩ x0).setCell ⟨No,1,none⟩ x1).setCell ⟨No,2,none⟩ x2).setCell ⟨No,3,none⟩ x3).alloc o).drew.cell? ⟨M2,3,none⟩=some q3):=by
 have hk:∀b j,b<W.heap.size→b≠No→(((((W.setCell ⟨No,0,none⟩ x0).setCell ⟨No,1,none⟩ x1).setCell ⟨No,2,none⟩ x2).setCell ⟨No,3,none⟩ x3).alloc o).drew.cell? ⟨b,j,none⟩=W.cell? ⟨b,j,none⟩:=fun b j hb hne=>by
  have h4:=set4_far W No x0 x1 x2 x3 b j hne
  have hs:=set4_size W No x0 x1 x2 x3
  unfold set4 at h4 hs
  generalize (((W.setCell ⟨No,0,none⟩ x0).setCell ⟨No,1,none⟩ x1).setCell ⟨No,2,none⟩ x2).setCell ⟨No,3,none⟩ x3=X at h4 hs⊢
  have hba:=(Below.refl X.heap.size X).alloc (Nat.le_refl _) o
  rw[←h4]
  exact hba.cell (p:=⟨b,j,none⟩) (by rw[hs];exact hb)
 obtain⟨a0,a1,a2,a3⟩:=hp
 obtain⟨b0,b1,b2,b3⟩:=hq
 exact⟨⟨(hk _ _ h1 n1).trans a0,(hk _ _ h1 n1).trans a1,(hk _ _ h1 n1).trans a2,(hk _ _ h1 n1).trans a3⟩,(hk _ _ h2 n2).trans b0,(hk _ _ h2 n2).trans b1,(hk _ _ h2 n2).trans b2,(hk _ _ h2 n2).trans b3⟩
theorem both_far1 (c:Int)(a:Option Addr)(n cap:Nat)(l:List (Int×Int))(w:World)(hn:l.length=n)(hl:Lies w.heap.size w a l)(hs:snd c l=true)(h1:litK c l=3)(so:Bool):
 Calls Tryz.prog 80 #[.agg #[.int .i64 c,.slice a n cap],.bool so] w (LitEnd w.heap.size (.mk 0 0 [] []) (.iface 60 (.int .i64 3)) w):=by
 have h64:=(snd_iff.1 hs).2.1
 have HAD:=Lib.hid (fun W (hb:Below w.heap.size w W)=>neg_add c a n cap l W hn ((hl.below hb).mono hb.size) hs)
 have HL1:=Lib.hid (fun W (hb:Below w.heap.size w W)=>nliteral_far c a n cap l W hn (by omega) ((hl.below hb).mono hb.size) h1 so)
 have hsl:(scale (-1) l).length=n:=by rw[scale_len];exact hn
 have ST:=Lib.hid (lin_start w c a n cap)
 clear hl hn hs h64 h1
 generalize scale (-1) l=R at HAD hsl
 have n0:=fun W=>Tryz.neNil W
 have n3:=fun W=>Tryz.neCode 3 W
 obtain⟨l0,l1⟩:=ST.out.1
 generalize hW:(w.alloc (.cells #[.int .i64 c,.slice a n cap] 36)).alloc (.cells #[.int .i64 0,.int .i64 0,.slice none 0 0,.slice none 0 0] 39)=W0 at ST l0 l1
 have Z0:=ST.out.2.2.2
 go_enter Tryz.func80,Tryz.ntmps80
 go_wp2_with fail
 clear hW
 refine(HAD.out _ ST.out.2.1).mono ?_
 rintro e w3 ⟨v3,rfl,hrow3,hb3⟩
 obtain⟨a3,cap3,rfl,hl3,_⟩:=hrow3.lies
 rw[hsl]
 have hz3:=hb3.size
 have hba3:Below w3.heap.size w3 (w3.alloc (.cells #[.int .i64 (-c),.slice a3 n cap3] 36)):=(Below.refl _ _).alloc (Nat.le_refl _) _
 have HL3:=Lib.hid ((hl3.below hba3).mono hba3.size)
 have Z4:w3.heap.size+1=(w3.alloc (.cells #[.int .i64 (-c),.slice a3 n cap3] 36)).heap.size:=by simp
 have hb4:Below W0.heap.size W0 (w3.alloc (.cells #[.int .i64 (-c),.slice a3 n cap3] 36)):=hb3.trans (hba3.mono hz3)
 have B4:=Lib.hid (ST.out.2.1.trans (hb4.mono (by omega)))
 have F4:=Lib.hid (ST.out.2.2.1.below hb4 (by omega))
 have m0:(w3.alloc (.cells #[.int .i64 (-c),.slice a3 n cap3] 36)).cell? ⟨w.heap.size,0,none⟩=some (.int .i64 c):=(hb4.cell (p:=⟨w.heap.size,0,none⟩) (by show w.heap.size<_;omega)).trans l0
 have m1:(w3.alloc (.cells #[.int .i64 (-c),.slice a3 n cap3] 36)).cell? ⟨w.heap.size,1,none⟩=some (.slice a n cap):=(hb4.cell (p:=⟨w.heap.size,1,none⟩) (by show w.heap.size<_;omega)).trans l1
 have P4:Hid ((w3.alloc (.cells #[.int .i64 (-c),.slice a3 n cap3] 36)).cell? ⟨w3.heap.size,0,none⟩=some (.int .i64 (-c))∧(w3.alloc (.cells #[.int .i64 (-c),.slice a3 n cap3] 36)).cell? ⟨w3.heap.size,1,none⟩=some (.slice a3 n cap3)):=⟨by simp,by simp⟩
 clear l0 l1 hrow3 hb3 hba3 hb4 hl3 HAD
 go_wp2_with fail
 refine(HL1.out _ B4.out).mono ?_
 rintro e w5 ⟨cs5,rfl,hf5,hb5⟩
 have HF5:=Lib.hid hf5
 obtain⟨fk,fc,ta,tn,tcap,ka,kn,kcap,rfl⟩:=hf5.form
 have hz5:=hb5.size
 have hba5:Below w5.heap.size w5 (w5.alloc (.cells #[.int .i64 fk,.int .i64 fc,.slice ta tn tcap,.slice ka kn kcap] 39)):=(Below.refl _ _).alloc (Nat.le_refl _) _
 have Z6:w5.heap.size+1=(w5.alloc (.cells #[.int .i64 fk,.int .i64 fc,.slice ta tn tcap,.slice ka kn kcap] 39)).heap.size:=by simp
 generalize w3.alloc (.cells #[.int .i64 (-c),.slice a3 n cap3] 36)=w4 at HL3 Z4 B4 F4 m0 m1 P4 HF5 hb5 hz5⊢
 generalize hN3:w3.heap.size=N3 at Z4 hz3 P4⊢
 clear hN3
 have F5:=Lib.hid (F4.out.below hb5 (by omega))
 have F6:=Lib.hid (F5.out.below hba5 (by omega))
 have B6:=Lib.hid (B4.out.trans ((hb5.trans (hba5.mono hz5)).mono (by omega)))
 have RT:=Lib.hid (ret_set (m:=2) (f:= .mk 0 0 [] []) (S:=fun _=>False) F6.out B6.out flies_flat (fun b h=>h.elim))
 clear m0 m1 P4 hb5 hba5 hf5
 obtain⟨r0,r1,r2,r3,rf⟩:=F6.out
 go_wp2_with fail
 clear r0 r1 r2 r3 rf
 refine bodyPost_ret (v:= .tuple #[.agg #[.int .i64 0,.int .i64 0,.slice none 0 0,.slice none 0 0],.iface 60 (.int .i64 3)]) ?_ rfl ⟨_,rfl,RT.out.lies.up (by omega),RT.out.bel⟩
 obtain⟨_,_,e0,e1,e2,e3⟩:=RT.out
 simp[results,Tryz.results80,go_sem,e0,e1,e2,e3]
theorem both_far2 (c:Int)(a:Option Addr)(n cap:Nat)(l:List (Int×Int))(w:World)(hn:l.length=n)(hl:Lies w.heap.size w a l)(hs:snd c l=true)(h1:litK c l=0)(h2:litK (-c) (scale (-1) l)=3)(so:Bool):
 Calls Tryz.prog 80 #[.agg #[.int .i64 c,.slice a n cap],.bool so] w (LitEnd w.heap.size (.mk 0 0 [] []) (.iface 60 (.int .i64 3)) w):=by
 have h64:=(snd_iff.1 hs).2.1
 have HAD:=Lib.hid (fun W (hb:Below w.heap.size w W)=>neg_add c a n cap l W hn ((hl.below hb).mono hb.size) hs)
 have HL1:=Lib.hid (fun W (hb:Below w.heap.size w W)=>nliteral_ok c a n cap l W hn (by omega) ((hl.below hb).mono hb.size) h1 so)
 have HL2:=Lib.hid (fun(b:Option Addr) capb W (hlb:Lies W.heap.size W b (scale (-1) l))=>nliteral_far (-c) b n capb (scale (-1) l) W (by rw[scale_len];exact hn) (by omega) hlb h2 so)
 have hsl:(scale (-1) l).length=n:=by rw[scale_len];exact hn
 have ST:=Lib.hid (lin_start w c a n cap)
 clear hl hn hs h64 h1 h2
 generalize scale (-1) l=R at HAD hsl HL2
 have n0:=fun W=>Tryz.neNil W
 have n3:=fun W=>Tryz.neCode 3 W
 obtain⟨l0,l1⟩:=ST.out.1
 generalize hW:(w.alloc (.cells #[.int .i64 c,.slice a n cap] 36)).alloc (.cells #[.int .i64 0,.int .i64 0,.slice none 0 0,.slice none 0 0] 39)=W0 at ST l0 l1
 have Z0:=ST.out.2.2.2
 go_enter Tryz.func80,Tryz.ntmps80
 go_wp2_with fail
 clear hW
 refine(HAD.out _ ST.out.2.1).mono ?_
 rintro e w3 ⟨v3,rfl,hrow3,hb3⟩
 obtain⟨a3,cap3,rfl,hl3,_⟩:=hrow3.lies
 rw[hsl]
 have hz3:=hb3.size
 have hba3:Below w3.heap.size w3 (w3.alloc (.cells #[.int .i64 (-c),.slice a3 n cap3] 36)):=(Below.refl _ _).alloc (Nat.le_refl _) _
 have HL3:=Lib.hid ((hl3.below hba3).mono hba3.size)
 have Z4:w3.heap.size+1=(w3.alloc (.cells #[.int .i64 (-c),.slice a3 n cap3] 36)).heap.size:=by simp
 have hb4:Below W0.heap.size W0 (w3.alloc (.cells #[.int .i64 (-c),.slice a3 n cap3] 36)):=hb3.trans (hba3.mono hz3)
 have B4:=Lib.hid (ST.out.2.1.trans (hb4.mono (by omega)))
 have F4:=Lib.hid (ST.out.2.2.1.below hb4 (by omega))
 have m0:(w3.alloc (.cells #[.int .i64 (-c),.slice a3 n cap3] 36)).cell? ⟨w.heap.size,0,none⟩=some (.int .i64 c):=(hb4.cell (p:=⟨w.heap.size,0,none⟩) (by show w.heap.size<_;omega)).trans l0
 have m1:(w3.alloc (.cells #[.int .i64 (-c),.slice a3 n cap3] 36)).cell? ⟨w.heap.size,1,none⟩=some (.slice a n cap):=(hb4.cell (p:=⟨w.heap.size,1,none⟩) (by show w.heap.size<_;omega)).trans l1
 have P4:Hid ((w3.alloc (.cells #[.int .i64 (-c),.slice a3 n cap3] 36)).cell? ⟨w3.heap.size,0,none⟩=some (.int .i64 (-c))∧(w3.alloc (.cells #[.int .i64 (-c),.slice a3 n cap3] 36)).cell? ⟨w3.heap.size,1,none⟩=some (.slice a3 n cap3)):=⟨by simp,by simp⟩
 clear l0 l1 hrow3 hb3 hba3 hb4 hl3 HAD
 go_wp2_with fail
 refine(HL1.out _ B4.out).mono ?_
 rintro e w5 ⟨cs5,rfl,hf5,hb5⟩
 have HF5:=Lib.hid hf5
 obtain⟨fk,fc,ta,tn,tcap,ka,kn,kcap,rfl⟩:=hf5.form
 have hz5:=hb5.size
 have hba5:Below w5.heap.size w5 (w5.alloc (.cells #[.int .i64 fk,.int .i64 fc,.slice ta tn tcap,.slice ka kn kcap] 39)):=(Below.refl _ _).alloc (Nat.le_refl _) _
 have Z6:w5.heap.size+1=(w5.alloc (.cells #[.int .i64 fk,.int .i64 fc,.slice ta tn tcap,.slice ka kn kcap] 39)).heap.size:=by simp
 generalize w3.alloc (.cells #[.int .i64 (-c),.slice a3 n cap3] 36)=w4 at HL3 Z4 B4 F4 m0 m1 P4 HF5 hb5 hz5⊢
 generalize hN3:w3.heap.size=N3 at Z4 hz3 P4⊢
 clear hN3
 have F5:=Lib.hid (F4.out.below hb5 (by omega))
 have hb6:Below w4.heap.size w4 (w5.alloc (.cells #[.int .i64 fk,.int .i64 fc,.slice ta tn tcap,.slice ka kn kcap] 39)):=hb5.trans (hba5.mono hz5)
 have HL6:=Lib.hid ((HL3.out.below hb6).mono hb6.size)
 have B6:=Lib.hid (B4.out.trans (hb6.mono (by omega)))
 have F6:=Lib.hid (F4.out.below hb6 (by omega))
 have q0:(w5.alloc (.cells #[.int .i64 fk,.int .i64 fc,.slice ta tn tcap,.slice ka kn kcap] 39)).cell? ⟨N3,0,none⟩=some (.int .i64 (-c)):=(hb6.cell (p:=⟨N3,0,none⟩) (by show N3<_;omega)).trans P4.out.1
 have q1:(w5.alloc (.cells #[.int .i64 fk,.int .i64 fc,.slice ta tn tcap,.slice ka kn kcap] 39)).cell? ⟨N3,1,none⟩=some (.slice a3 n cap3):=(hb6.cell (p:=⟨N3,1,none⟩) (by show N3<_;omega)).trans P4.out.2
 have HB6:=Lib.hid (heap_alloc_new w5 (.cells #[.int .i64 fk,.int .i64 fc,.slice ta tn tcap,.slice ka kn kcap] 39))
 have HF6:Hid (FLiesQ (fun b=>w.heap.size+2≤b∧b<w5.heap.size) (w5.alloc (.cells #[.int .i64 fk,.int .i64 fc,.slice ta tn tcap,.slice ka kn kcap] 39)) 2 _ [.int .i64 fk,.int .i64 fc,.slice ta tn tcap,.slice ka kn kcap]):=
  HF5.out.keep (fun b ⟨h1,h2⟩=>⟨by omega,h2⟩) (fun b o ⟨h1,h2⟩=>hba5.cell (p:=⟨b,o,none⟩) h2)
 clear m0 m1 P4 hb5 hba5 hf5 hb6 HL3
 go_wp2_with fail
 refine(HL2.out _ _ _ HL6.out).mono ?_
 rintro e w7 ⟨cs7,rfl,hf7,hb7⟩
 have HF7:=Lib.hid hf7
 obtain⟨gk,gc,ua,un,ucap,va,vn,vcap,rfl⟩:=hf7.form
 have hz7:=hb7.size
 have hba7:Below w7.heap.size w7 (w7.alloc (.cells #[.int .i64 gk,.int .i64 gc,.slice ua un ucap,.slice va vn vcap] 39)):=(Below.refl _ _).alloc (Nat.le_refl _) _
 have Z8:w7.heap.size+1=(w7.alloc (.cells #[.int .i64 gk,.int .i64 gc,.slice ua un ucap,.slice va vn vcap] 39)).heap.size:=by simp
 generalize w5.alloc (.cells #[.int .i64 fk,.int .i64 fc,.slice ta tn tcap,.slice ka kn kcap] 39)=w6 at HL6 Z6 B6 F6 q0 q1 HB6 HF6 HF7 hb7 hz7⊢
 generalize hN5:w5.heap.size=N5 at Z6 hz5 HB6 HF6⊢
 clear hN5 F5 HF5
 have F7:=Lib.hid (F6.out.below hb7 (by omega))
 have B7:=Lib.hid (B6.out.trans (hb7.mono (by omega)))
 have F8:=Lib.hid (F7.out.below hba7 (by omega))
 have B8:=Lib.hid (B7.out.trans (hba7.mono (by omega)))
 have RT:=Lib.hid (ret_set (m:=2) (f:= .mk 0 0 [] []) (S:=fun _=>False) F8.out B8.out flies_flat (fun b h=>h.elim))
 clear q0 q1 hb7 hba7 hf7
 obtain⟨r0,r1,r2,r3,rf⟩:=F8.out
 go_wp2_with fail
 clear r0 r1 r2 r3 rf
 refine bodyPost_ret (v:= .tuple #[.agg #[.int .i64 0,.int .i64 0,.slice none 0 0,.slice none 0 0],.iface 60 (.int .i64 3)]) ?_ rfl ⟨_,rfl,RT.out.lies.up (by omega),RT.out.bel⟩
 obtain⟨_,_,e0,e1,e2,e3⟩:=RT.out
 simp[results,Tryz.results80,go_sem,e0,e1,e2,e3]
theorem both_ok (c:Int)(a:Option Addr)(n cap:Nat)(l:List (Int×Int))(w:World)(hn:l.length=n)(hl:Lies w.heap.size w a l)(hs:snd c l=true)(h1:litK c l=0)(h2:litK (-c) (scale (-1) l)=0)(so:Bool):
 Calls Tryz.prog 80 #[.agg #[.int .i64 c,.slice a n cap],.bool so] w (fun e w'=>∃cs,e= .returned (.tuple #[.agg cs.toArray,.nilIface])∧FLiesQ (fun b=>w.heap.size≤b∧b<w'.heap.size) w' 3 (.mk (if so=true then 5 else 11 - 5) 0 [] [if so then litT c l else oppF (litT c l),if so then litT (-c) (scale (-1) l) else oppF (litT (-c) (scale (-1) l))]) cs∧Below w.heap.size w w'):=by
 have h64:=(snd_iff.1 hs).2.1
 have HAD:=Lib.hid (fun W (hb:Below w.heap.size w W)=>neg_add c a n cap l W hn ((hl.below hb).mono hb.size) hs)
 have HL1:=Lib.hid (fun W (hb:Below w.heap.size w W)=>nliteral_ok c a n cap l W hn (by omega) ((hl.below hb).mono hb.size) h1 so)
 have HL2:=Lib.hid (fun(b:Option Addr) capb W (hlb:Lies W.heap.size W b (scale (-1) l))=>nliteral_ok (-c) b n capb (scale (-1) l) W (by rw[scale_len];exact hn) (by omega) hlb h2 so)
 have HJ:=Lib.hid (fun W=>joint_any 5 so W ⟨by omega,by omega⟩)
 generalize (if so=true then(5:Int) else 11 - 5)=J at HJ⊢
 generalize (if so=true then litT c l else oppF (litT c l))=A at HL1⊢
 generalize (if so=true then litT (-c) (scale (-1) l) else oppF (litT (-c) (scale (-1) l)))=B at HL2⊢
 have hsl:(scale (-1) l).length=n:=by rw[scale_len];exact hn
 have ST:=Lib.hid (lin_start w c a n cap)
 clear hl hn hs h64 h1 h2
 generalize scale (-1) l=R at HAD hsl HL2
 have n0:=fun W=>Tryz.neNil W
 have n3:=fun W=>Tryz.neCode 3 W
 obtain⟨l0,l1⟩:=ST.out.1
 generalize hW:(w.alloc (.cells #[.int .i64 c,.slice a n cap] 36)).alloc (.cells #[.int .i64 0,.int .i64 0,.slice none 0 0,.slice none 0 0] 39)=W0 at ST l0 l1
 have Z0:=ST.out.2.2.2
 go_enter Tryz.func80,Tryz.ntmps80
 go_wp2_with fail
 clear hW
 refine(HAD.out _ ST.out.2.1).mono ?_
 rintro e w3 ⟨v3,rfl,hrow3,hb3⟩
 obtain⟨a3,cap3,rfl,hl3,_⟩:=hrow3.lies
 rw[hsl]
 have hz3:=hb3.size
 have hba3:Below w3.heap.size w3 (w3.alloc (.cells #[.int .i64 (-c),.slice a3 n cap3] 36)):=(Below.refl _ _).alloc (Nat.le_refl _) _
 have HL3:=Lib.hid ((hl3.below hba3).mono hba3.size)
 have Z4:w3.heap.size+1=(w3.alloc (.cells #[.int .i64 (-c),.slice a3 n cap3] 36)).heap.size:=by simp
 have hb4:Below W0.heap.size W0 (w3.alloc (.cells #[.int .i64 (-c),.slice a3 n cap3] 36)):=hb3.trans (hba3.mono hz3)
 have B4:=Lib.hid (ST.out.2.1.trans (hb4.mono (by omega)))
 have F4:=Lib.hid (ST.out.2.2.1.below hb4 (by omega))
 have m0:(w3.alloc (.cells #[.int .i64 (-c),.slice a3 n cap3] 36)).cell? ⟨w.heap.size,0,none⟩=some (.int .i64 c):=(hb4.cell (p:=⟨w.heap.size,0,none⟩) (by show w.heap.size<_;omega)).trans l0
 have m1:(w3.alloc (.cells #[.int .i64 (-c),.slice a3 n cap3] 36)).cell? ⟨w.heap.size,1,none⟩=some (.slice a n cap):=(hb4.cell (p:=⟨w.heap.size,1,none⟩) (by show w.heap.size<_;omega)).trans l1
 have P4:Hid ((w3.alloc (.cells #[.int .i64 (-c),.slice a3 n cap3] 36)).cell? ⟨w3.heap.size,0,none⟩=some (.int .i64 (-c))∧(w3.alloc (.cells #[.int .i64 (-c),.slice a3 n cap3] 36)).cell? ⟨w3.heap.size,1,none⟩=some (.slice a3 n cap3)):=⟨by simp,by simp⟩
 clear l0 l1 hrow3 hb3 hba3 hb4 hl3 HAD
 go_wp2_with fail
 refine(HL1.out _ B4.out).mono ?_
 rintro e w5 ⟨cs5,rfl,hf5,hb5⟩
 have HF5:=Lib.hid hf5
 obtain⟨fk,fc,ta,tn,tcap,ka,kn,kcap,rfl⟩:=hf5.form
 have hz5:=hb5.size
 have hba5:Below w5.heap.size w5 (w5.alloc (.cells #[.int .i64 fk,.int .i64 fc,.slice ta tn tcap,.slice ka kn kcap] 39)):=(Below.refl _ _).alloc (Nat.le_refl _) _
 have Z6:w5.heap.size+1=(w5.alloc (.cells #[.int .i64 fk,.int .i64 fc,.slice ta tn tcap,.slice ka kn kcap] 39)).heap.size:=by simp
 generalize w3.alloc (.cells #[.int .i64 (-c),.slice a3 n cap3] 36)=w4 at HL3 Z4 B4 F4 m0 m1 P4 HF5 hb5 hz5⊢
 generalize hN3:w3.heap.size=N3 at Z4 hz3 P4⊢
 clear hN3
 have F5:=Lib.hid (F4.out.below hb5 (by omega))
 have hb6:Below w4.heap.size w4 (w5.alloc (.cells #[.int .i64 fk,.int .i64 fc,.slice ta tn tcap,.slice ka kn kcap] 39)):=hb5.trans (hba5.mono hz5)
 have HL6:=Lib.hid ((HL3.out.below hb6).mono hb6.size)
 have B6:=Lib.hid (B4.out.trans (hb6.mono (by omega)))
 have F6:=Lib.hid (F4.out.below hb6 (by omega))
 have q0:(w5.alloc (.cells #[.int .i64 fk,.int .i64 fc,.slice ta tn tcap,.slice ka kn kcap] 39)).cell? ⟨N3,0,none⟩=some (.int .i64 (-c)):=(hb6.cell (p:=⟨N3,0,none⟩) (by show N3<_;omega)).trans P4.out.1
 have q1:(w5.alloc (.cells #[.int .i64 fk,.int .i64 fc,.slice ta tn tcap,.slice ka kn kcap] 39)).cell? ⟨N3,1,none⟩=some (.slice a3 n cap3):=(hb6.cell (p:=⟨N3,1,none⟩) (by show N3<_;omega)).trans P4.out.2
 have HB6:=Lib.hid (heap_alloc_new w5 (.cells #[.int .i64 fk,.int .i64 fc,.slice ta tn tcap,.slice ka kn kcap] 39))
 have HF6:Hid (FLiesQ (fun b=>w.heap.size+2≤b∧b<w5.heap.size) (w5.alloc (.cells #[.int .i64 fk,.int .i64 fc,.slice ta tn tcap,.slice ka kn kcap] 39)) 2 _ [.int .i64 fk,.int .i64 fc,.slice ta tn tcap,.slice ka kn kcap]):=
  HF5.out.keep (fun b ⟨h1,h2⟩=>⟨by omega,h2⟩) (fun b o ⟨h1,h2⟩=>hba5.cell (p:=⟨b,o,none⟩) h2)
 clear m0 m1 P4 hb5 hba5 hf5 hb6 HL3
 go_wp2_with fail
 refine(HL2.out _ _ _ HL6.out).mono ?_
 rintro e w7 ⟨cs7,rfl,hf7,hb7⟩
 have HF7:=Lib.hid hf7
 obtain⟨gk,gc,ua,un,ucap,va,vn,vcap,rfl⟩:=hf7.form
 have hz7:=hb7.size
 have hba7:Below w7.heap.size w7 (w7.alloc (.cells #[.int .i64 gk,.int .i64 gc,.slice ua un ucap,.slice va vn vcap] 39)):=(Below.refl _ _).alloc (Nat.le_refl _) _
 have Z8:w7.heap.size+1=(w7.alloc (.cells #[.int .i64 gk,.int .i64 gc,.slice ua un ucap,.slice va vn vcap] 39)).heap.size:=by simp
 generalize w5.alloc (.cells #[.int .i64 fk,.int .i64 fc,.slice ta tn tcap,.slice ka kn kcap] 39)=w6 at HL6 Z6 B6 F6 q0 q1 HB6 HF6 HF7 hb7 hz7⊢
 generalize hN5:w5.heap.size=N5 at Z6 hz5 HB6 HF6⊢
 clear hN5 F5 HF5
 have F7:=Lib.hid (F6.out.below hb7 (by omega))
 have B7:=Lib.hid (B6.out.trans (hb7.mono (by omega)))
 have hb8:Below w6.heap.size w6 (w7.alloc (.cells #[.int .i64 gk,.int .i64 gc,.slice ua un ucap,.slice va vn vcap] 39)):=hb7.trans (hba7.mono hz7)
 obtain⟨t0,t1,t2,t3⟩:=form_cells ((hb8.block _ (by omega)).trans HB6.out)
 obtain⟨v0,v1,v2,v3⟩:=form_cells (heap_alloc_new w7 (.cells #[.int .i64 gk,.int .i64 gc,.slice ua un ucap,.slice va vn vcap] 39))
 have HF8:Hid (FLiesQ (fun b=>w.heap.size+2≤b∧b<w7.heap.size) (w7.alloc (.cells #[.int .i64 gk,.int .i64 gc,.slice ua un ucap,.slice va vn vcap] 39)) 2 _ [.int .i64 gk,.int .i64 gc,.slice ua un ucap,.slice va vn vcap]):=
  HF7.out.keep (fun b ⟨h1,h2⟩=>⟨by omega,h2⟩) (fun b o ⟨h1,h2⟩=>hba7.cell (p:=⟨b,o,none⟩) h2)
 have HF9:Hid (FLiesQ (fun b=>w.heap.size+2≤b∧b<w7.heap.size) (w7.alloc (.cells #[.int .i64 gk,.int .i64 gc,.slice ua un ucap,.slice va vn vcap] 39)) 2 _ [.int .i64 fk,.int .i64 fc,.slice ta tn tcap,.slice ka kn kcap]):=
  HF6.out.keep (fun b ⟨h1,h2⟩=>⟨h1,by omega⟩) (fun b o ⟨h1,h2⟩=>hb8.cell (p:=⟨b,o,none⟩) (by show b<_;omega))
 have B8:=Lib.hid (B6.out.trans (hb8.mono (by omega)))
 have F8:=Lib.hid (F6.out.below hb8 (by omega))
 have hz5b:N5<(w7.alloc (.cells #[.int .i64 gk,.int .i64 gc,.slice ua un ucap,.slice va vn vcap] 39)).heap.size:=by omega
 have hz7b:w7.heap.size<(w7.alloc (.cells #[.int .i64 gk,.int .i64 gc,.slice ua un ucap,.slice va vn vcap] 39)).heap.size:=by omega
 have hzN:w.heap.size+1<(w7.alloc (.cells #[.int .i64 gk,.int .i64 gc,.slice ua un ucap,.slice va vn vcap] 39)).heap.size:=by omega
 clear q0 q1 hb7 hba7 hf7 hb8 HF7 F7 B7
 generalize hN7:w7.heap.size=N7 at HF8 HF9 hz7b v0 v1 v2 v3
 generalize hW8:w7.alloc (.cells #[.int .i64 gk,.int .i64 gc,.slice ua un ucap,.slice va vn vcap] 39)=W8 at HF8 HF9 B8 F8 t0 t1 t2 t3 v0 v1 v2 v3 hz5b hz7b hzN
 have RT:=Lib.hid (ret_pair (J:=J) F8.out B8.out hzN HF9.out HF8.out (fun b ⟨h1,h2⟩=>⟨by omega,by omega,by omega⟩))
 have TT:Hid ((_∧_∧_∧_)∧(_∧_∧_∧_)):=pair_keep (No:=w.heap.size+1) (x0:= .int .i64 J) (x1:= .int .i64 0) (x2:= .slice none 0 0) (x3:= .slice (some ⟨W8.heap.size,0,none⟩) 2 2) (o:= .cells #[.int .i64 fk,.int .i64 fc,.slice ta tn tcap,.slice ka kn kcap,.int .i64 gk,.int .i64 gc,.slice ua un ucap,.slice va vn vcap] 39) ⟨t0,t1,t2,t3⟩ ⟨v0,v1,v2,v3⟩ hz5b hz7b (by omega) (by omega)
 obtain⟨r0,r1,r2,r3,rf⟩:=F8.out
 go_wp2_with fail
 clear hN7 hW8
 go_region_held3 (fun w'=>(w'.cell? ⟨N5,0,none⟩=some (.int .i64 fk)∧w'.cell? ⟨N5,1,none⟩=some (.int .i64 fc)∧w'.cell? ⟨N5,2,none⟩=some (.slice ta tn tcap)∧w'.cell? ⟨N5,3,none⟩=some (.slice ka kn kcap))∧
  (w'.cell? ⟨N7,0,none⟩=some (.int .i64 gk)∧w'.cell? ⟨N7,1,none⟩=some (.int .i64 gc)∧w'.cell? ⟨N7,2,none⟩=some (.slice ua un ucap)∧w'.cell? ⟨N7,3,none⟩=some (.slice va vn vcap)))
  (first
    | with_reducible exact TT.out
    | go_keep)
  (first
    | (go_at_call 112
       refine(HJ.out _).mono ?_
       rintro e w9 ⟨rfl,rfl⟩))
 all_goals
  clear r0 r1 r2 r3 rf TT t0 t1 t2 t3 v0 v1 v2 v3
  go_wp2_with fail
  refine bodyPost_ret (v:= .tuple #[.agg #[.int .i64 J,.int .i64 0,.slice none 0 0,.slice (some ⟨W8.heap.size,0,none⟩) 2 2],.nilIface]) ?_ rfl ⟨_,rfl,RT.out.lies,RT.out.bel⟩
  obtain⟨_,_,e0,e1,e2,e3⟩:=RT.out
  simp[results,Tryz.results80,go_sem,e0,e1,e2,e3]
end
section
open Go.RowKit
theorem wpList_append_form {w:World}{ops:Array Oper}{rest:List Oper}{o:Oper}{a:Act}{Q:Exit→Act→World→Prop}(hgd:o.guard=none)(s x:Operand)
 (ho:o.op= .call { callee:= .builtin .append,args:= #[s,x],argTypes:= #[37,37] })
 (B:Nat) (v:Value) (hs:a.eval s=v) (css:List (List Value)) (h:ORow B css v w) (ad:Addr) (cap:Nat) (cs:List Value) (hx:a.eval x= .slice (some ad) 1 cap) (hcs:cs.length=4)
 (hnews:∀j u,cs[j]? =some u→w.cell? (ad.add j)=some u) (h1:∀u∈cs,u.oneCell'=true) (hlen:css.length≤1048576) (hB:B≤w.heap.size)
 (hK:∀v' w',ORow B (css ++ [cs]) v' w'→w.grownBy w' v.ownBlock→(v'.ownBlock=v.ownBlock∨v'.ownBlock=some w.heap.size)→wpList Tryz.prog ops Q rest (a.put o.dst v') w'):
 wpList Tryz.prog ops Q (o :: rest) a w:=by
 obtain⟨i0,hi,hz0,hz1,hz2⟩:=info_parts Tryz.infoForm
 obtain⟨v',w',hr,h3,h4,_,h5⟩:=run_append_own_at w B 37 o.type 39 i0 _ 4 64 Tryz.underlying37 hi hz0 hz1 hz2 rfl (by decide) v css.length css.flatten h ad 1 cap cs (by rw[hcs]) hnews h1 (by unfold maxLen;omega) (by omega) hB
 refine wpList_plain hgd fun _ hK'=> ?_
 unfold Oper.wp execOp
 simp only[ho,resolve,invoke,builtin,Sem.run_bind,Sem.run_pure,Result.andThen_ok,List.map_toArray,List.map_cons,List.map_nil,hs,hx,hr]
 refine hK' _ _ (hK _ _ ?_ h4 h5)
 unfold ORow
 rw[List.length_append,List.flatten_append,List.flatten_singleton]
 exact h3
theorem NormEnd.some {B m:Nat}{g:FT}{x y:Value}{w:World}{e:Ending}{w':World}(h:NormEnd B m (some g) x y w e w'):
 ∃cs,e= .returned (.tuple #[.agg cs.toArray,x])∧FLiesQ (fun b=>B≤b∧b<w'.heap.size) w' m g cs∧Below B w w':=h
theorem NormEnd.none {B m:Nat}{x y:Value}{w:World}{e:Ending}{w':World}(h:NormEnd B m none x y w e w'):
 ∃cs,e= .returned (.tuple #[.agg cs.toArray,y])∧FLiesQ (fun b=>B≤b∧b<w'.heap.size) w' m (.mk 0 0 [] []) cs∧Below B w w':=h
def NI (n:Nat):Prop:=∀(f:FT) (so:Bool) (cs:List Value) (W:World),sndF n f=true→litF n f→FLies W.heap.size W n f cs→
 Calls Tryz.prog 51 #[.agg cs.toArray,.bool so] W (NormEnd W.heap.size (n+2) (normF n f so) .nilIface (.iface 60 (.int .i64 3)) W)
theorem kids_begin {w W1:World}{n:Nat}{F:FT}(hT:F.t=[]){k c J:Int}{ta ka:Option Addr}{tn tcap kn kcap:Nat}(hx:Box w W1 w.heap.size k c ta tn tcap ka kn kcap)(hf:FB W1 (w.heap.size+1))(hz:w.heap.size+2=W1.heap.size):
 CS w.heap.size W1.heap.size n F none 0 [] (.slice none 0 0) (W1.alloc (.cells #[.int .i64 J,.int .i64 0,.slice none 0 0,.slice none 0 0] 39))∧
 OB (W1.alloc (.cells #[.int .i64 J,.int .i64 0,.slice none 0 0,.slice none 0 0] 39)) W1.heap.size J 0 none 0 0 (.slice none 0 0)∧
 RB (W1.alloc (.cells #[.int .i64 J,.int .i64 0,.slice none 0 0,.slice none 0 0] 39)) (w.heap.size+1)∧
 Box w (W1.alloc (.cells #[.int .i64 J,.int .i64 0,.slice none 0 0,.slice none 0 0] 39)) w.heap.size k c ta tn tcap ka kn kcap:=by
 have hb4:Below W1.heap.size W1 (W1.alloc (.cells #[.int .i64 J,.int .i64 0,.slice none 0 0,.slice none 0 0] 39)):=(Below.refl _ _).alloc (Nat.le_refl _) _
 have hn:=heap_alloc_new W1 (.cells #[.int .i64 J,.int .i64 0,.slice none 0 0,.slice none 0 0] 39)
 obtain⟨r0,r1,r2,r3,rf⟩:=hf.below hb4 (by omega)
 refine⟨⟨World.ownsRow_nil _ _ _ _,rfl,fun c hc=>(by cases hc),fun g hg=>(by cases hg),by omega,by simp, ?_,fun j hj=>absurd hj (Nat.not_lt_zero j)⟩,
  ⟨by rw[cell_of_row _ _ _ _ _ _ hn];rfl,by rw[cell_of_row _ _ _ _ _ _ hn];rfl,by rw[cell_of_row _ _ _ _ _ _ hn];rfl,by rw[cell_of_row _ _ _ _ _ _ hn];rfl,fun o=>frozen_of_row _ _ _ _ _ hn⟩,⟨r0,r1,r2,r3,rf⟩,hx.below hb4 (by omega)⟩
 rw[hT]
 exact fun i hi=>absurd hi (Nat.not_lt_zero i)
structure Round (w:World)(No n:Nat)(F:FT)(J fk fc:Int)(ta:Option Addr)(ft tcap:Nat)(ka:Option Addr)(len kcap k:Nat)(css:List (List Value))(v:Value)(W:World):Prop where
 cs:CS w.heap.size No n F none k css v W
 ob:OB W No J 0 none 0 0 v
 rb:RB W (w.heap.size+1)
 bx:Box w W w.heap.size fk fc ta ft tcap ka len kcap
theorem Round.fb {w:World}{No n:Nat}{F:FT}{J fk fc:Int}{ta:Option Addr}{ft tcap:Nat}{ka:Option Addr}{len kcap k:Nat}{css:List (List Value)}{v:Value}{W:World}(h:Round w No n F J fk fc ta ft tcap ka len kcap k css v W):FB W (w.heap.size+1):=
 ⟨h.rb.r0,h.rb.r1,h.rb.r2,h.rb.r3,h.rb.fz⟩
theorem Round.zs {w:World}{No n:Nat}{F:FT}{J fk fc:Int}{ta:Option Addr}{ft tcap:Nat}{ka:Option Addr}{len kcap k:Nat}{css:List (List Value)}{v:Value}{W:World}(h:Round w No n F J fk fc ta ft tcap ka len kcap k css v W):w.heap.size+1<No∧No<W.heap.size:=⟨h.cs.lt,h.cs.ltz⟩
theorem Round.step {w:World}{No n:Nat}{F:FT}{J fk fc:Int}{ta:Option Addr}{ft tcap:Nat}{ka:Option Addr}{len kcap k:Nat}{css:List (List Value)}{v v8:Value}{W w6 w8:World}{cs1:List Value}{o:Obj}(h:Round w No n F J fk fc ta ft tcap ka len kcap k css v W)
 (hb:Below W.heap.size W w6) (hk:FLiesQ (fun b=>W.heap.size≤b∧b<w6.heap.size) w6 n (F.ks.getD k default) cs1) (hrow:ORow w.heap.size (css ++ [cs1]) v8 w8) (hg:(w6.alloc o).grownBy w8 v.ownBlock) (hat:v8.ownBlock=v.ownBlock∨v8.ownBlock=some (w6.heap.size+1)):
 Round w No n F J fk fc ta ft tcap ka len kcap (k+1) (css ++ [cs1]) v8 (w8.setCell ⟨No,3,none⟩ v8):=by
 have far:=fun b p h1 h2=>round_far (No:=No) (v6:=v8) h.cs.row hb hg b p h1 h2
 have hlt:=h.cs.lt
 have hlz:=h.cs.ltz
 have hown:=h.cs.own
 have hnr:∀b',b'≤No→v.ownBlock≠ .some b':=fun b' hb' e=>by have:=hown b' e;omega
 have hz1:=hb.size
 have hbz:=h.bx.lt
 have hcc:∀o,(w8.setCell ⟨No,3,none⟩ v8).cell? ⟨w.heap.size,o,none⟩=W.cell? ⟨w.heap.size,o,none⟩:=fun o=>(far _ o hbz (hnr _ (by omega))).2.2 (by omega)
 have hbw:Below w.heap.size w w8:=((h.bx.bel.trans (hb.mono (Nat.le_of_lt hbz))).alloc (by omega) _).grown hg (by simp;omega) (fun g hg=>by have:=hown g hg;omega)
 refine⟨CS.step (x:=v8) h.cs hb hk hrow hg hat,(h.ob.keep (fun o=>(far No o hlz (hnr No (Nat.le_refl _))).1) (fun o=>(far No o hlz (hnr No (Nat.le_refl _))).2.1)).set v8,
  h.rb.keep (fun o=>(far _ o (by omega) (hnr _ (by omega))).2.2 (by omega)) (fun o=>(World.frozen?_setCell _ _ _ _).trans (far _ o (by omega) (hnr _ (by omega))).2.1),
  ⟨?_,(hcc 0).trans h.bx.c0,(hcc 1).trans h.bx.c1,(hcc 2).trans h.bx.c2,(hcc 3).trans h.bx.c3,hbw.setCell (p:=⟨No,3,none⟩) (by show _≤No;omega) _⟩⟩
 rw[World.size_setCell]
 have:=hg.size
 simp at this
 omega
theorem Round.stored {w:World}{No n:Nat}{F:FT}{J fk fc:Int}{ta:Option Addr}{ft tcap:Nat}{ka:Option Addr}{len kcap k:Nat}{css:List (List Value)}{v:Value}{W w6 w8:World}{o:Obj}(h:Round w No n F J fk fc ta ft tcap ka len kcap k css v W)
 (hb:Below W.heap.size W w6) (hg:(w6.alloc o).grownBy w8 v.ownBlock):w8.cell? ⟨No,3,none⟩=some v∧∀j,w8.frozen? ⟨No,j,none⟩=false:=by
 have far:=fun b p h1 h2=>round_far (No:=No) (v6:=v) h.cs.row hb hg b p h1 h2
 have hown:=h.cs.own
 have hnr:v.ownBlock≠ .some No:=fun e=>by have:=hown No e;omega
 exact⟨(far No 3 h.cs.ltz hnr).1.trans h.ob.o3,fun j=>(far No j h.cs.ltz hnr).2.1.trans (h.ob.fz j)⟩
theorem Round.done {w:World}{No n:Nat}{F:FT}{J fk fc:Int}{ta:Option Addr}{ft tcap:Nat}{ka:Option Addr}{len kcap k:Nat}{css:List (List Value)}{v:Value}{W:World}(h:Round w No n F J fk fc ta ft tcap ka len kcap k css v W)
 (hT:F.t=[]) (hC:F.c=0) (hJ:F.kind=J) (hk:k=F.ks.length) (hk4:k≤1048576):
 ∃a cap,v= .slice a k cap∧Ret w ((((W.setCell ⟨w.heap.size+1,0,none⟩ (.int .i64 J)).setCell ⟨w.heap.size+1,1,none⟩ (.int .i64 0)).setCell ⟨w.heap.size+1,2,none⟩ (.slice none 0 0)).setCell ⟨w.heap.size+1,3,none⟩ (.slice a k cap)) (n+1) F (.int .i64 J) (.int .i64 0) (.slice none 0 0) (.slice a k cap):=by
 obtain⟨a,cap,hv,ha⟩:=h.cs.row.form
 rw[h.cs.len]at hv
 refine⟨a,cap,hv, ?_⟩
 have hc:=h.cs
 rw[hk]at hc
 obtain⟨e0,e1,e2,e3⟩:=res4 h.fb (.int .i64 J) (.int .i64 0) (.slice none 0 0) (.slice a k cap)
 obtain⟨c3,e,hl⟩:=CS.done (cap3:=0) (w':=set4 W (w.heap.size+1) (.int .i64 J) (.int .i64 0) (.slice none 0 0) (.slice a k cap)) hc (by rw[hT];exact Nat.zero_le _) (by omega) (by rw[set4_size];exact Nat.le_refl _) (fun b o hb=>set4_far _ _ _ _ _ _ _ _ (by omega)) ⟨cap,by rw[←hk,←ha];exact hv⟩
 subst e
 rw[hJ,hC,hT,hv]at hl
 exact⟨hl,below4 h.bx.bel (Nat.le_succ _) _ _ _ _,e0,e1,e2,e3⟩
theorem nkids_any (n:Nat)(IH:NI n)(f:FT)(so:Bool)(cs:List Value)(w:World)(hk56:5≤f.kind∧f.kind≤6)(hs:∀i,i<f.ks.length→sndF n (f.ks.getD i default)=true)(hlit:litF (n+1) f)(h:FLies w.heap.size w (n+1) f cs):
 Calls Tryz.prog 81 #[.agg cs.toArray,.bool so] w (NormEnd w.heap.size (n+3) (if(f.ks.all fun k=>(normF n k so).isSome)=true then some (kidsT n f so) else none) .nilIface (.iface 60 (.int .i64 3)) w):=by
 obtain⟨ta,tcap,ka,kcap,rfl,_,_,hk4,hks⟩:=h
 obtain⟨_,hk20,hklit⟩:=hlit
 have ST:=Lib.hid (args_start w f.kind f.c ta ka f.t.length tcap f.ks.length kcap)
 have SZ:Hid (w.heap.size+2=((w.alloc (.cells #[.int .i64 f.kind,.int .i64 f.c,.slice ta f.t.length tcap,.slice ka f.ks.length kcap] 39)).alloc (.cells #[.int .i64 0,.int .i64 0,.slice none 0 0,.slice none 0 0] 39)).heap.size):=by show _=_;simp
 have HI:=Lib.hid IH
 have HK:=Lib.hid hks
 have HKL:=Lib.hid hklit
 have HSN:=Lib.hid hs
 have HJ:=Lib.hid (fun W=>joint_any f.kind so W hk56)
 have HKT:Hid (∀k g,k<f.ks.length→normF n (f.ks.getD k default) so=some g→(kidsT n f so).ks.getD k default=g):=fun k g h1 h2=>kidsT_get h1 h2
 have HF:Hid ((kidsT n f so).t=[]∧(kidsT n f so).c=0∧(kidsT n f so).kind=(if so then f.kind else 11 - f.kind)∧(kidsT n f so).ks.length=f.ks.length):=⟨rfl,rfl,rfl,kidsT_len n f so⟩
 have HALL:Hid ((∀k,k<f.ks.length→(normF n (f.ks.getD k default) so).isSome=true)→(if(f.ks.all fun k=>(normF n k so).isSome)=true then some (kidsT n f so) else none)=some (kidsT n f so)):=fun h=>if_pos (by
  rw[List.all_eq_true]
  intro g hg
  obtain⟨i,hi,rfl⟩:=List.getElem_of_mem hg
  have:=h i hi
  rw[List.getD_eq_getElem?_getD,List.getElem?_eq_getElem hi]at this
  exact this)
 have HBAD:Hid (∀k,k<f.ks.length→normF n (f.ks.getD k default) so=none→(if(f.ks.all fun k=>(normF n k so).isSome)=true then some (kidsT n f so) else none)=none):=fun k hk h=>if_neg (fun ha=>by
  rw[List.all_eq_true]at ha
  have:=ha _ (List.getElem_mem hk)
  rw[List.getD_eq_getElem?_getD,List.getElem?_eq_getElem hk]at h
  rw[show normF n f.ks[k] so=none from h]at this
  cases this)
 generalize (if(f.ks.all fun k=>(normF n k so).isSome)=true then some (kidsT n f so) else none)=OUT at HALL HBAD⊢
 generalize kidsT n f so=F at HKT HF HALL
 have n0:=fun W=>Tryz.neNil W
 have n3:=fun W=>Tryz.neCode 3 W
 clear IH hks hklit hs
 generalize (if so then f.kind else 11 - f.kind)=J at HJ HF
 generalize f.kind=fk at ST SZ HJ
 generalize f.c=fc at ST SZ
 generalize f.t.length=ft at ST SZ
 generalize hl:f.ks.length=len at ST SZ HK HKL HSN HKT HF HALL HBAD hk4 hk20
 have HCLEN:Hid (∀css:List (List Value),css.length≤len→css.length≤1048576):=fun css h=>Nat.le_trans h hk20
 clear hl
 obtain⟨-,p0,p1,p2,p3, -⟩:=ST.out.1
 generalize hW:(w.alloc (.cells #[.int .i64 fk,.int .i64 fc,.slice ta ft tcap,.slice ka len kcap] 39)).alloc (.cells #[.int .i64 0,.int .i64 0,.slice none 0 0,.slice none 0 0] 39)=W1 at ST SZ p0 p1 p2 p3
 go_enter Tryz.func81,Tryz.ntmps81
 go_wp2_with fail
 clear hW
 refine(HJ.out _).mono ?_
 rintro e w2 ⟨rfl,rfl⟩
 have BG:=Lib.hid (kids_begin (n:=n+2) (J:=J) HF.out.1 ST.out.1 ST.out.2 SZ.out)
 have R4:Hid (Round w W1.heap.size (n+2) F J fk fc ta ft tcap ka len kcap 0 [] (.slice none 0 0) (W1.alloc (.cells #[.int .i64 J,.int .i64 0,.slice none 0 0,.slice none 0 0] 39))):=⟨BG.out.1,BG.out.2.1,BG.out.2.2.1,BG.out.2.2.2⟩
 have q2:=BG.out.2.2.2.c2
 have q3:=BG.out.2.2.2.c3
 clear BG p0 p1 p2 p3
 go_wp2_with fail
 clear q2 q3
 generalize W1.alloc (.cells #[.int .i64 J,.int .i64 0,.slice none 0 0,.slice none 0 0] 39)=w4 at R4⊢
 generalize W1.heap.size=No at R4⊢
 clear ST SZ
 go_loopw [19] (fun i wr=>∃(k:Nat) (v:Value) (css:List (List Value)),k≤len∧i= .int .i64 k∧Hid (∀j,j<k→(normF n (f.ks.getD j default) so).isSome=true)∧Hid (Round w No (n+2) F J fk fc ta ft tcap ka len kcap k css v wr)) (fun i _=>len - (intOf i).toNat)
 case atStart=>exact⟨0,.slice none 0 0,[],Nat.zero_le _,rfl,fun j hj=>absurd hj (Nat.not_lt_zero j),R4⟩
 case round=>
  clear R4
  obtain⟨k,v,css,hk,rfl,hall,hr⟩:=hrel
  obtain⟨bz,_,_,_,_,hb⟩:=hr.out.bx
  by_cases hlt:k<len
  ·obtain⟨b,off,c0,c1,c2,c3,rfl,hblt,g0,g1,g2,g3,hf⟩:=HK.out k hlt
   rw[←hb.cell (p:=⟨b,_,none⟩) hblt]at g0 g1 g2 g3
   obtain⟨ck,cc,cta,ctn,ctcap,cka,ckn,ckcap,rfl,rfl,rfl,rfl⟩:=hf.form
   have hba:=(Below.refl wr.heap.size wr).alloc (Nat.le_refl _) (.cells #[.int .i64 ck,.int .i64 cc,.slice cta ctn ctcap,.slice cka ckn ckcap] 39)
   have hb4:=hb.trans (hba.mono hb.size)
   have hih:=Lib.hid (HI.out (f.ks.getD k default) so _ _ (HSN.out k hlt) (HKL.out k hlt) ((hf.below hb4).mono hb4.size))
   have HBA:=Lib.hid hba
   have Z4:wr.heap.size+1=(wr.alloc (.cells #[.int .i64 ck,.int .i64 cc,.slice cta ctn ctcap,.slice cka ckn ckcap] 39)).heap.size:=by simp
   obtain⟨hzN,hzo⟩:=hr.out.zs
   clear hf hba hb4
   cases hn:normF n (f.ks.getD k default) so with
   | none=>
     have hbad:=HBAD.out k hlt hn
     subst hbad
     rw[hn]at hih
     clear HALL HKT HI HSN HKL HK HJ
     go_wp2_with fail
     refine hih.out.mono ?_
     intro e w5 he
     obtain⟨cs5,rfl,hf5,hb5⟩:=he.none
     obtain⟨dk,dc,dta,dtn,dtcap,dka,dkn,dkcap,rfl⟩:=hf5.form
     have hba6:Below w5.heap.size w5 (w5.alloc (.cells #[.int .i64 dk,.int .i64 dc,.slice dta dtn dtcap,.slice dka dkn dkcap] 39)):=(Below.refl _ _).alloc (Nat.le_refl _) _
     have hz5:=hb5.size
     have hb6:Below wr.heap.size wr (w5.alloc (.cells #[.int .i64 dk,.int .i64 dc,.slice dta dtn dtcap,.slice dka dkn dkcap] 39)):=HBA.out.trans ((hb5.trans (hba6.mono hz5)).mono (by omega))
     have F6:=Lib.hid (hr.out.fb.below hb6 (by omega))
     have RT:=Lib.hid (ret_set (m:=2) (f:= .mk 0 0 [] []) (S:=fun _=>False) F6.out (hb.trans (hb6.mono (Nat.le_of_lt bz))) flies_flat (fun b h=>h.elim))
     clear hb5 hba6 hf5 hb6 hih HBA g0 g1 g2 g3
     obtain⟨r0,r1,r2,r3,rf⟩:=F6.out
     go_wp2_with fail
     clear r0 r1 r2 r3 rf
     refine bodyPost_ret (v:= .tuple #[.agg #[.int .i64 0,.int .i64 0,.slice none 0 0,.slice none 0 0],.iface 60 (.int .i64 3)]) ?_ rfl ⟨_,rfl,RT.out.lies.up (by omega),RT.out.bel⟩
     obtain⟨_,_,e0,e1,e2,e3⟩:=RT.out
     simp[results,Tryz.results81,go_sem,e0,e1,e2,e3]
   | some g=>
     have hg:=HKT.out k g hlt hn
     rw[hn]at hih
     have A2:Hid (∀j,j<k+1→(normF n (f.ks.getD j default) so).isSome=true):=fun j hj=>by
      by_cases e:j=k
      ·subst e;rw[hn];rfl
      ·exact hall.out j (by omega)
     clear HKT HI HSN HKL HK HJ HALL HBAD hn
     go_wp2_with fail
     refine hih.out.mono ?_
     intro e w5 he
     obtain⟨cs5,rfl,hf5,hb5⟩:=he.some
     have HF5:=Lib.hid hf5
     obtain⟨dk,dc,dta,dtn,dtcap,dka,dkn,dkcap,rfl⟩:=hf5.form
     have hba6:Below w5.heap.size w5 (w5.alloc (.cells #[.int .i64 dk,.int .i64 dc,.slice dta dtn dtcap,.slice dka dkn dkcap] 39)):=(Below.refl _ _).alloc (Nat.le_refl _) _
     have hz5:=hb5.size
     have hz6:=hba6.size
     have hb6:Below wr.heap.size wr (w5.alloc (.cells #[.int .i64 dk,.int .i64 dc,.slice dta dtn dtcap,.slice dka dkn dkcap] 39)):=HBA.out.trans ((hb5.trans (hba6.mono hz5)).mono (by omega))
     have HB6:=Lib.hid hb6
     have HF6:Hid (FLiesQ (fun b=>wr.heap.size≤b∧b<(w5.alloc (.cells #[.int .i64 dk,.int .i64 dc,.slice dta dtn dtcap,.slice dka dkn dkcap] 39)).heap.size) (w5.alloc (.cells #[.int .i64 dk,.int .i64 dc,.slice dta dtn dtcap,.slice dka dkn dkcap] 39)) (n+2) (F.ks.getD k default) [.int .i64 dk,.int .i64 dc,.slice dta dtn dtcap,.slice dka dkn dkcap]):=by
      rw[hg]
      exact HF5.out.keep (fun b ⟨h1,h2⟩=>⟨by omega,by omega⟩) (fun b o ⟨h1,h2⟩=>hba6.cell (p:=⟨b,o,none⟩) h2)
     obtain⟨t0,t1,t2,t3⟩:=form_cells (heap_alloc_new w5 (.cells #[.int .i64 dk,.int .i64 dc,.slice dta dtn dtcap,.slice dka dkn dkcap] 39))
     have o3:(w5.alloc (.cells #[.int .i64 dk,.int .i64 dc,.slice dta dtn dtcap,.slice dka dkn dkcap] 39)).cell? ⟨No,3,none⟩=some v:=(hb6.cell (p:=⟨No,3,none⟩) hzo).trans hr.out.ob.o3
     have hrw6:ORow w.heap.size css v (w5.alloc (.cells #[.int .i64 dk,.int .i64 dc,.slice dta dtn dtcap,.slice dka dkn dkcap] 39)):=World.ownsRow.kept (row:=none) hr.out.cs.row ⟨hb6.os,hb6.tape,hb6.output,hb6.size,fun q hq _=>hb6.block q hq⟩ (by cases v.ownBlock<;>simp)
     have hN5:w5.heap.size<(w5.alloc (.cells #[.int .i64 dk,.int .i64 dc,.slice dta dtn dtcap,.slice dka dkn dkcap] 39)).heap.size:=by simp
     clear hb5 hba6 hf5 hb6 hih HBA HF5 g0 g1 g2 g3
     generalize hW6:w5.alloc (.cells #[.int .i64 dk,.int .i64 dc,.slice dta dtn dtcap,.slice dka dkn dkcap] 39)=W6 at HB6 HF6 t0 t1 t2 t3 o3 hrw6 hN5 hz6
     generalize hN:w5.heap.size=N5 at t0 t1 t2 t3 hN5 hz5 hz6
     have HRW:Hid (ORow w.heap.size css v (W6.alloc (.cells #[.int .i64 dk,.int .i64 dc,.slice dta dtn dtcap,.slice dka dkn dkcap] 39))):=World.ownsRow.alloc hrw6 _
     have NEWS:=Lib.hid (four_new W6 (.int .i64 dk) (.int .i64 dc) (.slice dta dtn dtcap) (.slice dka dkn dkcap) 39 W6.heap.size rfl)
     have HBZ:Hid (w.heap.size≤(W6.alloc (.cells #[.int .i64 dk,.int .i64 dc,.slice dta dtn dtcap,.slice dka dkn dkcap] 39)).heap.size):=by show _≤_;simp;omega
     have HCL:Hid (css.length≤1048576):=HCLEN.out css (by rw[hr.out.cs.len];exact hk)
     clear hrw6
     go_wp2_with (at_builtin;refine wpList_append_form rfl _ _ rfl w.heap.size v rfl css HRW.out ⟨W6.heap.size,0,none⟩ 1 [.int .i64 dk,.int .i64 dc,.slice dta dtn dtcap,.slice dka dkn dkcap] rfl rfl NEWS.out (four_one _ _ _ _ _ _ _ _) HCL.out HBZ.out ?_)
     intro v8 w8 hrow8 hgrow8 hat8
     clear hW6 hN
     obtain⟨a8,c8,hv8, -⟩:=hrow8.form
     rw[List.length_append,hr.out.cs.len]at hv8
     replace hv8:v8= .slice a8 (k+1) c8:=hv8
     subst hv8
     have R8:=Lib.hid (hr.out.step HB6.out HF6.out hrow8 hgrow8 (by simpa using hat8))
     obtain⟨o38,of8⟩:=hr.out.stored HB6.out hgrow8
     clear hz5 hz6 hN5 o3 t0 t1 t2 t3 hrow8 hgrow8 hat8 HB6 HF6 HRW NEWS HBZ HCL hr hall he hg hk56 Z4
     go_wp2_with fail
     clear o38 of8
     go_roundw
     case rel=>exact⟨k+1,_,_,by omega,by go_num,A2,R8⟩
     case measure=>simp[intOf];omega
  ·obtain rfl:k=len:=by omega
   have hall':=HALL.out hall.out
   subst hall'
   obtain⟨a9,cap9,rfl,hrt⟩:=hr.out.done HF.out.1 HF.out.2.1 HF.out.2.2.1 HF.out.2.2.2.symm hk20
   have RT:=Lib.hid hrt
   have HRB:=Lib.hid hr.out.rb
   obtain⟨o0,o1,o2,o3,of⟩:=hr.out.ob
   clear hrt hr HALL HBAD HKT HI HSN HKL HK HJ HCLEN
   obtain⟨r0,r1,r2,r3,rf⟩:=HRB.out
   go_wp2_with fail
   clear r0 r1 r2 r3 rf o0 o1 o2 o3 of
   refine bodyPost_ret (v:= .tuple #[.agg #[.int .i64 J,.int .i64 0,.slice none 0 0,.slice a9 k cap9],.nilIface]) ?_ rfl ⟨_,rfl,RT.out.lies,RT.out.bel⟩
   obtain⟨_,_,e0,e1,e2,e3⟩:=RT.out
   simp[results,Tryz.results81,go_sem,e0,e1,e2,e3]
end
end Go.Proofs.YtipahfcaplbifaaGreatDoor
