/- Parts of a proof. -/
import Derived.Test.YtipahfcaplbifaaGreatDoorZ30
import Derived.Deep.RegionHeld3
set_option linter.unusedVariables false
set_option linter.unusedSimpArgs false
set_option maxHeartbeats 60000000
set_option maxRecDepth 100000
namespace Go.Proofs.YtipahfcaplbifaaGreatDoor
section
open Go.RowKit
theorem pair_keep0 {W:World}{M1 M2 No:Nat}{x0 x1 x2 x3 p0 p1 p2 p3 q0 q1 q2 q3:Value}{o:Obj}
 (hp:W.cell? ⟨M1,0,none⟩=some p0∧W.cell? ⟨M1,1,none⟩=some p1∧W.cell? ⟨M1,2,none⟩=some p2∧W.cell? ⟨M1,3,none⟩=some p3)
 (hq:W.cell? ⟨M2,0,none⟩=some q0∧W.cell? ⟨M2,1,none⟩=some q1∧W.cell? ⟨M2,2,none⟩=some q2∧W.cell? ⟨M2,3,none⟩=some q3) (h1:M1<W.heap.size) (h2:M2<W.heap.size) (n1:M1≠No) (n2:M2≠No)
 (V:World) (hV:V=((((W.setCell ⟨No,0,none⟩ x0).setCell ⟨No,1,none⟩ x1).setCell ⟨No,2,none⟩ x2).setCell ⟨No,3,none⟩ x3).alloc o):
 (V.cell? ⟨M1,0,none⟩=some p0∧V.cell? ⟨M1,1,none⟩=some p1∧V.cell? ⟨M1,2,none⟩=some p2∧V.cell? ⟨M1,3,none⟩=some p3)∧
 (V.cell? ⟨M2,0,none⟩=some q0∧V.cell? ⟨M2,1,none⟩=some q1∧V.cell? ⟨M2,2,none⟩=some q2∧V.cell? ⟨M2,3,none⟩=some q3):=by
 have hk:∀b j,b<W.heap.size→b≠No→V.cell? ⟨b,j,none⟩=W.cell? ⟨b,j,none⟩:=fun b j hb hne=>by
  have h4:=set4_far W No x0 x1 x2 x3 b j hne
  have hs:=set4_size W No x0 x1 x2 x3
  unfold set4 at h4 hs
  generalize (((W.setCell ⟨No,0,none⟩ x0).setCell ⟨No,1,none⟩ x1).setCell ⟨No,2,none⟩ x2).setCell ⟨No,3,none⟩ x3=X at h4 hs hV
  have hba:=(Below.refl X.heap.size X).alloc (Nat.le_refl _) o
  rw[←h4,hV]
  exact hba.cell (p:=⟨b,j,none⟩) (by rw[hs];exact hb)
 obtain⟨a0,a1,a2,a3⟩:=hp
 obtain⟨b0,b1,b2,b3⟩:=hq
 exact⟨⟨(hk _ _ h1 n1).trans a0,(hk _ _ h1 n1).trans a1,(hk _ _ h1 n1).trans a2,(hk _ _ h1 n1).trans a3⟩,(hk _ _ h2 n2).trans b0,(hk _ _ h2 n2).trans b1,(hk _ _ h2 n2).trans b2,(hk _ _ h2 n2).trans b3⟩
structure TS (w W:World)(M1 M2:Nat)(g1 g2:FT)(x0 x1 x2 x3 y0 y1 y2 y3:Value):Prop where
 bel:Below w.heap.size w W
 fb:FB W (w.heap.size+1)
 z:w.heap.size+1<W.heap.size
 l1:M1<W.heap.size
 l2:M2<W.heap.size
 n1:M1≠w.heap.size+1
 n2:M2≠w.heap.size+1
 c1:W.cell? ⟨M1,0,none⟩=some x0∧W.cell? ⟨M1,1,none⟩=some x1∧W.cell? ⟨M1,2,none⟩=some x2∧W.cell? ⟨M1,3,none⟩=some x3
 c2:W.cell? ⟨M2,0,none⟩=some y0∧W.cell? ⟨M2,1,none⟩=some y1∧W.cell? ⟨M2,2,none⟩=some y2∧W.cell? ⟨M2,3,none⟩=some y3
 f1:FLiesQ (fun b=>w.heap.size+2≤b∧b<W.heap.size) W 2 g1 [x0,x1,x2,x3]
 f2:FLiesQ (fun b=>w.heap.size+2≤b∧b<W.heap.size) W 2 g2 [y0,y1,y2,y3]
structure T1 (w W:World)(M1:Nat)(g1:FT)(x0 x1 x2 x3:Value):Prop where
 bel:Below w.heap.size w W
 fb:FB W (w.heap.size+1)
 z:w.heap.size+2≤M1
 l1:M1<W.heap.size
 c1:W.cell? ⟨M1,0,none⟩=some x0∧W.cell? ⟨M1,1,none⟩=some x1∧W.cell? ⟨M1,2,none⟩=some x2∧W.cell? ⟨M1,3,none⟩=some x3
 f1:FLiesQ (fun b=>w.heap.size+2≤b∧b<M1) W 2 g1 [x0,x1,x2,x3]
theorem ts_a {w W4 w8:World}{M1 L:Nat}{g1 g2:FT}{x0 x1 x2 x3 y0 y1 y2 y3:Value}(h:T1 w W4 M1 g1 x0 x1 x2 x3)(hb:Below W4.heap.size W4 w8)(hL:W4.heap.size≤L)(hf:FLiesQ (fun b=>L≤b∧b<w8.heap.size) w8 2 g2 [y0,y1,y2,y3]):
 TS w (w8.alloc (.cells #[y0,y1,y2,y3] 39)) M1 w8.heap.size g1 g2 x0 x1 x2 x3 y0 y1 y2 y3:=by
 have hz:=hb.size
 have hba:Below w8.heap.size w8 (w8.alloc (.cells #[y0,y1,y2,y3] 39)):=(Below.refl _ _).alloc (Nat.le_refl _) _
 have hzz:=lt_of_some (heap_alloc_new w8 (.cells #[y0,y1,y2,y3] 39))
 have hbb:Below W4.heap.size W4 (w8.alloc (.cells #[y0,y1,y2,y3] 39)):=hb.trans (hba.mono hz)
 obtain⟨bel,fb,z,l1,⟨c0,c1,c2,c3⟩,f1⟩:=h
 exact⟨bel.trans (hbb.mono (by omega)),fb.below hbb (by omega),by omega,by omega,hzz,by omega,by omega,
  ⟨(hbb.cell (p:=⟨M1,0,none⟩) l1).trans c0,(hbb.cell (p:=⟨M1,1,none⟩) l1).trans c1,(hbb.cell (p:=⟨M1,2,none⟩) l1).trans c2,(hbb.cell (p:=⟨M1,3,none⟩) l1).trans c3⟩,form_cells (heap_alloc_new w8 _),
  f1.keep (fun b ⟨h1,h2⟩=>⟨h1,by omega⟩) (fun b o ⟨h1,h2⟩=>hbb.cell (p:=⟨b,o,none⟩) (by show b<_;omega)),hf.keep (fun b ⟨h1,h2⟩=>⟨by omega,by omega⟩) (fun b o ⟨h1,h2⟩=>hba.cell (p:=⟨b,o,none⟩) h2)⟩
theorem ts_b {w W4 w8:World}{M1 M2 L:Nat}{g1 g2:FT}{x0 x1 x2 x3 y0 y1 y2 y3 u0 u1 u2 u3:Value}(h:T1 w W4 M1 g1 x0 x1 x2 x3)(hb:Below W4.heap.size W4 w8)(hM:W4.heap.size≤M2)(hML:M2<L)(hrow:w8.heap[M2]? =some (.cells #[u0,u1,u2,u3] 39 (0,0)))
 (hf:FLiesQ (fun b=>L≤b∧b<w8.heap.size) w8 2 g2 [y0,y1,y2,y3]):
 TS w ((((w8.setCell ⟨M2,0,none⟩ y0).setCell ⟨M2,1,none⟩ y1).setCell ⟨M2,2,none⟩ y2).setCell ⟨M2,3,none⟩ y3) M1 M2 g1 g2 x0 x1 x2 x3 y0 y1 y2 y3:=by
 have hz:=hb.size
 have hs:=four_size w8 M2 y0 y1 y2 y3
 have hl2:=lt_of_some hrow
 obtain⟨t0,t1,t2,t3⟩:=form_cells hrow
 have h4:=set4_at t0 t1 t2 t3 y0 y1 y2 y3
 have hfar:=fun b o hne=>set4_far w8 M2 y0 y1 y2 y3 b o hne
 obtain⟨bel,fb,z,l1,⟨c0,c1,c2,c3⟩,f1⟩:=h
 have hfb:=fb_four (fb.below hb (by omega)) (show w.heap.size+1≠M2 by omega) y0 y1 y2 y3
 have hbel:=below4 (bel.trans (hb.mono (by omega))) (show w.heap.size≤M2 by omega) y0 y1 y2 y3
 unfold set4 at h4 hfar
 generalize (((w8.setCell ⟨M2,0,none⟩ y0).setCell ⟨M2,1,none⟩ y1).setCell ⟨M2,2,none⟩ y2).setCell ⟨M2,3,none⟩ y3=V at hs h4 hfar hfb hbel⊢
 have hk:∀b o,b<W4.heap.size→V.cell? ⟨b,o,none⟩=W4.cell? ⟨b,o,none⟩:=fun b o h=>(hfar b o (by omega)).trans (hb.cell (p:=⟨b,o,none⟩) h)
 exact⟨hbel,hfb,by omega,by omega,by omega,by omega,by omega,⟨(hk _ _ l1).trans c0,(hk _ _ l1).trans c1,(hk _ _ l1).trans c2,(hk _ _ l1).trans c3⟩,h4,
  f1.keep (fun b ⟨h1,h2⟩=>⟨h1,by omega⟩) (fun b o ⟨h1,h2⟩=>hk b o (by omega)),hf.keep (fun b ⟨h1,h2⟩=>⟨by omega,by omega⟩) (fun b o ⟨h1,h2⟩=>hfar b o (by omega))⟩
theorem rn_k3 (c:Int)(a ka:Option Addr)(n cap kn kcap:Nat)(nt:Bool)(g1 g2:FT)(K1 K2:Int)(R:List (Int×Int))(T:FT)(bv:Bool)(w:World)(hw:IntKind.i64.wrap (-c)= -c)(hg1:IsLit g1)(hg2:IsLit g2)(hK1:K1=0∨K1=3)(hK2:K2=0∨K2=3)
 (HA:∀W,Below w.heap.size w W→Calls Tryz.prog 96 #[.agg #[.int .i64 c,.slice a n cap]] W (Ans W.heap.size 2 g1 (.int .i64 K1) W))
 (HT:∀W,Below w.heap.size w W→Calls Tryz.prog 25 #[.agg #[.int .i64 c,.slice a n cap],.int .i64 (-1)] W fun e w'=>∃a6 cap6,e= .returned (.slice a6 n cap6)∧Lies w'.heap.size w' a6 R∧Below W.heap.size W w')
 (HB:∀b capb W,Lies W.heap.size W b R→Calls Tryz.prog 96 #[.agg #[.int .i64 (-c),.slice b n capb]] W (Ans W.heap.size 2 g2 (.int .i64 K2) W))
 (hT1:K1=3∨K2=3→T= .mk 0 0 [] []∧bv=false) (hT2:K1=0→K2=0→bv=true∧T=if nt then .mk 6 0 [] [oppF g1,oppF g2] else .mk 5 0 [] [g1,g2]):
 Calls Tryz.prog 61 #[.agg #[.int .i64 3,.int .i64 c,.slice a n cap,.slice ka kn kcap],.bool nt] w (Ans w.heap.size 3 T (.bool bv) w):=by
 have HAH:=Lib.hid HA
 have HTH:=Lib.hid HT
 have HBH:=Lib.hid HB
 have HT1:=Lib.hid hT1
 have HT2:=Lib.hid hT2
 have G1:=Lib.hid hg1
 have G2:=Lib.hid hg2
 have HK1:=Lib.hid hK1
 have HK2:=Lib.hid hK2
 clear HA HT HB hT1 hT2 hg1 hg2 hK1 hK2
 have SZ:Hid (w.heap.size+2=((w.alloc (.cells #[.int .i64 3,.int .i64 c,.slice a n cap,.slice ka kn kcap] 39)).alloc (.cells #[.int .i64 0,.int .i64 0,.slice none 0 0,.slice none 0 0] 39)).heap.size):=by show _=_;simp
 have ST:=Lib.hid (args_start w 3 c a ka n cap kn kcap)
 obtain⟨-,p0,p1,p2,p3, -⟩:=ST.out.1
 generalize hW:(w.alloc (.cells #[.int .i64 3,.int .i64 c,.slice a n cap,.slice ka kn kcap] 39)).alloc (.cells #[.int .i64 0,.int .i64 0,.slice none 0 0,.slice none 0 0] 39)=W0 at ST SZ p0 p1 p2 p3
 go_enter Tryz.func61,Tryz.ntmps61
 go_wp2_with fail
 clear hW
 refine(HAH.out _ ST.out.1.bel).mono ?_
 rintro e w3 ⟨cs3,rfl,hf3,hb3⟩
 have HF3:=Lib.hid hf3
 obtain⟨fk,fc,ta,tn,tcap,va,vn,vcap,rfl⟩:=hf3.form
 have hz3:=hb3.size
 have hz:=SZ.out
 have hba:Below w3.heap.size w3 (w3.alloc (.cells #[.int .i64 fk,.int .i64 fc,.slice ta tn tcap,.slice va vn vcap] 39)):=(Below.refl _ _).alloc (Nat.le_refl _) _
 have hza:=hba.size
 have hb4:Below W0.heap.size W0 (w3.alloc (.cells #[.int .i64 fk,.int .i64 fc,.slice ta tn tcap,.slice va vn vcap] 39)):=hb3.trans (hba.mono hz3)
 have hn4:=heap_alloc_new w3 (.cells #[.int .i64 fk,.int .i64 fc,.slice ta tn tcap,.slice va vn vcap] 39)
 have HT4:Hid (T1 w (w3.alloc (.cells #[.int .i64 fk,.int .i64 fc,.slice ta tn tcap,.slice va vn vcap] 39)) w3.heap.size g1 (.int .i64 fk) (.int .i64 fc) (.slice ta tn tcap) (.slice va vn vcap)):=
  ⟨ST.out.1.bel.trans (hb4.mono (by omega)),ST.out.2.below hb4 (by omega),by omega,lt_of_some hn4,form_cells hn4,HF3.out.keep (fun b ⟨h1,h2⟩=>⟨by omega,h2⟩) (fun b o ⟨h1,h2⟩=>hba.cell (p:=⟨b,o,none⟩) h2)⟩
 have m1:(w3.alloc (.cells #[.int .i64 fk,.int .i64 fc,.slice ta tn tcap,.slice va vn vcap] 39)).cell? ⟨w.heap.size,1,none⟩=some (.int .i64 c):=(hb4.cell (p:=⟨w.heap.size,1,none⟩) (by show w.heap.size<_;omega)).trans p1
 have m2:(w3.alloc (.cells #[.int .i64 fk,.int .i64 fc,.slice ta tn tcap,.slice va vn vcap] 39)).cell? ⟨w.heap.size,2,none⟩=some (.slice a n cap):=(hb4.cell (p:=⟨w.heap.size,2,none⟩) (by show w.heap.size<_;omega)).trans p2
 have m0:(w3.alloc (.cells #[.int .i64 fk,.int .i64 fc,.slice ta tn tcap,.slice va vn vcap] 39)).cell? ⟨w.heap.size,0,none⟩=some (.int .i64 3):=(hb4.cell (p:=⟨w.heap.size,0,none⟩) (by show w.heap.size<_;omega)).trans p0
 have hN4:w.heap.size<(w3.alloc (.cells #[.int .i64 fk,.int .i64 fc,.slice ta tn tcap,.slice va vn vcap] 39)).heap.size:=by omega
 clear p0 p1 p2 p3 hf3 hb3 hba hn4 hb4 HF3
 generalize hW4:w3.alloc (.cells #[.int .i64 fk,.int .i64 fc,.slice ta tn tcap,.slice va vn vcap] 39)=W4 at HT4 m0 m1 m2 hN4
 generalize hM:w3.heap.size=M1 at HT4
 have HCW:Hid (∀W,Below W4.heap.size W4 W→W.cell? ⟨w.heap.size,1,none⟩=some (.int .i64 c)∧W.cell? ⟨w.heap.size,2,none⟩=some (.slice a n cap)):=fun W hb=>⟨(hb.cell (p:=⟨w.heap.size,1,none⟩) hN4).trans m1,(hb.cell (p:=⟨w.heap.size,2,none⟩) hN4).trans m2⟩
 have PA:Hid (Below W4.heap.size W4 W4.drew):=(Below.refl _ _).drew
 have PB:Hid (Below W4.heap.size W4 ((W4.alloc (.cells #[.int .i64 0,.int .i64 0,.slice none 0 0,.slice none 0 0] 39)).drew)):=((Below.refl _ W4).alloc (Nat.le_refl _) _).drew
 have QT:Hid (∀W,Below W4.heap.size W4 W→Calls Tryz.prog 25 #[.agg #[.int .i64 c,.slice a n cap],.int .i64 (-1)] W fun e w'=>∃a6 cap6,e= .returned (.slice a6 n cap6)∧Lies w'.heap.size w' a6 R∧Below W.heap.size W w'∧Below W4.heap.size W4 w'):=fun W hb=>
  (HTH.out W (HT4.out.bel.trans (hb.mono (by have:=HT4.out.l1;have:=HT4.out.z;omega)))).mono fun e w' h=>by
    obtain⟨a6,cap6,rfl,h1,h2⟩:=h
    exact⟨a6,cap6,rfl,h1,h2,hb.trans (h2.mono hb.size)⟩
 have QL:Hid (∀b capb W,Below W4.heap.size W4 W→Lies W.heap.size W b R→Calls Tryz.prog 96 #[.agg #[.int .i64 (-c),.slice b n capb]] W fun e w'=>∃gk gc ua un ucap xa xn xcap,e= .returned (.tuple #[.agg #[.int .i64 gk,.int .i64 gc,.slice ua un ucap,.slice xa xn xcap],.int .i64 K2])∧FLiesQ (fun b=>W.heap.size≤b∧b<w'.heap.size) w' 2 g2 [.int .i64 gk,.int .i64 gc,.slice ua un ucap,.slice xa xn xcap]∧Below W.heap.size W w'∧Below W4.heap.size W4 w'):=fun b capb W hb hl=>
  (HBH.out b capb W hl).mono fun e w' h=>by
    obtain⟨cs,rfl,h1,h2⟩:=h
    obtain⟨gk,gc,ua,un,ucap,xa,xn,xcap,rfl⟩:=h1.form
    exact⟨gk,gc,ua,un,ucap,xa,xn,xcap,rfl,h1,h2,hb.trans (h2.mono hb.size)⟩
 clear HAH HTH HBH
 go_wp2_with fail
 clear hW4 hM hz3 hz hza
 go_region_held3 (fun w'=>w'.cell? ⟨w.heap.size,1,none⟩=some (.int .i64 c)∧w'.cell? ⟨w.heap.size,2,none⟩=some (.slice a n cap))
  (first
    | exact HCW.out _ hb8w
    | exact HCW.out _ (hb8w.alloc hb8w.size _)
    | exact HCW.out _ (below4 hb8w (Nat.le_refl _) _ _ _ _)
    | exact HCW.out _ (below4 hb8w hb6w.size _ _ _ _)
    | exact HCW.out _ hb6w
    | exact HCW.out _ (hb6w.alloc hb6w.size _)
    | exact HCW.out _ PA.out
    | exact HCW.out _ PB.out
    | go_keep)
  (first
    | (go_at_call 25
       refine(QT.out _ PB.out).mono ?_
       rintro e w6 ⟨a6,cap6,rfl,hl6,hb6,hb6w⟩
       have hnb:w6.heap[W4.heap.size]? =some (.cells #[.int .i64 0,.int .i64 0,.slice none 0 0,.slice none 0 0] 39 (0,0)):=(hb6.block _ (by show _<(W4.alloc _).heap.size;simp)).trans (heap_alloc_new W4 _)
       have hnz:=lt_of_some hnb)
    | (go_at_call 25
       refine(QT.out _ PA.out).mono ?_
       rintro e w6 ⟨a6,cap6,rfl,hl6,hb6,hb6w⟩)
    | (go_at_call 96
       refine(QL.out _ _ w6 hb6w hl6).mono ?_
       rintro e w8 ⟨gk,gc,ua,un,ucap,xa,xn,xcap,rfl,hf8,hb8,hb8w⟩
       have hnb8:w8.heap[W4.heap.size]? =some (.cells #[.int .i64 0,.int .i64 0,.slice none 0 0,.slice none 0 0] 39 (0,0)):=(hb8.block _ hnz).trans hnb
       obtain⟨y0,y1,y2,y3⟩:=form_cells hnb8
       have yf:∀o,w8.frozen? ⟨W4.heap.size,o,none⟩=false:=fun o=>frozen_of_row _ _ _ _ _ hnb8)
    | (go_at_call 96
       refine(QL.out _ _ w6 hb6w hl6).mono ?_
       rintro e w8 ⟨gk,gc,ua,un,ucap,xa,xn,xcap,rfl,hf8,hb8,hb8w⟩)
    | (go_at_call 96
       refine(QL.out _ _ _ (hb6w.alloc hb6w.size _) (((hl6.below ((Below.refl _ w6).alloc (Nat.le_refl _) _))).mono ((Below.refl w6.heap.size w6).alloc (Nat.le_refl _) _).size)).mono ?_
       rintro e w8 ⟨gk,gc,ua,un,ucap,xa,xn,xcap,rfl,hf8,hb8,hb8w⟩
       have hnb8:w8.heap[w6.heap.size]? =some (.cells #[.int .i64 0,.int .i64 0,.slice none 0 0,.slice none 0 0] 39 (0,0)):=(hb8.block _ (by show _<(w6.alloc _).heap.size;simp)).trans (heap_alloc_new w6 _)
       obtain⟨y0,y1,y2,y3⟩:=form_cells hnb8
       have yf:∀o,w8.frozen? ⟨w6.heap.size,o,none⟩=false:=fun o=>frozen_of_row _ _ _ _ _ hnb8))
 all_goals
  first
  | (show Exit.then _ _ _ _ (World.alloc w8 _)
     have TT:=Lib.hid (ts_a HT4.out hb8w hb6w.size hf8)
     generalize w8.alloc (.cells #[.int .i64 gk,.int .i64 gc,.slice ua un ucap,.slice xa xn xcap] 39)=W9 at TT⊢
     generalize w8.heap.size=M2 at TT⊢
     clear hl6 hb6 hb6w hf8 hb8 hb8w)
  | (have TT:=Lib.hid (ts_b (M2:=W4.heap.size) HT4.out hb8w (Nat.le_refl _) hnz hnb8 hf8)
     generalize (((w8.setCell ⟨W4.heap.size,0,none⟩ (.int .i64 gk)).setCell ⟨W4.heap.size,1,none⟩ (.int .i64 gc)).setCell ⟨W4.heap.size,2,none⟩ (.slice ua un ucap)).setCell ⟨W4.heap.size,3,none⟩ (.slice xa xn xcap)=W9 at TT⊢
     clear hl6 hb6 hb6w hf8 hb8 hb8w hnb hnz hnb8 y0 y1 y2 y3 yf PA PB QT QL HCW
     generalize W4.heap.size=M2 at TT⊢)
  | (have TT:=Lib.hid (ts_b (M2:=w6.heap.size) HT4.out hb8w hb6w.size (by simp) hnb8 hf8)
     generalize (((w8.setCell ⟨w6.heap.size,0,none⟩ (.int .i64 gk)).setCell ⟨w6.heap.size,1,none⟩ (.int .i64 gc)).setCell ⟨w6.heap.size,2,none⟩ (.slice ua un ucap)).setCell ⟨w6.heap.size,3,none⟩ (.slice xa xn xcap)=W9 at TT⊢
     clear hl6 hb6 hb6w hf8 hb8 hb8w hnb8 y0 y1 y2 y3 yf
     generalize w6.heap.size=M2 at TT⊢)
 all_goals
  clear HT4 ST SZ
  obtain⟨x0,x1,x2,x3⟩:=TT.out.c1
  obtain⟨z0,z1,z2,z3⟩:=TT.out.c2
  obtain⟨r0,r1,r2,r3,rf⟩:=TT.out.fb
  have hzW:=TT.out.z
  have hl1:=TT.out.l1
  have hl2:=TT.out.l2
  rcases HK1.out with rfl | rfl
  ·rcases HK2.out with rfl | rfl
   ·obtain⟨rfl,hT⟩:=HT2.out rfl rfl
    cases nt
    ·replace hT:T= .mk 5 0 [] [g1,g2]:=hT
     subst hT
     have RT:=Lib.hid (ret_pair0 (J:=5) TT.out.fb TT.out.bel TT.out.z TT.out.f1 TT.out.f2 (fun b ⟨h1,h2⟩=>⟨by omega,by omega,h2⟩))
     go_wp2_with fail
     clear r0 r1 r2 r3 rf x0 x1 x2 x3 z0 z1 z2 z3
     refine bodyPost_ret (v:= .tuple #[.agg #[.int .i64 5,.int .i64 0,.slice none 0 0,.slice (some ⟨W9.heap.size,0,none⟩) 2 2],.bool true]) ?_ rfl ⟨_,rfl,RT.out.lies,RT.out.bel⟩
     obtain⟨_,_,e0,e1,e2,e3⟩:=RT.out
     simp[results,Tryz.results61,go_sem,e0,e1,e2,e3]
    ·replace hT:T= .mk 6 0 [] [oppF g1,oppF g2]:=hT
     subst hT
     have HO1:Hid (∀W,Below W9.heap.size W9 W→Calls Tryz.prog 95 #[.agg #[.int .i64 fk,.int .i64 fc,.slice ta tn tcap,.slice va vn vcap]] W (fun e w'=>∃ek ec qa qn qcap sa sn scap,e= .returned (.agg #[.int .i64 ek,.int .i64 ec,.slice qa qn qcap,.slice sa sn scap])∧FLiesQ (fun b=>w.heap.size+2≤b∧b<w'.heap.size) w' 2 (oppF g1) [.int .i64 ek,.int .i64 ec,.slice qa qn qcap,.slice sa sn scap]∧Below W.heap.size W w'∧Below W9.heap.size W9 w')):=fun W hb=>
      (opp_any g1 G1.out (fun b=>w.heap.size+2≤b∧b<W9.heap.size) _ W (fun b ⟨h1,h2⟩=>Nat.lt_of_lt_of_le h2 hb.size) (TT.out.f1.keep (fun _ h=>h) (fun b o ⟨h1,h2⟩=>hb.cell (p:=⟨b,o,none⟩) h2))).2.mono fun e w' h=>by
        obtain⟨cs,rfl,h1,h2⟩:=h
        obtain⟨ek,ec,qa,qn,qcap,sa,sn,scap,rfl⟩:=h1.form
        have hs1:=hb.size
        have hs2:=h2.size
        exact⟨ek,ec,qa,qn,qcap,sa,sn,scap,rfl,h1.keep (fun b hb=>by rcases hb with ⟨h3,h4⟩ | ⟨h3,h4⟩<;>exact⟨by omega,by omega⟩) (fun _ _ _=>rfl),h2,hb.trans (h2.mono hb.size)⟩
     have HO2:Hid (∀W,Below W9.heap.size W9 W→Calls Tryz.prog 95 #[.agg #[.int .i64 gk,.int .i64 gc,.slice ua un ucap,.slice xa xn xcap]] W (fun e w'=>∃ek ec qa qn qcap sa sn scap,e= .returned (.agg #[.int .i64 ek,.int .i64 ec,.slice qa qn qcap,.slice sa sn scap])∧FLiesQ (fun b=>w.heap.size+2≤b∧b<w'.heap.size) w' 2 (oppF g2) [.int .i64 ek,.int .i64 ec,.slice qa qn qcap,.slice sa sn scap]∧Below W.heap.size W w'∧Below W9.heap.size W9 w')):=fun W hb=>
      (opp_any g2 G2.out (fun b=>w.heap.size+2≤b∧b<W9.heap.size) _ W (fun b ⟨h1,h2⟩=>Nat.lt_of_lt_of_le h2 hb.size) (TT.out.f2.keep (fun _ h=>h) (fun b o ⟨h1,h2⟩=>hb.cell (p:=⟨b,o,none⟩) h2))).2.mono fun e w' h=>by
        obtain⟨cs,rfl,h1,h2⟩:=h
        obtain⟨ek,ec,qa,qn,qcap,sa,sn,scap,rfl⟩:=h1.form
        have hs1:=hb.size
        have hs2:=h2.size
        exact⟨ek,ec,qa,qn,qcap,sa,sn,scap,rfl,h1.keep (fun b hb=>by rcases hb with ⟨h3,h4⟩ | ⟨h3,h4⟩<;>exact⟨by omega,by omega⟩) (fun _ _ _=>rfl),h2,hb.trans (h2.mono hb.size)⟩
     have HKW:Hid (∀W,Below W9.heap.size W9 W→(W.cell? ⟨M1,0,none⟩=some (.int .i64 fk)∧W.cell? ⟨M1,1,none⟩=some (.int .i64 fc)∧W.cell? ⟨M1,2,none⟩=some (.slice ta tn tcap)∧W.cell? ⟨M1,3,none⟩=some (.slice va vn vcap))∧
      (W.cell? ⟨M2,0,none⟩=some (.int .i64 gk)∧W.cell? ⟨M2,1,none⟩=some (.int .i64 gc)∧W.cell? ⟨M2,2,none⟩=some (.slice ua un ucap)∧W.cell? ⟨M2,3,none⟩=some (.slice xa xn xcap))):=fun W hb=>
      ⟨⟨(hb.cell (p:=⟨M1,0,none⟩) hl1).trans x0,(hb.cell (p:=⟨M1,1,none⟩) hl1).trans x1,(hb.cell (p:=⟨M1,2,none⟩) hl1).trans x2,(hb.cell (p:=⟨M1,3,none⟩) hl1).trans x3⟩,
        (hb.cell (p:=⟨M2,0,none⟩) hl2).trans z0,(hb.cell (p:=⟨M2,1,none⟩) hl2).trans z1,(hb.cell (p:=⟨M2,2,none⟩) hl2).trans z2,(hb.cell (p:=⟨M2,3,none⟩) hl2).trans z3⟩
     have PW:Hid (Below W9.heap.size W9 W9.drew):=(Below.refl _ _).drew
     go_wp2_with fail
     clear r0 r1 r2 r3 rf m0 m1 m2 hN4
     go_region_held3 (fun W=>(W.cell? ⟨M1,0,none⟩=some (.int .i64 fk)∧W.cell? ⟨M1,1,none⟩=some (.int .i64 fc)∧W.cell? ⟨M1,2,none⟩=some (.slice ta tn tcap)∧W.cell? ⟨M1,3,none⟩=some (.slice va vn vcap))∧
      (W.cell? ⟨M2,0,none⟩=some (.int .i64 gk)∧W.cell? ⟨M2,1,none⟩=some (.int .i64 gc)∧W.cell? ⟨M2,2,none⟩=some (.slice ua un ucap)∧W.cell? ⟨M2,3,none⟩=some (.slice xa xn xcap)))
      (first
        | with_reducible exact T14.out
        | with_reducible exact HKW.out _ hb12w
        | with_reducible exact HKW.out _ (hb12w.alloc hb12w.size _)
        | with_reducible exact HKW.out _ hb10w
        | with_reducible exact HKW.out _ PW.out
        | go_keep)
      (first
        | (go_at_call 95
           refine(HO2.out _ hb10w).mono ?_
           rintro e w12 ⟨ik,ic,ja,jn,jcap,la,ln,lcap,rfl,hf12,hb12,hb12w⟩
           have hz12:=hb12w.size
           have HF10:Hid (FLiesQ (fun b=>w.heap.size+2≤b∧b<w12.heap.size) w12 2 (oppF g1) [.int .i64 ek,.int .i64 ec,.slice qa qn qcap,.slice sa sn scap]):=hf10.keep (fun b ⟨h1,h2⟩=>⟨h1,Nat.lt_of_lt_of_le h2 hb12.size⟩) (fun b o ⟨h1,h2⟩=>hb12.cell (p:=⟨b,o,none⟩) h2)
           have F12:=Lib.hid (TT.out.fb.below hb12w hzW)
           have Z12:w.heap.size+1<w12.heap.size:=by omega
           have RT:=Lib.hid (ret_pair0 (J:=6) F12.out (TT.out.bel.trans (hb12w.mono (by omega))) Z12 HF10.out hf12 (fun b ⟨h1,h2⟩=>⟨by omega,by omega,h2⟩))
           have T14:=Lib.hid (pair_keep0 (No:=w.heap.size+1) (x0:= .int .i64 6) (x1:= .int .i64 0) (x2:= .slice none 0 0) (x3:= .slice (some ⟨w12.heap.size,0,none⟩) 2 2) (o:= .cells #[.int .i64 ek,.int .i64 ec,.slice qa qn qcap,.slice sa sn scap,.int .i64 ik,.int .i64 ic,.slice ja jn jcap,.slice la ln lcap] 39) (HKW.out _ hb12w).1 (HKW.out _ hb12w).2 (by omega) (by omega) TT.out.n1 TT.out.n2 _ rfl)
           obtain⟨r0,r1,r2,r3,rf⟩:=F12.out)
        | (go_at_call 95
           refine(HO1.out _ PW.out).mono ?_
           rintro e w10 ⟨ek,ec,qa,qn,qcap,sa,sn,scap,rfl,hf10,hb10,hb10w⟩))
     all_goals
      clear r0 r1 r2 r3 rf x0 x1 x2 x3 z0 z1 z2 z3 T14 HKW HO1 HO2
      go_wp2_with fail
      refine bodyPost_ret (v:= .tuple #[.agg #[.int .i64 6,.int .i64 0,.slice none 0 0,.slice (some ⟨w12.heap.size,0,none⟩) 2 2],.bool true]) ?_ rfl ⟨_,rfl,RT.out.lies,RT.out.bel⟩
      obtain⟨_,_,e0,e1,e2,e3⟩:=RT.out
      simp[results,Tryz.results61,go_sem,e0,e1,e2,e3]
   ·obtain⟨rfl,rfl⟩:=HT1.out (.inr rfl)
    have RT:=Lib.hid (ret_set (m:=2) (f:= .mk 0 0 [] []) (S:=fun _=>False) TT.out.fb TT.out.bel flies_flat (fun b h=>h.elim))
    go_wp2_with fail
    clear r0 r1 r2 r3 rf x0 x1 x2 x3 z0 z1 z2 z3
    refine bodyPost_ret (v:= .tuple #[.agg #[.int .i64 0,.int .i64 0,.slice none 0 0,.slice none 0 0],.bool false]) ?_ rfl ⟨_,rfl,RT.out.lies.up (by omega),RT.out.bel⟩
    obtain⟨_,_,e0,e1,e2,e3⟩:=RT.out
    simp[results,Tryz.results61,go_sem,e0,e1,e2,e3]
  ·obtain⟨rfl,rfl⟩:=HT1.out (.inl rfl)
   have RT:=Lib.hid (ret_set (m:=2) (f:= .mk 0 0 [] []) (S:=fun _=>False) TT.out.fb TT.out.bel flies_flat (fun b h=>h.elim))
   go_wp2_with fail
   clear r0 r1 r2 r3 rf x0 x1 x2 x3 z0 z1 z2 z3
   refine bodyPost_ret (v:= .tuple #[.agg #[.int .i64 0,.int .i64 0,.slice none 0 0,.slice none 0 0],.bool false]) ?_ rfl ⟨_,rfl,RT.out.lies.up (by omega),RT.out.bel⟩
   obtain⟨_,_,e0,e1,e2,e3⟩:=RT.out
   simp[results,Tryz.results61,go_sem,e0,e1,e2,e3]
end
end Go.Proofs.YtipahfcaplbifaaGreatDoor
