/- Parts of a proof. -/
import Derived.Test.YtipahfcaplbifaaGreatDoorZ16
set_option linter.unusedVariables false
set_option linter.unusedSimpArgs false
set_option maxHeartbeats 60000000
set_option maxRecDepth 100000
namespace Go.Proofs.YtipahfcaplbifaaGreatDoor
section
open Go.RowKit
theorem not_any (x0 x1:Int)(a2:Option Addr)(n2 c2:Nat)(a3:Option Addr)(n3 c3:Nat)(w:World):
 Calls Tryz.prog 113 #[.agg #[.int .i64 x0,.int .i64 x1,.slice a2 n2 c2,.slice a3 n3 c3]] w fun e w'=>∃g,e= .returned (.agg #[.int .i64 4,.int .i64 0,.slice none 0 0,.slice (some ⟨g,0,none⟩) 1 1])∧w.heap.size≤g∧g<w'.heap.size∧
  w'.cell? ⟨g,0,none⟩=some (.int .i64 x0)∧w'.cell? ⟨g,1,none⟩=some (.int .i64 x1)∧w'.cell? ⟨g,2,none⟩=some (.slice a2 n2 c2)∧w'.cell? ⟨g,3,none⟩=some (.slice a3 n3 c3)∧Below w.heap.size w w':=by
 have s1:(w.alloc (.cells #[.int .i64 x0,.int .i64 x1,.slice a2 n2 c2,.slice a3 n3 c3] 39)).heap.size=w.heap.size+1:=by simp
 have s2:((w.alloc (.cells #[.int .i64 x0,.int .i64 x1,.slice a2 n2 c2,.slice a3 n3 c3] 39)).alloc (.cells #[.int .i64 4,.int .i64 0,.slice none 0 0,.slice (some ⟨w.heap.size+1+1,0,none⟩) 1 1] 39)).heap.size=w.heap.size+1+1:=by simp
 have hr:=heap_alloc_new (w.alloc (.cells #[.int .i64 x0,.int .i64 x1,.slice a2 n2 c2,.slice a3 n3 c3] 39)) (.cells #[.int .i64 4,.int .i64 0,.slice none 0 0,.slice (some ⟨w.heap.size+1+1,0,none⟩) 1 1] 39)
 have hn:=heap_alloc_new ((w.alloc (.cells #[.int .i64 x0,.int .i64 x1,.slice a2 n2 c2,.slice a3 n3 c3] 39)).alloc (.cells #[.int .i64 4,.int .i64 0,.slice none 0 0,.slice (some ⟨w.heap.size+1+1,0,none⟩) 1 1] 39)) (.cells #[.int .i64 x0,.int .i64 x1,.slice a2 n2 c2,.slice a3 n3 c3] 39)
 rw[s1]at hr
 rw[s2]at hn
 have hb:Below ((w.alloc (.cells #[.int .i64 x0,.int .i64 x1,.slice a2 n2 c2,.slice a3 n3 c3] 39)).alloc (.cells #[.int .i64 4,.int .i64 0,.slice none 0 0,.slice (some ⟨w.heap.size+1+1,0,none⟩) 1 1] 39)).heap.size ((w.alloc (.cells #[.int .i64 x0,.int .i64 x1,.slice a2 n2 c2,.slice a3 n3 c3] 39)).alloc (.cells #[.int .i64 4,.int .i64 0,.slice none 0 0,.slice (some ⟨w.heap.size+1+1,0,none⟩) 1 1] 39)) (((w.alloc (.cells #[.int .i64 x0,.int .i64 x1,.slice a2 n2 c2,.slice a3 n3 c3] 39)).alloc (.cells #[.int .i64 4,.int .i64 0,.slice none 0 0,.slice (some ⟨w.heap.size+1+1,0,none⟩) 1 1] 39)).alloc (.cells #[.int .i64 x0,.int .i64 x1,.slice a2 n2 c2,.slice a3 n3 c3] 39)):=(Below.refl _ _).alloc (Nat.le_refl _) _
 have hrc:(((w.alloc (.cells #[.int .i64 x0,.int .i64 x1,.slice a2 n2 c2,.slice a3 n3 c3] 39)).alloc (.cells #[.int .i64 4,.int .i64 0,.slice none 0 0,.slice (some ⟨w.heap.size+1+1,0,none⟩) 1 1] 39)).alloc (.cells #[.int .i64 x0,.int .i64 x1,.slice a2 n2 c2,.slice a3 n3 c3] 39)).heap[w.heap.size+1]? =some (.cells #[.int .i64 4,.int .i64 0,.slice none 0 0,.slice (some ⟨w.heap.size+1+1,0,none⟩) 1 1] 39 (0,0)):=(hb.block _ (by rw[s2];omega)).trans hr
 have E:Hid ((((w.alloc (.cells #[.int .i64 x0,.int .i64 x1,.slice a2 n2 c2,.slice a3 n3 c3] 39)).alloc (.cells #[.int .i64 4,.int .i64 0,.slice none 0 0,.slice (some ⟨w.heap.size+1+1,0,none⟩) 1 1] 39)).alloc (.cells #[.int .i64 x0,.int .i64 x1,.slice a2 n2 c2,.slice a3 n3 c3] 39)).cell? ⟨w.heap.size+1,0,none⟩=some (.int .i64 4)∧(((w.alloc (.cells #[.int .i64 x0,.int .i64 x1,.slice a2 n2 c2,.slice a3 n3 c3] 39)).alloc (.cells #[.int .i64 4,.int .i64 0,.slice none 0 0,.slice (some ⟨w.heap.size+1+1,0,none⟩) 1 1] 39)).alloc (.cells #[.int .i64 x0,.int .i64 x1,.slice a2 n2 c2,.slice a3 n3 c3] 39)).cell? ⟨w.heap.size+1,1,none⟩=some (.int .i64 0)∧(((w.alloc (.cells #[.int .i64 x0,.int .i64 x1,.slice a2 n2 c2,.slice a3 n3 c3] 39)).alloc (.cells #[.int .i64 4,.int .i64 0,.slice none 0 0,.slice (some ⟨w.heap.size+1+1,0,none⟩) 1 1] 39)).alloc (.cells #[.int .i64 x0,.int .i64 x1,.slice a2 n2 c2,.slice a3 n3 c3] 39)).cell? ⟨w.heap.size+1,2,none⟩=some (.slice none 0 0)∧(((w.alloc (.cells #[.int .i64 x0,.int .i64 x1,.slice a2 n2 c2,.slice a3 n3 c3] 39)).alloc (.cells #[.int .i64 4,.int .i64 0,.slice none 0 0,.slice (some ⟨w.heap.size+1+1,0,none⟩) 1 1] 39)).alloc (.cells #[.int .i64 x0,.int .i64 x1,.slice a2 n2 c2,.slice a3 n3 c3] 39)).cell? ⟨w.heap.size+1,3,none⟩=some (.slice (some ⟨w.heap.size+1+1,0,none⟩) 1 1)):=⟨by rw[cell_of_row _ _ _ _ _ _ hrc];rfl,by rw[cell_of_row _ _ _ _ _ _ hrc];rfl,by rw[cell_of_row _ _ _ _ _ _ hrc];rfl,by rw[cell_of_row _ _ _ _ _ _ hrc];rfl⟩
 have NN:Hid ((((w.alloc (.cells #[.int .i64 x0,.int .i64 x1,.slice a2 n2 c2,.slice a3 n3 c3] 39)).alloc (.cells #[.int .i64 4,.int .i64 0,.slice none 0 0,.slice (some ⟨w.heap.size+1+1,0,none⟩) 1 1] 39)).alloc (.cells #[.int .i64 x0,.int .i64 x1,.slice a2 n2 c2,.slice a3 n3 c3] 39)).cell? ⟨w.heap.size+1+1,0,none⟩=some (.int .i64 x0)∧(((w.alloc (.cells #[.int .i64 x0,.int .i64 x1,.slice a2 n2 c2,.slice a3 n3 c3] 39)).alloc (.cells #[.int .i64 4,.int .i64 0,.slice none 0 0,.slice (some ⟨w.heap.size+1+1,0,none⟩) 1 1] 39)).alloc (.cells #[.int .i64 x0,.int .i64 x1,.slice a2 n2 c2,.slice a3 n3 c3] 39)).cell? ⟨w.heap.size+1+1,1,none⟩=some (.int .i64 x1)∧(((w.alloc (.cells #[.int .i64 x0,.int .i64 x1,.slice a2 n2 c2,.slice a3 n3 c3] 39)).alloc (.cells #[.int .i64 4,.int .i64 0,.slice none 0 0,.slice (some ⟨w.heap.size+1+1,0,none⟩) 1 1] 39)).alloc (.cells #[.int .i64 x0,.int .i64 x1,.slice a2 n2 c2,.slice a3 n3 c3] 39)).cell? ⟨w.heap.size+1+1,2,none⟩=some (.slice a2 n2 c2)∧(((w.alloc (.cells #[.int .i64 x0,.int .i64 x1,.slice a2 n2 c2,.slice a3 n3 c3] 39)).alloc (.cells #[.int .i64 4,.int .i64 0,.slice none 0 0,.slice (some ⟨w.heap.size+1+1,0,none⟩) 1 1] 39)).alloc (.cells #[.int .i64 x0,.int .i64 x1,.slice a2 n2 c2,.slice a3 n3 c3] 39)).cell? ⟨w.heap.size+1+1,3,none⟩=some (.slice a3 n3 c3)):=⟨by rw[cell_of_row _ _ _ _ _ _ hn];rfl,by rw[cell_of_row _ _ _ _ _ _ hn];rfl,by rw[cell_of_row _ _ _ _ _ _ hn];rfl,by rw[cell_of_row _ _ _ _ _ _ hn];rfl⟩
 have BB:Hid (Below w.heap.size w (((w.alloc (.cells #[.int .i64 x0,.int .i64 x1,.slice a2 n2 c2,.slice a3 n3 c3] 39)).alloc (.cells #[.int .i64 4,.int .i64 0,.slice none 0 0,.slice (some ⟨w.heap.size+1+1,0,none⟩) 1 1] 39)).alloc (.cells #[.int .i64 x0,.int .i64 x1,.slice a2 n2 c2,.slice a3 n3 c3] 39))):=(((Below.refl _ w).alloc (Nat.le_refl _) _).alloc (by simp) _).alloc (by simp;omega) _
 have SS:Hid (w.heap.size+1+1<(((w.alloc (.cells #[.int .i64 x0,.int .i64 x1,.slice a2 n2 c2,.slice a3 n3 c3] 39)).alloc (.cells #[.int .i64 4,.int .i64 0,.slice none 0 0,.slice (some ⟨w.heap.size+1+1,0,none⟩) 1 1] 39)).alloc (.cells #[.int .i64 x0,.int .i64 x1,.slice a2 n2 c2,.slice a3 n3 c3] 39)).heap.size):=by show _<_;simp
 clear hr hn hrc hb s1 s2
 go_enter Tryz.func113,Tryz.ntmps113
 go_wp2_with fail
 refine bodyPost_ret (v:= .agg #[.int .i64 4,.int .i64 0,.slice none 0 0,.slice (some ⟨w.heap.size+1+1,0,none⟩) 1 1]) ?_ rfl ⟨_,rfl,by omega,SS.out,NN.out.1,NN.out.2.1,NN.out.2.2.1,NN.out.2.2.2,BB.out⟩
 obtain⟨e0,e1,e2,e3⟩:=E.out
 simp[results,Tryz.results113,go_sem,e0,e1,e2,e3]
theorem literal_neg (c:Int)(a:Option Addr)(n cap:Nat)(l:List (Int×Int))(w:World)(hn:l.length=n)(hl:Lies w.heap.size w a l)(hs:snd c l=true)(h0:0<n)(hp:¬ 0<(l.getD 0 (0,0)).2.tdiv (gAt l n)):
 (wi (1 - upI c (gAt l n)) 1073741824=true→Calls Tryz.prog 111 #[.agg #[.int .i64 c,.slice a n cap]] w (LitEnd w.heap.size (.mk 4 0 [] [.mk 2 (1 - upI c (gAt l n)) (scale (-1) (redL (gAt l n) l)) []]) .nilIface w))∧
 (wi (1 - upI c (gAt l n)) 1073741824=false→Calls Tryz.prog 111 #[.agg #[.int .i64 c,.slice a n cap]] w (LitEnd w.heap.size (.mk 0 0 [] []) (.iface 60 (.int .i64 3)) w)):=by
 have hg1:=gAt_pos hs n h0 (by omega)
 have n64:n≤64:=by have:=(snd_iff.1 hs).2.1;omega
 have HCK:=Lib.hid (fun W (hb:Below w.heap.size w W)=>check_yes c a n cap l W hn ((hl.below hb).mono hb.size) hs)
 have HRE:=Lib.hid (fun W (hb:Below w.heap.size w W)=>reduced_any c a n cap l W hn ((hl.below hb).mono hb.size) hs h0 hg1)
 have hlen:(redL (gAt l n) l).length=n:=by unfold redL;rw[List.length_map,hn]
 have hget:=redL_get (gAt l n) l 0 (by omega)
 have hrs:snd (upI c (gAt l n)) (redL (gAt l n) l)=true:=by rw[←hn];exact red_snd hs (by omega)
 have hb1:Below w.heap.size w (w.alloc (.cells #[.int .i64 c,.slice a n cap] 36)):=(Below.refl _ w).alloc (Nat.le_refl _) _
 have B0:Hid (Below w.heap.size w ((w.alloc (.cells #[.int .i64 c,.slice a n cap] 36)).alloc (.cells #[.int .i64 0,.int .i64 0,.slice none 0 0,.slice none 0 0] 39))):=hb1.alloc hb1.size _
 have F0:=Lib.hid (fb_new (w.alloc (.cells #[.int .i64 c,.slice a n cap] 36)) (w.heap.size+1) (by simp))
 have L0:Hid (((w.alloc (.cells #[.int .i64 c,.slice a n cap] 36)).alloc (.cells #[.int .i64 0,.int .i64 0,.slice none 0 0,.slice none 0 0] 39)).cell? ⟨w.heap.size,0,none⟩=some (.int .i64 c)∧((w.alloc (.cells #[.int .i64 c,.slice a n cap] 36)).alloc (.cells #[.int .i64 0,.int .i64 0,.slice none 0 0,.slice none 0 0] 39)).cell? ⟨w.heap.size,1,none⟩=some (.slice a n cap)):=by
  have hb2:=(Below.refl (w.alloc (.cells #[.int .i64 c,.slice a n cap] 36)).heap.size (w.alloc (.cells #[.int .i64 c,.slice a n cap] 36))).alloc (Nat.le_refl _) (.cells #[.int .i64 0,.int .i64 0,.slice none 0 0,.slice none 0 0] 39)
  exact⟨by rw[hb2.cell (p:=⟨w.heap.size,0,none⟩) (by simp)];simp,by rw[hb2.cell (p:=⟨w.heap.size,1,none⟩) (by simp)];simp⟩
 clear hb1 hs hl hn
 generalize gAt l n=g at HRE hlen hget hp hrs⊢
 generalize upI c g=u at HRE hrs⊢
 generalize redL g l=R at HRE hlen hget hrs⊢
 have n1:=fun W=>Tryz.neNil W
 have n2:=fun W=>Tryz.neCode 3 W
 obtain⟨hs1,hs2⟩:=both_terms (ca:=1) (x:=1) (y:= -1) (la:=[]) (by decide) hrs (by omega) (by omega)
 have hsl:(scale 1 [] ++ scale (-1) R).length=n:=by rw[show scale 1 []=[] from rfl,List.nil_append,scale_len,hlen]
 have hun:=(snd_iff.1 hrs).1
 have hub: -1073741824≤u∧u≤1073741824:=by unfold wi at hun;simpa using hun
 have e1u:(1:Int)*1+ -1*u=1 - u:=by omega
 constructor
 ·intro hw
  have HAD:=Lib.hid (fun(b:Option Addr) capb W (hlb:Lies W.heap.size W b R)=>add_ok 1 u 1 (-1) none b 0 n 0 capb [] R (scale (-1) R) W rfl hlen (fun i hi=>absurd hi (Nat.not_lt_zero i)) hlb (by decide) hrs (by omega) (by omega)
   (fun a n cap W B hn hrow hB hm=>gather_ok _ a n cap B _ (scale (-1) R) W hn hrow hB hm hs1 hs2 (neg_sum hrs) (by rw[e1u];exact hw) (neg_wi hrs) (by rw[scale_len];omega)))
  rw[e1u]at HAD
  have hsc:(scale (-1) R).length=n:=by rw[scale_len,hlen]
  clear hs1 hs2 hsl hun e1u
  generalize scale (-1) R=S at HAD hsc⊢
  obtain⟨l0,l1⟩:=L0.out
  go_enter Tryz.func111,Tryz.ntmps111
  go_wp2_with fail
  refine(HCK.out _ B0.out).mono ?_
  rintro e w2 ⟨rfl,hb2⟩
  have hz2:w.heap.size+1<w2.heap.size:=by have:=hb2.size;simp at this;omega
  have B2:=Lib.hid (B0.out.trans (hb2.mono B0.out.size))
  have F2:=Lib.hid (F0.out.below hb2 (by simp))
  have d0:w2.cell? ⟨w.heap.size,0,none⟩=some (.int .i64 c):=(hb2.cell (p:=⟨w.heap.size,0,none⟩) (by simp;omega)).trans l0
  have d1:w2.cell? ⟨w.heap.size,1,none⟩=some (.slice a n cap):=(hb2.cell (p:=⟨w.heap.size,1,none⟩) (by simp;omega)).trans l1
  have en:((n:Int) == 0)=false:=by rw[len0];exact decide_eq_false (by omega)
  clear hb2 l0 l1
  go_wp2_with fail
  refine(HRE.out _ B2.out).mono ?_
  rintro e w3 ⟨v3,rfl,hrow3,hb3⟩
  obtain⟨a3,cap3,rfl,hlies3,_⟩:=hrow3.lies
  rw[hlen]at hrow3
  obtain⟨b3,off3,ea,hbl3,g1,g2⟩:=hlies3 0 (by omega)
  rw[hget]at g2
  simp only[Nat.zero_mul,Nat.add_zero]at g1 g2
  subst ea
  have hw3:w2.heap.size≤w3.heap.size:=hb3.size
  have hba:Below w3.heap.size w3 (w3.alloc (.cells #[.int .i64 u,.slice (some ⟨b3,off3,none⟩) n cap3] 36)):=(Below.refl _ w3).alloc (Nat.le_refl _) _
  have g2a:(w3.alloc (.cells #[.int .i64 u,.slice (some ⟨b3,off3,none⟩) n cap3] 36)).cell? ⟨b3,off3+1,none⟩=some (.int .i64 ((l.getD 0 (0,0)).2.tdiv g)):=(hba.cell (p:=⟨b3,off3+1,none⟩) hbl3).trans g2
  have B3:=Lib.hid ((B2.out.trans (hb3.mono B2.out.size)).alloc (Nat.le_trans B2.out.size hw3) (.cells #[.int .i64 u,.slice (some ⟨b3,off3,none⟩) n cap3] 36))
  have F3:=Lib.hid ((F2.out.below hb3 hz2).below hba (Nat.lt_of_lt_of_le hz2 hw3))
  have hadd:=Lib.hid (HAD.out (some ⟨b3,off3,none⟩) cap3 (w3.alloc (.cells #[.int .i64 u,.slice (some ⟨b3,off3,none⟩) n cap3] 36)) ((hlies3.below hba).mono hba.size))
  clear hrow3 hlies3 g1 g2 hb3 hba d0 d1 HAD
  rw[hlen]
  generalize (l.getD 0 (0,0)).2.tdiv g=K at g2a hp
  go_wp2_with fail
  refine hadd.out.mono ?_
  rintro e w4 ⟨v4,rfl,hrow4,hb4⟩
  obtain⟨a4,cap4,rfl,hlies4,_⟩:=hrow4.lies
  rw[hsc]at hrow4
  have LSN:Hid (∀b o,a4=some ⟨b,o,none⟩→w.heap.size+1<b):=fun b o e=>by
   subst e
   have:=(World.ownsRow.lt hrow4 b rfl).1
   simp at this;omega
  have B4:=Lib.hid (B3.out.trans (hb4.mono B3.out.size))
  have F4:=Lib.hid (F3.out.below hb4 (by simp;omega))
  have hz4:w.heap.size+1<w4.heap.size:=by have:=hb4.size;simp at this;omega
  have hbl:Below w4.heap.size w4 (w4.alloc (.cells #[.int .i64 (1 - u),.slice a4 n cap4] 36)):=(Below.refl _ w4).alloc (Nat.le_refl _) _
  have LS:=Lib.hid (hlies4.below hbl)
  have HSZ:=Lib.hid hbl.size
  have B5:=Lib.hid (B4.out.trans (hbl.mono B4.out.size))
  have F5:=Lib.hid (F4.out.below hbl hz4)
  clear hrow4 hb4 g2a hlies4 hbl
  rw[hsc]
  go_wp2_with fail
  refine(not_any 2 (1 - u) a4 n cap4 none 0 0 _).mono ?_
  rintro e w6 ⟨g6,rfl,hg6,hgz6,k0,k1,k2,k3,hb6⟩
  have B6:=Lib.hid (B5.out.trans (hb6.mono B5.out.size))
  have F6:=Lib.hid (F5.out.below hb6 (by simp;omega))
  have LS6:=Lib.hid ((LS.out.below (hb6.mono HSZ.out)).mono (Nat.le_trans HSZ.out hb6.size))
  have hgN:g6≠w.heap.size+1:=by simp at hg6;omega
  have hgW:w.heap.size≤g6:=by simp at hg6;omega
  have KK:=Lib.hid (And.intro k0 (And.intro k1 (And.intro k2 k3)))
  have FIN:Hid (FLiesQ (fun b=>w.heap.size≤b∧b<((((w6.setCell ⟨w.heap.size+1,0,none⟩ (.int .i64 4)).setCell ⟨w.heap.size+1,1,none⟩ (.int .i64 0)).setCell ⟨w.heap.size+1,2,none⟩ (.slice none 0 0)).setCell ⟨w.heap.size+1,3,none⟩ (.slice (some ⟨g6,0,none⟩) 1 1)).heap.size) ((((w6.setCell ⟨w.heap.size+1,0,none⟩ (.int .i64 4)).setCell ⟨w.heap.size+1,1,none⟩ (.int .i64 0)).setCell ⟨w.heap.size+1,2,none⟩ (.slice none 0 0)).setCell ⟨w.heap.size+1,3,none⟩ (.slice (some ⟨g6,0,none⟩) 1 1)) 2 (.mk 4 0 [] [.mk 2 (1 - u) S []]) [.int .i64 4,.int .i64 0,.slice none 0 0,.slice (some ⟨g6,0,none⟩) 1 1]):=by
   have sz:((((w6.setCell ⟨w.heap.size+1,0,none⟩ (.int .i64 4)).setCell ⟨w.heap.size+1,1,none⟩ (.int .i64 0)).setCell ⟨w.heap.size+1,2,none⟩ (.slice none 0 0)).setCell ⟨w.heap.size+1,3,none⟩ (.slice (some ⟨g6,0,none⟩) 1 1)).heap.size=w6.heap.size:=by rw[World.size_setCell,World.size_setCell,World.size_setCell,World.size_setCell]
   have hfar:∀b o,b≠w.heap.size+1→((((w6.setCell ⟨w.heap.size+1,0,none⟩ (.int .i64 4)).setCell ⟨w.heap.size+1,1,none⟩ (.int .i64 0)).setCell ⟨w.heap.size+1,2,none⟩ (.slice none 0 0)).setCell ⟨w.heap.size+1,3,none⟩ (.slice (some ⟨g6,0,none⟩) 1 1)).cell? ⟨b,o,none⟩=w6.cell? ⟨b,o,none⟩:=fun b o hb=>by
    rw[World.cell?_setCell_other _ _ _ _ (by first | (simp;done) | (simp;omega)),World.cell?_setCell_other _ _ _ _ (by first | (simp;done) | (simp;omega)),World.cell?_setCell_other _ _ _ _ (by first | (simp;done) | (simp;omega)),World.cell?_setCell_other _ _ _ _ (by first | (simp;done) | (simp;omega))]
   rw[sz]
   refine⟨none,0,some ⟨g6,0,none⟩,1,rfl,fun i hi=>absurd hi (Nat.not_lt_zero i),by simp[FT.t],by simp[FT.ks],fun i hi=> ?_⟩
   obtain rfl:i=0:=by simpa [FT.ks]using hi
   refine⟨g6,0,_,_,_,_,rfl,⟨hgW,hgz6⟩,(hfar _ _ hgN).trans (by simpa using KK.out.1),(hfar _ _ hgN).trans (by simpa using KK.out.2.1),(hfar _ _ hgN).trans (by simpa using KK.out.2.2.1),(hfar _ _ hgN).trans (by simpa using KK.out.2.2.2), ?_⟩
   show FLiesQ _ _ 1 (.mk 2 (1 - u) S []) _
   refine⟨a4,cap4,none,0,by rw[show(FT.mk 2 (1 - u) S []).t.length=n from hsc];rfl,fun j hj=> ?_,by rw[show(FT.mk 2 (1 - u) S []).t.length=n from hsc];omega,by simp[FT.ks],fun j hj=>absurd hj (by simp[FT.ks])⟩
   obtain⟨b7,o7,e7,hb7,x1,x2⟩:=LS6.out j hj
   have hbw:=LSN.out b7 o7 e7
   have hbn:b7≠w.heap.size+1:=by omega
   exact⟨b7,o7,e7,⟨by omega,hb7⟩,(hfar _ _ hbn).trans x1,(hfar _ _ hbn).trans x2⟩
  clear hg6 hb6 k0 k1 k2 k3 hgN hgW
  obtain⟨r0,r1,r2,r3,rf⟩:=F6.out
  go_wp2_with fail
  clear r0 r1 r2 r3 rf
  refine bodyPost_ret (v:= .tuple #[.agg #[.int .i64 4,.int .i64 0,.slice none 0 0,.slice (some ⟨g6,0,none⟩) 1 1],.nilIface]) ?_ rfl ⟨_,rfl,FIN.out,below4 B6.out (Nat.le_succ _) _ _ _ _⟩
  obtain⟨e0,e1,e2,e3⟩:=res4 F6.out (.int .i64 4) (.int .i64 0) (.slice none 0 0) (.slice (some ⟨g6,0,none⟩) 1 1)
  simp[results,Tryz.results111,go_sem,e0,e1,e2,e3]
 ·intro hw
  have HAD:=Lib.hid (fun(b:Option Addr) capb W (hlb:Lies W.heap.size W b R)=>add_err 3 1 u 1 (-1) none b 0 n 0 capb [] R W rfl hlen (fun i hi=>absurd hi (Nat.not_lt_zero i)) hlb (by decide) hrs (by omega) (by omega)
   (fun a n cap W B hn hrow hB hm=>gather_far1 _ a n cap B _ (scale (-1) R) W hn hrow hB hm hs1 hs2 (neg_sum hrs) (by rw[e1u];exact hw)))
  clear hs1 hs2 hsl hun e1u
  obtain⟨l0,l1⟩:=L0.out
  go_enter Tryz.func111,Tryz.ntmps111
  go_wp2_with fail
  refine(HCK.out _ B0.out).mono ?_
  rintro e w2 ⟨rfl,hb2⟩
  have hz2:w.heap.size+1<w2.heap.size:=by have:=hb2.size;simp at this;omega
  have B2:=Lib.hid (B0.out.trans (hb2.mono B0.out.size))
  have F2:=Lib.hid (F0.out.below hb2 (by simp))
  have d0:w2.cell? ⟨w.heap.size,0,none⟩=some (.int .i64 c):=(hb2.cell (p:=⟨w.heap.size,0,none⟩) (by simp;omega)).trans l0
  have d1:w2.cell? ⟨w.heap.size,1,none⟩=some (.slice a n cap):=(hb2.cell (p:=⟨w.heap.size,1,none⟩) (by simp;omega)).trans l1
  have en:((n:Int) == 0)=false:=by rw[len0];exact decide_eq_false (by omega)
  clear hb2 l0 l1
  go_wp2_with fail
  refine(HRE.out _ B2.out).mono ?_
  rintro e w3 ⟨v3,rfl,hrow3,hb3⟩
  obtain⟨a3,cap3,rfl,hlies3,_⟩:=hrow3.lies
  rw[hlen]at hrow3
  obtain⟨b3,off3,ea,hbl3,g1,g2⟩:=hlies3 0 (by omega)
  rw[hget]at g2
  simp only[Nat.zero_mul,Nat.add_zero]at g1 g2
  subst ea
  have hw3:w2.heap.size≤w3.heap.size:=hb3.size
  have hba:Below w3.heap.size w3 (w3.alloc (.cells #[.int .i64 u,.slice (some ⟨b3,off3,none⟩) n cap3] 36)):=(Below.refl _ w3).alloc (Nat.le_refl _) _
  have g2a:(w3.alloc (.cells #[.int .i64 u,.slice (some ⟨b3,off3,none⟩) n cap3] 36)).cell? ⟨b3,off3+1,none⟩=some (.int .i64 ((l.getD 0 (0,0)).2.tdiv g)):=(hba.cell (p:=⟨b3,off3+1,none⟩) hbl3).trans g2
  have B3:=Lib.hid ((B2.out.trans (hb3.mono B2.out.size)).alloc (Nat.le_trans B2.out.size hw3) (.cells #[.int .i64 u,.slice (some ⟨b3,off3,none⟩) n cap3] 36))
  have F3:=Lib.hid ((F2.out.below hb3 hz2).below hba (Nat.lt_of_lt_of_le hz2 hw3))
  have hadd:=Lib.hid (HAD.out (some ⟨b3,off3,none⟩) cap3 (w3.alloc (.cells #[.int .i64 u,.slice (some ⟨b3,off3,none⟩) n cap3] 36)) ((hlies3.below hba).mono hba.size))
  clear hrow3 hlies3 g1 g2 hb3 hba d0 d1 HAD
  rw[hlen]
  generalize (l.getD 0 (0,0)).2.tdiv g=K at g2a hp
  go_wp2_with fail
  refine hadd.out.mono ?_
  rintro e w4 ⟨rfl,hb4⟩
  have hz4:w.heap.size+1<w4.heap.size:=by have:=hb4.size;simp at this;omega
  have B4:=Lib.hid (B3.out.trans (hb4.mono B3.out.size))
  have F4:=Lib.hid (F3.out.below hb4 (by simp;omega))
  have sz:((((w4.setCell ⟨w.heap.size+1,0,none⟩ (.int .i64 0)).setCell ⟨w.heap.size+1,1,none⟩ (.int .i64 0)).setCell ⟨w.heap.size+1,2,none⟩ (.slice none 0 0)).setCell ⟨w.heap.size+1,3,none⟩ (.slice none 0 0)).heap.size=w4.heap.size:=by rw[World.size_setCell,World.size_setCell,World.size_setCell,World.size_setCell]
  have hbl:Below ((((w4.setCell ⟨w.heap.size+1,0,none⟩ (.int .i64 0)).setCell ⟨w.heap.size+1,1,none⟩ (.int .i64 0)).setCell ⟨w.heap.size+1,2,none⟩ (.slice none 0 0)).setCell ⟨w.heap.size+1,3,none⟩ (.slice none 0 0)).heap.size ((((w4.setCell ⟨w.heap.size+1,0,none⟩ (.int .i64 0)).setCell ⟨w.heap.size+1,1,none⟩ (.int .i64 0)).setCell ⟨w.heap.size+1,2,none⟩ (.slice none 0 0)).setCell ⟨w.heap.size+1,3,none⟩ (.slice none 0 0)) (((((w4.setCell ⟨w.heap.size+1,0,none⟩ (.int .i64 0)).setCell ⟨w.heap.size+1,1,none⟩ (.int .i64 0)).setCell ⟨w.heap.size+1,2,none⟩ (.slice none 0 0)).setCell ⟨w.heap.size+1,3,none⟩ (.slice none 0 0)).alloc (.cells #[.int .i64 0,.slice none 0 0] 36)):=(Below.refl _ _).alloc (Nat.le_refl _) _
  have bs:=below4 B4.out (Nat.le_succ _) (.int .i64 0) (.int .i64 0) (.slice none 0 0) (.slice none 0 0)
  have B5:=Lib.hid (bs.trans (hbl.mono bs.size))
  obtain⟨e0,e1,e2,e3⟩:=res4 F4.out (.int .i64 0) (.int .i64 0) (.slice none 0 0) (.slice none 0 0)
  have E9:Hid ((((((w4.setCell ⟨w.heap.size+1,0,none⟩ (.int .i64 0)).setCell ⟨w.heap.size+1,1,none⟩ (.int .i64 0)).setCell ⟨w.heap.size+1,2,none⟩ (.slice none 0 0)).setCell ⟨w.heap.size+1,3,none⟩ (.slice none 0 0)).alloc (.cells #[.int .i64 0,.slice none 0 0] 36)).cell? ⟨w.heap.size+1,0,none⟩=some (.int .i64 0)∧(((((w4.setCell ⟨w.heap.size+1,0,none⟩ (.int .i64 0)).setCell ⟨w.heap.size+1,1,none⟩ (.int .i64 0)).setCell ⟨w.heap.size+1,2,none⟩ (.slice none 0 0)).setCell ⟨w.heap.size+1,3,none⟩ (.slice none 0 0)).alloc (.cells #[.int .i64 0,.slice none 0 0] 36)).cell? ⟨w.heap.size+1,1,none⟩=some (.int .i64 0)∧(((((w4.setCell ⟨w.heap.size+1,0,none⟩ (.int .i64 0)).setCell ⟨w.heap.size+1,1,none⟩ (.int .i64 0)).setCell ⟨w.heap.size+1,2,none⟩ (.slice none 0 0)).setCell ⟨w.heap.size+1,3,none⟩ (.slice none 0 0)).alloc (.cells #[.int .i64 0,.slice none 0 0] 36)).cell? ⟨w.heap.size+1,2,none⟩=some (.slice none 0 0)∧(((((w4.setCell ⟨w.heap.size+1,0,none⟩ (.int .i64 0)).setCell ⟨w.heap.size+1,1,none⟩ (.int .i64 0)).setCell ⟨w.heap.size+1,2,none⟩ (.slice none 0 0)).setCell ⟨w.heap.size+1,3,none⟩ (.slice none 0 0)).alloc (.cells #[.int .i64 0,.slice none 0 0] 36)).cell? ⟨w.heap.size+1,3,none⟩=some (.slice none 0 0)):=
   ⟨(hbl.cell (p:=⟨w.heap.size+1,0,none⟩) (by rw[sz];exact hz4)).trans e0,(hbl.cell (p:=⟨w.heap.size+1,1,none⟩) (by rw[sz];exact hz4)).trans e1,(hbl.cell (p:=⟨w.heap.size+1,2,none⟩) (by rw[sz];exact hz4)).trans e2,(hbl.cell (p:=⟨w.heap.size+1,3,none⟩) (by rw[sz];exact hz4)).trans e3⟩
  clear hb4 g2a hbl bs e0 e1 e2 e3 sz
  obtain⟨r0,r1,r2,r3,rf⟩:=F4.out
  go_wp2_with fail
  clear r0 r1 r2 r3 rf
  refine bodyPost_ret (v:= .tuple #[.agg #[.int .i64 0,.int .i64 0,.slice none 0 0,.slice none 0 0],.iface 60 (.int .i64 3)]) ?_ rfl ⟨_,rfl,flies_flat,B5.out⟩
  obtain⟨e0,e1,e2,e3⟩:=E9.out
  simp[results,Tryz.results111,go_sem,e0,e1,e2,e3]
end
end Go.Proofs.YtipahfcaplbifaaGreatDoor
