/- Parts of a proof. -/
import Derived.Test.YtipahfcaplbifaaGreatDoorZ16
import Derived.Deep.RegionHeld3
import Derived.Deep.RegionLaw
import Derived.Deep.AppendLies
import Derived.Deep.DrawnRows
set_option linter.unusedVariables false
set_option linter.unusedSimpArgs false
set_option maxHeartbeats 60000000
set_option maxRecDepth 100000
namespace Go.Proofs.YtipahfcaplbifaaGreatDoor
section
open Go.RowKit
theorem lies_set4 {S:Nat→Prop}{W:World}{No:Nat}{l:List (Int×Int)}{ad:Option Addr}(h:LiesQ S W ad l)(hne:∀b o,ad=some ⟨b,o,none⟩→b≠No)(x0 x1 x2 x3:Value):LiesQ S ((((W.setCell ⟨No,0,none⟩ x0).setCell ⟨No,1,none⟩ x1).setCell ⟨No,2,none⟩ x2).setCell ⟨No,3,none⟩ x3) ad l:=fun j hj=>by
 obtain⟨b7,o7,e7,hb7,y1,y2⟩:=h j hj
 have hbn:b7≠No:=hne b7 o7 e7
 have hfar:∀o,((((W.setCell ⟨No,0,none⟩ x0).setCell ⟨No,1,none⟩ x1).setCell ⟨No,2,none⟩ x2).setCell ⟨No,3,none⟩ x3).cell? ⟨b7,o,none⟩=W.cell? ⟨b7,o,none⟩:=fun o=>by
  rw[World.cell?_setCell_other _ _ _ _ (by simp[hbn]),World.cell?_setCell_other _ _ _ _ (by simp[hbn]),World.cell?_setCell_other _ _ _ _ (by simp[hbn]),World.cell?_setCell_other _ _ _ _ (by simp[hbn])]
 exact⟨b7,o7,e7,hb7,(hfar _).trans y1,(hfar _).trans y2⟩
theorem four_size (W:World)(No:Nat)(x0 x1 x2 x3:Value):((((W.setCell ⟨No,0,none⟩ x0).setCell ⟨No,1,none⟩ x1).setCell ⟨No,2,none⟩ x2).setCell ⟨No,3,none⟩ x3).heap.size=W.heap.size:=by rw[World.size_setCell,World.size_setCell,World.size_setCell,World.size_setCell]
structure LitIs (u:Int)(R:List (Int×Int))(K:Int)(f:FT)(x:Int):Prop where
 pos:0<K→f= .mk 2 u R []∧x=0
 neg:¬ 0<K→wi (1 - u) 1073741824=true→f= .mk 4 0 [] [.mk 2 (1 - u) (scale (-1) R) []]∧x=0
 err:¬ 0<K→wi (1 - u) 1073741824=false→f= .mk 0 0 [] []∧x=3
structure NegSt (w W:World)(x:Int)(n Nb:Nat)(ad:Option Addr)(cp:Nat)(S:List (Int×Int)):Prop where
 n0:W.cell? ⟨Nb,0,none⟩=some (.int .i64 x)
 n1:W.cell? ⟨Nb,1,none⟩=some (.slice ad n cp)
 fb:FB W (w.heap.size+1)
 lies:Lies W.heap.size W ad S
 ne:∀b o,ad=some ⟨b,o,none⟩→w.heap.size+1<b
 lt:w.heap.size+1<W.heap.size
 bel:Below w.heap.size w W
theorem Row.lies_ne {B k cap:Nat}{S:List (Int×Int)}{a:Option Addr}{W:World}(h:Row B S (.slice a k cap) W):Lies W.heap.size W a S∧∀b o,a=some ⟨b,o,none⟩→B≤b:=by
 obtain⟨a',cap',e,hl,_⟩:=h.lies
 injection e with e1 e2 e3
 subst e1
 exact⟨hl,fun b o e=>(World.ownsRow.lt h b (by rw[e];rfl)).1⟩
theorem neg_a {w wo w6:World}{x:Int}{k B:Nat}{a6:Option Addr}{cap6:Nat}{S:List (Int×Int)}(hfb:FB wo (w.heap.size+1))(hbe:Below w.heap.size w wo)(hlt:w.heap.size+1<wo.heap.size)(hb:Below wo.heap.size wo w6)(hrow:Row B S (.slice a6 k cap6) w6)(hB:wo.heap.size≤B):
 NegSt w (w6.alloc (.cells #[.int .i64 x,.slice a6 k cap6] 36)) x k w6.heap.size a6 cap6 S:=by
 have hba:Below w6.heap.size w6 (w6.alloc (.cells #[.int .i64 x,.slice a6 k cap6] 36)):=(Below.refl _ w6).alloc (Nat.le_refl _) _
 have hn:=heap_alloc_new w6 (.cells #[.int .i64 x,.slice a6 k cap6] 36)
 obtain⟨hl,hne⟩:=hrow.lies_ne
 have hs:=hb.size
 exact⟨by rw[cell_of_row _ _ _ _ _ _ hn];rfl,by rw[cell_of_row _ _ _ _ _ _ hn];rfl,(hfb.below hb hlt).below hba (by omega),(hl.below hba).mono hba.size,fun b o e=>(by have:=hne b o e;omega),Nat.lt_of_lt_of_le (Nat.lt_of_lt_of_le hlt hs) hba.size,(hbe.trans (hb.mono hbe.size)).trans (hba.mono (Nat.le_trans hbe.size hs))⟩
theorem neg_b {w wo w6:World}{x:Int}{k B:Nat}{a6:Option Addr}{cap6:Nat}{S:List (Int×Int)}(hfb:FB wo (w.heap.size+1))(hbe:Below w.heap.size w wo)(hlt:w.heap.size+1<wo.heap.size)(hb:Below wo.heap.size wo w6)(hrow:Row B S (.slice a6 k cap6) w6)(hB:wo.heap.size<B)
 {y0 y1:Value} (o0:w6.cell? ⟨wo.heap.size,0,none⟩=some y0) (o1:w6.cell? ⟨wo.heap.size,1,none⟩=some y1):
 NegSt w ((w6.setCell ⟨wo.heap.size,0,none⟩ (.int .i64 x)).setCell ⟨wo.heap.size,1,none⟩ (.slice a6 k cap6)) x k wo.heap.size a6 cap6 S:=by
 obtain⟨hl,hne⟩:=hrow.lies_ne
 have hne2:∀b o,a6=some ⟨b,o,none⟩→b≠wo.heap.size:=fun b o e=>by have:=hne b o e;omega
 have hc:∀b o,b≠wo.heap.size→((w6.setCell ⟨wo.heap.size,0,none⟩ (.int .i64 x)).setCell ⟨wo.heap.size,1,none⟩ (.slice a6 k cap6)).cell? ⟨b,o,none⟩=w6.cell? ⟨b,o,none⟩:=fun b o h=>by
  rw[World.cell?_setCell_other _ _ _ _ (by simp[h]),World.cell?_setCell_other _ _ _ _ (by simp[h])]
 have hf6:=hfb.below hb hlt
 have hz:((w6.setCell ⟨wo.heap.size,0,none⟩ (.int .i64 x)).setCell ⟨wo.heap.size,1,none⟩ (.slice a6 k cap6)).heap.size=w6.heap.size:=by rw[World.size_setCell,World.size_setCell]
 have hs:=hb.size
 refine⟨?_,World.cell?_setCell_same _ _ _ (u:=y1) (by rw[World.cell?_setCell_other _ _ _ _ (by simp)];exact o1),⟨(hc _ _ (by omega)).trans hf6.r0,(hc _ _ (by omega)).trans hf6.r1,(hc _ _ (by omega)).trans hf6.r2,(hc _ _ (by omega)).trans hf6.r3,fun o=>((World.frozen?_setCell _ _ _ _).trans (World.frozen?_setCell _ _ _ _)).trans (hf6.fz o)⟩,fun j hj=> ?_,fun b o e=>(by have:=hne b o e;omega),by rw[hz];omega,((hbe.trans (hb.mono hbe.size)).setCell (p:=⟨wo.heap.size,0,none⟩) hbe.size _).setCell (p:=⟨wo.heap.size,1,none⟩) hbe.size _⟩
 ·rw[World.cell?_setCell_other _ _ _ _ (by simp)]
  exact World.cell?_setCell_same _ _ _ o0
 ·obtain⟨b7,o7,e7,hb7,y1',y2'⟩:=hl j hj
  exact⟨b7,o7,e7,by rw[hz];exact hb7,(hc _ _ (hne2 b7 o7 e7)).trans y1',(hc _ _ (hne2 b7 o7 e7)).trans y2'⟩
theorem neg_end {w W:World}{x:Int}{k Nb:Nat}{a6:Option Addr}{cap6:Nat}{S:List (Int×Int)}(h:NegSt w W x k Nb a6 cap6 S)(hS:S.length=k)(hk:k≤64):
 let V:=(((((W.setCell ⟨w.heap.size+1,0,none⟩ (.int .i64 4)).setCell ⟨w.heap.size+1,1,none⟩ (.int .i64 0)).setCell ⟨w.heap.size+1,2,none⟩ (.slice none 0 0)).setCell ⟨w.heap.size+1,3,none⟩ (.slice (some ⟨W.heap.size,0,none⟩) 1 1)).alloc (.cells #[.int .i64 2,.int .i64 x,.slice a6 k cap6,.slice none 0 0] 39))
 FLiesQ (fun b=>w.heap.size≤b∧b<V.heap.size) V 2 (.mk 4 0 [] [.mk 2 x S []]) [.int .i64 4,.int .i64 0,.slice none 0 0,.slice (some ⟨W.heap.size,0,none⟩) 1 1]∧Below w.heap.size w V∧
  V.cell? ⟨w.heap.size+1,0,none⟩=some (.int .i64 4)∧V.cell? ⟨w.heap.size+1,1,none⟩=some (.int .i64 0)∧V.cell? ⟨w.heap.size+1,2,none⟩=some (.slice none 0 0)∧V.cell? ⟨w.heap.size+1,3,none⟩=some (.slice (some ⟨W.heap.size,0,none⟩) 1 1):=by
 subst hS
 have hz:=four_size W (w.heap.size+1) (.int .i64 4) (.int .i64 0) (.slice none 0 0) (.slice (some ⟨W.heap.size,0,none⟩) 1 1)
 obtain⟨e0,e1,e2,e3⟩:=res4 h.fb (.int .i64 4) (.int .i64 0) (.slice none 0 0) (.slice (some ⟨W.heap.size,0,none⟩) 1 1)
 have hlS:LiesQ (fun b=>w.heap.size≤b∧b<W.heap.size) W a6 S:=fun i hi=>by
  obtain⟨b,off,e,hb,g0,g1⟩:=h.lies i hi
  have:=h.ne b off e
  exact⟨b,off,e,⟨by omega,hb⟩,g0,g1⟩
 have hl:=lies_set4 hlS (fun b o e=>Nat.ne_of_gt (h.ne b o e)) (.int .i64 4) (.int .i64 0) (.slice none 0 0) (.slice (some ⟨W.heap.size,0,none⟩) 1 1)
 have hb:=below4 h.bel (Nat.le_succ _) (.int .i64 4) (.int .i64 0) (.slice none 0 0) (.slice (some ⟨W.heap.size,0,none⟩) 1 1)
 generalize (((W.setCell ⟨w.heap.size+1,0,none⟩ (.int .i64 4)).setCell ⟨w.heap.size+1,1,none⟩ (.int .i64 0)).setCell ⟨w.heap.size+1,2,none⟩ (.slice none 0 0)).setCell ⟨w.heap.size+1,3,none⟩ (.slice (some ⟨W.heap.size,0,none⟩) 1 1)=W4 at hz e0 e1 e2 e3 hl hb⊢
 intro V
 have hba:Below W4.heap.size W4 V:=(Below.refl _ W4).alloc (Nat.le_refl _) _
 have hn:=heap_alloc_new W4 (.cells #[.int .i64 2,.int .i64 x,.slice a6 S.length cap6,.slice none 0 0] 39)
 rw[hz]at hn
 have hlt:=h.lt
 have hVz:W.heap.size<V.heap.size:=by rw[←hz];exact lt_of_some (W:=V) (b:=W4.heap.size) (by rw[hz];exact hn)
 refine⟨⟨none,0,some ⟨W.heap.size,0,none⟩,1,rfl,fun i hi=>absurd hi (Nat.not_lt_zero i),by simp[FT.t],by simp[FT.ks],fun i hi=> ?_⟩,hb.trans (hba.mono hb.size),(hba.cell (p:=⟨w.heap.size+1,0,none⟩) (by rw[hz];exact hlt)).trans e0,(hba.cell (p:=⟨w.heap.size+1,1,none⟩) (by rw[hz];exact hlt)).trans e1,(hba.cell (p:=⟨w.heap.size+1,2,none⟩) (by rw[hz];exact hlt)).trans e2,(hba.cell (p:=⟨w.heap.size+1,3,none⟩) (by rw[hz];exact hlt)).trans e3⟩
 obtain rfl:i=0:=by simpa [FT.ks]using hi
 have hwW:=h.bel.size
 refine⟨W.heap.size,0,_,_,_,_,rfl,⟨hwW,hVz⟩,(cell_of_row _ _ _ _ _ _ hn).trans rfl,(cell_of_row _ _ _ _ _ _ hn).trans rfl,(cell_of_row _ _ _ _ _ _ hn).trans rfl,(cell_of_row _ _ _ _ _ _ hn).trans rfl, ?_⟩
 exact flies_leafS (by omega) (hl.keep (fun b ⟨h1,h2⟩=>⟨h1,Nat.lt_trans h2 hVz⟩) (fun b o ⟨h1,h2⟩=>hba.cell (p:=⟨b,o,none⟩) (by rw[hz];exact h2)))
theorem rlit_terms (c:Int)(a:Option Addr)(n cap:Nat)(l:List (Int×Int))(w:World)(hn:l.length=n)(hl:Lies w.heap.size w a l)(hs:snd c l=true)(h0:0<n)(f:FT)(x:Int)(hf:LitIs (upI c (gAt l n)) (redL (gAt l n) l) ((l.getD 0 (0,0)).2.tdiv (gAt l n)) f x):
 Calls Tryz.prog 96 #[.agg #[.int .i64 c,.slice a n cap]] w (LitEnd w.heap.size f (.int .i64 x) w):=by
 have HF:=Lib.hid hf
 have HRS:Hid (snd (upI c (gAt l n)) (redL (gAt l n) l)=true):=by show _=_;rw[←hn];exact red_snd hs (by omega)
 clear hf
 obtain⟨hwc,h64,hall⟩:=snd_iff.1 hs
 have hcb: -1073741824≤c∧c≤1073741824:=by unfold wi at hwc;simpa using hwc
 have n64:n≤64:=by omega
 have HK:=Lib.hid (fun j (hj:j<n)=>okAt_in (hall j (by omega)))
 have hg1:=gAt_pos hs n h0 (by omega)
 have hg2:=(gAt_in l n (fun j hj=>⟨(HK.out j hj).2.2.2.2.1,(HK.out j hj).2.2.2.2.2⟩)).2
 have HCK:Hid (∀W,Below w.heap.size w W→Calls Tryz.prog 24 #[.agg #[.int .i64 c,.slice a n cap]] W fun e w'=>e= .returned (.bool true)∧Below W.heap.size W w'):=fun W hb=>by
  have:=rcheck_any c a n cap l W hn (by omega) ((hl.below hb).mono hb.size)
  rwa [hs]at this
 have HGC:=Lib.hid (fun W (hb:Below w.heap.size w W)=>rgcd_any c a n cap l W hn n64 ((hl.below hb).mono hb.size) (fun j hj=>⟨(HK.out j hj).2.2.2.2.1,(HK.out j hj).2.2.2.2.2⟩))
 have hup:=Lib.hid (fun W=>rup_any c (gAt l n) W ⟨hg1,hg2⟩ hcb)
 have hrl:(redL (gAt l n) l).length=n:=by rw[redL_len,hn]
 have HRG:=Lib.hid (fun k (hk:k<n)=>redL_get (gAt l n) l k (by omega))
 have B0:Hid (Below w.heap.size w ((w.alloc (.cells #[.int .i64 c,.slice a n cap] 36)).alloc (.cells #[.int .i64 0,.int .i64 0,.slice none 0 0,.slice none 0 0] 39))):=((Below.refl _ w).alloc (Nat.le_refl _) _).alloc (by simp) _
 have F0:=Lib.hid (fb_new (w.alloc (.cells #[.int .i64 c,.slice a n cap] 36)) (w.heap.size+1) (by simp))
 have L0:Hid (((w.alloc (.cells #[.int .i64 c,.slice a n cap] 36)).alloc (.cells #[.int .i64 0,.int .i64 0,.slice none 0 0,.slice none 0 0] 39)).cell? ⟨w.heap.size,0,none⟩=some (.int .i64 c)∧((w.alloc (.cells #[.int .i64 c,.slice a n cap] 36)).alloc (.cells #[.int .i64 0,.int .i64 0,.slice none 0 0,.slice none 0 0] 39)).cell? ⟨w.heap.size,1,none⟩=some (.slice a n cap)):=by
  have hb2:=(Below.refl (w.alloc (.cells #[.int .i64 c,.slice a n cap] 36)).heap.size (w.alloc (.cells #[.int .i64 c,.slice a n cap] 36))).alloc (Nat.le_refl _) (.cells #[.int .i64 0,.int .i64 0,.slice none 0 0,.slice none 0 0] 39)
  exact⟨by rw[hb2.cell (p:=⟨w.heap.size,0,none⟩) (by simp)];simp,by rw[hb2.cell (p:=⟨w.heap.size,1,none⟩) (by simp)];simp⟩
 have HL:=Lib.hid hl
 have HN:=Lib.hid hn
 have HQ0:Hid ((redL (gAt l n) l).getD 0 (0,0)=((l.getD 0 (0,0)).1,(l.getD 0 (0,0)).2.tdiv (gAt l n))):=HRG.out 0 h0
 clear hwc h64 hall hs hl hn
 generalize gAt l n=g at hg1 hg2 HGC hup hrl HRG HQ0 HF HRS
 generalize upI c g=u at hup HF HRS
 generalize redL g l=R at hrl HRG HQ0 HF HRS
 have hg0:g≠0:=by omega
 have en:((n:Int) == 0)=false:=by rw[len0];exact decide_eq_false (by omega)
 obtain⟨i0,hi,hz0,hz1,hz2⟩:=info_parts Tryz.infoMono
 go_enter Tryz.func96,Tryz.ntmps96
 obtain⟨l0,l1⟩:=L0.out
 go_wp2_with fail
 refine(HCK.out _ B0.out).mono ?_
 rintro e w2 ⟨rfl,hb2⟩
 have hz2':w.heap.size+1<w2.heap.size:=by have:=hb2.size;simp at this;omega
 have B2:=Lib.hid (B0.out.trans (hb2.mono B0.out.size))
 have F2:=Lib.hid (F0.out.below hb2 (by simp))
 have d0:w2.cell? ⟨w.heap.size,0,none⟩=some (.int .i64 c):=(hb2.cell (p:=⟨w.heap.size,0,none⟩) (by simp;omega)).trans l0
 have d1:w2.cell? ⟨w.heap.size,1,none⟩=some (.slice a n cap):=(hb2.cell (p:=⟨w.heap.size,1,none⟩) (by simp;omega)).trans l1
 clear hb2 l0 l1
 go_wp2_with fail
 refine(HGC.out _ B2.out).mono ?_
 rintro e w3 ⟨rfl,hb3⟩
 have hz3:w.heap.size+1<w3.heap.size:=Nat.lt_of_lt_of_le hz2' hb3.size
 have B3:=Lib.hid (B2.out.trans (hb3.mono B2.out.size))
 have F3:=Lib.hid (F2.out.below hb3 hz2')
 have f0:w3.cell? ⟨w.heap.size,0,none⟩=some (.int .i64 c):=(hb3.cell (p:=⟨w.heap.size,0,none⟩) (by show w.heap.size<_;omega)).trans d0
 have f1:w3.cell? ⟨w.heap.size,1,none⟩=some (.slice a n cap):=(hb3.cell (p:=⟨w.heap.size,1,none⟩) (by show w.heap.size<_;omega)).trans d1
 clear hb3 d0 d1 hz2'
 have S0:=Lib.hid (LitSt.start (u:=u) B3.out hz3 f0 f1 F3.out)
 go_wp2_with fail
 refine(hup.out _).mono ?_
 rintro e w4 ⟨rfl,rfl⟩
 go_wp2_with fail
 generalize w3.alloc (.cells #[.int .i64 u,.slice none 0 0] 36)=w5 at S0⊢
 generalize w3.heap.size=Mb at S0 hz3⊢
 clear f0 f1 HGC HCK hup B2 B3 F2 F3 F0 B0 L0
 go_loopw [7] (fun i wr=>∃(k:Nat) (v:Value),k≤n∧i= .int .i64 k∧Hid (LitSt w wr c u a n cap Mb v (R.take k))) (fun i _=>n - (intOf i).toNat)
 case atStart=>exact⟨0,_,Nat.zero_le _,rfl,S0⟩
 case round=>
  clear S0
  obtain⟨k,v,hk,rfl,hst⟩:=hrel
  obtain⟨wo,rfl⟩:∃wo:World,wo=wr:=⟨_,rfl⟩
  obtain⟨hrow,q0,q1,hfb,m0,m1,mf,mlt,mz,hbel⟩:=hst.out
  by_cases hlt:k<n
  ·obtain⟨b,off,ea,hblt,c1,c2⟩:=(HL.out.below hbel) k (by rw[HN.out];exact hlt)
   subst ea
   have hts:=take_snoc R k (by rw[hrl];exact hlt)
   rw[HRG.out k hlt]at hts
   have hkk:=HK.out k hlt
   have hrt:(R.take k).length≤64:=by rw[List.length_take];omega
   have HT3:=Lib.hid hts
   generalize (l.getD k (0,0)).1=V at c1 HT3 hkk
   generalize (l.getD k (0,0)).2=K at c2 HT3 hkk
   have hq:=tdiv_in (c:=K) (g:=g) (B:=1073741824) (by omega)
   have hwq:IntKind.i64.wrap (K.tdiv g)=K.tdiv g:=IntWalk.i64_in _ (by omega)
   generalize R.take k=r at hst HT3 hrt hrow
   have hk0:(0:Int)≤(k:Int):=Int.natCast_nonneg _
   have hk1:(k:Int)<(n:Int):=by omega
   have HROW:Hid (((wo.alloc (.cells #[.int .i64 V,.int .i64 (K.tdiv g)] 92)).drew).ownsRow (Mb+1) 92 2 v r.length (flat r)):=(World.ownsRow.alloc hrow _).drew
   have HB5:Hid (Below (Mb+1) wo ((wo.alloc (.cells #[.int .i64 V,.int .i64 (K.tdiv g)] 92)).drew)):=((Below.refl _ wo).alloc mz _).drew
   have NEWS:=Lib.hid (World.news_of_block (w:=(wo.alloc (.cells #[.int .i64 V,.int .i64 (K.tdiv g)] 92)).drew) (cs:= #[.int .i64 V,.int .i64 (K.tdiv g)]) (t:=92) (fr:=(0,0)) (heap_alloc_new wo _))
   have HM:=Lib.hid mz
   have m1a:(wo.alloc (.cells #[.int .i64 V,.int .i64 (K.tdiv g)] 92)).cell? ⟨Mb,1,none⟩=some v:=(((Below.refl _ wo).alloc (Nat.le_refl _) _).cell (p:=⟨Mb,1,none⟩) mz).trans m1
   clear hrow hfb mf hbel hts hkk m0 mlt mz hq
   go_wp2_with fail
   go_region_law (first
    | (refine step_append_lies _ (by rfl) _ _ _ (by rfl) (Mb+1) 92 i0 _ 2 16 Tryz.underlying34 hi hz0 hz1 hz2 rfl (by omega) v r.length (flat r) (by rfl) HROW.out
        ⟨wo.heap.size,0,none⟩ 1 1 [.int .i64 V,.int .i64 (K.tdiv g)] (by rfl) (by rfl) NEWS.out (by simp[Value.oneCell']) (by omega) (by unfold maxLen;omega) (by omega) (by have:=HM.out;simp;omega) (wo.heap.size+1) (by simp) ?_
       intro gg cap2 w6 hown6 hgrow6 hat6 hlt6
       have FAR:=Lib.hid (hst.out.far HB5.out hgrow6)
       have o61:=FAR.out.1
       have o6f:=FAR.out.2))
   all_goals
    have ST:Hid (LitSt w (w6.setCell ⟨Mb,1,none⟩ (.slice (some ⟨gg,0,none⟩) (r.length+1) cap2)) c u (some ⟨b,off,none⟩) n cap Mb (.slice (some ⟨gg,0,none⟩) (r.length+1) cap2) (R.take (k+1))):=by
     refine hst.out.step HB5.out hgrow6 ?_
     rw[HT3.out]
     unfold Row
     rw[List.length_append,flat_append]
     exact hown6
    clear o61 o6f hown6 hgrow6 hat6 hlt6 FAR
    generalize w6.setCell ⟨Mb,1,none⟩ (.slice (some ⟨gg,0,none⟩) (r.length+1) cap2)=w7 at ST⊢
    go_wp2_with fail
    go_roundw
    case rel=>exact⟨k+1,_,by omega,by go_num,ST⟩
    case measure=>simp[intOf];omega
  ·obtain rfl:k=n:=by omega
   have hrow1:Row (Mb+1) R v wo:=by
    rw[List.take_of_length_le (by omega)]at hrow
    exact hrow
   obtain⟨a3,cap3,rfl,hliesQ3⟩:=hrow1.liesQ
   have hlies3:Lies wo.heap.size wo a3 R:=hliesQ3.lies (fun b h=>h.2)
   rw[hrl]at m1 hrow1
   obtain⟨b3,off3,ea,hbl3,g1,g2⟩:=hlies3 0 (by omega)
   rw[HQ0.out]at g2
   simp only[Nat.zero_mul,Nat.add_zero]at g1 g2
   subst ea
   have hob:Mb+1≤b3:=(World.ownsRow.lt hrow1 b3 rfl).1
   have NEB:Hid (∀b o,(some ⟨b3,off3,none⟩:Option Addr)=some ⟨b,o,none⟩→b≠w.heap.size+1):=fun b o e=>by
    injection e with e
    injection e with e1 e2 e3
    omega
   have HFB:=Lib.hid hfb
   have HBE:=Lib.hid hbel
   have HL3:=Lib.hid hlies3
   have HL3S:Hid (LiesQ (fun b=>w.heap.size≤b∧b<wo.heap.size) wo (some ⟨b3,off3,none⟩) R):=hliesQ3.keep (fun b ⟨h1,h2⟩=>⟨by omega,h2⟩) (fun _ _ _=>rfl)
   have HMZ:=Lib.hid mz
   clear hst hrow hrow1 hfb hbel hlies3 hliesQ3 q0 g1 mf HL HK HRG HN
   by_cases hp:0<(l.getD 0 (0,0)).2.tdiv g
   ·obtain⟨rfl,rfl⟩:=HF.out.pos hp
    generalize (l.getD 0 (0,0)).2.tdiv g=K0 at g2 hp
    have FIN:Hid (FLiesQ (fun b=>w.heap.size≤b∧b<((((wo.setCell ⟨w.heap.size+1,0,none⟩ (.int .i64 2)).setCell ⟨w.heap.size+1,1,none⟩ (.int .i64 u)).setCell ⟨w.heap.size+1,2,none⟩ (.slice (some ⟨b3,off3,none⟩) k cap3)).setCell ⟨w.heap.size+1,3,none⟩ (.slice none 0 0)).heap.size) ((((wo.setCell ⟨w.heap.size+1,0,none⟩ (.int .i64 2)).setCell ⟨w.heap.size+1,1,none⟩ (.int .i64 u)).setCell ⟨w.heap.size+1,2,none⟩ (.slice (some ⟨b3,off3,none⟩) k cap3)).setCell ⟨w.heap.size+1,3,none⟩ (.slice none 0 0)) 2 (.mk 2 u R []) [.int .i64 2,.int .i64 u,.slice (some ⟨b3,off3,none⟩) k cap3,.slice none 0 0]):=by
     have:=flies_leafS (n:=1) (k:=2) (c:=u) (tcap:=cap3) (by omega) (lies_set4 HL3S.out NEB.out (.int .i64 2) (.int .i64 u) (.slice (some ⟨b3,off3,none⟩) k cap3) (.slice none 0 0))
     rw[hrl]at this
     show FLiesQ _ _ _ _ _
     rw[four_size]
     exact this
    obtain⟨r0,r1,r2,r3,rf⟩:=HFB.out
    go_wp2_with fail
    clear r0 r1 r2 r3 rf g2 m0 m1 q1
    refine bodyPost_ret (v:= .tuple #[.agg #[.int .i64 2,.int .i64 u,.slice (some ⟨b3,off3,none⟩) k cap3,.slice none 0 0],.int .i64 0]) ?_ rfl ⟨_,rfl,FIN.out,below4 HBE.out (Nat.le_succ _) _ _ _ _⟩
    obtain⟨e0,e1,e2,e3⟩:=res4 HFB.out (.int .i64 2) (.int .i64 u) (.slice (some ⟨b3,off3,none⟩) k cap3) (.slice none 0 0)
    simp[results,Tryz.results96,go_sem,e0,e1,e2,e3]
   ·have hub: -1073741824≤u∧u≤1073741824:=by
     have:=(snd_iff.1 HRS.out).1
     unfold wi at this;simpa using this
    have hw1:IntKind.i64.wrap (1 - u)=1 - u:=IntWalk.i64_in _ (by omega)
    have HT:Hid (∀W,Below wo.heap.size wo W→Calls Tryz.prog 25 #[.agg #[.int .i64 u,.slice (some ⟨b3,off3,none⟩) k cap3],.int .i64 (-1)] W fun e w'=>∃a6 cap6,e= .returned (.slice a6 k cap6)∧Row W.heap.size (scale (-1) R) (.slice a6 k cap6) w'∧Below W.heap.size W w'∧Below wo.heap.size wo w'):=fun W hb=>
     (rtimes_any u (-1) (some ⟨b3,off3,none⟩) k cap3 R W hrl n64 ((HL3.out.below hb).mono hb.size) (fun m hm=>by have:=(snd_terms HRS.out m hm).2;omega)).mono fun e w' h=>by
       obtain⟨v,rfl,h1,h2⟩:=h
       obtain⟨a6,cap6,rfl,_,_⟩:=h1.lies
       rw[scale_len,hrl]at h1⊢
       exact⟨a6,cap6,rfl,h1,h2,hb.trans (h2.mono hb.size)⟩
    have HCW:Hid (∀W,Below wo.heap.size wo W→W.cell? ⟨Mb,0,none⟩=some (.int .i64 u)∧W.cell? ⟨Mb,1,none⟩=some (.slice (some ⟨b3,off3,none⟩) k cap3)):=fun W hb=>⟨(hb.cell (p:=⟨Mb,0,none⟩) mz).trans m0,(hb.cell (p:=⟨Mb,1,none⟩) mz).trans m1⟩
    have PA:Hid (Below wo.heap.size wo wo.drew):=(Below.refl _ _).drew
    have PB:Hid (Below wo.heap.size wo ((wo.alloc (.cells #[.int .i64 0,.slice none 0 0] 36)).drew)):=((Below.refl _ wo).alloc (Nat.le_refl _) _).drew
    generalize (l.getD 0 (0,0)).2.tdiv g=K0 at g2 hp HF
    clear hlt hk
    go_wp2_with fail
    go_region_held3 (fun w'=>w'.cell? ⟨Mb,0,none⟩=some (.int .i64 u)∧w'.cell? ⟨Mb,1,none⟩=some (.slice (some ⟨b3,off3,none⟩) k cap3))
     (first
       | exact HCW.out _ hb6w
       | exact HCW.out _ (hb6w.alloc hb6w.size _)
       | exact HCW.out _ ((hb6w.setCell (p:=⟨wo.heap.size,0,none⟩) (Nat.le_refl _) _).setCell (p:=⟨wo.heap.size,1,none⟩) (Nat.le_refl _) _)
       | exact HCW.out _ PA.out
       | exact HCW.out _ PB.out
       | go_keep)
     (first
       | (go_at_call 25
          refine(HT.out _ PB.out).mono ?_
          rintro e w6 ⟨a6,cap6,rfl,hrow6,hb6,hb6w⟩
          have hnb:w6.heap[wo.heap.size]? =some (.cells #[.int .i64 0,.slice none 0 0] 36 (0,0)):=(hb6.block _ (by show _<(wo.alloc _).heap.size;simp)).trans (heap_alloc_new wo _)
          have o60:w6.cell? ⟨wo.heap.size,0,none⟩=some (.int .i64 0):=by rw[cell_of_row _ _ _ _ _ _ hnb];rfl
          have o61:w6.cell? ⟨wo.heap.size,1,none⟩=some (.slice none 0 0):=by rw[cell_of_row _ _ _ _ _ _ hnb];rfl
          have o6f:∀o,w6.frozen? ⟨wo.heap.size,o,none⟩=false:=fun o=>frozen_of_row _ _ _ _ _ hnb)
       | (go_at_call 25
          refine(HT.out _ PA.out).mono ?_
          rintro e w6 ⟨a6,cap6,rfl,hrow6,hb6,hb6w⟩))
    all_goals
     have HWZ:w.heap.size+1<wo.heap.size:=by omega
     first
     | (show Exit.then _ _ _ _ (World.alloc w6 _)
        have NS:=Lib.hid (neg_a (x:=1 - u) HFB.out HBE.out HWZ hb6w hrow6 (Nat.le_refl _))
        generalize w6.alloc (.cells #[.int .i64 (1 - u),.slice a6 k cap6] 36)=w8 at NS⊢
        generalize w6.heap.size=Nb at NS⊢)
     | (have NS:=Lib.hid (neg_b (x:=1 - u) HFB.out HBE.out HWZ hb6w hrow6 (by show _<(wo.alloc _).heap.size;simp) o60 o61)
        clear o60 o61 o6f hnb
        generalize (w6.setCell ⟨wo.heap.size,0,none⟩ (.int .i64 (1 - u))).setCell ⟨wo.heap.size,1,none⟩ (.slice a6 k cap6)=w8 at NS⊢
        generalize wo.heap.size=Nb at NS⊢)
    all_goals
     clear HT HCW PA PB HL3 HL3S HFB HBE HMZ NEB hrow6 hb6 hb6w m0 m1 q1 g2
     obtain⟨N0,N1,_,_,_,_,_⟩:=NS.out
     by_cases hw:wi (1 - u) 1073741824=true
     ·have HCO:Hid (∀W,Calls Tryz.prog 26 #[.int .i64 (1 - u)] W fun e w'=>e= .returned (.bool true)∧W=w'):=fun W=>by
       have:=coef_any (1 - u) W
       rwa [hw]at this
      obtain⟨rfl,rfl⟩:=HF.out.neg (by omega) hw
      clear hw
      go_wp2_with fail
      refine(HCO.out _).mono ?_
      rintro e w9 ⟨rfl,rfl⟩
      obtain⟨r0,r1,r2,r3,rf⟩:=NS.out.fb
      go_wp2_with fail
      clear r0 r1 r2 r3 rf N0 N1
      obtain⟨G1,G2,e0,e1,e2,e3⟩:=neg_end NS.out (by rw[scale_len,hrl]) n64
      refine bodyPost_ret (v:= .tuple #[.agg #[.int .i64 4,.int .i64 0,.slice none 0 0,.slice (some ⟨w8.heap.size,0,none⟩) 1 1],.int .i64 0]) ?_ rfl ⟨_,rfl,G1,G2⟩
      simp[results,Tryz.results96,go_sem,e0,e1,e2,e3]
     ·rw[Bool.not_eq_true]at hw
      have HCO:Hid (∀W,Calls Tryz.prog 26 #[.int .i64 (1 - u)] W fun e w'=>e= .returned (.bool false)∧W=w'):=fun W=>by
       have:=coef_any (1 - u) W
       rwa [hw]at this
      obtain⟨rfl,rfl⟩:=HF.out.err (by omega) hw
      clear hw
      go_wp2_with fail
      refine(HCO.out _).mono ?_
      rintro e w9 ⟨rfl,rfl⟩
      obtain⟨r0,r1,r2,r3,rf⟩:=NS.out.fb
      go_wp2_with fail
      clear r0 r1 r2 r3 rf N0 N1
      refine bodyPost_ret (v:= .tuple #[.agg #[.int .i64 0,.int .i64 0,.slice none 0 0,.slice none 0 0],.int .i64 3]) ?_ rfl ⟨_,rfl,flies_flat,below4 NS.out.bel (Nat.le_succ _) _ _ _ _⟩
      obtain⟨e0,e1,e2,e3⟩:=res4 NS.out.fb (.int .i64 0) (.int .i64 0) (.slice none 0 0) (.slice none 0 0)
      simp[results,Tryz.results96,go_sem,e0,e1,e2,e3]
end
end Go.Proofs.YtipahfcaplbifaaGreatDoor
