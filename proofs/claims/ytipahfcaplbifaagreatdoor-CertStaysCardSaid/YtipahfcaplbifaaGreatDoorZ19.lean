/- Parts of a proof. -/
import Derived.Test.YtipahfcaplbifaaGreatDoorZ02
import Derived.Test.YtipahfcaplbifaaGreatDoorZ06
import Derived.Test.YtipahfcaplbifaaGreatDoorZ13
import Derived.Test.YtipahfcaplbifaaGreatDoorZ14
import Derived.Test.YtipahfcaplbifaaGreatDoorZ15
import Derived.Deep.RegionHeld3
import Derived.Deep.RegionLaw
import Derived.Deep.AppendLies
import Derived.Laws.MakeOwn
import Derived.OwnWalk
import Derived.Lib.QuietBelow
import Derived.BigQuiet
set_option linter.unusedVariables false
set_option linter.unusedSimpArgs false
set_option maxHeartbeats 60000000
set_option maxRecDepth 100000
namespace Go.Proofs.YtipahfcaplbifaaGreatDoor
section
open Go.RowKit
def LitSaid (am:List (Int×List (Int×Int)))(B M K mp:Nat)(av:Value)(n:Nat):Prop:=
 ∀(f:FT) (cs:List Value) (N:Nat) (cl:List (List Int)) (r:Option Nat) (S:Nat→Prop) (w:World),FLies B w n f cs→madeF n f=true→LS M K mp av N cl r S w→Places am mp w→Tens M w→am.length+N+siz n f≤100000→cl.length+2*siz n f≤1000000→
  Calls Tryz.prog 55 #[.pointer (some ⟨M,0,none⟩),.agg cs.toArray] w fun e w'=>e= .returned (.int .i64 (mkF am n f N cl).lit)∧∃S',(∀b,S' b→S b∨w.heap.size≤b)∧LTo M K mp av (mkF am n f N cl).n (mkF am n f N cl).cl r S' w w'
theorem lit_2 (am:List (Int×List (Int×Int)))(B M K mp:Nat)(av:Value)(hB:B≤M)(hmp:mp<M)(n:Nat)(f:FT)(cs:List Value)(N:Nat)(cl:List (List Int))(r:Option Nat)(S:Nat→Prop)(w:World)(h:FLies B w (n+1) f cs)(hm:madeF (n+1) f=true)(hS:LS M K mp av N cl r S w)(hp:Places am mp w)(ht:Tens M w)(h2:f.kind=2):
 Calls Tryz.prog 55 #[.pointer (some ⟨M,0,none⟩),.agg cs.toArray] w fun e w'=>e= .returned (.int .i64 (mkF am (n+1) f N cl).lit)∧∃S',(∀b,S' b→S b∨w.heap.size≤b)∧LTo M K mp av (mkF am (n+1) f N cl).n (mkF am (n+1) f N cl).cl r S' w w':=by
 obtain⟨ta,tcap,ka,kcap,rfl,hT,_,_,_⟩:=h
 obtain⟨hsn,hk0⟩:=made_snd hm h2
 clear hk0
 rw[mkF_2 h2]
 have hMw:=hS.size
 have hA:Below w.heap.size w (w.alloc (.cells #[.int .i64 f.kind,.int .i64 f.c,.slice ta f.t.length tcap,.slice ka f.ks.length kcap] 39)):=(Below.refl _ w).alloc (Nat.le_refl _) _
 have HB:=box_start w f.kind f.c ta ka f.t.length tcap f.ks.length kcap
 have hl3:=textL_len hsn f.t.length (Nat.le_refl _)
 rw[List.take_length]at hl3
 have HTX:=Lib.hid (text_any f.c ta f.t.length tcap f.t (w.alloc (.cells #[.int .i64 f.kind,.int .i64 f.c,.slice ta f.t.length tcap,.slice ka f.ks.length kcap] 39)).drew rfl ((hT.below (hA.drew.mono (by omega))).mono (Nat.le_trans (Nat.le_trans hB (Nat.le_of_lt hMw)) hA.size)) hsn (ht.up (hA.drew.mono (Nat.le_of_lt hMw)) (Nat.le_trans (Nat.le_of_lt hMw) hA.size)))
 have HP:=Lib.hid hp
 have HS:=Lib.hid hS
 have HA:=Lib.hid hA
 have HQ:=Lib.hid hMw
 have HMP:=Lib.hid hmp
 have HL:=Lib.hid hl3
 have m3:=(hA.cell (p:=⟨M,3,none⟩) hMw).trans hS.c3
 have b0:=HB.c0
 have b1:=HB.c1
 have b2:=HB.c2
 have hnq:M<w.heap.size:=hMw
 rw[h2]at*
 clear h2 hsn hT hl3 hp hS hA HB hm ht hmp hB
 generalize f.ks.length=kl at*
 generalize hc:f.c=c at*
 generalize hft:f.t=t at*
 clear hc hft
 obtain⟨tx,htx⟩:∃tx,tx=(textL c t).toArray:=⟨_,rfl⟩
 rw[←htx]at HTX
 have HLK:Hid (∀W,Below w.heap.size (w.alloc (.cells #[.int .i64 2,.int .i64 c,.slice ta t.length tcap,.slice ka kl kcap] 39)) W→(Instr.lookup 108 (.map (some mp)) (.string ⟨tx⟩) false).run Tryz.prog W= .ok (.int .i64 (atN am (c,t))) W):=Lib.hid fun W hW=>by
  rw[htx]
  exact(HP.out.keep (((HA.out.trans hW).block mp (by have:=HMP.out;omega)))).look HL.out
 clear htx
 go_enter Tryz.func55,Tryz.ntmps55
 go_wp2_with fail
 have hq1:w.heap.size<(w.alloc (.cells #[.int .i64 2,.int .i64 c,.slice ta t.length tcap,.slice ka kl kcap] 39)).drew.heap.size:=by simp[World.drew]
 generalize hW1:w.alloc (.cells #[.int .i64 2,.int .i64 c,.slice ta t.length tcap,.slice ka kl kcap] 39)=W1 at*
 clear hW1
 go_region_held3 (fun w'=>w'.cell? ⟨M,3,none⟩=some (.map (some mp))∧w'.cell? ⟨w.heap.size,1,none⟩=some (.int .i64 c)∧w'.cell? ⟨w.heap.size,2,none⟩=some (.slice ta t.length tcap))
  (first | go_keep)
  (first
    | (go_at_call 86
       refine HTX.out.mono ?_
       rintro e w5 ⟨rfl,hb5⟩
       have l5:=HLK.out w5 (((Below.refl _ W1).drew).trans (hb5.mono (Nat.le_of_lt hq1)))
       have x3:w5.cell? ⟨M,3,none⟩=some (.map (some mp)):=(hb5.cell (p:=⟨M,3,none⟩) (Nat.lt_trans hnq hq1)).trans m3
       have x1:w5.cell? ⟨w.heap.size,1,none⟩=some (.int .i64 c):=(hb5.cell (p:=⟨w.heap.size,1,none⟩) hq1).trans b1
       have x2:w5.cell? ⟨w.heap.size,2,none⟩=some (.slice ta t.length tcap):=(hb5.cell (p:=⟨w.heap.size,2,none⟩) hq1).trans b2
       have hb6:=Lib.hid (((Below.refl _ W1).drew).trans (hb5.mono (Nat.le_of_lt hq1)))
       clear hb5))
 have HE:Hid (∃S',(∀b,S' b→S b∨w.heap.size≤b)∧LTo M K mp av N cl r S' w w5):=Lib.hid ⟨S,fun b hb=> .inl hb,(LTo.refl HS.out).below (HA.out.trans hb6.out)⟩
 clear l5 x3 x1 x2 hb6 HLK HTX HS HP
 go_wp2_with fail
 go_ret
 exact⟨rfl,HE.out⟩
theorem mkF_far {am:List (Int×List (Int×Int))}{n:Nat}{f:FT}{N:Nat}{cl:List (List Int)}(h:madeF n f=true)(hb:am.length+N+siz n f≤100000): -100000≤(mkF am n f N cl).lit∧(mkF am n f N cl).lit≤100000:=by
 have:=(mkF_fits am n f N cl h).2
 omega
theorem Tens.low {M:Nat}{w w':World}(h:Tens M w)(hb:Below M w w'):Tens M w':=h.up hb (Nat.le_refl _)
theorem lit_4 (am:List (Int×List (Int×Int)))(B M K mp:Nat)(av:Value)(hB:B≤M)(hmp:mp<M)(n:Nat)(IH:LitSaid am B M K mp av n)(f:FT)(cs:List Value)(N:Nat)(cl:List (List Int))(r:Option Nat)(S:Nat→Prop)(w:World)(h:FLies B w (n+1) f cs)(hm:madeF (n+1) f=true)(hS:LS M K mp av N cl r S w)(hp:Places am mp w)(ht:Tens M w)(hb1:am.length+N+siz (n+1) f≤100000)(hb2:cl.length+2*siz (n+1) f≤1000000)(h4:f.kind=4):
 Calls Tryz.prog 55 #[.pointer (some ⟨M,0,none⟩),.agg cs.toArray] w fun e w'=>e= .returned (.int .i64 (mkF am (n+1) f N cl).lit)∧∃S',(∀b,S' b→S b∨w.heap.size≤b)∧LTo M K mp av (mkF am (n+1) f N cl).n (mkF am (n+1) f N cl).cl r S' w w':=by
 obtain⟨ta,tcap,ka,kcap,rfl,hT,hl1,hl2,hks⟩:=h
 obtain⟨hk1,hkk⟩:=made_not hm h4
 have hs0:siz n (f.ks.getD 0 default)≤siz (n+1) f:=by
  have e1:=sizTo_succ n f.ks 0 (by omega)
  have e2:=sizTo_len n f
  rw[hk1]at e2
  rw[sizTo_zero,show(0:Nat)+1=1 from rfl]at e1
  omega
 rw[mkF_4 h4]
 have hmk:=made_kids hm 0 (by omega)
 have hfar:=mkF_far (cl:=cl) hmk (show am.length+N+siz n (f.ks.getD 0 default)≤100000 by omega)
 obtain⟨b,off,c0,c1,c2,c3,rfl,hbl,g0,g1,g2,g3,hf⟩:=hks 0 (by omega)
 obtain⟨ck,cc,cta,ctn,ctcap,cka,ckn,ckcap,rfl,rfl,rfl,rfl⟩:=hf.form
 have hMw:=hS.size
 have hA:Below w.heap.size w (w.alloc (.cells #[.int .i64 f.kind,.int .i64 f.c,.slice ta f.t.length tcap,.slice (some ⟨b,off,none⟩) f.ks.length kcap] 39)):=(Below.refl _ w).alloc (Nat.le_refl _) _
 have hih:=IH (f.ks.getD 0 default) _ N cl r S _ (hf.below (hA.mono (by omega))) hmk (hS.below hA) (hp.keep (hA.block mp (by omega))) (ht.low (hA.mono (Nat.le_of_lt hMw))) (by omega) (by omega)
 have HB:=box_start w f.kind f.c ta (some ⟨b,off,none⟩) f.t.length tcap f.ks.length kcap
 have b0:=HB.c0
 have b3:=HB.c3
 have hbw:b<w.heap.size:=by omega
 rw[←hA.cell (p:=⟨b,_,none⟩) hbw]at g0 g1 g2 g3
 have HA:=Lib.hid hA
 have HIH:=Lib.hid hih
 clear hks hT hmk hf hih IH hS hp ht HB hA hs0 hb1 hb2 hm hl1 hl2 hkk
 rw[h4]at*
 rw[hk1]at*
 clear hk1 h4
 generalize mkF am n (f.ks.getD 0 default) N cl=q at*
 have hw:IntKind.i64.wrap (-q.lit)= -q.lit:=IntWalk.i64_in _ (by omega)
 simp only[Nat.zero_mul,Nat.add_zero]at g0 g1 g2 g3
 generalize f.c=fc at*
 generalize f.t.length=ft at*
 go_enter Tryz.func55,Tryz.ntmps55
 go_wp2_with fail
 generalize w.alloc (.cells #[.int .i64 4,.int .i64 fc,.slice ta ft tcap,.slice (some ⟨b,off,none⟩) 1 kcap] 39)=W1 at*
 refine HIH.out.mono ?_
 rintro e w2 ⟨rfl,S',hS1,r2,hL,hr,hK⟩
 have HE:Hid (∃S',(∀b,S' b→S b∨w.heap.size≤b)∧LTo M K mp av q.n q.cl r S' w w2):=Lib.hid ⟨S',fun b hb=>(hS1 b hb).imp id (fun h=>Nat.le_trans HA.out.size h),r2,hL,next_trans (.inl rfl) HA.out.size hr,keptW_trans (.inl rfl) (.of_below HA.out) hK⟩
 clear hS1 hL hr hK g0 g1 g2 g3 b0 b3 HIH HA
 go_wp2_with fail
 go_ret
 exact⟨rfl,HE.out⟩
end
section
open Go.RowKit
structure KeptG (M mp:Nat)(r:Option Nat)(w w':World):Prop where
 os:w'.os=w.os
 tape:w'.tape=w.tape
 output:w'.output=w.output
 size:w.heap.size≤w'.heap.size
 block:∀q,q<w.heap.size→q≠M→q≠mp→some q≠r→w'.heap[q]? =w.heap[q]?
theorem KeptG.of_below {M mp:Nat}{r:Option Nat}{w w':World}(hb:Below w.heap.size w w'):KeptG M mp r w w':=⟨hb.os,hb.tape,hb.output,hb.size,fun q hq _ _ _=>hb.block q hq⟩
theorem keptG_trans {M mp:Nat}{r r':Option Nat}{w w1 w2:World}(hr:r'=r∨∃q,r'=some q∧w.heap.size≤q)(h:KeptG M mp r w w1)(k:KeptG M mp r' w1 w2):KeptG M mp r w w2:=
 ⟨k.os.trans h.os,k.tape.trans h.tape,k.output.trans h.output,Nat.le_trans h.size k.size,fun q hq h1 h2 h3=>(k.block q (Nat.lt_of_lt_of_le hq h.size) h1 h2 (fun e=>by
   rcases hr with rfl | ⟨p,rfl,hp⟩
   ·exact h3 e
   ·injection e with e;omega)).trans (h.block q hq h1 h2 h3)⟩
structure GS (M K mp:Nat)(am:List (Int×List (Int×Int)))(r:Option Nat)(S:Nat→Prop)(w:World):Prop where
 c0:w.cell? ⟨M,0,none⟩=some (.int .i64 0)
 ex:∃v,w.cell? ⟨M,1,none⟩=some v∧v.ownBlock=r∧OwnP linSh 36 K S am v w
 c2:w.cell? ⟨M,2,none⟩=some (.slice none 0 0)
 c3:w.cell? ⟨M,3,none⟩=some (.map (some mp))
 lo:∀b,S b→K≤b
 fz:∀j,w.frozen? ⟨M,j,none⟩=false
 lt:mp<M∧M<K∧K≤w.heap.size
 pl:Places am mp w
 nf:∀b,S b→∀o,w.frozen? ⟨b,o,none⟩=false
def GTo (M K mp:Nat)(am:List (Int×List (Int×Int)))(r:Option Nat)(S':Nat→Prop)(w w':World):Prop:=∃r',GS M K mp am r' S' w'∧(r'=r∨∃q,r'=some q∧w.heap.size≤q)∧KeptG M mp r w w'
section
variable {M K mp:Nat} {am:List (Int×List (Int×Int))} {r r':Option Nat} {S:Nat→Prop} {w w1 w2 w':World}
theorem GTo.refl (h:GS M K mp am r S w):GTo M K mp am r S w w:=⟨r,h,.inl rfl,.of_below (Below.refl _ _)⟩
theorem GS.size (h:GS M K mp am r S w):M<w.heap.size:=Nat.lt_of_lt_of_le h.lt.2.1 h.lt.2.2
theorem GS.row (h:GS M K mp am r S w):∀q,r=some q→K≤q∧q<w.heap.size∧¬S q:=fun q hq=>by
 obtain⟨v,h1,h2,h3⟩:=h.ex
 exact⟨(h3.lt q (h2.trans hq)).1,(h3.lt q (h2.trans hq)).2,fun hs=>(h3.ok q hs).2 (h2.trans hq)⟩
theorem GS.ok (h:GS M K mp am r S w):∀b,S b→b<w.heap.size:=fun b hb=>by
 obtain⟨v,h1,h2,h3⟩:=h.ex
 exact(h3.ok b hb).1
theorem GS.keep (h:GS M K mp am r S w)(hsz:w.heap.size≤w'.heap.size)(hM:w'.heap[M]? =w.heap[M]?)(hmp:w'.heap[mp]? =w.heap[mp]?)(hk:∀q,(S q∨r=some q)→w'.heap[q]? =w.heap[q]?):GS M K mp am r S w':=by
 obtain⟨v,h1,h2,h3⟩:=h.ex
 have c:=fun j=>World.cell?_of_block (a:=⟨M,j,none⟩) hM
 exact⟨(c 0).trans h.c0,⟨v,(c 1).trans h1,h2,h3.keep hsz (fun q hq=>hk q (by rw[←h2];exact hq))⟩,(c 2).trans h.c2,(c 3).trans h.c3,h.lo,fun j=>(World.frozen?_of_block (a:=⟨M,j,none⟩) hM).trans (h.fz j),⟨h.lt.1,h.lt.2.1,Nat.le_trans h.lt.2.2 hsz⟩,h.pl.keep hmp,fun b hb o=>(World.frozen?_of_block (a:=⟨b,o,none⟩) (hk b (.inl hb))).trans (h.nf b hb o)⟩
theorem GS.below (h:GS M K mp am r S w)(hb:Below w.heap.size w w'):GS M K mp am r S w':=
 h.keep hb.size (hb.block M h.size) (hb.block mp (Nat.lt_trans h.lt.1 h.size)) (fun q hq=>hb.block q (by
  rcases hq with hq | hq
  ·exact h.ok q hq
  ·exact(h.row q hq).2.1))
theorem GS.low (hs:GS M K mp am r S w)(k3:KeptG M mp r w w'):Below mp w w':=by
 have h1:=hs.lt
 exact⟨k3.os,k3.tape,k3.output,k3.size,fun q hq=>k3.block q (by omega) (by omega) (by omega) (fun e=>by have:=hs.row q e.symm;omega)⟩
theorem GS.add {a:Option Addr}{n cap:Nat}{c:Int}{t:List (Int×Int)}{Sx:Nat→Prop}(h:GS M K mp am r S w)(hn:am.length≤1000000)(h0:atN am (c,t)=0)(htn:t.length=n)(hs:(textL c t).length≤4000)(hx:LiesS Sx w a t)(hSx:∀b,Sx b→K≤b∧b<w.heap.size∧r≠some b)(hNx:∀b,Sx b→∀o,w.frozen? ⟨b,o,none⟩=false):
 ∃v a6 n6 c6 w6 w8,n6=am.length+1∧w.cell? ⟨M,1,none⟩=some v∧(∀ty,(Builtin.append_ #[22,22] ty #[v,.slice (some ⟨w.heap.size,0,none⟩) 1 1]).run Tryz.prog (w.alloc (.cells #[.int .i64 c,.slice a n cap] 36))= .ok (.slice a6 n6 c6) w6)∧w6.cell? ⟨M,1,none⟩=some v∧w6.frozen? ⟨M,1,none⟩=false∧
  (w6.setCell ⟨M,1,none⟩ (.slice a6 n6 c6)).cell? ⟨M,1,none⟩=some (.slice a6 n6 c6)∧(w6.setCell ⟨M,1,none⟩ (.slice a6 n6 c6)).cell? ⟨M,3,none⟩=some (.map (some mp))∧
  (Instr.mapUpdate 108 (.map (some mp)) (.string ⟨(textL c t).toArray⟩) (.int .i64 (n6:Nat))).run Tryz.prog (w6.setCell ⟨M,1,none⟩ (.slice a6 n6 c6)).drew= .ok () w8∧GTo M K mp (am ++ [(c,t)]) r (fun b=>S b∨Sx b) w w8:=by
 obtain⟨v,h1,h2,h3⟩:=h.ex
 have h4:=h.lo
 have hl:=h.lt
 obtain⟨v6,w6,hr,k1,k2,k3⟩:=h3.put (P:=Tryz.prog) (t:=22) (x:=(c,t)) (cs:=[.int .i64 c,.slice a n cap]) (Sx:=Sx) Tryz.underlying22 (by':=32) (by kernel_rfl) (by decide) (by decide) (by omega) hl.2.2 ⟨a,cap,by rw[htn],hx⟩ (fun b hb=>⟨(hSx b hb).2.1,by rw[h2];exact(hSx b hb).2.2⟩)
 have hrM:v.ownBlock≠some M:=fun e=>by have:=(h3.lt M e).1;omega
 have hrm:v.ownBlock≠some mp:=fun e=>by have:=(h3.lt mp e).1;omega
 have hlt:M<w.heap.size:=by omega
 have hg6:w6.heap[M]? =w.heap[M]? :=k2.block M hlt (fun e=>hrM e.symm)
 have hm6:w6.heap[mp]? =w.heap[mp]? :=k2.block mp (by omega) (fun e=>hrm e.symm)
 have cc:=fun j=>World.cell?_of_block (a:=⟨M,j,none⟩) hg6
 have hs6:=k2.size
 have hsz:(w6.setCell ⟨M,1,none⟩ v6).heap.size=w6.heap.size:=by simp[World.setCell]
 have k4:∀b,S b∨Sx b→K≤b:=fun b hb=>by
  rcases hb with hb | hb
  ·exact h4 b hb
  ·exact(hSx b hb).1
 have hv6:∀q,v6.ownBlock=some q→K≤q:=fun q hq=>(k1.lt q hq).1
 obtain⟨a6,c6,e6⟩:=k1.form
 rw[List.length_append]at e6
 obtain⟨n6,hn6⟩:∃n6,n6=am.length+1:=⟨_,rfl⟩
 rw[show am.length+[(c,t)].length=n6 by rw[hn6];rfl]at e6
 have hp7:Places am mp (w6.setCell ⟨M,1,none⟩ v6):=h.pl.keep ((Below.heap_setCell _ _ _ _ (show mp≠M by omega)).trans hm6)
 have hd7:Below (w6.setCell ⟨M,1,none⟩ v6).heap.size (w6.setCell ⟨M,1,none⟩ v6) (w6.setCell ⟨M,1,none⟩ v6).drew:=(Below.refl _ _).drew
 obtain⟨w8,hu,p8,g8'⟩:=(hp7.keep (w':=(w6.setCell ⟨M,1,none⟩ v6).drew) rfl).put hs hn h0
 have g8:(w6.setCell ⟨M,1,none⟩ v6).grownBy w8 (some mp):=⟨g8'.os.trans hd7.os,g8'.tape.trans hd7.tape,g8'.output.trans hd7.output,Nat.le_trans hd7.size g8'.size,fun q hq hne=>(g8'.block q (Nat.lt_of_lt_of_le hq hd7.size) hne).trans (hd7.block q hq)⟩
 rw[←hn6]at hu
 have hne:M≠mp:=by omega
 have z8:=g8.size
 have b8:∀q,q<w6.heap.size→q≠mp→w8.heap[q]? =(w6.setCell ⟨M,1,none⟩ v6).heap[q]? :=fun q hq hne=>g8.block q (by rw[hsz];exact hq) (fun e=>by injection e with e;exact hne e)
 have hM6:M<w6.heap.size:=by omega
 have x8:=fun j=>World.cell?_of_block (a:=⟨M,j,none⟩) (b8 M hM6 hne)
 have f8:=fun j=>World.frozen?_of_block (a:=⟨M,j,none⟩) (b8 M hM6 hne)
 have s1:(w6.setCell ⟨M,1,none⟩ v6).cell? ⟨M,1,none⟩=some v6:=World.cell?_setCell_same' _ _ _ (by rw[cc 1,h1];rfl)
 have s3:(w6.setCell ⟨M,1,none⟩ v6).cell? ⟨M,3,none⟩=some (.map (some mp)):=(World.cell?_setCell_other w6 ⟨M,1,none⟩ ⟨M,3,none⟩ _ (by simp)).trans ((cc 3).trans h.c3)
 have ow7:OwnP linSh 36 K (fun b=>S b∨Sx b) (am ++ [(c,t)]) v6 (w6.setCell ⟨M,1,none⟩ v6):=k1.grown (grown_set _) (fun q hq=>by
  injection hq with hq
  subst hq
  exact⟨fun hb=>by have:=k4 M hb;omega,fun e=>by have:=hv6 M e;omega⟩)
 have ow8:OwnP linSh 36 K (fun b=>S b∨Sx b) (am ++ [(c,t)]) v6 w8:=ow7.grown g8 (fun q hq=>by
  injection hq with hq
  subst hq
  exact⟨fun hb=>by have:=k4 mp hb;omega,fun e=>by have:=hv6 mp e;omega⟩)
 rw[hsz]at z8
 subst e6
 refine⟨v,a6,n6,c6,w6,w8,hn6,h1,hr,(cc 1).trans h1,(World.frozen?_of_block (a:=⟨M,1,none⟩) hg6).trans (h.fz 1),s1,s3,hu,Value.ownBlock (.slice a6 n6 c6),⟨(x8 0).trans ((World.cell?_setCell_other w6 ⟨M,1,none⟩ ⟨M,0,none⟩ _ (by simp)).trans ((cc 0).trans h.c0)),⟨_,(x8 1).trans s1,rfl,ow8⟩,(x8 2).trans ((World.cell?_setCell_other w6 ⟨M,1,none⟩ ⟨M,2,none⟩ _ (by simp)).trans ((cc 2).trans h.c2)),(x8 3).trans s3,k4,fun j=> ?_,⟨hl.1,hl.2.1,by omega⟩,p8,fun b hb o=> ?_⟩,by rw[←h2];exact k3,⟨g8.os.trans k2.os,g8.tape.trans k2.tape,g8.output.trans k2.output,by omega,fun q hq h5 h6 h7=> ?_⟩⟩
 ·rw[f8 j,World.frozen?_setCell,World.frozen?_of_block (a:=⟨M,j,none⟩) hg6]
  exact h.fz j
 ·have hbz:b<w.heap.size∧v.ownBlock≠some b:=by
   rcases hb with hb | hb
   ·exact h3.ok b hb
   ·exact⟨(hSx b hb).2.1,by rw[h2];exact(hSx b hb).2.2⟩
  have hKb:=k4 b hb
  rw[World.frozen?_of_block (a:=⟨b,o,none⟩) (b8 b (by omega) (by omega)),World.frozen?_setCell,World.frozen?_of_block (a:=⟨b,o,none⟩) (k2.block b hbz.1 (fun e=>hbz.2 e.symm))]
  rcases hb with hb | hb
  ·exact h.nf b hb o
  ·exact hNx b hb o
 ·rw[b8 q (by omega) h6,Below.heap_setCell _ _ _ _ h5,k2.block q hq (by rw[h2];exact h7)]
end
end
section
open Go.RowKit
theorem step_append_run {P:Program}{ops:Array Oper}{o:Oper}{a:Act}{w:World}{K:Act→World→Prop}{Q:Exit→Act→World→Prop}{E:Prop}
 (hg:o.guard=none) (s x:Operand) (t:TypeId) (hop:o.op=Op.call { callee:=Callee.builtin Builtin.append,args:= #[s,x],argTypes:= #[t,t] })
 (v1 v2 v':Value) (w':World) (h1:a.eval s=v1) (h2:a.eval x=v2) (hr:∀ty,(Builtin.append_ #[t,t] ty #[v1,v2]).run P w= .ok v' w') (hK:K (a.put o.dst v') w'):
 if Region.wanted o (yielded ops a.tmps)=true then Oper.wp P o a w K Q else E:=by
 have hw:Region.wanted o (yielded ops a.tmps)=true:=by simp[Region.wanted,hg]
 rw[if_pos hw]
 unfold Oper.wp
 simp[execOp,hop,resolve,invoke,builtin,h1,h2,hr,Result.andThen]
 exact hK
theorem Row.liesS {B:Nat}{l:List (Int×Int)}{v:Value}{w:World}(h:Row B l v w):∃a cap,v= .slice a l.length cap∧LiesS (fun b=>B≤b∧b<w.heap.size∧∀o,w.frozen? ⟨b,o,none⟩=false) w a l:=by
 obtain⟨a,cap,rfl,hl,_⟩:=h.lies
 refine⟨a,cap,rfl,fun i hi=> ?_⟩
 obtain⟨b,off,rfl,hb,g0,g1⟩:=hl i hi
 refine⟨b,off,rfl,⟨(World.ownsRow.lt h b rfl).1,hb,fun o=> ?_⟩,g0,g1⟩
 obtain⟨_,⟨e,_⟩ | ⟨g,cap',cur,e,_,hh,_⟩⟩:=h
 ·injection e with e;cases e
 ·injection e with e1
  injection e1 with e1
  injection e1 with e1
  subst e1
  exact frozen_of_row _ _ _ _ _ hh
theorem clone_any (a:Option Addr)(n cap:Nat)(l:List (Int×Int))(w:World)(hn:l.length=n)(hm:n≤8192)(hl:Lies w.heap.size w a l):
 Calls Tryz.prog 49 #[.slice a n cap] w (RowEnd w.heap.size l w):=by
 have he:=fun W:World=>Lib.run_eql_slice_nil (P:=Tryz.prog) W 34 92 a n cap 0 0 Tryz.underlying34
 cases a with
 | none=>
   have hn0:n=0:=by
    cases n with
    | zero=>rfl
    | succ n=>obtain⟨_,_,e,_⟩:=hl 0 (by omega);cases e
   subst hn0
   have HN:=Lib.hid hn
   clear hn hl
   go_enter Tryz.func49,Tryz.ntmps49
   go_wp2_with fail
   go_ret
   exact⟨_,rfl,by rw[List.eq_nil_of_length_eq_zero HN.out];exact World.ownsRow_nil _ _ _ _,Below.refl _ _⟩
 | some a=>
   obtain⟨i0,hi,hz0,hz1,hz2⟩:=Pak.info_parts Tryz.infoMono
   have HN:=Lib.hid hn
   have HL:=Lib.hid hl
   clear hn hl
   go_enter Tryz.func49,Tryz.ntmps49
   have hown:(w.alloc (.cells #[] 92)).ownsRow w.heap.size 92 2 (.slice (some ⟨w.heap.size,0,none⟩) 0 0) 0 []:=World.ownsRow_made w #[] 0 (Nat.le_refl _) (by decide) rfl
   have HB:=Lib.hid ((Below.refl w.heap.size w).alloc (Nat.le_refl _) (.cells #[] 92))
   go_wp2_with (at_builtin;refine wpList_append_own _ rfl _ _ 34 rfl w.heap.size 92 i0 _ 2 16 Tryz.underlying34 hi hz0 hz1 hz2 rfl (by decide) _ _ _ rfl hown a n cap (flat l) rfl ?c1 ?c2 ?c3 ?c4 ?c5 ?c6 ?_)
   case c1=>rw[flat_len,HN.out]
   case c2=>exact(HL.out.below HB.out).news
   case c3=>exact flat_cells l
   case c4=>unfold maxLen;omega
   case c5=>omega
   case c6=>simp
   intro v' w1 hown' hgrow _
   go_wp2_with fail
   go_ret
   refine⟨_,rfl, ?_,HB.out.grown hgrow (by simp) (fun k hk=>(hown.lt k hk).1)⟩
   unfold Row
   rw[HN.out]
   simpa using hown'
def GEnd (M K mp:Nat)(am:List (Int×List (Int×Int)))(r:Option Nat)(S:Nat→Prop)(w w':World):Prop:=∃S',(∀b,S' b→S b∨w.heap.size≤b)∧GTo M K mp am r S' w w'
def GatSaid (B M K mp:Nat)(n:Nat):Prop:=
 ∀(f:FT) (cs:List Value) (am:List (Int×List (Int×Int))) (r:Option Nat) (S:Nat→Prop) (w:World),FLies B w n f cs→madeF n f=true→GS M K mp am r S w→Tens mp w→am.length+siz n f≤100000→
  Calls Tryz.prog 53 #[.pointer (some ⟨M,0,none⟩),.agg cs.toArray] w fun e w'=>e= .returned (.tuple #[])∧GEnd M K mp (gatF n f am) r S w w'
theorem gat_2 (B M K mp:Nat)(hB:B≤mp)(n:Nat)(f:FT)(cs:List Value)(am:List (Int×List (Int×Int)))(r:Option Nat)(S:Nat→Prop)(w:World)(h:FLies B w (n+1) f cs)(hm:madeF (n+1) f=true)(hS:GS M K mp am r S w)(ht:Tens mp w)(hb:am.length+siz (n+1) f≤100000)(h2:f.kind=2):
 Calls Tryz.prog 53 #[.pointer (some ⟨M,0,none⟩),.agg cs.toArray] w fun e w'=>e= .returned (.tuple #[])∧GEnd M K mp (gatF (n+1) f am) r S w w':=by
 obtain⟨ta,tcap,ka,kcap,rfl,hT,_,_,_⟩:=h
 obtain⟨hsn,hk0⟩:=made_snd hm h2
 have HG:Hid (gatF (n+1) f am=addA am (f.c,f.t)):=by
  show _=_
  rw[gatTo_len,if_pos h2,hk0,gatTo_zero]
 have hlt:=hS.lt
 have hMw:=hS.size
 have hA:Below w.heap.size w (w.alloc (.cells #[.int .i64 f.kind,.int .i64 f.c,.slice ta f.t.length tcap,.slice ka f.ks.length kcap] 39)):=(Below.refl _ w).alloc (Nat.le_refl _) _
 have HB:=box_start w f.kind f.c ta ka f.t.length tcap f.ks.length kcap
 have hl3:=textL_len hsn f.t.length (Nat.le_refl _)
 rw[List.take_length]at hl3
 have ht64:=(snd_iff.1 hsn).2.1
 have HTX:=Lib.hid (text_any f.c ta f.t.length tcap f.t (w.alloc (.cells #[.int .i64 f.kind,.int .i64 f.c,.slice ta f.t.length tcap,.slice ka f.ks.length kcap] 39)) rfl ((hT.below (hA.mono (by omega))).mono (Nat.le_trans (show B≤w.heap.size by omega) hA.size)) hsn (ht.up (hA.mono (by omega)) (Nat.le_trans (show mp≤w.heap.size by omega) hA.size)))
 have HLI:=Lib.hid ((hT.below (hA.mono (by omega))).mono (Nat.le_trans (show B≤w.heap.size by omega) hA.size))
 have HS:=Lib.hid (hS.below hA)
 have HA:=Lib.hid hA
 have HLT:=Lib.hid hlt
 have HL:=Lib.hid hl3
 have HAM:=Lib.hid (show am.length≤1000000 by omega)
 have hq1:w.heap.size<(w.alloc (.cells #[.int .i64 f.kind,.int .i64 f.c,.slice ta f.t.length tcap,.slice ka f.ks.length kcap] 39)).heap.size:=by simp
 have HQ1:=Lib.hid hq1
 have HKW:=Lib.hid (show K≤w.heap.size from hlt.2.2)
 have HRW:=Lib.hid (fun q (e:r=some q)=>(hS.row q e).2.1)
 have b0:=HB.c0
 have b1:=HB.c1
 have b2:=HB.c2
 have b3:=HB.c3
 rw[h2]at*
 rw[hk0]at*
 clear h2 hk0 hsn hT hl3 hS hA HB hm ht hB hb hMw hlt hq1
 rw[HG.out]
 clear HG
 generalize hc:f.c=c at*
 generalize hft:f.t=t at*
 clear hc hft
 obtain⟨tx,htx⟩:∃tx,tx=(textL c t).toArray:=⟨_,rfl⟩
 rw[←htx]at HTX
 have HTE:=Lib.hid htx
 have HLK:Hid (∀W,GS M K mp am r S W→(Instr.lookup 108 (.map (some mp)) (.string ⟨tx⟩) false).run Tryz.prog W= .ok (.int .i64 (atN am (c,t))) W):=Lib.hid fun W hW=>by
  rw[htx]
  exact hW.pl.look HL.out
 clear htx
 generalize f.ks=fks at*
 go_enter Tryz.func53,Tryz.ntmps53
 go_wp2_with fail
 clear b3
 generalize w.alloc (.cells #[.int .i64 2,.int .i64 c,.slice ta t.length tcap,.slice ka 0 kcap] 39)=W1 at*
 go_loopw [10] (fun i wr=>i= .int .i64 0∧Hid (wr=W1)) (fun _ _=>0)
 case atStart=>exact⟨rfl,rfl⟩
 case round=>
  obtain⟨rfl,hw⟩:=hrel
  obtain rfl:=hw.out
  clear hw
  go_wp2_with fail
  refine HTX.out.mono ?_
  rintro e w2 ⟨rfl,hb2⟩
  have hS2:=HS.out.below hb2
  have c1:=(hb2.cell (p:=⟨w.heap.size,1,none⟩) HQ1.out).trans b1
  have c2:=(hb2.cell (p:=⟨w.heap.size,2,none⟩) HQ1.out).trans b2
  have m3:=hS2.c3
  have l2:=HLK.out w2 hS2
  have HS2:=Lib.hid hS2
  have HB2:=Lib.hid hb2
  have HZ2:=Lib.hid hb2.size
  have HLI2:=Lib.hid ((HLI.out.below hb2).mono hb2.size)
  clear hb2 hS2 HTX HLI b0 b1 b2
  by_cases h0:atN am (c,t)=0
  ·rw[h0]at l2
   obtain⟨v,mv,_⟩:=HS2.out.ex
   have HCL:=Lib.hid (fun W (hb:Below w2.heap.size w2 W)=>clone_any ta t.length tcap t W rfl (by omega) ((HLI2.out.below hb).mono hb.size))
   have hMw2:M<w2.heap.size:=HS2.out.size
   have HMW2:=Lib.hid hMw2
   have hqw2:w.heap.size<w2.heap.size:=Nat.lt_of_lt_of_le HQ1.out HZ2.out
   have HQW2:=Lib.hid hqw2
   have QA:Hid (∀W,Below w2.heap.size w2 W→W.cell? ⟨M,1,none⟩=some v∧W.cell? ⟨w.heap.size,1,none⟩=some (.int .i64 c)∧W.cell? ⟨w.heap.size,2,none⟩=some (.slice ta t.length tcap)):=fun W hb=>⟨(hb.cell (p:=⟨M,1,none⟩) HMW2.out).trans mv,(hb.cell (p:=⟨w.heap.size,1,none⟩) HQW2.out).trans c1,(hb.cell (p:=⟨w.heap.size,2,none⟩) HQW2.out).trans c2⟩
   have HADD:=Lib.hid (fun(w5:World) (hb:Below w2.heap.size w2 w5) (a5:Option Addr) (cap5:Nat) (hx:LiesS (fun b=>w2.heap.size≤b∧b<w5.heap.size∧∀o,w5.frozen? ⟨b,o,none⟩=false) w5 a5 t)=>(HS2.out.below hb).add (n:=t.length) (cap:=cap5) HAM.out h0 rfl HL.out hx (fun b hbb=>⟨by have:=HKW.out;have:=HZ2.out;have:=hbb.1;omega,hbb.2.1,fun e=>by have:=HRW.out b e;have:=hbb.1;omega⟩) (fun b hbb=>hbb.2.2))
   clear hMw2 hqw2
   go_wp2_with fail
   go_region_law (first
    | (refine step_append_run (by rfl) _ _ _ (by rfl) _ _ _ w6 (by rfl) (by rfl) HRUN.out ?_)
    | (go_simp
       go_at_call 49
       refine(HCL.out _ (Below.refl _ w2).drew).mono ?_
       rintro e w5 ⟨v5,rfl,hrow5,hb5⟩
       obtain⟨a5,cap5,rfl,hl5⟩:=hrow5.liesS
       have HB5:Hid (Below w2.heap.size w2 w5):=(Below.refl _ w2).drew.trans hb5
       obtain⟨v9,a6,n6,c6,w6,w8,hn6,hv9,hrun,m6,f6,m7,x7,hup,hG8⟩:=HADD.out w5 HB5.out a5 cap5 hl5
       have r0:=(QA.out _ HB5.out).1
       have r1:=(QA.out _ HB5.out).2.1
       have r2:=(QA.out _ HB5.out).2.2
       obtain rfl:v=v9:=Option.some.inj (r0.symm.trans hv9)
       have r0a:(w5.alloc (.cells #[.int .i64 c,.slice a5 t.length cap5] 36)).cell? ⟨M,1,none⟩=some v:=(QA.out _ (HB5.out.trans ((Below.refl _ w5).alloc (Nat.le_refl _) _ |>.mono HB5.out.size))).1
       have HRUN:=Lib.hid hrun
       have HG8:=Lib.hid hG8
       have HUP:=Lib.hid hup
       have HN6:=Lib.hid hn6
       clear hrow5 hl5 hb5 hrun hG8 hup hn6 hv9))
   all_goals
    have HE:Hid (GEnd M K mp (addA am (c,t)) r S w w8):=Lib.hid (by
     obtain⟨r8,g1,g2,g3⟩:=HG8.out
     refine⟨_,fun b hb=> ?_,r8,by unfold addA;rw[if_pos h0];exact g1,next_trans (.inl rfl) (Nat.le_trans HA.out.size (Nat.le_trans HZ2.out HB5.out.size)) g2,keptG_trans (.inl rfl) (.of_below HA.out) (keptG_trans (.inl rfl) (.of_below HB2.out) (keptG_trans (.inl rfl) (.of_below HB5.out) g3))⟩
     rcases hb with hb | hb
     ·exact .inl hb
     ·exact .inr (by have:=hb.1;have:=HQW2.out;omega))
    have hup:=HUP.out
    rw[←HTE.out]at hup
    clear HG8 HUP HRUN r0 r1 r2 r0a m6 f6 QA HCL HADD HLK HS2 HLI2 HB2 HB5 mv c1 c2 l2 m3
    generalize w6.setCell ⟨M,1,none⟩ (.slice a6 n6 c6)=w7 at*
    go_wp2_with fail
    go_region
    all_goals
     go_end0
     exact⟨rfl,HE.out⟩
  ·have h00:((atN am (c,t):Nat):Int) == 0↔False:=by simp[h0]
   have HE:Hid (GEnd M K mp (addA am (c,t)) r S w w2):=Lib.hid ⟨S,fun b hb=> .inl hb,r,by unfold addA;rw[if_neg h0];exact HS2.out,.inl rfl,keptG_trans (.inl rfl) (.of_below HA.out) (.of_below HB2.out)⟩
   have h01:(((atN am (c,t):Nat):Int) == 0)=false:=by simp[h0]
   clear h00 HS2 HLK HLI2
   generalize ((atN am (c,t):Nat):Int)=z at*
   go_wp2_with fail
   go_end0
   exact⟨rfl,HE.out⟩
end
section
open Go.RowKit
structure KS (am:List (Int×List (Int×Int)))(M K mp:Nat)(av:Value)(p:Nat×List (List Int)×List Int)(r:Option Nat)(S:Nat→Prop)(W1:World)(o:Value)(r':Option Nat)(S':Nat→Prop)(wr:World):Prop where
 ls:LS M K mp av p.1 p.2.1 r' S' wr
 rr:r'=r∨∃q,r'=some q∧W1.heap.size≤q
 kp:Pak.KeptW M r W1 wr
 sl:∀b,S' b→S b∨W1.heap.size≤b
 ow:OwnP Pak.intSh 3 K (fun _=>False) p.2.2 o wr
 ob:∀q,o.ownBlock=some q→W1.heap.size≤q∧r'≠some q∧¬S' q
theorem KS.start {am:List (Int×List (Int×Int))}{M K mp:Nat}{av:Value}{N:Nat}{cl:List (List Int)}{r:Option Nat}{S:Nat→Prop}{W1:World}(h:LS M K mp av N cl r S W1):KS am M K mp av (N,cl,[]) r S W1 (.slice none 0 0) r S W1:=
 ⟨h,.inl rfl,.of_below (Below.refl _ _),fun b hb=> .inl hb,OwnP.nil _ _ _ _,fun q hq=>by cases hq⟩
theorem KS.step {am:List (Int×List (Int×Int))}{M K mp:Nat}{av:Value}{p:Nat×List (List Int)×List Int}{r:Option Nat}{S:Nat→Prop}{W1:World}{o:Value}{r':Option Nat}{S':Nat→Prop}{wr wa w3:World}(h:KS am M K mp av p r S W1 o r' S' wr)(hA:Below wr.heap.size wr wa){N3:Nat}{cl3:List (List Int)}{S3:Nat→Prop}(hS3:∀b,S3 b→S' b∨wa.heap.size≤b)(h3:LTo M K mp av N3 cl3 r' S3 wa w3)(hn:p.2.2.length≤100000){x:Int}(hx: -9223372036854775808≤x∧x≤9223372036854775807):
 ∃a4 n4 c4 w4 r4,(∀ty,(Builtin.append_ #[23,23] ty #[o,.slice (some ⟨w3.heap.size,0,none⟩) 1 1]).run Tryz.prog (w3.alloc (.cells #[.int .i64 x] 3))= .ok (.slice a4 n4 c4) w4)∧KS am M K mp av (N3,cl3,p.2.2 ++ [x]) r S W1 (.slice a4 n4 c4) r4 S3 w4:=by
 obtain⟨r3,hL3,hr3,hK3⟩:=h3
 have hM:=h.ls.lt
 have hoa:=h.ow.below hA
 have hol:=fun q e=>(hoa.lt q e)
 have hol2:=fun q e=>(h.ow.lt q e).2
 have hA1:=hA.size
 have hW1:=h.kp.size
 have h31:=hK3.size
 have ho3:=hoa.keptW hK3 ⟨fun h=>h,fun e=>by have:=(hol M e).1;omega⟩ (fun q e=>⟨fun h=>h,fun e2=>(h.ob q e2).2.1 e⟩)
 obtain⟨v4,w4,hr4,hO4,hg4,hv4⟩:=ho3.put (P:=Tryz.prog) (t:=23) (x:=x) (cs:=[.int .i64 x]) (Sx:=fun _=>False) Tryz.underlying23 (by':=8) (by kernel_rfl) (by decide) (by decide) (by omega) hL3.lt.2 ⟨rfl,hx⟩ (fun b hb=>hb.elim)
 have hfar:∀q,o.ownBlock=some q→r3≠some q∧¬S3 q:=fun q e=>by
  obtain⟨q1,q2,q3⟩:=h.ob q e
  have q4:=hol2 q e
  refine⟨fun hh=> ?_,fun hh=> ?_⟩
  ·rcases hr3 with rfl | ⟨p,rfl,hp⟩
   ·exact q2 hh
   ·injection hh with hh;omega
  ·rcases hS3 q hh with hh | hh
   ·exact q3 hh
   ·omega
 have hL4:=hL3.grown hg4 (fun q e=>⟨by have:=(hol q e).1;omega,(hfar q e).2,(hfar q e).1⟩)
 have hKa:Pak.KeptW M r W1 w3:=keptW_trans h.rr (keptW_trans h.rr h.kp (.of_below hA)) hK3
 have hK4:Pak.KeptW M r W1 w4:=⟨hg4.os.trans hKa.os,hg4.tape.trans hKa.tape,hg4.output.trans hKa.output,Nat.le_trans hKa.size hg4.size,fun q hq a1 a2=>(hg4.block q (Nat.lt_of_lt_of_le hq hKa.size) (fun e=>by have:=(h.ob q e.symm).1;omega)).trans (hKa.block q hq a1 a2)⟩
 obtain⟨a4,c4,e4⟩:=hO4.form
 generalize hn4:(p.2.2 ++ [x]).length=n4 at e4
 subst e4
 refine⟨a4,n4,c4,w4,r3,hr4,hL4,next_trans h.rr (Nat.le_trans hW1 hA1) hr3,hK4,fun b hb=> ?_,hO4.more (fun b hb=>by rcases hb with hb | hb<;>exact hb) (fun b hb=>hb.elim),fun q e=> ?_⟩
 ·rcases hS3 b hb with hb | hb
  ·exact h.sl b hb
  ·right;omega
 ·rcases hv4 with hv4 | ⟨u,hv4,hu⟩
  ·have e2:=hv4.symm.trans e
   exact⟨(h.ob q e2).1,(hfar q e2).1,(hfar q e2).2⟩
  ·rw[hv4]at e
   injection e with e
   subst e
   exact⟨by omega,fun h=>by have:=(hL3.row _ h).2.1;omega,fun h=>by have:=hL3.ok _ h;omega⟩
theorem KS.cast {am:List (Int×List (Int×Int))}{M K mp:Nat}{av:Value}{p p':Nat×List (List Int)×List Int}{r:Option Nat}{S:Nat→Prop}{W1:World}{o:Value}{r':Option Nat}{S':Nat→Prop}{wr:World}(h:KS am M K mp av p r S W1 o r' S' wr)(e:p=p'):KS am M K mp av p' r S W1 o r' S' wr:=e ▸ h
def XEnd (M K mp:Nat)(av:Value)(r:Option Nat)(S:Nat→Prop)(w:World)(N':Nat)(cl':List (List Int))(w':World):Prop:=∃S',(∀b,S' b→S b∨w.heap.size≤b)∧LTo M K mp av N' cl' r S' w w'
theorem XEnd.of {M K mp:Nat}{av:Value}{r r':Option Nat}{S S' S2:Nat→Prop}{w wr w2:World}{N':Nat}{cl':List (List Int)}(hr:r'=r∨∃q,r'=some q∧w.heap.size≤q)(hk:Pak.KeptW M r w wr)(hs:∀b,S' b→S b∨w.heap.size≤b)(hs2:∀b,S2 b→S' b∨wr.heap.size≤b)(h:LTo M K mp av N' cl' r' S2 wr w2):XEnd M K mp av r S w N' cl' w2:=
 ⟨S2,fun b hb=>by
   rcases hs2 b hb with hb | hb
   ·exact hs b hb
   ·exact .inr (Nat.le_trans hk.size hb),h.trans hr hk⟩
theorem ownC_0 (v:Int)(ls:List Int):ownC 0 v ls=[[v]]:=by unfold ownC;rw[if_pos rfl]
theorem ownC_1 (v:Int)(ls:List Int):ownC 1 v ls=[[-v]]:=by unfold ownC;rw[if_neg (by decide),if_pos rfl]
theorem ownC_5 (v:Int)(ls:List Int):ownC 5 v ls=joinL v 1 ls:=by unfold ownC;rw[if_neg (by decide),if_neg (by decide),if_pos rfl]
theorem ownC_6 (v:Int)(ls:List Int):ownC 6 v ls=joinL (-v) (-1) ls:=by unfold ownC;rw[if_neg (by decide),if_neg (by decide),if_neg (by decide),if_pos rfl]
theorem lit_x (am:List (Int×List (Int×Int)))(B M K mp:Nat)(av:Value)(hB:B≤M)(hmp:mp<M)(n:Nat)(IH:LitSaid am B M K mp av n)(f:FT)(cs:List Value)(N:Nat)(cl:List (List Int))(r:Option Nat)(S:Nat→Prop)(w:World)(h:FLies B w (n+1) f cs)(hm:madeF (n+1) f=true)(hS:LS M K mp av N cl r S w)(hp:Places am mp w)(ht:Tens M w)(hb1:am.length+N+siz (n+1) f≤100000)(hb2:cl.length+2*siz (n+1) f≤1000000)(hk:f.kind=0∨f.kind=1∨f.kind=5∨f.kind=6):
 Calls Tryz.prog 55 #[.pointer (some ⟨M,0,none⟩),.agg cs.toArray] w fun e w'=>e= .returned (.int .i64 (mkF am (n+1) f N cl).lit)∧XEnd M K mp av r S w (mkF am (n+1) f N cl).n (mkF am (n+1) f N cl).cl w':=by
 obtain⟨ta,tcap,ka,kcap,rfl,hT,hl1,hl2,hks⟩:=h
 rw[mkF_x ⟨by omega,by omega⟩]
 have hMw:=hS.size
 have hA:Below w.heap.size w (w.alloc (.cells #[.int .i64 f.kind,.int .i64 f.c,.slice ta f.t.length tcap,.slice ka f.ks.length kcap] 39)):=(Below.refl _ w).alloc (Nat.le_refl _) _
 have HB:=box_start w f.kind f.c ta ka f.t.length tcap f.ks.length kcap
 have HM:=Lib.hid (made_kids hm)
 have HTF:=Lib.hid (mkTo_fits am n f.ks N cl (made_kids hm))
 have HLZ:=Lib.hid (len_siz n f.ks (made_kids hm) f.ks.length (Nat.le_refl _))
 have HLS:=Lib.hid (hS.below hA)
 have HI:=Lib.hid IH
 have HK:=Lib.hid hks
 have HP:=Lib.hid hp
 have HT:=Lib.hid ht
 have HSZ:=Lib.hid hA.size
 have HMW:=Lib.hid hMw
 have HMP:=Lib.hid hmp
 have HBM:=Lib.hid hB
 have HA:=Lib.hid hA
 have HBX:=Lib.hid HB
 have hsz:=sizTo_len n f
 rw[hsz]at hb1 hb2
 have HB1:=Lib.hid hb1
 have HB2:=Lib.hid hb2
 have HS1:=Lib.hid (KS.start (am:=am) (hS.below hA))
 have b0:=HB.c0
 have b3:=HB.c3
 have HQ:Hid (r≠some w.heap.size):=Lib.hid fun e=>by have:=(hS.row _ e).2.1;omega
 have hq1:w.heap.size<(w.alloc (.cells #[.int .i64 f.kind,.int .i64 f.c,.slice ta f.t.length tcap,.slice ka f.ks.length kcap] 39)).heap.size:=by simp
 have HQ1:=Lib.hid hq1
 clear IH hks hT hS hp ht hA HB hm hsz hb1 hb2 hB hmp hMw hq1 hl1
 have hkd:=hk
 generalize f.kind=fk at*
 generalize f.c=fc at*
 generalize f.t.length=ft at*
 generalize hlen:f.ks.length=len at*
 have HLEN:=Lib.hid hlen
 clear hlen hk
 go_enter Tryz.func55,Tryz.ntmps55
 have k2:(fk == 2)=false:=by simp;omega
 have k4:(fk == 4)=false:=by simp;omega
 go_wp2_with fail
 clear b0 b3
 generalize w.alloc (.cells #[.int .i64 fk,.int .i64 fc,.slice ta ft tcap,.slice ka len kcap] 39)=W1 at*
 go_loopw [5,32] (fun o i wr=>∃k:Nat,i= .int .i64 k∧k≤len∧∃r' S',Hid (KS am M K mp av (mkTo am n f.ks N cl k) r S W1 o r' S' wr)) (fun _ i _=>len - (intOf i).toNat)
 case atStart=>exact⟨0,rfl,Nat.zero_le _,r,S,HS1⟩
 case round=>
  clear HS1
  obtain⟨k,rfl,hk,r1,S1,hS⟩:=hrel
  by_cases hlt:k<len
  ·have hlti:(k:Int)<(len:Int):=by omega
   have hkl:k<f.ks.length:=by rw[HLEN.out];exact hlt
   have hM1:Below M W1 wr:=HLS.out.low hS.out.kp
   have hMw:Below M w wr:=(HA.out.mono (Nat.le_of_lt HMW.out)).trans hM1
   obtain⟨b,off,c0,c1,c2,c3,rfl,hbl,g0,g1,g2,g3,hf⟩:=HK.out k hlt
   have hblM:b<M:=Nat.lt_of_lt_of_le hbl HBM.out
   rw[←hMw.cell (p:=⟨b,_,none⟩) hblM]at g0 g1 g2 g3
   obtain⟨ck,cc,cta,ctn,ctcap,cka,ckn,ckcap,rfl,rfl,rfl,rfl⟩:=hf.form
   have hA2:Below wr.heap.size wr (wr.alloc (.cells #[.int .i64 ck,.int .i64 cc,.slice cta ctn ctcap,.slice cka ckn ckcap] 39)):=(Below.refl _ _).alloc (Nat.le_refl _) _
   have hMwr:M≤wr.heap.size:=Nat.le_of_lt hS.out.ls.size
   have hMa:Below M w (wr.alloc (.cells #[.int .i64 ck,.int .i64 cc,.slice cta ctn ctcap,.slice cka ckn ckcap] 39)):=hMw.trans (hA2.mono hMwr)
   have hmk:=HM.out k hlt
   obtain⟨⟨f1,f2,_⟩,f4,_⟩:=HTF.out k (Nat.le_of_lt hlt)
   have hs1:=sizTo_succ n f.ks k hkl
   have hs2:=sizTo_mono n f.ks (i:=k+1) (j:=f.ks.length) hkl
   have hb1:=HB1.out
   have hb2:=HB2.out
   have hlz:=HLZ.out
   have hl:=HLEN.out
   rw[hl]at hs2
   have hih:=HI.out (f.ks.getD k default) _ (mkTo am n f.ks N cl k).1 (mkTo am n f.ks N cl k).2.1 r1 S1 _ (hf.below (hMa.mono HBM.out)) hmk (hS.out.ls.below hA2) (HP.out.keep (hMa.block mp HMP.out)) (HT.out.low hMa) (by omega) (by omega)
   have hfar:=mkF_far (am:=am) (n:=n) (f:=f.ks.getD k default) (N:=(mkTo am n f.ks N cl k).1) (cl:=(mkTo am n f.ks N cl k).2.1) hmk (by omega)
   have HSTEP:=Lib.hid (fun N3 cl3 w3 S3 hS3 hL3=>hS.out.step hA2 (N3:=N3) (cl3:=cl3) (w3:=w3) (S3:=S3) hS3 hL3 (by omega) (x:=(mkF am n (f.ks.getD k default) (mkTo am n f.ks N cl k).1 (mkTo am n f.ks N cl k).2.1).lit) (by omega))
   have HSU:=Lib.hid (mkTo_succ am n f.ks N cl k hkl)
   have HIH:=Lib.hid hih
   clear hM1 hMw hf hA2 hMa hmk f1 f2 f4 hs1 hs2 hb1 hb2 hlz hl hih hfar hS hkl hblM hMwr
   generalize (mkF am n (f.ks.getD k default) (mkTo am n f.ks N cl k).1 (mkTo am n f.ks N cl k).2.1).lit=x at*
   go_wp2_with fail
   clear g0 g1 g2 g3
   refine HIH.out.mono ?_
   rintro e w3 ⟨rfl,S3,hS3,hL3⟩
   obtain⟨a4,n4,c4,w4,r4,hr4,hk4⟩:=HSTEP.out _ _ w3 S3 hS3 hL3
   have HK4:=Lib.hid (hk4.cast HSU.out.symm)
   clear hS3 hL3 hk4 HSTEP HIH HSU
   go_wp2_with (at_builtin;refine Lib.wpList_append_run _ rfl _ _ _ _ rfl _ _ rfl rfl _ _ (hr4 _) ?_)
   go_roundw
   case rel=>exact⟨k+1,by go_num,by omega,r4,S3,HK4⟩
   case measure=>simp[intOf];omega
  ·have hlti:¬(k:Int)<(len:Int):=by omega
   obtain rfl:k=len:=by omega
   obtain⟨⟨f1,f2,_⟩,f4,f5⟩:=HTF.out k (Nat.le_refl _)
   have hb1:=HB1.out
   have hb2:=HB2.out
   have hlz:=HLZ.out
   have HF5:=Lib.hid f5
   obtain⟨p,hpp⟩:∃p,mkTo am n f.ks N cl k=p:=⟨_,rfl⟩
   have HPP:=Lib.hid hpp
   have hsz1:sizTo n f.ks k≤100000:=by omega
   have hams:am.length+N+sizTo n f.ks k≤100000:=by omega
   rw[hpp]at hS f1 f2 f4 HF5
   clear f5 hpp
   obtain⟨m,hmm⟩:∃m:Nat,m=p.1+1:=⟨_,rfl⟩
   have hwm:IntKind.i64.wrap ((p.1:Int)+1)=(m:Int):=by rw[hmm];exact IntWalk.i64_in _ (by omega)
   have hwn:IntKind.i64.wrap (-(m:Int))= -(m:Int):=IntWalk.i64_in _ (by omega)
   have hmB:m≤200000:=by omega
   have hclB:p.2.1.length≤1000000:=by omega
   have hlitB:p.2.2.length≤100000:=by omega
   have HMM:=Lib.hid hmm
   have hMs:=hS.out.ls.size
   have hKs:=hS.out.ls.lt
   obtain⟨r2,hL2,hr2,hK2⟩:=hS.out.ls.count m
   have hsz2:(wr.setCell ⟨M,0,none⟩ (.int .i64 m)).heap.size=wr.heap.size:=by simp[World.setCell]
   have c0:=hS.out.ls.c0
   have fz:=hS.out.ls.fz 0
   have hcell:∀j,wr.cell? ⟨w.heap.size,j,none⟩=W1.cell? ⟨w.heap.size,j,none⟩:=fun j=>World.cell?_of_block (a:=⟨w.heap.size,j,none⟩) (hS.out.kp.block w.heap.size HQ1.out (fun e=>by have:=HMW.out;omega) (fun e=>HQ.out e.symm))
   have x0:=(hcell 0).trans HBX.out.c0
   have hne:M≠w.heap.size:=by have:=HMW.out;omega
   have hO2:=hS.out.ow.grown (grown_set (M:=M) (j:=0) (.int .i64 m)) (fun q e=>by
    injection e with e
    subst e
    exact⟨fun h=>h,fun e2=>by have:=(hS.out.ow.lt _ e2).1;omega⟩)
   have hfar2:∀q,r2=some q→r1=some q∨wr.heap.size≤q:=fun q e=>by
    rcases hr2 with rfl | ⟨u,rfl,hu⟩
    ·exact .inl e
    ·injection e with e;subst e;exact .inr hu
   have HEND:=Lib.hid (fun(S2:Nat→Prop) N' cl' w2 hs2 (h:LTo M K mp av N' cl' r1 S2 wr w2)=>XEnd.of (w:=w) (next_trans (.inl rfl) HSZ.out hS.out.rr) (keptW_trans (.inl rfl) (.of_below HA.out) hS.out.kp) (fun b hb=>(hS.out.sl b hb).imp id (fun h=>Nat.le_trans HSZ.out h)) hs2 h)
   have HK2:=Lib.hid hK2
   have HR2:=Lib.hid hr2
   have HL2:=Lib.hid hL2
   have HO2:=Lib.hid hO2
   have HOB:=Lib.hid hS.out.ob
   have HOL:=Lib.hid hS.out.ow.lt
   have HFR:=Lib.hid hfar2
   have HSM:=Lib.hid (And.intro hMs (And.intro hKs hsz2))
   clear hK2 hr2 hL2 hO2 hfar2 hsz2 hMs hKs hcell hmm hS HB1 HB2 HTF HLZ HK HM HI HP HT hb1 hb2 hlz f1 f2
   rcases hkd with rfl | rfl | rfl | rfl
   ·have hA3:Below (wr.setCell ⟨M,0,none⟩ (.int .i64 m)).heap.size (wr.setCell ⟨M,0,none⟩ (.int .i64 m)) ((wr.setCell ⟨M,0,none⟩ (.int .i64 m)).alloc (.cells #[.int .i64 (m:Int)] 3)):=(Below.refl _ _).alloc (Nat.le_refl _) _
    have hI:=ints_new (wr.setCell ⟨M,0,none⟩ (.int .i64 m)) [(m:Int)] (fun y hy=>by
     rw[List.mem_singleton]at hy
     subst hy;omega) (by simp)
    have HC:=clause_any M K mp av m p.2.1 r2 _ _ 1 1 [(m:Int)] S1 _ (HL2.out.below hA3) (by omega) rfl hI (fun b hb=>by
     subst hb
     have h3:=HSM.out
     refine⟨by omega,by simp[World.setCell],fun e=> ?_⟩
     have:=(HL2.out.row _ e).2.1
     omega) (fun b hb o=>by
     subst hb
     exact frozen_of_row _ _ _ _ _ (heap_alloc_new _ _))
    rw[HSM.out.2.2]at HC
    have HCC:=Lib.hid HC
    have HA3:=Lib.hid hA3
    clear hA3 hI HC
    go_wp2_with fail
    refine HCC.out.mono ?_
    rintro e w4 ⟨rfl,r4,hL4,hr4,hK4⟩
    have cM:=hL4.c0
    have HE:=Lib.hid (HEND.out _ _ _ w4 (fun b hb=>hb.imp id (fun e=>by omega)) (LTo.trans HR2.out HK2.out (LTo.trans (.inl rfl) (.of_below HA3.out) ⟨r4,hL4,hr4,hK4⟩)))
    clear hL4 hr4 hK4 HCC HA3 HEND HOB HOL
    go_wp2_with fail
    go_ret
    rw[HPP.out,←HMM.out,ownC_0]
    exact⟨rfl,HE.out⟩
   ·have hA3:Below (wr.setCell ⟨M,0,none⟩ (.int .i64 m)).heap.size (wr.setCell ⟨M,0,none⟩ (.int .i64 m)) ((wr.setCell ⟨M,0,none⟩ (.int .i64 m)).alloc (.cells #[.int .i64 (-(m:Int))] 3)):=(Below.refl _ _).alloc (Nat.le_refl _) _
    have hI:=ints_new (wr.setCell ⟨M,0,none⟩ (.int .i64 m)) [(-(m:Int))] (fun y hy=>by
     rw[List.mem_singleton]at hy
     subst hy;omega) (by simp)
    have HC:=clause_any M K mp av m p.2.1 r2 _ _ 1 1 [(-(m:Int))] S1 _ (HL2.out.below hA3) (by omega) rfl hI (fun b hb=>by
     subst hb
     have h3:=HSM.out
     refine⟨by omega,by simp[World.setCell],fun e=> ?_⟩
     have:=(HL2.out.row _ e).2.1
     omega) (fun b hb o=>by
     subst hb
     exact frozen_of_row _ _ _ _ _ (heap_alloc_new _ _))
    rw[HSM.out.2.2]at HC
    have HCC:=Lib.hid HC
    have HA3:=Lib.hid hA3
    clear hA3 hI HC
    go_wp2_with fail
    refine HCC.out.mono ?_
    rintro e w4 ⟨rfl,r4,hL4,hr4,hK4⟩
    have cM:=hL4.c0
    have HE:=Lib.hid (HEND.out _ _ _ w4 (fun b hb=>hb.imp id (fun e=>by omega)) (LTo.trans HR2.out HK2.out (LTo.trans (.inl rfl) (.of_below HA3.out) ⟨r4,hL4,hr4,hK4⟩)))
    clear hL4 hr4 hK4 HCC HA3 HEND HOB HOL
    go_wp2_with fail
    go_ret
    rw[HPP.out,←HMM.out,ownC_1]
    exact⟨rfl,HE.out⟩
   ·obtain⟨a9,c9,e9,hs9⟩:=HO2.out.slot (by omega)
    have HC:=join_any M K mp av m p.2.1 r2 S1 _ (wr.setCell ⟨M,0,none⟩ (.int .i64 m)) (m:Int) 1 a9 p.2.2.length c9 p.2.2 HL2.out (by omega) rfl hs9 (fun b hb=>by
     rcases hb with hb | hb
     ·exact hb.elim
     ·have h1:=HOL.out b hb
      have h2:=HOB.out b hb
      have h3:=HSM.out
      refine⟨by rw[h3.2.2];omega,by omega,fun e=> ?_⟩
      rcases HFR.out b e with h | h
      ·exact h2.2.1 h
      ·omega) (by unfold sm;omega) (by omega) (fun x hx=>by
     have:=HF5.out x hx
     unfold sm;omega)
    have HCC:=Lib.hid HC
    clear HC hs9 f4 hlitB
    subst e9
    generalize p.2.2.length=n9 at*
    go_wp2_with fail
    refine HCC.out.mono ?_
    rintro e w4 ⟨rfl,S4,hS4,r4,hL4,hr4,hK4⟩
    have cM:=hL4.c0
    have HE:=Lib.hid (HEND.out _ _ _ w4 (fun b hb=>(hS4 b hb).imp id (fun e=>by have:=HSM.out;omega)) (LTo.trans HR2.out HK2.out ⟨r4,hL4,hr4,hK4⟩))
    clear hS4 hL4 hr4 hK4 HCC HEND HOB HOL
    go_wp2_with fail
    go_ret
    rw[HPP.out,←HMM.out,ownC_5]
    exact⟨rfl,HE.out⟩
   ·obtain⟨a9,c9,e9,hs9⟩:=HO2.out.slot (by omega)
    have HC:=join_any M K mp av m p.2.1 r2 S1 _ (wr.setCell ⟨M,0,none⟩ (.int .i64 m)) (-(m:Int)) (-1) a9 p.2.2.length c9 p.2.2 HL2.out (by omega) rfl hs9 (fun b hb=>by
     rcases hb with hb | hb
     ·exact hb.elim
     ·have h1:=HOL.out b hb
      have h2:=HOB.out b hb
      have h3:=HSM.out
      refine⟨by rw[h3.2.2];omega,by omega,fun e=> ?_⟩
      rcases HFR.out b e with h | h
      ·exact h2.2.1 h
      ·omega) (by unfold sm;omega) (by omega) (fun x hx=>by
     have:=HF5.out x hx
     unfold sm;omega)
    have HCC:=Lib.hid HC
    clear HC hs9 f4 hlitB
    subst e9
    generalize p.2.2.length=n9 at*
    go_wp2_with fail
    refine HCC.out.mono ?_
    rintro e w4 ⟨rfl,S4,hS4,r4,hL4,hr4,hK4⟩
    have cM:=hL4.c0
    have HE:=Lib.hid (HEND.out _ _ _ w4 (fun b hb=>(hS4 b hb).imp id (fun e=>by have:=HSM.out;omega)) (LTo.trans HR2.out HK2.out ⟨r4,hL4,hr4,hK4⟩))
    clear hS4 hL4 hr4 hK4 HCC HEND HOB HOL
    go_wp2_with fail
    go_ret
    rw[HPP.out,←HMM.out,ownC_6]
    exact⟨rfl,HE.out⟩
end
section
open Go.RowKit
theorem gat_snd {n:Nat}{f:FT}{am:List (Int×List (Int×Int))}(h:f.kind≠2):gatF (n+1) f am=gatTo n f.ks am f.ks.length:=by rw[gatTo_len,if_neg h]
theorem gat_x (B M K mp:Nat)(hB:B≤mp)(n:Nat)(IH:GatSaid B M K mp n)(f:FT)(cs:List Value)(am:List (Int×List (Int×Int)))(r:Option Nat)(S:Nat→Prop)(w:World)(h:FLies B w (n+1) f cs)(hm:madeF (n+1) f=true)(hS:GS M K mp am r S w)(ht:Tens mp w)(hb:am.length+siz (n+1) f≤100000)(h2:f.kind≠2):
 Calls Tryz.prog 53 #[.pointer (some ⟨M,0,none⟩),.agg cs.toArray] w fun e w'=>e= .returned (.tuple #[])∧GEnd M K mp (gatF (n+1) f am) r S w w':=by
 obtain⟨ta,tcap,ka,kcap,rfl,hT,hl1,hl2,hks⟩:=h
 rw[gat_snd h2]
 have hlt:=hS.lt
 have hMw:=hS.size
 have hA:Below w.heap.size w (w.alloc (.cells #[.int .i64 f.kind,.int .i64 f.c,.slice ta f.t.length tcap,.slice ka f.ks.length kcap] 39)):=(Below.refl _ w).alloc (Nat.le_refl _) _
 have HB:=box_start w f.kind f.c ta ka f.t.length tcap f.ks.length kcap
 have HM:=Lib.hid (made_kids hm)
 have HTF:=Lib.hid (fun i (hi:i≤f.ks.length)=>gatTo_le n f.ks am i hi)
 have HS1:=Lib.hid (hS.below hA)
 have HI:=Lib.hid IH
 have HK:=Lib.hid hks
 have HT:=Lib.hid ht
 have HA:=Lib.hid hA
 have HLT:=Lib.hid hlt
 have HBM:=Lib.hid hB
 have hsz:=sizTo_len n f
 rw[hsz]at hb
 have HB1:=Lib.hid hb
 have HBX:=Lib.hid HB
 have hq1:w.heap.size<(w.alloc (.cells #[.int .i64 f.kind,.int .i64 f.c,.slice ta f.t.length tcap,.slice ka f.ks.length kcap] 39)).heap.size:=by simp
 have HQ1:=Lib.hid hq1
 have HQ:Hid (r≠some w.heap.size):=Lib.hid fun e=>by have:=(hS.row _ e).2.1;omega
 have b0:=HB.c0
 have b3:=HB.c3
 have hk2:(f.kind == 2)=false:=by simp[h2]
 clear IH hks hT hS ht hA HB hm hsz hb hB hMw hlt hq1 hl1
 generalize f.kind=fk at*
 generalize f.c=fc at*
 generalize f.t.length=ft at*
 generalize hlen:f.ks.length=len at*
 have HLEN:=Lib.hid hlen
 clear hlen
 go_enter Tryz.func53,Tryz.ntmps53
 go_wp2_with fail
 clear b0 b3
 generalize w.alloc (.cells #[.int .i64 fk,.int .i64 fc,.slice ta ft tcap,.slice ka len kcap] 39)=W1 at*
 go_loopw [10] (fun i wr=>∃k:Nat,i= .int .i64 k∧k≤len∧Hid (∃S',(∀b,S' b→S b∨W1.heap.size≤b)∧GTo M K mp (gatTo n f.ks am k) r S' W1 wr)) (fun i _=>len - (intOf i).toNat)
 case atStart=>exact⟨0,rfl,Nat.zero_le _,⟨S,fun b hb=> .inl hb,.refl HS1.out⟩⟩
 case round=>
  obtain⟨k,rfl,hk,hS⟩:=hrel
  obtain⟨S1,hs1,r1,hG,hr1,hK1⟩:=hS.out
  have HS1':=Lib.hid hs1
  have HG1:=Lib.hid hG
  have HR1:=Lib.hid hr1
  have HK1:=Lib.hid hK1
  have hw1:Below mp W1 wr:=HS1.out.low hK1
  have hMw:Below mp w wr:=(HA.out.mono (by have:=HLT.out;omega)).trans hw1
  have HMW:=Lib.hid hMw
  have HSZ:=Lib.hid hK1.size
  clear hS hs1 hG hr1 hK1 hw1 hMw
  by_cases hlt:k<len
  ·have hlti:(k:Int)<(len:Int):=by omega
   have hkl:k<f.ks.length:=by rw[HLEN.out];exact hlt
   obtain⟨b,off,c0,c1,c2,c3,rfl,hbl,g0,g1,g2,g3,hf⟩:=HK.out k hlt
   have hblM:b<mp:=Nat.lt_of_lt_of_le hbl HBM.out
   rw[←HMW.out.cell (p:=⟨b,_,none⟩) hblM]at g0 g1 g2 g3
   obtain⟨ck,cc,cta,ctn,ctcap,cka,ckn,ckcap,rfl,rfl,rfl,rfl⟩:=hf.form
   have hA2:Below wr.heap.size wr (wr.alloc (.cells #[.int .i64 ck,.int .i64 cc,.slice cta ctn ctcap,.slice cka ckn ckcap] 39)):=(Below.refl _ _).alloc (Nat.le_refl _) _
   have hgl:=HG1.out.lt
   have hMa:Below mp w (wr.alloc (.cells #[.int .i64 ck,.int .i64 cc,.slice cta ctn ctcap,.slice cka ckn ckcap] 39)):=HMW.out.trans (hA2.mono (by omega))
   have hmk:=HM.out k hlt
   have f1:=HTF.out k (by omega)
   have hs1:=sizTo_succ n f.ks k hkl
   have hs2:=sizTo_mono n f.ks (i:=k+1) (j:=f.ks.length) hkl
   have hb1:=HB1.out
   have hl:=HLEN.out
   rw[hl]at hs2
   have hih:=HI.out (f.ks.getD k default) _ (gatTo n f.ks am k) r1 S1 _ (hf.below (hMa.mono HBM.out)) hmk (HG1.out.below hA2) (HT.out.up hMa (Nat.le_refl _)) (by omega)
   have HIH:=Lib.hid hih
   have HA2:=Lib.hid hA2
   have HGT:=Lib.hid (gatTo_succ n f.ks am k hkl)
   clear hA2 hMa hmk f1 hs1 hs2 hb1 hl hih hf hbl hblM hgl
   go_wp2_with fail
   clear g0 g1 g2 g3
   generalize wr.alloc (.cells #[.int .i64 ck,.int .i64 cc,.slice cta ctn ctcap,.slice cka ckn ckcap] 39)=wa at*
   refine HIH.out.mono ?_
   rintro e w3 ⟨rfl,S3,hS3,r3,hG3,hr3,hK3⟩
   have HE:Hid (∃S',(∀b,S' b→S b∨W1.heap.size≤b)∧GTo M K mp (gatTo n f.ks am (k+1)) r S' W1 w3):=Lib.hid (by
    refine⟨S3,fun b hb=> ?_,r3,by rw[HGT.out];exact hG3,next_trans HR1.out (Nat.le_trans HSZ.out HA2.out.size) hr3,keptG_trans HR1.out HK1.out (keptG_trans (.inl rfl) (.of_below HA2.out) hK3)⟩
    rcases hS3 b hb with hb | hb
    ·exact HS1'.out b hb
    ·exact .inr (Nat.le_trans (Nat.le_trans HSZ.out HA2.out.size) hb))
   clear hS3 hG3 hr3 hK3
   go_wp2_with fail
   go_roundw
   case rel=>exact⟨k+1,by go_num,by omega,HE⟩
   case measure=>simp[intOf];omega
  ·have hlti:¬(k:Int)<(len:Int):=by omega
   obtain rfl:k=len:=by omega
   have HE:Hid (GEnd M K mp (gatTo n f.ks am k) r S w wr):=Lib.hid ⟨S1,fun b hb=>(HS1'.out b hb).imp id (fun h=>Nat.le_trans HA.out.size h),r1,HG1.out,next_trans (.inl rfl) HA.out.size HR1.out,keptG_trans (.inl rfl) (.of_below HA.out) HK1.out⟩
   have x0:wr.cell? ⟨w.heap.size,0,none⟩=some (.int .i64 fk):=(World.cell?_of_block (a:=⟨w.heap.size,0,none⟩) (HK1.out.block w.heap.size HQ1.out (fun e=>by have:=HLT.out;omega) (fun e=>by have:=HLT.out;omega) (fun e=>HQ.out e.symm))).trans HBX.out.c0
   clear HK1 HR1 HG1 HMW
   go_wp2_with fail
   refine bodyPost_ret (results_none rfl _ _ _) rfl ?_
   exact⟨rfl,HE.out⟩
theorem gat_any (B M K mp:Nat)(hB:B≤mp):∀n,GatSaid B M K mp n
 | 0=>fun f cs am r S w h=>h.elim
 | n+1=>fun f cs am r S w h hm hS ht hb=>by
   by_cases h2:f.kind=2
   ·exact gat_2 B M K mp hB n f cs am r S w h hm hS ht hb h2
   ·exact gat_x B M K mp hB n (gat_any B M K mp hB n) f cs am r S w h hm hS ht hb h2
theorem lit_any (am:List (Int×List (Int×Int)))(B M K mp:Nat)(av:Value)(hB:B≤M)(hmp:mp<M):∀n,LitSaid am B M K mp av n
 | 0=>fun f cs N cl r S w h=>h.elim
 | n+1=>fun f cs N cl r S w h hm hS hp ht hb1 hb2=>by
   rcases made_kind hm with hk | hk | hk | hk | hk | hk
   ·exact lit_x am B M K mp av hB hmp n (lit_any am B M K mp av hB hmp n) f cs N cl r S w h hm hS hp ht hb1 hb2 (by omega)
   ·exact lit_x am B M K mp av hB hmp n (lit_any am B M K mp av hB hmp n) f cs N cl r S w h hm hS hp ht hb1 hb2 (by omega)
   ·exact lit_2 am B M K mp av hB hmp n f cs N cl r S w h hm hS hp ht hk
   ·exact lit_4 am B M K mp av hB hmp n (lit_any am B M K mp av hB hmp n) f cs N cl r S w h hm hS hp ht hb1 hb2 hk
   ·exact lit_x am B M K mp av hB hmp n (lit_any am B M K mp av hB hmp n) f cs N cl r S w h hm hS hp ht hb1 hb2 (by omega)
   ·exact lit_x am B M K mp av hB hmp n (lit_any am B M K mp av hB hmp n) f cs N cl r S w h hm hS hp ht hb1 hb2 (by omega)
end
end Go.Proofs.YtipahfcaplbifaaGreatDoor
