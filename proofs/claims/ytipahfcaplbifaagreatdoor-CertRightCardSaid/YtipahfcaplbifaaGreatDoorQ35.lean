/- Parts of a proof. -/
import Derived.Test.YtipahfcaplbifaaGreatDoorQ11
import Derived.Test.YtipahfcaplbifaaGreatDoorQ19
import Derived.Test.YtipahfcaplbifaaGreatDoorQ29
import Derived.Test.YtipahfcaplbifaaGreatDoorQ33
import Derived.Lib.QuietBelow
import Derived.BigQuiet
set_option linter.unusedVariables false
set_option linter.unusedSimpArgs false
set_option maxHeartbeats 60000000
set_option maxRecDepth 100000
namespace Go.Proofs.YtipahfcaplbifaaGreatDoor
section
open Go.RowKit
structure KS (am:List (Int×List (Int×Int)))(M K mp:Nat)(av:Value)(p:Nat×List (List Int)×List Int)(r:Option Nat)(S:Nat→Prop)(W1:World)(o:Value)(r':Option Nat)(S':Nat→Prop)(wr:World):Prop where
 ls:LS M K mp av p.1 p.2.1 r' S' wr
 rr:r'=r∨∃q,r'=some q∧W1.heap.size≤q
 kp:Pak.KeptW M r W1 wr
 sl:∀b,S' b→S b∨W1.heap.size≤b
 ow:OwnP Pak.intSh 3 K (fun _=>False) p.2.2 o wr
 ob:∀q,o.ownBlock=some q→W1.heap.size≤q∧r'≠some q∧¬S' q
theorem KS.start {am:List (Int×List (Int×Int))}{M K mp:Nat}{av:Value}{N:Nat}{cl:List (List Int)}{r:Option Nat}{S:Nat→Prop}{W1:World}(h:LS M K mp av N cl r S W1):KS am M K mp av (N,cl,[]) r S W1 (.slice none 0 0) r S W1:=
 ⟨h,.inl rfl,.of_below (Below.refl _ _),fun b hb=> .inl hb,OwnP.nil _ _ _ _,fun q hq=>by cases hq⟩
theorem KS.step {am:List (Int×List (Int×Int))}{M K mp:Nat}{av:Value}{p:Nat×List (List Int)×List Int}{r:Option Nat}{S:Nat→Prop}{W1:World}{o:Value}{r':Option Nat}{S':Nat→Prop}{wr wa w3:World}(h:KS am M K mp av p r S W1 o r' S' wr)(hA:Below wr.heap.size wr wa){N3:Nat}{cl3:List (List Int)}{S3:Nat→Prop}(hS3:∀b,S3 b→S' b∨wa.heap.size≤b)(h3:LTo M K mp av N3 cl3 r' S3 wa w3)(hn:p.2.2.length≤100000){x:Int}(hx: -9223372036854775808≤x∧x≤9223372036854775807):
 ∃a4 n4 c4 w4 r4,(∀ty,(Builtin.append_ #[23,23] ty #[o,.slice (some ⟨w3.heap.size,0,none⟩) 1 1]).run Tryz.prog (w3.alloc (.cells #[.int .i64 x] 3))= .ok (.slice a4 n4 c4) w4)∧KS am M K mp av (N3,cl3,p.2.2 ++ [x]) r S W1 (.slice a4 n4 c4) r4 S3 w4:=by
 obtain⟨r3,hL3,hr3,hK3⟩:=h3
 have hM:=h.ls.lt
 have hoa:=h.ow.below hA
 have hol:=fun q e=>(hoa.lt q e)
 have hol2:=fun q e=>(h.ow.lt q e).2
 have hA1:=hA.size
 have hW1:=h.kp.size
 have h31:=hK3.size
 have ho3:=hoa.keptW hK3 ⟨fun h=>h,fun e=>by have:=(hol M e).1;omega⟩ (fun q e=>⟨fun h=>h,fun e2=>(h.ob q e2).2.1 e⟩)
 obtain⟨v4,w4,hr4,hO4,hg4,hv4⟩:=ho3.put (P:=Tryz.prog) (t:=23) (x:=x) (cs:=[.int .i64 x]) (Sx:=fun _=>False) Tryz.underlying23 (by':=8) (by kernel_rfl) (by decide) (by decide) (by omega) hL3.lt.2 ⟨rfl,hx⟩ (fun b hb=>hb.elim)
 have hfar:∀q,o.ownBlock=some q→r3≠some q∧¬S3 q:=fun q e=>by
  obtain⟨q1,q2,q3⟩:=h.ob q e
  have q4:=hol2 q e
  refine⟨fun hh=> ?_,fun hh=> ?_⟩
  ·rcases hr3 with rfl | ⟨p,rfl,hp⟩
   ·exact q2 hh
   ·injection hh with hh;omega
  ·rcases hS3 q hh with hh | hh
   ·exact q3 hh
   ·omega
 have hL4:=hL3.grown hg4 (fun q e=>⟨by have:=(hol q e).1;omega,(hfar q e).2,(hfar q e).1⟩)
 have hKa:Pak.KeptW M r W1 w3:=keptW_trans h.rr (keptW_trans h.rr h.kp (.of_below hA)) hK3
 have hK4:Pak.KeptW M r W1 w4:=⟨hg4.os.trans hKa.os,hg4.tape.trans hKa.tape,hg4.output.trans hKa.output,Nat.le_trans hKa.size hg4.size,fun q hq a1 a2=>(hg4.block q (Nat.lt_of_lt_of_le hq hKa.size) (fun e=>by have:=(h.ob q e.symm).1;omega)).trans (hKa.block q hq a1 a2)⟩
 obtain⟨a4,c4,e4⟩:=hO4.form
 generalize hn4:(p.2.2 ++ [x]).length=n4 at e4
 subst e4
 refine⟨a4,n4,c4,w4,r3,hr4,hL4,next_trans h.rr (Nat.le_trans hW1 hA1) hr3,hK4,fun b hb=> ?_,hO4.more (fun b hb=>by rcases hb with hb | hb<;>exact hb) (fun b hb=>hb.elim),fun q e=> ?_⟩
 ·rcases hS3 b hb with hb | hb
  ·exact h.sl b hb
  ·right;omega
 ·rcases hv4 with hv4 | ⟨u,hv4,hu⟩
  ·have e2:=hv4.symm.trans e
   exact⟨(h.ob q e2).1,(hfar q e2).1,(hfar q e2).2⟩
  ·rw[hv4]at e
   injection e with e
   subst e
   exact⟨by omega,fun h=>by have:=(hL3.row _ h).2.1;omega,fun h=>by have:=hL3.ok _ h;omega⟩
theorem KS.cast {am:List (Int×List (Int×Int))}{M K mp:Nat}{av:Value}{p p':Nat×List (List Int)×List Int}{r:Option Nat}{S:Nat→Prop}{W1:World}{o:Value}{r':Option Nat}{S':Nat→Prop}{wr:World}(h:KS am M K mp av p r S W1 o r' S' wr)(e:p=p'):KS am M K mp av p' r S W1 o r' S' wr:=e ▸ h
def XEnd (M K mp:Nat)(av:Value)(r:Option Nat)(S:Nat→Prop)(w:World)(N':Nat)(cl':List (List Int))(w':World):Prop:=∃S',(∀b,S' b→S b∨w.heap.size≤b)∧LTo M K mp av N' cl' r S' w w'
theorem XEnd.of {M K mp:Nat}{av:Value}{r r':Option Nat}{S S' S2:Nat→Prop}{w wr w2:World}{N':Nat}{cl':List (List Int)}(hr:r'=r∨∃q,r'=some q∧w.heap.size≤q)(hk:Pak.KeptW M r w wr)(hs:∀b,S' b→S b∨w.heap.size≤b)(hs2:∀b,S2 b→S' b∨wr.heap.size≤b)(h:LTo M K mp av N' cl' r' S2 wr w2):XEnd M K mp av r S w N' cl' w2:=
 ⟨S2,fun b hb=>by
   rcases hs2 b hb with hb | hb
   ·exact hs b hb
   ·exact .inr (Nat.le_trans hk.size hb),h.trans hr hk⟩
theorem ownC_0 (v:Int)(ls:List Int):ownC 0 v ls=[[v]]:=by unfold ownC;rw[if_pos rfl]
theorem ownC_1 (v:Int)(ls:List Int):ownC 1 v ls=[[-v]]:=by unfold ownC;rw[if_neg (by decide),if_pos rfl]
theorem ownC_5 (v:Int)(ls:List Int):ownC 5 v ls=joinL v 1 ls:=by unfold ownC;rw[if_neg (by decide),if_neg (by decide),if_pos rfl]
theorem ownC_6 (v:Int)(ls:List Int):ownC 6 v ls=joinL (-v) (-1) ls:=by unfold ownC;rw[if_neg (by decide),if_neg (by decide),if_neg (by decide),if_pos rfl]
theorem lit_x (am:List (Int×List (Int×Int)))(B M K mp:Nat)(av:Value)(hB:B≤M)(hmp:mp<M)(n:Nat)(IH:LitSaid am B M K mp av n)(f:FT)(cs:List Value)(N:Nat)(cl:List (List Int))(r:Option Nat)(S:Nat→Prop)(w:World)(h:FLies B w (n+1) f cs)(hm:madeF (n+1) f=true)(hS:LS M K mp av N cl r S w)(hp:Places am mp w)(ht:Tens M w)(hb1:am.length+N+siz (n+1) f≤100000)(hb2:cl.length+2*siz (n+1) f≤1000000)(hk:f.kind=0∨f.kind=1∨f.kind=5∨f.kind=6):
 Calls Tryz.prog 55 #[.pointer (some ⟨M,0,none⟩),.agg cs.toArray] w fun e w'=>e= .returned (.int .i64 (mkF am (n+1) f N cl).lit)∧XEnd M K mp av r S w (mkF am (n+1) f N cl).n (mkF am (n+1) f N cl).cl w':=by
 obtain⟨ta,tcap,ka,kcap,rfl,hT,hl1,hl2,hks⟩:=h
 rw[mkF_x ⟨by omega,by omega⟩]
 have hMw:=hS.size
 have hA:Below w.heap.size w (w.alloc (.cells #[.int .i64 f.kind,.int .i64 f.c,.slice ta f.t.length tcap,.slice ka f.ks.length kcap] 39)):=(Below.refl _ w).alloc (Nat.le_refl _) _
 have HB:=box_start w f.kind f.c ta ka f.t.length tcap f.ks.length kcap
 have HM:=Lib.hid (made_kids hm)
 have HTF:=Lib.hid (mkTo_fits am n f.ks N cl (made_kids hm))
 have HLZ:=Lib.hid (len_siz n f.ks (made_kids hm) f.ks.length (Nat.le_refl _))
 have HLS:=Lib.hid (hS.below hA)
 have HI:=Lib.hid IH
 have HK:=Lib.hid hks
 have HP:=Lib.hid hp
 have HT:=Lib.hid ht
 have HSZ:=Lib.hid hA.size
 have HMW:=Lib.hid hMw
 have HMP:=Lib.hid hmp
 have HBM:=Lib.hid hB
 have HA:=Lib.hid hA
 have HBX:=Lib.hid HB
 have hsz:=sizTo_len n f
 rw[hsz]at hb1 hb2
 have HB1:=Lib.hid hb1
 have HB2:=Lib.hid hb2
 have HS1:=Lib.hid (KS.start (am:=am) (hS.below hA))
 have b0:=HB.c0
 have b3:=HB.c3
 have HQ:Hid (r≠some w.heap.size):=Lib.hid fun e=>by have:=(hS.row _ e).2.1;omega
 have hq1:w.heap.size<(w.alloc (.cells #[.int .i64 f.kind,.int .i64 f.c,.slice ta f.t.length tcap,.slice ka f.ks.length kcap] 39)).heap.size:=by simp
 have HQ1:=Lib.hid hq1
 clear IH hks hT hS hp ht hA HB hm hsz hb1 hb2 hB hmp hMw hq1 hl1
 have hkd:=hk
 generalize f.kind=fk at*
 generalize f.c=fc at*
 generalize f.t.length=ft at*
 generalize hlen:f.ks.length=len at*
 have HLEN:=Lib.hid hlen
 clear hlen hk
 go_enter Tryz.func55,Tryz.ntmps55
 have k2:(fk == 2)=false:=by simp;omega
 have k4:(fk == 4)=false:=by simp;omega
 go_wp2_with fail
 clear b0 b3
 generalize w.alloc (.cells #[.int .i64 fk,.int .i64 fc,.slice ta ft tcap,.slice ka len kcap] 39)=W1 at*
 go_loopw [5,32] (fun o i wr=>∃k:Nat,i= .int .i64 k∧k≤len∧∃r' S',Hid (KS am M K mp av (mkTo am n f.ks N cl k) r S W1 o r' S' wr)) (fun _ i _=>len - (intOf i).toNat)
 case atStart=>exact⟨0,rfl,Nat.zero_le _,r,S,HS1⟩
 case round=>
  clear HS1
  obtain⟨k,rfl,hk,r1,S1,hS⟩:=hrel
  by_cases hlt:k<len
  ·have hlti:(k:Int)<(len:Int):=by omega
   have hkl:k<f.ks.length:=by rw[HLEN.out];exact hlt
   have hM1:Below M W1 wr:=HLS.out.low hS.out.kp
   have hMw:Below M w wr:=(HA.out.mono (Nat.le_of_lt HMW.out)).trans hM1
   obtain⟨b,off,c0,c1,c2,c3,rfl,hbl,g0,g1,g2,g3,hf⟩:=HK.out k hlt
   have hblM:b<M:=Nat.lt_of_lt_of_le hbl HBM.out
   rw[←hMw.cell (p:=⟨b,_,none⟩) hblM]at g0 g1 g2 g3
   obtain⟨ck,cc,cta,ctn,ctcap,cka,ckn,ckcap,rfl,rfl,rfl,rfl⟩:=hf.form
   have hA2:Below wr.heap.size wr (wr.alloc (.cells #[.int .i64 ck,.int .i64 cc,.slice cta ctn ctcap,.slice cka ckn ckcap] 39)):=(Below.refl _ _).alloc (Nat.le_refl _) _
   have hMwr:M≤wr.heap.size:=Nat.le_of_lt hS.out.ls.size
   have hMa:Below M w (wr.alloc (.cells #[.int .i64 ck,.int .i64 cc,.slice cta ctn ctcap,.slice cka ckn ckcap] 39)):=hMw.trans (hA2.mono hMwr)
   have hmk:=HM.out k hlt
   obtain⟨⟨f1,f2,_⟩,f4,_⟩:=HTF.out k (Nat.le_of_lt hlt)
   have hs1:=sizTo_succ n f.ks k hkl
   have hs2:=sizTo_mono n f.ks (i:=k+1) (j:=f.ks.length) hkl
   have hb1:=HB1.out
   have hb2:=HB2.out
   have hlz:=HLZ.out
   have hl:=HLEN.out
   rw[hl]at hs2
   have hih:=HI.out (f.ks.getD k default) _ (mkTo am n f.ks N cl k).1 (mkTo am n f.ks N cl k).2.1 r1 S1 _ (hf.below (hMa.mono HBM.out)) hmk (hS.out.ls.below hA2) (HP.out.keep (hMa.block mp HMP.out)) (HT.out.low hMa) (by omega) (by omega)
   have hfar:=mkF_far (am:=am) (n:=n) (f:=f.ks.getD k default) (N:=(mkTo am n f.ks N cl k).1) (cl:=(mkTo am n f.ks N cl k).2.1) hmk (by omega)
   have HSTEP:=Lib.hid (fun N3 cl3 w3 S3 hS3 hL3=>hS.out.step hA2 (N3:=N3) (cl3:=cl3) (w3:=w3) (S3:=S3) hS3 hL3 (by omega) (x:=(mkF am n (f.ks.getD k default) (mkTo am n f.ks N cl k).1 (mkTo am n f.ks N cl k).2.1).lit) (by omega))
   have HSU:=Lib.hid (mkTo_succ am n f.ks N cl k hkl)
   have HIH:=Lib.hid hih
   clear hM1 hMw hf hA2 hMa hmk f1 f2 f4 hs1 hs2 hb1 hb2 hlz hl hih hfar hS hkl hblM hMwr
   generalize (mkF am n (f.ks.getD k default) (mkTo am n f.ks N cl k).1 (mkTo am n f.ks N cl k).2.1).lit=x at*
   go_wp2_with fail
   clear g0 g1 g2 g3
   refine HIH.out.mono ?_
   rintro e w3 ⟨rfl,S3,hS3,hL3⟩
   obtain⟨a4,n4,c4,w4,r4,hr4,hk4⟩:=HSTEP.out _ _ w3 S3 hS3 hL3
   have HK4:=Lib.hid (hk4.cast HSU.out.symm)
   clear hS3 hL3 hk4 HSTEP HIH HSU
   go_wp2_with (at_builtin;refine Lib.wpList_append_run _ rfl _ _ _ _ rfl _ _ rfl rfl _ _ (hr4 _) ?_)
   go_roundw
   case rel=>exact⟨k+1,by go_num,by omega,r4,S3,HK4⟩
   case measure=>simp[intOf];omega
  ·have hlti:¬(k:Int)<(len:Int):=by omega
   obtain rfl:k=len:=by omega
   obtain⟨⟨f1,f2,_⟩,f4,f5⟩:=HTF.out k (Nat.le_refl _)
   have hb1:=HB1.out
   have hb2:=HB2.out
   have hlz:=HLZ.out
   have HF5:=Lib.hid f5
   obtain⟨p,hpp⟩:∃p,mkTo am n f.ks N cl k=p:=⟨_,rfl⟩
   have HPP:=Lib.hid hpp
   have hsz1:sizTo n f.ks k≤100000:=by omega
   have hams:am.length+N+sizTo n f.ks k≤100000:=by omega
   rw[hpp]at hS f1 f2 f4 HF5
   clear f5 hpp
   obtain⟨m,hmm⟩:∃m:Nat,m=p.1+1:=⟨_,rfl⟩
   have hwm:IntKind.i64.wrap ((p.1:Int)+1)=(m:Int):=by rw[hmm];exact IntWalk.i64_in _ (by omega)
   have hwn:IntKind.i64.wrap (-(m:Int))= -(m:Int):=IntWalk.i64_in _ (by omega)
   have hmB:m≤200000:=by omega
   have hclB:p.2.1.length≤1000000:=by omega
   have hlitB:p.2.2.length≤100000:=by omega
   have HMM:=Lib.hid hmm
   have hMs:=hS.out.ls.size
   have hKs:=hS.out.ls.lt
   obtain⟨r2,hL2,hr2,hK2⟩:=hS.out.ls.count m
   have hsz2:(wr.setCell ⟨M,0,none⟩ (.int .i64 m)).heap.size=wr.heap.size:=by simp[World.setCell]
   have c0:=hS.out.ls.c0
   have fz:=hS.out.ls.fz 0
   have hcell:∀j,wr.cell? ⟨w.heap.size,j,none⟩=W1.cell? ⟨w.heap.size,j,none⟩:=fun j=>World.cell?_of_block (a:=⟨w.heap.size,j,none⟩) (hS.out.kp.block w.heap.size HQ1.out (fun e=>by have:=HMW.out;omega) (fun e=>HQ.out e.symm))
   have x0:=(hcell 0).trans HBX.out.c0
   have hne:M≠w.heap.size:=by have:=HMW.out;omega
   have hO2:=hS.out.ow.grown (grown_set (M:=M) (j:=0) (.int .i64 m)) (fun q e=>by
    injection e with e
    subst e
    exact⟨fun h=>h,fun e2=>by have:=(hS.out.ow.lt _ e2).1;omega⟩)
   have hfar2:∀q,r2=some q→r1=some q∨wr.heap.size≤q:=fun q e=>by
    rcases hr2 with rfl | ⟨u,rfl,hu⟩
    ·exact .inl e
    ·injection e with e;subst e;exact .inr hu
   have HEND:=Lib.hid (fun(S2:Nat→Prop) N' cl' w2 hs2 (h:LTo M K mp av N' cl' r1 S2 wr w2)=>XEnd.of (w:=w) (next_trans (.inl rfl) HSZ.out hS.out.rr) (keptW_trans (.inl rfl) (.of_below HA.out) hS.out.kp) (fun b hb=>(hS.out.sl b hb).imp id (fun h=>Nat.le_trans HSZ.out h)) hs2 h)
   have HK2:=Lib.hid hK2
   have HR2:=Lib.hid hr2
   have HL2:=Lib.hid hL2
   have HO2:=Lib.hid hO2
   have HOB:=Lib.hid hS.out.ob
   have HOL:=Lib.hid hS.out.ow.lt
   have HFR:=Lib.hid hfar2
   have HSM:=Lib.hid (And.intro hMs (And.intro hKs hsz2))
   clear hK2 hr2 hL2 hO2 hfar2 hsz2 hMs hKs hcell hmm hS HB1 HB2 HTF HLZ HK HM HI HP HT hb1 hb2 hlz f1 f2
   rcases hkd with rfl | rfl | rfl | rfl
   ·have hA3:Below (wr.setCell ⟨M,0,none⟩ (.int .i64 m)).heap.size (wr.setCell ⟨M,0,none⟩ (.int .i64 m)) ((wr.setCell ⟨M,0,none⟩ (.int .i64 m)).alloc (.cells #[.int .i64 (m:Int)] 3)):=(Below.refl _ _).alloc (Nat.le_refl _) _
    have hI:=ints_new (wr.setCell ⟨M,0,none⟩ (.int .i64 m)) [(m:Int)] (fun y hy=>by
     rw[List.mem_singleton]at hy
     subst hy;omega) (by simp)
    have HC:=clause_any M K mp av m p.2.1 r2 _ _ 1 1 [(m:Int)] S1 _ (HL2.out.below hA3) (by omega) rfl hI (fun b hb=>by
     subst hb
     have h3:=HSM.out
     refine⟨by omega,by simp[World.setCell],fun e=> ?_⟩
     have:=(HL2.out.row _ e).2.1
     omega) (fun b hb o=>by
     subst hb
     exact frozen_of_row _ _ _ _ _ (heap_alloc_new _ _))
    rw[HSM.out.2.2]at HC
    have HCC:=Lib.hid HC
    have HA3:=Lib.hid hA3
    clear hA3 hI HC
    go_wp2_with fail
    refine HCC.out.mono ?_
    rintro e w4 ⟨rfl,r4,hL4,hr4,hK4⟩
    have cM:=hL4.c0
    have HE:=Lib.hid (HEND.out _ _ _ w4 (fun b hb=>hb.imp id (fun e=>by omega)) (LTo.trans HR2.out HK2.out (LTo.trans (.inl rfl) (.of_below HA3.out) ⟨r4,hL4,hr4,hK4⟩)))
    clear hL4 hr4 hK4 HCC HA3 HEND HOB HOL
    go_wp2_with fail
    go_ret
    rw[HPP.out,←HMM.out,ownC_0]
    exact⟨rfl,HE.out⟩
   ·have hA3:Below (wr.setCell ⟨M,0,none⟩ (.int .i64 m)).heap.size (wr.setCell ⟨M,0,none⟩ (.int .i64 m)) ((wr.setCell ⟨M,0,none⟩ (.int .i64 m)).alloc (.cells #[.int .i64 (-(m:Int))] 3)):=(Below.refl _ _).alloc (Nat.le_refl _) _
    have hI:=ints_new (wr.setCell ⟨M,0,none⟩ (.int .i64 m)) [(-(m:Int))] (fun y hy=>by
     rw[List.mem_singleton]at hy
     subst hy;omega) (by simp)
    have HC:=clause_any M K mp av m p.2.1 r2 _ _ 1 1 [(-(m:Int))] S1 _ (HL2.out.below hA3) (by omega) rfl hI (fun b hb=>by
     subst hb
     have h3:=HSM.out
     refine⟨by omega,by simp[World.setCell],fun e=> ?_⟩
     have:=(HL2.out.row _ e).2.1
     omega) (fun b hb o=>by
     subst hb
     exact frozen_of_row _ _ _ _ _ (heap_alloc_new _ _))
    rw[HSM.out.2.2]at HC
    have HCC:=Lib.hid HC
    have HA3:=Lib.hid hA3
    clear hA3 hI HC
    go_wp2_with fail
    refine HCC.out.mono ?_
    rintro e w4 ⟨rfl,r4,hL4,hr4,hK4⟩
    have cM:=hL4.c0
    have HE:=Lib.hid (HEND.out _ _ _ w4 (fun b hb=>hb.imp id (fun e=>by omega)) (LTo.trans HR2.out HK2.out (LTo.trans (.inl rfl) (.of_below HA3.out) ⟨r4,hL4,hr4,hK4⟩)))
    clear hL4 hr4 hK4 HCC HA3 HEND HOB HOL
    go_wp2_with fail
    go_ret
    rw[HPP.out,←HMM.out,ownC_1]
    exact⟨rfl,HE.out⟩
   ·obtain⟨a9,c9,e9,hs9⟩:=HO2.out.slot (by omega)
    have HC:=join_any M K mp av m p.2.1 r2 S1 _ (wr.setCell ⟨M,0,none⟩ (.int .i64 m)) (m:Int) 1 a9 p.2.2.length c9 p.2.2 HL2.out (by omega) rfl hs9 (fun b hb=>by
     rcases hb with hb | hb
     ·exact hb.elim
     ·have h1:=HOL.out b hb
      have h2:=HOB.out b hb
      have h3:=HSM.out
      refine⟨by rw[h3.2.2];omega,by omega,fun e=> ?_⟩
      rcases HFR.out b e with h | h
      ·exact h2.2.1 h
      ·omega) (by unfold sm;omega) (by omega) (fun x hx=>by
     have:=HF5.out x hx
     unfold sm;omega)
    have HCC:=Lib.hid HC
    clear HC hs9 f4 hlitB
    subst e9
    generalize p.2.2.length=n9 at*
    go_wp2_with fail
    refine HCC.out.mono ?_
    rintro e w4 ⟨rfl,S4,hS4,r4,hL4,hr4,hK4⟩
    have cM:=hL4.c0
    have HE:=Lib.hid (HEND.out _ _ _ w4 (fun b hb=>(hS4 b hb).imp id (fun e=>by have:=HSM.out;omega)) (LTo.trans HR2.out HK2.out ⟨r4,hL4,hr4,hK4⟩))
    clear hS4 hL4 hr4 hK4 HCC HEND HOB HOL
    go_wp2_with fail
    go_ret
    rw[HPP.out,←HMM.out,ownC_5]
    exact⟨rfl,HE.out⟩
   ·obtain⟨a9,c9,e9,hs9⟩:=HO2.out.slot (by omega)
    have HC:=join_any M K mp av m p.2.1 r2 S1 _ (wr.setCell ⟨M,0,none⟩ (.int .i64 m)) (-(m:Int)) (-1) a9 p.2.2.length c9 p.2.2 HL2.out (by omega) rfl hs9 (fun b hb=>by
     rcases hb with hb | hb
     ·exact hb.elim
     ·have h1:=HOL.out b hb
      have h2:=HOB.out b hb
      have h3:=HSM.out
      refine⟨by rw[h3.2.2];omega,by omega,fun e=> ?_⟩
      rcases HFR.out b e with h | h
      ·exact h2.2.1 h
      ·omega) (by unfold sm;omega) (by omega) (fun x hx=>by
     have:=HF5.out x hx
     unfold sm;omega)
    have HCC:=Lib.hid HC
    clear HC hs9 f4 hlitB
    subst e9
    generalize p.2.2.length=n9 at*
    go_wp2_with fail
    refine HCC.out.mono ?_
    rintro e w4 ⟨rfl,S4,hS4,r4,hL4,hr4,hK4⟩
    have cM:=hL4.c0
    have HE:=Lib.hid (HEND.out _ _ _ w4 (fun b hb=>(hS4 b hb).imp id (fun e=>by have:=HSM.out;omega)) (LTo.trans HR2.out HK2.out ⟨r4,hL4,hr4,hK4⟩))
    clear hS4 hL4 hr4 hK4 HCC HEND HOB HOL
    go_wp2_with fail
    go_ret
    rw[HPP.out,←HMM.out,ownC_6]
    exact⟨rfl,HE.out⟩
end
section
open Go.RowKit
theorem gat_snd {n:Nat}{f:FT}{am:List (Int×List (Int×Int))}(h:f.kind≠2):gatF (n+1) f am=gatTo n f.ks am f.ks.length:=by rw[gatTo_len,if_neg h]
theorem gat_x (B M K mp:Nat)(hB:B≤mp)(n:Nat)(IH:GatSaid B M K mp n)(f:FT)(cs:List Value)(am:List (Int×List (Int×Int)))(r:Option Nat)(S:Nat→Prop)(w:World)(h:FLies B w (n+1) f cs)(hm:madeF (n+1) f=true)(hS:GS M K mp am r S w)(ht:Tens mp w)(hb:am.length+siz (n+1) f≤100000)(h2:f.kind≠2):
 Calls Tryz.prog 53 #[.pointer (some ⟨M,0,none⟩),.agg cs.toArray] w fun e w'=>e= .returned (.tuple #[])∧GEnd M K mp (gatF (n+1) f am) r S w w':=by
 obtain⟨ta,tcap,ka,kcap,rfl,hT,hl1,hl2,hks⟩:=h
 rw[gat_snd h2]
 have hlt:=hS.lt
 have hMw:=hS.size
 have hA:Below w.heap.size w (w.alloc (.cells #[.int .i64 f.kind,.int .i64 f.c,.slice ta f.t.length tcap,.slice ka f.ks.length kcap] 39)):=(Below.refl _ w).alloc (Nat.le_refl _) _
 have HB:=box_start w f.kind f.c ta ka f.t.length tcap f.ks.length kcap
 have HM:=Lib.hid (made_kids hm)
 have HTF:=Lib.hid (fun i (hi:i≤f.ks.length)=>gatTo_le n f.ks am i hi)
 have HS1:=Lib.hid (hS.below hA)
 have HI:=Lib.hid IH
 have HK:=Lib.hid hks
 have HT:=Lib.hid ht
 have HA:=Lib.hid hA
 have HLT:=Lib.hid hlt
 have HBM:=Lib.hid hB
 have hsz:=sizTo_len n f
 rw[hsz]at hb
 have HB1:=Lib.hid hb
 have HBX:=Lib.hid HB
 have hq1:w.heap.size<(w.alloc (.cells #[.int .i64 f.kind,.int .i64 f.c,.slice ta f.t.length tcap,.slice ka f.ks.length kcap] 39)).heap.size:=by simp
 have HQ1:=Lib.hid hq1
 have HQ:Hid (r≠some w.heap.size):=Lib.hid fun e=>by have:=(hS.row _ e).2.1;omega
 have b0:=HB.c0
 have b3:=HB.c3
 have hk2:(f.kind == 2)=false:=by simp[h2]
 clear IH hks hT hS ht hA HB hm hsz hb hB hMw hlt hq1 hl1
 generalize f.kind=fk at*
 generalize f.c=fc at*
 generalize f.t.length=ft at*
 generalize hlen:f.ks.length=len at*
 have HLEN:=Lib.hid hlen
 clear hlen
 go_enter Tryz.func53,Tryz.ntmps53
 go_wp2_with fail
 clear b0 b3
 generalize w.alloc (.cells #[.int .i64 fk,.int .i64 fc,.slice ta ft tcap,.slice ka len kcap] 39)=W1 at*
 go_loopw [10] (fun i wr=>∃k:Nat,i= .int .i64 k∧k≤len∧Hid (∃S',(∀b,S' b→S b∨W1.heap.size≤b)∧GTo M K mp (gatTo n f.ks am k) r S' W1 wr)) (fun i _=>len - (intOf i).toNat)
 case atStart=>exact⟨0,rfl,Nat.zero_le _,⟨S,fun b hb=> .inl hb,.refl HS1.out⟩⟩
 case round=>
  obtain⟨k,rfl,hk,hS⟩:=hrel
  obtain⟨S1,hs1,r1,hG,hr1,hK1⟩:=hS.out
  have HS1':=Lib.hid hs1
  have HG1:=Lib.hid hG
  have HR1:=Lib.hid hr1
  have HK1:=Lib.hid hK1
  have hw1:Below mp W1 wr:=HS1.out.low hK1
  have hMw:Below mp w wr:=(HA.out.mono (by have:=HLT.out;omega)).trans hw1
  have HMW:=Lib.hid hMw
  have HSZ:=Lib.hid hK1.size
  clear hS hs1 hG hr1 hK1 hw1 hMw
  by_cases hlt:k<len
  ·have hlti:(k:Int)<(len:Int):=by omega
   have hkl:k<f.ks.length:=by rw[HLEN.out];exact hlt
   obtain⟨b,off,c0,c1,c2,c3,rfl,hbl,g0,g1,g2,g3,hf⟩:=HK.out k hlt
   have hblM:b<mp:=Nat.lt_of_lt_of_le hbl HBM.out
   rw[←HMW.out.cell (p:=⟨b,_,none⟩) hblM]at g0 g1 g2 g3
   obtain⟨ck,cc,cta,ctn,ctcap,cka,ckn,ckcap,rfl,rfl,rfl,rfl⟩:=hf.form
   have hA2:Below wr.heap.size wr (wr.alloc (.cells #[.int .i64 ck,.int .i64 cc,.slice cta ctn ctcap,.slice cka ckn ckcap] 39)):=(Below.refl _ _).alloc (Nat.le_refl _) _
   have hgl:=HG1.out.lt
   have hMa:Below mp w (wr.alloc (.cells #[.int .i64 ck,.int .i64 cc,.slice cta ctn ctcap,.slice cka ckn ckcap] 39)):=HMW.out.trans (hA2.mono (by omega))
   have hmk:=HM.out k hlt
   have f1:=HTF.out k (by omega)
   have hs1:=sizTo_succ n f.ks k hkl
   have hs2:=sizTo_mono n f.ks (i:=k+1) (j:=f.ks.length) hkl
   have hb1:=HB1.out
   have hl:=HLEN.out
   rw[hl]at hs2
   have hih:=HI.out (f.ks.getD k default) _ (gatTo n f.ks am k) r1 S1 _ (hf.below (hMa.mono HBM.out)) hmk (HG1.out.below hA2) (HT.out.up hMa (Nat.le_refl _)) (by omega)
   have HIH:=Lib.hid hih
   have HA2:=Lib.hid hA2
   have HGT:=Lib.hid (gatTo_succ n f.ks am k hkl)
   clear hA2 hMa hmk f1 hs1 hs2 hb1 hl hih hf hbl hblM hgl
   go_wp2_with fail
   clear g0 g1 g2 g3
   generalize wr.alloc (.cells #[.int .i64 ck,.int .i64 cc,.slice cta ctn ctcap,.slice cka ckn ckcap] 39)=wa at*
   refine HIH.out.mono ?_
   rintro e w3 ⟨rfl,S3,hS3,r3,hG3,hr3,hK3⟩
   have HE:Hid (∃S',(∀b,S' b→S b∨W1.heap.size≤b)∧GTo M K mp (gatTo n f.ks am (k+1)) r S' W1 w3):=Lib.hid (by
    refine⟨S3,fun b hb=> ?_,r3,by rw[HGT.out];exact hG3,next_trans HR1.out (Nat.le_trans HSZ.out HA2.out.size) hr3,keptG_trans HR1.out HK1.out (keptG_trans (.inl rfl) (.of_below HA2.out) hK3)⟩
    rcases hS3 b hb with hb | hb
    ·exact HS1'.out b hb
    ·exact .inr (Nat.le_trans (Nat.le_trans HSZ.out HA2.out.size) hb))
   clear hS3 hG3 hr3 hK3
   go_wp2_with fail
   go_roundw
   case rel=>exact⟨k+1,by go_num,by omega,HE⟩
   case measure=>simp[intOf];omega
  ·have hlti:¬(k:Int)<(len:Int):=by omega
   obtain rfl:k=len:=by omega
   have HE:Hid (GEnd M K mp (gatTo n f.ks am k) r S w wr):=Lib.hid ⟨S1,fun b hb=>(HS1'.out b hb).imp id (fun h=>Nat.le_trans HA.out.size h),r1,HG1.out,next_trans (.inl rfl) HA.out.size HR1.out,keptG_trans (.inl rfl) (.of_below HA.out) HK1.out⟩
   have x0:wr.cell? ⟨w.heap.size,0,none⟩=some (.int .i64 fk):=(World.cell?_of_block (a:=⟨w.heap.size,0,none⟩) (HK1.out.block w.heap.size HQ1.out (fun e=>by have:=HLT.out;omega) (fun e=>by have:=HLT.out;omega) (fun e=>HQ.out e.symm))).trans HBX.out.c0
   clear HK1 HR1 HG1 HMW
   go_wp2_with fail
   refine bodyPost_ret (results_none rfl _ _ _) rfl ?_
   exact⟨rfl,HE.out⟩
theorem gat_any (B M K mp:Nat)(hB:B≤mp):∀n,GatSaid B M K mp n
 | 0=>fun f cs am r S w h=>h.elim
 | n+1=>fun f cs am r S w h hm hS ht hb=>by
   by_cases h2:f.kind=2
   ·exact gat_2 B M K mp hB n f cs am r S w h hm hS ht hb h2
   ·exact gat_x B M K mp hB n (gat_any B M K mp hB n) f cs am r S w h hm hS ht hb h2
theorem lit_any (am:List (Int×List (Int×Int)))(B M K mp:Nat)(av:Value)(hB:B≤M)(hmp:mp<M):∀n,LitSaid am B M K mp av n
 | 0=>fun f cs N cl r S w h=>h.elim
 | n+1=>fun f cs N cl r S w h hm hS hp ht hb1 hb2=>by
   rcases made_kind hm with hk | hk | hk | hk | hk | hk
   ·exact lit_x am B M K mp av hB hmp n (lit_any am B M K mp av hB hmp n) f cs N cl r S w h hm hS hp ht hb1 hb2 (by omega)
   ·exact lit_x am B M K mp av hB hmp n (lit_any am B M K mp av hB hmp n) f cs N cl r S w h hm hS hp ht hb1 hb2 (by omega)
   ·exact lit_2 am B M K mp av hB hmp n f cs N cl r S w h hm hS hp ht hk
   ·exact lit_4 am B M K mp av hB hmp n (lit_any am B M K mp av hB hmp n) f cs N cl r S w h hm hS hp ht hb1 hb2 hk
   ·exact lit_x am B M K mp av hB hmp n (lit_any am B M K mp av hB hmp n) f cs N cl r S w h hm hS hp ht hb1 hb2 (by omega)
   ·exact lit_x am B M K mp av hB hmp n (lit_any am B M K mp av hB hmp n) f cs N cl r S w h hm hS hp ht hb1 hb2 (by omega)
end
section
open Go.RowKit
theorem grown_trans {r r':Option Nat}{w w1 w2:World}(hr:r'=r∨∃q,r'=some q∧w.heap.size≤q)(h:w.grownBy w1 r)(k:w1.grownBy w2 r'):w.grownBy w2 r:=
 ⟨k.os.trans h.os,k.tape.trans h.tape,k.output.trans h.output,Nat.le_trans h.size k.size,fun q hq hn=>(k.block q (Nat.lt_of_lt_of_le hq h.size) (fun e=>by
   rcases hr with rfl | ⟨p,rfl,hp⟩
   ·exact hn e
   ·injection e with e;omega)).trans (h.block q hq hn)⟩
theorem grown_of {r:Option Nat}{w w':World}(h:Below w.heap.size w w'):w.grownBy w' r:=⟨h.os,h.tape,h.output,h.size,fun q hq _=>h.block q hq⟩
theorem grown_low {r:Option Nat}{w w':World}{K:Nat}(h:w.grownBy w' r)(hK:K≤w.heap.size)(hr:∀q,r=some q→K≤q):Below K w w':=⟨h.os,h.tape,h.output,h.size,fun q hq=>h.block q (by omega) (fun e=>by have:=hr q e.symm;omega)⟩
def RowTo {T:Type}(sh:Pak.Sh T)(ty:TypeId)(K:Nat)(S:Nat→Prop)(xs:List T)(v:Value)(w:World)(v':Value)(w':World):Prop:=
 OwnP sh ty K S xs v' w'∧w.grownBy w' v.ownBlock∧(v'.ownBlock=v.ownBlock∨∃q,v'.ownBlock=some q∧w.heap.size≤q)
theorem RowTo.refl {T:Type}{sh:Pak.Sh T}{ty:TypeId}{K:Nat}{S:Nat→Prop}{xs:List T}{v:Value}{w:World}(h:OwnP sh ty K S xs v w):RowTo sh ty K S xs v w v w:=⟨h,grown_of (Below.refl _ _),.inl rfl⟩
theorem RowTo.of {T:Type}{sh:Pak.Sh T}{ty:TypeId}{K:Nat}{S1 S2:Nat→Prop}{xs xs1:List T}{v v1 v2:Value}{w w1 w2:World}(h:RowTo sh ty K S1 xs1 v w v1 w1)(k:RowTo sh ty K S2 xs v1 w1 v2 w2):RowTo sh ty K S2 xs v w v2 w2:=
 ⟨k.1,grown_trans h.2.2 h.2.1 k.2.1,next_trans h.2.2 h.2.1.size k.2.2⟩
theorem RowTo.after {T:Type}{sh:Pak.Sh T}{ty:TypeId}{K:Nat}{S1:Nat→Prop}{xs1:List T}{v v1:Value}{w w1 w2:World}(h:RowTo sh ty K S1 xs1 v w v1 w1)(hb:Below w1.heap.size w1 w2):RowTo sh ty K S1 xs1 v w v1 w2:=
 ⟨h.1.below hb,grown_trans (.inl rfl) h.2.1 (grown_of hb),h.2.2⟩
theorem RowTo.before {T:Type}{sh:Pak.Sh T}{ty:TypeId}{K:Nat}{S1:Nat→Prop}{xs1:List T}{v v1:Value}{w w1 w2:World}(hb:Below w.heap.size w w1)(h:RowTo sh ty K S1 xs1 v w1 v1 w2):RowTo sh ty K S1 xs1 v w v1 w2:=
 ⟨h.1,grown_trans (.inl rfl) (grown_of hb) h.2.1,h.2.2.imp id (fun⟨q,e,hq⟩=>⟨q,e,Nat.le_trans hb.size hq⟩)⟩
abbrev ARow (B K:Nat)(am:List (Int×List (Int×Int)))(v:Value)(w:World):Prop:=OwnP linSh 36 K (fun b=>b<B) am v w
def AEnd (B K:Nat)(am:List (Int×List (Int×Int)))(v:Value)(w:World)(e:Ending)(w':World):Prop:=∃v',e= .returned v'∧RowTo linSh 36 K (fun b=>b<B) am v w v' w'
def short (am:List (Int×List (Int×Int))):Prop:=∀y∈am,y.2.length≤64
def RAtSaid (B K:Nat)(n:Nat):Prop:=
 ∀(f:FT) (cs:List Value) (am:List (Int×List (Int×Int))) (v:Value) (w:World),FLies B w n f cs→madeF n f=true→ARow B K am v w→K≤w.heap.size→short am→am.length+siz n f≤100000→
  Calls Tryz.prog 63 #[.agg cs.toArray,v] w (AEnd B K (gatF n f am) v w)
theorem short_gat:∀(n:Nat) (f:FT) (am:List (Int×List (Int×Int))),madeF n f=true→short am→short (gatF n f am)
 | 0,f,am,hm,_=>by cases hm
 | n+1,f,am,hm,h=>by
   have hto:∀i,i≤f.ks.length→short (gatTo n f.ks am i):=fun i=>by
    induction i with
    | zero=>exact fun _=>h
    | succ i ih=>
      intro hi
      rw[gatTo_succ n f.ks am i hi]
      exact short_gat n _ _ (made_kids hm i hi) (ih (by omega))
   rw[gatTo_len]
   split
   ·rename_i h2
    unfold addA
    split
    ·intro y hy
     rcases List.mem_append.1 hy with hy | hy
     ·exact hto _ (Nat.le_refl _) y hy
     ·rw[List.mem_singleton]at hy
      subst hy
      exact(snd_iff.1 (made_snd hm h2).1).2.1
    ·exact hto _ (Nat.le_refl _)
   ·exact hto _ (Nat.le_refl _)
theorem short_to (n:Nat)(ks:List FT)(am:List (Int×List (Int×Int)))(hm:∀i,i<ks.length→madeF n (ks.getD i default)=true)(h:short am):∀i,i≤ks.length→short (gatTo n ks am i)
 | 0,_=>h
 | i+1,hi=>by
   rw[gatTo_succ n ks am i hi]
   exact short_gat n _ _ (hm i hi) (short_to n ks am hm h i (by omega))
theorem rat_2 (B K:Nat)(hB:B≤K)(n:Nat)(f:FT)(cs:List Value)(am:List (Int×List (Int×Int)))(v:Value)(w:World)(h:FLies B w (n+1) f cs)(hm:madeF (n+1) f=true)(hv:ARow B K am v w)(hK:K≤w.heap.size)(hsh:short am)(hb:am.length+siz (n+1) f≤100000)(h2:f.kind=2):
 Calls Tryz.prog 63 #[.agg cs.toArray,v] w (AEnd B K (gatF (n+1) f am) v w):=by
 obtain⟨ta,tcap,ka,kcap,rfl,hT,_,_,_⟩:=h
 obtain⟨hsn,hk0⟩:=made_snd hm h2
 have HG:gatF (n+1) f am=addA am (f.c,f.t):=by rw[gatTo_len,if_pos h2,hk0,gatTo_zero]
 rw[HG]
 have ht64:=(snd_iff.1 hsn).2.1
 have hA:Below w.heap.size w (w.alloc (.cells #[.int .i64 f.kind,.int .i64 f.c,.slice ta f.t.length tcap,.slice ka f.ks.length kcap] 39)):=(Below.refl _ w).alloc (Nat.le_refl _) _
 have HB:=box_start w f.kind f.c ta ka f.t.length tcap f.ks.length kcap
 obtain⟨va,vc,hvf⟩:=hv.form
 obtain⟨va',vc',hvf',hsit⟩:=(hv.below hA).slot (by omega)
 have hok:=(hv.below hA).ok
 have hvl:=(hv.below hA).lt
 have HAT:=Lib.hid (at_any _ va' am.length vc' am f.c ta f.t.length tcap f.t _ hsit (fun b hb=>by
  rcases hb with hb | hb
  ·exact(hok b hb).1
  ·exact(hvl b hb).2) rfl (fun y hy=>by have:=hsh y hy;omega) ((hT.below (hA.mono (by omega))).mono (Nat.le_trans (show B≤w.heap.size by omega) hA.size)) rfl (by omega))
 rw[←hvf']at HAT
 have HV:=Lib.hid hv
 have HA:=Lib.hid hA
 have HT:=Lib.hid hT
 have HBK:=Lib.hid (And.intro hB hK)
 have hq1:w.heap.size<(w.alloc (.cells #[.int .i64 f.kind,.int .i64 f.c,.slice ta f.t.length tcap,.slice ka f.ks.length kcap] 39)).heap.size:=by simp
 have HQ1:=Lib.hid hq1
 have HAM:=Lib.hid (show am.length≤4194304 by omega)
 have b0:=HB.c0
 have b1:=HB.c1
 have b2:=HB.c2
 have b3:=HB.c3
 rw[h2]at*
 rw[hk0]at*
 clear h2 hk0 hsn hT hv hA HB hm hsh hB hb hq1 HG hok hvl hsit hvf' hK
 subst hvf
 generalize f.c=c at*
 generalize f.t=t at*
 generalize f.ks=fks at*
 go_enter Tryz.func63,Tryz.ntmps63
 go_wp2_with fail
 generalize w.alloc (.cells #[.int .i64 2,.int .i64 c,.slice ta t.length tcap,.slice ka 0 kcap] 39)=W1 at*
 refine HAT.out.mono ?_
 rintro e w2 ⟨rfl,hb2⟩
 have hk:=fun j=>hb2.cell (p:=⟨w.heap.size,j,none⟩) HQ1.out
 have c1:=(hk 1).trans b1
 have c2:=(hk 2).trans b2
 have c3:=(hk 3).trans b3
 have HB2:=Lib.hid (HA.out.trans (hb2.mono HA.out.size))
 clear hb2 hk b0 b1 b2 b3 HAT
 by_cases h0:atN am (c,t)=0
 ·rw[h0]
  have hv2:=HV.out.below HB2.out
  obtain⟨v6,w6,hr6,h6,g6,n6⟩:=hv2.put (P:=Tryz.prog) (t:=22) (x:=(c,t)) (cs:=[.int .i64 c,.slice ta t.length tcap]) (Sx:=fun b=>b<B) Tryz.underlying22 (by':=32) (by kernel_rfl) (by decide) (by decide) HAM.out (Nat.le_trans HBK.out.2 HB2.out.size) ⟨ta,tcap,rfl,(HT.out.below (HB2.out.mono (Nat.le_trans HBK.out.1 HBK.out.2))).liesS⟩ (fun b hb=>⟨by have:=HBK.out;have:=HB2.out.size;omega,fun e=>by have:=(hv2.lt b e).1;have:=HBK.out;omega⟩)
  have HE:Hid (AEnd B K (addA am (c,t)) (.slice va am.length vc) w (.returned v6) w6):=Lib.hid ⟨v6,rfl,RowTo.before HB2.out ⟨by unfold addA;rw[if_pos h0];exact h6.more (fun b hb=>by rcases hb with hb | hb<;>exact hb) (fun b hb=>h6.ok b (.inl hb)),g6,n6⟩⟩
  obtain⟨x6,y6,e6⟩:=h6.form
  generalize (am ++ [(c,t)]).length=l6 at e6
  subst e6
  clear h6 g6 n6 hv2
  generalize am.length=al at*
  go_wp2_with (at_builtin;refine Lib.wpList_append_run _ rfl _ _ _ _ rfl _ _ rfl rfl _ _ (hr6 _) ?_)
  go_ret
  exact HE.out
 ·have h01:(((atN am (c,t):Nat):Int) == 0)=false:=by simp[h0]
  have HE:Hid (AEnd B K (addA am (c,t)) (.slice va am.length vc) w (.returned (.slice va am.length vc)) w2):=Lib.hid ⟨_,rfl,by unfold addA;rw[if_neg h0];exact(RowTo.refl HV.out).after HB2.out⟩
  clear h0
  generalize ((atN am (c,t):Nat):Int)=z at*
  generalize am.length=al at*
  go_wp2_with fail
  go_loopw [1,5] (fun v i wr=>v= .slice va al vc∧i= .int .i64 0∧Hid (wr=w2)) (fun _ _ _=>0)
  case atStart=>exact⟨rfl,rfl,rfl⟩
  case round=>
   obtain⟨rfl,rfl,hw⟩:=hrel
   obtain rfl:=hw.out
   clear hw
   go_wp2_with fail
   go_ret
   exact HE.out
end
section
open Go.RowKit
theorem rat_x (B K:Nat)(hB:B≤K)(n:Nat)(IH:RAtSaid B K n)(f:FT)(cs:List Value)(am:List (Int×List (Int×Int)))(v:Value)(w:World)(h:FLies B w (n+1) f cs)(hm:madeF (n+1) f=true)(hv:ARow B K am v w)(hK:K≤w.heap.size)(hsh:short am)(hb:am.length+siz (n+1) f≤100000)(h2:f.kind≠2):
 Calls Tryz.prog 63 #[.agg cs.toArray,v] w (AEnd B K (gatF (n+1) f am) v w):=by
 obtain⟨ta,tcap,ka,kcap,rfl,hT,hl1,hl2,hks⟩:=h
 rw[gat_snd h2]
 have hA:Below w.heap.size w (w.alloc (.cells #[.int .i64 f.kind,.int .i64 f.c,.slice ta f.t.length tcap,.slice ka f.ks.length kcap] 39)):=(Below.refl _ w).alloc (Nat.le_refl _) _
 have HB:=box_start w f.kind f.c ta ka f.t.length tcap f.ks.length kcap
 have HM:=Lib.hid (made_kids hm)
 have HTF:=Lib.hid (fun i (hi:i≤f.ks.length)=>gatTo_le n f.ks am i hi)
 have HSH:=Lib.hid (short_to n f.ks am (made_kids hm) hsh)
 have HI:=Lib.hid IH
 have HK:=Lib.hid hks
 have HA:=Lib.hid hA
 have HBK:=Lib.hid (And.intro hB hK)
 have hsz:=sizTo_len n f
 rw[hsz]at hb
 have HB1:=Lib.hid hb
 have HBX:=Lib.hid HB
 have hq1:w.heap.size<(w.alloc (.cells #[.int .i64 f.kind,.int .i64 f.c,.slice ta f.t.length tcap,.slice ka f.ks.length kcap] 39)).heap.size:=by simp
 have HQ1:=Lib.hid hq1
 have HQ:Hid (v.ownBlock≠some w.heap.size):=Lib.hid fun e=>by have:=(hv.lt _ e).2;omega
 have HVL:=Lib.hid (fun q (e:v.ownBlock=some q)=>(hv.lt q e).1)
 have HR1:=Lib.hid (RowTo.refl (hv.below hA))
 have b0:=HB.c0
 have b3:=HB.c3
 obtain⟨va,vc,hvf⟩:=hv.form
 have hk2:(f.kind == 2)=false:=by simp[h2]
 clear IH hks hT hv hA HB hm hsz hb hB hq1 hl1 hsh hK
 subst hvf
 generalize f.kind=fk at*
 generalize f.c=fc at*
 generalize f.t.length=ft at*
 generalize hlen:f.ks.length=len at*
 have HLEN:=Lib.hid hlen
 clear hlen
 obtain⟨al,hal⟩:∃al,al=am.length:=⟨_,rfl⟩
 rw[←hal]at HQ HVL HR1 HB1 HTF⊢
 clear hal
 go_enter Tryz.func63,Tryz.ntmps63
 go_wp2_with fail
 clear b0
 generalize w.alloc (.cells #[.int .i64 fk,.int .i64 fc,.slice ta ft tcap,.slice ka len kcap] 39)=W1 at*
 go_loopw [1,5] (fun o i wr=>∃(k ol oc:Nat) (oa:Option Addr),i= .int .i64 k∧k≤len∧o= .slice oa ol oc∧Hid (RowTo linSh 36 K (fun b=>b<B) (gatTo n f.ks am k) (.slice va al vc) W1 (.slice oa ol oc) wr)) (fun _ i _=>len - (intOf i).toNat)
 case atStart=>exact⟨0,al,vc,va,rfl,Nat.zero_le _,rfl,HR1.out⟩
 case round=>
  clear HR1
  obtain⟨k,ol,oc,oa,rfl,hk,rfl,hS⟩:=hrel
  have hg:=hS.out.2.1
  have hbk:=HBK.out
  have hMw:Below K w wr:=(HA.out.mono hbk.2).trans (grown_low hg (Nat.le_trans hbk.2 HA.out.size) HVL.out)
  have HMW:=Lib.hid hMw
  have hc:=fun j=>World.cell?_of_block (a:=⟨w.heap.size,j,none⟩) (hg.block w.heap.size HQ1.out (fun e=>HQ.out e.symm))
  have x3:=(hc 3).trans b3
  clear hg hMw hc
  by_cases hlt:k<len
  ·have hlti:(k:Int)<(len:Int):=by omega
   have hkl:k<f.ks.length:=by rw[HLEN.out];exact hlt
   obtain⟨b,off,c0,c1,c2,c3,rfl,hbl,g0,g1,g2,g3,hf⟩:=HK.out k hlt
   have hblM:b<K:=by omega
   rw[←HMW.out.cell (p:=⟨b,_,none⟩) hblM]at g0 g1 g2 g3
   obtain⟨ck,cc,cta,ctn,ctcap,cka,ckn,ckcap,rfl,rfl,rfl,rfl⟩:=hf.form
   have hmk:=HM.out k hlt
   have f1:=HTF.out k (by omega)
   have hs1:=sizTo_succ n f.ks k hkl
   have hs2:=sizTo_mono n f.ks (i:=k+1) (j:=f.ks.length) hkl
   have hb1:=HB1.out
   have hl:=HLEN.out
   rw[hl]at hs2
   have hih:=HI.out (f.ks.getD k default) _ (gatTo n f.ks am k) _ wr (hf.below (HMW.out.mono hbk.1)) hmk hS.out.1 (Nat.le_trans hbk.2 HMW.out.size) (HSH.out k (by omega)) (by omega)
   have HIH:=Lib.hid hih
   have HGT:=Lib.hid (gatTo_succ n f.ks am k hkl)
   clear hmk f1 hs1 hs2 hb1 hl hih hf hbl hblM hbk
   go_wp2_with fail
   clear g0 g1 g2 g3
   refine HIH.out.mono ?_
   rintro e w3 ⟨v3,rfl,hR3⟩
   have HR3:Hid (RowTo linSh 36 K (fun b=>b<B) (gatTo n f.ks am (k+1)) (.slice va al vc) W1 v3 w3):=Lib.hid (by
    rw[HGT.out]
    exact hS.out.of hR3)
   obtain⟨a3,c3',e3⟩:=hR3.1.form
   generalize (gatF n (f.ks.getD k default) (gatTo n f.ks am k)).length=l3 at e3
   subst e3
   clear hR3 HIH hS
   go_wp2_with fail
   go_roundw
   case rel=>exact⟨k+1,l3,c3',a3,by go_num,by omega,rfl,HR3⟩
   case measure=>simp[intOf];omega
  ·have hlti:¬(k:Int)<(len:Int):=by omega
   obtain rfl:k=len:=by omega
   have HE:Hid (AEnd B K (gatTo n f.ks am k) (.slice va al vc) w (.returned (.slice oa ol oc)) wr):=Lib.hid ⟨_,rfl,hS.out.before HA.out⟩
   clear hS hbk
   go_wp2_with fail
   go_ret
   exact HE.out
theorem rat_any (B K:Nat)(hB:B≤K):∀n,RAtSaid B K n
 | 0=>fun f cs am v w h=>h.elim
 | n+1=>fun f cs am v w h hm hv hK hsh hb=>by
   by_cases h2:f.kind=2
   ·exact rat_2 B K hB n f cs am v w h hm hv hK hsh hb h2
   ·exact rat_x B K hB n (rat_any B K hB n) f cs am v w h hm hv hK hsh hb h2
end
section
open Go.RowKit
theorem RowTo.other {T:Type}{sh:Pak.Sh T}{ty:TypeId}{K:Nat}{S1:Nat→Prop}{xs1:List T}{v v1:Value}{w w1 w2:World}{r:Option Nat}(h:RowTo sh ty K S1 xs1 v w v1 w1)(g:w1.grownBy w2 r)(hr:∀q,r=some q→w.heap.size≤q∧¬S1 q∧v1.ownBlock≠some q):RowTo sh ty K S1 xs1 v w v1 w2:=
 ⟨h.1.grown g (fun q e=>(hr q e).2),⟨g.os.trans h.2.1.os,g.tape.trans h.2.1.tape,g.output.trans h.2.1.output,Nat.le_trans h.2.1.size g.size,fun q hq hn=>(g.block q (Nat.lt_of_lt_of_le hq h.2.1.size) (fun e=>by have:=(hr q e.symm).1;omega)).trans (h.2.1.block q hq hn)⟩,h.2.2⟩
abbrev CRow (K:Nat)(S:Nat→Prop)(cl:List (List Int))(v:Value)(w:World):Prop:=OwnP Pak.clauseSh 23 K S cl v w
abbrev CTo (K:Nat)(S:Nat→Prop)(cl:List (List Int))(v:Value)(w:World)(v':Value)(w':World):Prop:=RowTo Pak.clauseSh 23 K S cl v w v' w'
abbrev IRow (K:Nat)(xs:List Int)(v:Value)(w:World):Prop:=OwnP Pak.intSh 3 K (fun _=>False) xs v w
def RMEnd (K:Nat)(p:MkR)(S:Nat→Prop)(v:Value)(w:World)(e:Ending)(w':World):Prop:=
 ∃v' S',e= .returned (.tuple #[v',.int .i64 p.n,.int .i64 p.lit])∧(∀b,S' b→S b∨w.heap.size≤b)∧CTo K S' p.cl v w v' w'
def RMkSaid (am:List (Int×List (Int×Int)))(B K:Nat)(la:Option Addr)(lc:Nat)(n:Nat):Prop:=
 ∀(f:FT) (cs:List Value) (N:Nat) (cl:List (List Int)) (S:Nat→Prop) (v:Value) (w:World),FLies B w n f cs→madeF n f=true→Pak.Sits linSh (Pak.Lo K) w la am→CRow K S cl v w→K≤w.heap.size→am.length+N+siz n f≤100000→cl.length+2*siz n f≤1000000→
  Calls Tryz.prog 64 #[.agg cs.toArray,.slice la am.length lc,.int .i64 N,v] w (RMEnd K (mkF am n f N cl) S v w)
theorem rmk_2 (am:List (Int×List (Int×Int)))(B K:Nat)(la:Option Addr)(lc:Nat)(hB:B≤K)(hsh:short am)(n:Nat)(f:FT)(cs:List Value)(N:Nat)(cl:List (List Int))(S:Nat→Prop)(v:Value)(w:World)(h:FLies B w (n+1) f cs)(hm:madeF (n+1) f=true)(hl:Pak.Sits linSh (Pak.Lo K) w la am)(hv:CRow K S cl v w)(hK:K≤w.heap.size)(h2:f.kind=2):
 Calls Tryz.prog 64 #[.agg cs.toArray,.slice la am.length lc,.int .i64 N,v] w (RMEnd K (mkF am (n+1) f N cl) S v w):=by
 obtain⟨ta,tcap,ka,kcap,rfl,hT,_,_,_⟩:=h
 obtain⟨hsn,hk0⟩:=made_snd hm h2
 rw[mkF_2 h2]
 have ht64:=(snd_iff.1 hsn).2.1
 have hA:Below w.heap.size w (w.alloc (.cells #[.int .i64 f.kind,.int .i64 f.c,.slice ta f.t.length tcap,.slice ka f.ks.length kcap] 39)):=(Below.refl _ w).alloc (Nat.le_refl _) _
 have HB:=box_start w f.kind f.c ta ka f.t.length tcap f.ks.length kcap
 have HAT:=Lib.hid (at_any _ la am.length lc am f.c ta f.t.length tcap f.t _ (hl.up (hA.mono hK)) (fun b (hb:b<K)=>by simp;omega) rfl (fun y hy=>by have:=hsh y hy;omega) ((hT.below (hA.mono (by omega))).mono (Nat.le_trans (show B≤w.heap.size by omega) hA.size)) rfl (by omega))
 have HV:=Lib.hid hv
 have HA:=Lib.hid hA
 have b0:=HB.c0
 have b1:=HB.c1
 have b2:=HB.c2
 obtain⟨va,vc,hvf⟩:=hv.form
 rw[h2]at*
 clear h2 hk0 hsn hT hv hA HB hm hsh hB hK hl
 subst hvf
 generalize cl.length=cll at*
 generalize atN am (f.c,f.t)=z at*
 generalize f.c=c at*
 generalize f.t.length=tl at*
 generalize f.ks.length=kl at*
 generalize am.length=al at*
 go_enter Tryz.func64,Tryz.ntmps64
 go_wp2_with fail
 clear b0 b1 b2
 refine HAT.out.mono ?_
 rintro e w2 ⟨rfl,hb2⟩
 have HE:Hid (RMEnd K ⟨N,cl,z⟩ S (.slice va cll vc) w (.returned (.tuple #[.slice va cll vc,.int .i64 N,.int .i64 z])) w2):=Lib.hid ⟨_,S,rfl,fun b hb=> .inl hb,((RowTo.refl HV.out).after (HA.out.trans (hb2.mono HA.out.size)))⟩
 clear hb2 HAT
 go_wp2_with fail
 go_ret3
 exact HE.out
theorem rmk_4 (am:List (Int×List (Int×Int)))(B K:Nat)(la:Option Addr)(lc:Nat)(hB:B≤K)(n:Nat)(IH:RMkSaid am B K la lc n)(f:FT)(cs:List Value)(N:Nat)(cl:List (List Int))(S:Nat→Prop)(v:Value)(w:World)(h:FLies B w (n+1) f cs)(hm:madeF (n+1) f=true)(hl:Pak.Sits linSh (Pak.Lo K) w la am)(hv:CRow K S cl v w)(hK:K≤w.heap.size)(hb1:am.length+N+siz (n+1) f≤100000)(hb2:cl.length+2*siz (n+1) f≤1000000)(h4:f.kind=4):
 Calls Tryz.prog 64 #[.agg cs.toArray,.slice la am.length lc,.int .i64 N,v] w (RMEnd K (mkF am (n+1) f N cl) S v w):=by
 obtain⟨ta,tcap,ka,kcap,rfl,hT,hl1,hl2,hks⟩:=h
 obtain⟨hk1,hkk⟩:=made_not hm h4
 have hs0:siz n (f.ks.getD 0 default)≤siz (n+1) f:=by
  have e1:=sizTo_succ n f.ks 0 (by omega)
  have e2:=sizTo_len n f
  rw[hk1]at e2
  rw[sizTo_zero,show(0:Nat)+1=1 from rfl]at e1
  omega
 rw[mkF_4 h4]
 have hmk:=made_kids hm 0 (by omega)
 have hfar:=mkF_far (cl:=cl) hmk (show am.length+N+siz n (f.ks.getD 0 default)≤100000 by omega)
 obtain⟨b,off,c0,c1,c2,c3,rfl,hbl,g0,g1,g2,g3,hf⟩:=hks 0 (by omega)
 obtain⟨ck,cc,cta,ctn,ctcap,cka,ckn,ckcap,rfl,rfl,rfl,rfl⟩:=hf.form
 have hA:Below w.heap.size w (w.alloc (.cells #[.int .i64 f.kind,.int .i64 f.c,.slice ta f.t.length tcap,.slice (some ⟨b,off,none⟩) f.ks.length kcap] 39)):=(Below.refl _ w).alloc (Nat.le_refl _) _
 have hih:=IH (f.ks.getD 0 default) _ N cl S v _ (hf.below (hA.mono (by omega))) hmk (hl.up (hA.mono hK)) (hv.below hA) (Nat.le_trans hK hA.size) (by omega) (by omega)
 have HB:=box_start w f.kind f.c ta (some ⟨b,off,none⟩) f.t.length tcap f.ks.length kcap
 have b0:=HB.c0
 have b3:=HB.c3
 have hbw:b<w.heap.size:=by omega
 rw[←hA.cell (p:=⟨b,_,none⟩) hbw]at g0 g1 g2 g3
 obtain⟨va,vc,hvf⟩:=hv.form
 have HA:=Lib.hid hA
 have HIH:=Lib.hid hih
 clear hks hT hmk hf hih IH hv HB hA hs0 hb1 hb2 hm hl1 hl2 hkk hl hB hK
 rw[h4]at*
 rw[hk1]at*
 clear hk1 h4
 generalize mkF am n (f.ks.getD 0 default) N cl=q at*
 have hw:IntKind.i64.wrap (-q.lit)= -q.lit:=IntWalk.i64_in _ (by omega)
 simp only[Nat.zero_mul,Nat.add_zero]at g0 g1 g2 g3
 subst hvf
 generalize cl.length=cll at*
 generalize am.length=al at*
 generalize f.c=fc at*
 generalize f.t.length=ft at*
 go_enter Tryz.func64,Tryz.ntmps64
 go_wp2_with fail
 generalize w.alloc (.cells #[.int .i64 4,.int .i64 fc,.slice ta ft tcap,.slice (some ⟨b,off,none⟩) 1 kcap] 39)=W1 at*
 refine HIH.out.mono ?_
 rintro e w2 ⟨v2,S2,rfl,hS2,hR2⟩
 obtain⟨a2,c2',e2⟩:=hR2.1.form
 generalize q.cl.length=ql at e2
 subst e2
 have HE:Hid (RMEnd K ⟨q.n,q.cl, -q.lit⟩ S (.slice va cll vc) w (.returned (.tuple #[.slice a2 ql c2',.int .i64 q.n,.int .i64 (-q.lit)])) w2):=Lib.hid ⟨_,S2,rfl,fun b hb=>(hS2 b hb).imp id (fun h=>Nat.le_trans HA.out.size h),hR2.before HA.out⟩
 clear hS2 hR2 HIH HA g0 g1 g2 g3 b0 b3
 go_wp2_with fail
 go_ret3
 exact HE.out
end
section
open Go.RowKit
def atomsF (n:Nat)(f:FT):List (Int×List (Int×Int)):=gatF n f []
def makF (n:Nat)(f:FT):MkR:=mkF (atomsF n f) n f (atomsF n f).length []
def clsF (n:Nat)(f:FT):List (List Int):=(makF n f).cl ++ [[(makF n f).lit]]
def cnfK (n:Nat)(f:FT):Int:=if isF n f=false then 5 else if 8192<(makF n f).n∨Prp.chkK (makF n f).n (clsF n f)≠0 then 2 else 0
def CnfOk (n:Nat)(f:FT)(B:Nat)(w':World)(av cv:Value):Prop:=
 ∃(K:Nat) (Sa Sc:Nat→Prop),B≤K∧K≤w'.heap.size∧OwnP linSh 36 B Sa (atomsF n f) av w'∧(∀b,Sa b→B≤b∧b<K)∧(∀q,av.ownBlock=some q→q<K)∧OwnP Pak.clauseSh 23 K Sc (clsF n f) cv w'∧(∀b,Sc b→K≤b)∧(∀b,(Sa b∨Sc b)→∀o,w'.frozen? ⟨b,o,none⟩=false)
def CnfEnd (n:Nat)(f:FT)(w:World)(e:Ending)(w':World):Prop:=
 (cnfK n f≠0→e= .returned (.tuple #[.agg #[.int .i64 0,.slice none 0 0,.slice none 0 0],.iface 60 (.int .i64 (cnfK n f))]))∧(cnfK n f=0→∃av cv,e= .returned (.tuple #[.agg #[.int .i64 (makF n f).n,av,cv],.nilIface])∧CnfOk n f w.heap.size w' av cv)∧Below w.heap.size w w'
structure RC (W:World)(No:Nat):Prop where
 r0:W.cell? ⟨No,0,none⟩=some (.int .i64 0)
 r1:W.cell? ⟨No,1,none⟩=some (.slice none 0 0)
 r2:W.cell? ⟨No,2,none⟩=some (.slice none 0 0)
 fz:∀o,W.frozen? ⟨No,o,none⟩=false
theorem RC.keep {W W':World}{M:Nat}(h:RC W M)(hb:W'.heap[M]? =W.heap[M]?):RC W' M:=by
 have c:=fun j=>World.cell?_of_block (a:=⟨M,j,none⟩) hb
 exact⟨(c 0).trans h.r0,(c 1).trans h.r1,(c 2).trans h.r2,fun o=>(World.frozen?_of_block (a:=⟨M,o,none⟩) hb).trans (h.fz o)⟩
theorem rc_new (W:World)(N:Nat)(hN:W.heap.size=N):RC (W.alloc (.cells #[.int .i64 0,.slice none 0 0,.slice none 0 0] 71)) N:=by
 subst hN
 have hb:=heap_alloc_new W (.cells #[.int .i64 0,.slice none 0 0,.slice none 0 0] 71)
 exact⟨by rw[cell_of_row _ _ _ _ _ _ hb];rfl,by rw[cell_of_row _ _ _ _ _ _ hb];rfl,by rw[cell_of_row _ _ _ _ _ _ hb];rfl,fun o=>frozen_of_row _ _ _ _ _ hb⟩
theorem res3 {W:World}{No:Nat}(h:RC W No)(x0 x1 x2:Value):
 let W':=((W.setCell ⟨No,0,none⟩ x0).setCell ⟨No,1,none⟩ x1).setCell ⟨No,2,none⟩ x2
 W'.cell? ⟨No,0,none⟩=some x0∧W'.cell? ⟨No,1,none⟩=some x1∧W'.cell? ⟨No,2,none⟩=some x2:=by
 refine⟨?_, ?_, ?_⟩
 ·rw[World.cell?_setCell_other _ _ _ _ (by simp),World.cell?_setCell_other _ _ _ _ (by simp)]
  exact World.cell?_setCell_same _ _ _ h.r0
 ·rw[World.cell?_setCell_other _ _ _ _ (by simp)]
  refine World.cell?_setCell_same _ _ _ (u:= .slice none 0 0) ?_
  rw[World.cell?_setCell_other _ _ _ _ (by simp)];exact h.r1
 ·refine World.cell?_setCell_same _ _ _ (u:= .slice none 0 0) ?_
  rw[World.cell?_setCell_other _ _ _ _ (by simp),World.cell?_setCell_other _ _ _ _ (by simp)];exact h.r2
theorem below3 {w W:World}{B No:Nat}(h:Below B w W)(hB:B≤No)(x0 x1 x2:Value):Below B w (((W.setCell ⟨No,0,none⟩ x0).setCell ⟨No,1,none⟩ x1).setCell ⟨No,2,none⟩ x2):=
 ((h.setCell (p:=⟨No,0,none⟩) hB _).setCell (p:=⟨No,1,none⟩) hB _).setCell (p:=⟨No,2,none⟩) hB _
theorem cnfOk_set {n:Nat}{f:FT}{B No:Nat}{W:World}{av cv:Value}(h:CnfOk n f B W av cv)(hN:No<B)(x0 x1 x2:Value):CnfOk n f B (((W.setCell ⟨No,0,none⟩ x0).setCell ⟨No,1,none⟩ x1).setCell ⟨No,2,none⟩ x2) av cv:=by
 obtain⟨K,Sa,Sc,h1,h2,h3,h4,h5,h6,h7,h8⟩:=h
 have hsz:(((W.setCell ⟨No,0,none⟩ x0).setCell ⟨No,1,none⟩ x1).setCell ⟨No,2,none⟩ x2).heap.size=W.heap.size:=by simp[World.setCell]
 have hk:∀q,B≤q→(((W.setCell ⟨No,0,none⟩ x0).setCell ⟨No,1,none⟩ x1).setCell ⟨No,2,none⟩ x2).heap[q]? =W.heap[q]? :=fun q hq=>by
  rw[Below.heap_setCell _ _ _ _ (show q≠No by omega),Below.heap_setCell _ _ _ _ (show q≠No by omega),Below.heap_setCell _ _ _ _ (show q≠No by omega)]
 refine⟨K,Sa,Sc,h1,by rw[hsz];exact h2,h3.keep (Nat.le_of_eq hsz.symm) (fun q hq=>hk q ?_),h4,h5,h6.keep (Nat.le_of_eq hsz.symm) (fun q hq=>hk q ?_),h7,fun b hb o=>by rw[World.frozen?_setCell,World.frozen?_setCell,World.frozen?_setCell];exact h8 b hb o⟩
 ·rcases hq with hq | hq
  ·exact(h4 q hq).1
  ·exact(h3.lt q hq).1
 ·rcases hq with hq | hq
  ·exact Nat.le_trans h1 (h7 q hq)
  ·exact Nat.le_trans h1 (h6.lt q hq).1
theorem cls_len {n:Nat}{f:FT}(h:isF n f=true):2*(atomsF n f).length+siz n f≤100000∧(makF n f).n≤60000∧(clsF n f).length≤60000∧∀c∈clsF n f,c.length≤60000:=by
 unfold isF at h
 simp only[Bool.and_eq_true,decide_eq_true_eq]at h
 obtain⟨_,h1,h2⟩:=h
 have ha:=gatF_le n f []
 have hf:=(mkF_fits (atomsF n f) n f (atomsF n f).length [] h2).1
 have e:(atomsF n f).length≤siz n f:=by have:=ha.2;simp at this;exact this
 refine⟨by omega,by have:=hf.n;unfold makF;omega, ?_,fun c hc=> ?_⟩
 ·have:=hf.c
  unfold clsF makF
  rw[List.length_append]
  simp at this⊢
  omega
 ·unfold clsF at hc
  rcases List.mem_append.1 hc with hc | hc
  ·rcases hf.l c hc with h | h
   ·cases h
   ·omega
  ·rw[List.mem_singleton]at hc
   subst hc
   simp
end
section
open Go.RowKit
theorem GS.start {w:World}{mp:Nat}(hmp:w.heap.size=mp):GS (mp+1) (mp+2) mp [] none (fun _=>False) ((w.alloc (.map #[] 0)).alloc (.cells #[.int .i64 0,.slice none 0 0,.slice none 0 0,.map (some mp)] 110)):=by
 subst hmp
 have hz:(w.alloc (.map #[] 0)).heap.size=w.heap.size+1:=by simp
 have hn:=heap_alloc_new (w.alloc (.map #[] 0)) (.cells #[.int .i64 0,.slice none 0 0,.slice none 0 0,.map (some w.heap.size)] 110)
 rw[hz]at hn
 have hA:Below (w.alloc (.map #[] 0)).heap.size (w.alloc (.map #[] 0)) ((w.alloc (.map #[] 0)).alloc (.cells #[.int .i64 0,.slice none 0 0,.slice none 0 0,.map (some w.heap.size)] 110)):=(Below.refl _ _).alloc (Nat.le_refl _) _
 refine⟨(cell_of_row _ _ _ _ _ _ hn).trans rfl,⟨_,(cell_of_row _ _ _ _ _ _ hn).trans rfl,rfl,OwnP.nil _ _ _ _⟩,(cell_of_row _ _ _ _ _ _ hn).trans rfl,(cell_of_row _ _ _ _ _ _ hn).trans rfl,fun b hb=>hb.elim,fun j=>frozen_of_row _ _ _ _ _ hn,⟨Nat.lt_succ_self _,Nat.lt_succ_self _,by simp⟩,(Places.made w).keep (hA.block _ (by rw[hz];exact Nat.lt_succ_self _)),fun b hb=>hb.elim⟩
theorem GS.begin {M K mp:Nat}{am:List (Int×List (Int×Int))}{r:Option Nat}{S:Nat→Prop}{w:World}{v:Value}(h:GS M K mp am r S w)(hv:w.cell? ⟨M,1,none⟩=some v)(N:Nat):
 LS M w.heap.size mp v N [] none (fun _=>False) (w.setCell ⟨M,0,none⟩ (.int .i64 N))∧Places am mp (w.setCell ⟨M,0,none⟩ (.int .i64 N)):=by
 have hl:=h.lt
 have hsz:(w.setCell ⟨M,0,none⟩ (.int .i64 N)).heap.size=w.heap.size:=by simp[World.setCell]
 refine⟨⟨World.cell?_setCell_same' _ _ _ (by rw[h.c0];rfl),(World.cell?_setCell_other w ⟨M,0,none⟩ ⟨M,1,none⟩ _ (by simp)).trans hv,⟨_,(World.cell?_setCell_other w ⟨M,0,none⟩ ⟨M,2,none⟩ _ (by simp)).trans h.c2,rfl,OwnP.nil _ _ _ _⟩,fun b hb=>hb.elim,(World.cell?_setCell_other w ⟨M,0,none⟩ ⟨M,3,none⟩ _ (by simp)).trans h.c3,fun j=>by rw[World.frozen?_setCell];exact h.fz j,⟨by omega,by rw[hsz];exact Nat.le_refl _⟩,fun b hb=>hb.elim⟩,h.pl.keep (Below.heap_setCell _ _ _ _ (show mp≠M by omega))⟩
structure MkEnd (n:Nat)(f:FT)(w W:World)(M:Nat)(av cv:Value):Prop where
 ok:CnfOk n f (w.heap.size+2) W av cv
 c0:W.cell? ⟨M,0,none⟩=some (.int .i64 (makF n f).n)
 c1:W.cell? ⟨M,1,none⟩=some av
 c2:W.cell? ⟨M,2,none⟩=some cv
 rc:RC W (w.heap.size+1)
 lt:w.heap.size+2<M∧M<W.heap.size
 bel:Below w.heap.size w W
theorem MkEnd.below {n:Nat}{f:FT}{w W W':World}{M:Nat}{av cv:Value}(h:MkEnd n f w W M av cv)(hb:Below W.heap.size W W'):MkEnd n f w W' M av cv:=by
 obtain⟨K,Sa,Sc,h1,h2,h3,h4,h5,h6,h7,h8⟩:=h.ok
 have hl:=h.lt
 have c:=fun j=>hb.cell (p:=⟨M,j,none⟩) hl.2
 exact⟨⟨K,Sa,Sc,h1,Nat.le_trans h2 hb.size,h3.below hb,h4,h5,h6.below hb,h7,fun b hbb o=>(World.frozen?_of_block (a:=⟨b,o,none⟩) (hb.block b (by
  rcases hbb with hbb | hbb
  ·exact(h3.ok b hbb).1
  ·exact(h6.ok b hbb).1))).trans (h8 b hbb o)⟩,(c 0).trans h.c0,(c 1).trans h.c1,(c 2).trans h.c2,h.rc.keep (hb.block _ (by omega)),⟨hl.1,Nat.lt_of_lt_of_le hl.2 hb.size⟩,h.bel.trans (hb.mono h.bel.size)⟩
end
end Go.Proofs.YtipahfcaplbifaaGreatDoor
