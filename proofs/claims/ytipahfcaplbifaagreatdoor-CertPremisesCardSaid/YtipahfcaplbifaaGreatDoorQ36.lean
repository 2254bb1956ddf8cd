/- Parts of a proof. -/
import Derived.Test.YtipahfcaplbifaaGreatDoorQ22
import Derived.Test.YtipahfcaplbifaaGreatDoorQ23
import Derived.Test.YtipahfcaplbifaaGreatDoorQ35
set_option linter.unusedVariables false
set_option linter.unusedSimpArgs false
set_option maxHeartbeats 60000000
set_option maxRecDepth 100000
namespace Go.Proofs.YtipahfcaplbifaaGreatDoor
section
open Go.RowKit
structure KR (K:Nat)(S:Nat→Prop)(W1:World)(v0:Value)(cl:List (List Int))(ls:List Int)(v:Value)(S':Nat→Prop)(o:Value)(wr:World):Prop where
 rt:CTo K S' cl v0 W1 v wr
 sl:∀b,S' b→S b∨W1.heap.size≤b
 ow:IRow K ls o wr
 ob:∀q,o.ownBlock=some q→W1.heap.size≤q∧v.ownBlock≠some q∧¬S' q
theorem KR.start {K:Nat}{S:Nat→Prop}{W1:World}{v0:Value}{cl:List (List Int)}(h:CRow K S cl v0 W1):KR K S W1 v0 cl [] v0 S (.slice none 0 0) W1:=
 ⟨RowTo.refl h,fun b hb=> .inl hb,OwnP.nil _ _ _ _,fun q hq=>by cases hq⟩
theorem KR.step {K:Nat}{S:Nat→Prop}{W1:World}{v0:Value}{cl:List (List Int)}{ls:List Int}{v:Value}{S':Nat→Prop}{o:Value}{wr:World}(h:KR K S W1 v0 cl ls v S' o wr)(hK:K≤wr.heap.size){cl3:List (List Int)}{v3:Value}{S3:Nat→Prop}{w3:World}(hS3:∀b,S3 b→S' b∨wr.heap.size≤b)(h3:CTo K S3 cl3 v wr v3 w3)(hn:ls.length≤100000){x:Int}(hx: -9223372036854775808≤x∧x≤9223372036854775807):
 ∃a4 n4 c4 w4,(∀ty,(Builtin.append_ #[23,23] ty #[o,.slice (some ⟨w3.heap.size,0,none⟩) 1 1]).run Tryz.prog (w3.alloc (.cells #[.int .i64 x] 3))= .ok (.slice a4 n4 c4) w4)∧KR K S W1 v0 cl3 (ls ++ [x]) v3 S3 (.slice a4 n4 c4) w4:=by
 have hz:=h.rt.2.1.size
 have ho3:IRow K ls o w3:=h.ow.grown h3.2.1 (fun q e=>⟨fun h=>h,fun e2=>(h.ob q e2).2.1 e⟩)
 have hz3:=h3.2.1.size
 obtain⟨v4,w4,hr4,hO4,hg4,hv4⟩:=ho3.put (P:=Tryz.prog) (t:=23) (x:=x) (cs:=[.int .i64 x]) (Sx:=fun _=>False) Tryz.underlying23 (by':=8) (by kernel_rfl) (by decide) (by decide) (by omega) (Nat.le_trans hK hz3) ⟨rfl,hx⟩ (fun b hb=>hb.elim)
 have hfar:∀q,o.ownBlock=some q→W1.heap.size≤q∧¬S3 q∧v3.ownBlock≠some q:=fun q e=>by
  obtain⟨q1,q2,q3⟩:=h.ob q e
  have q4:=(h.ow.lt q e).2
  refine⟨q1,fun hh=> ?_,fun hh=> ?_⟩
  ·rcases hS3 q hh with hh | hh
   ·exact q3 hh
   ·omega
  ·rcases h3.2.2 with e2 | ⟨p,e2,hp⟩
   ·exact q2 (e2.symm.trans hh)
   ·rw[e2]at hh
    injection hh with hh;omega
 have hR4:=(h.rt.of h3).other hg4 hfar
 have hlt3:=h3.1.lt
 have hok3:=h3.1.ok
 obtain⟨a4,c4,e4⟩:=hO4.form
 generalize hn4:(ls ++ [x]).length=n4 at e4
 subst e4
 refine⟨a4,n4,c4,w4,hr4,hR4,fun b hb=> ?_,hO4.more (fun b hb=>by rcases hb with hb | hb<;>exact hb) (fun b hb=>hb.elim),fun q e=> ?_⟩
 ·rcases hS3 b hb with hb | hb
  ·exact h.sl b hb
  ·right;omega
 ·rcases hv4 with hv4 | ⟨u,hv4,hu⟩
  ·have:=hfar q (hv4.symm.trans e)
   exact⟨this.1,this.2.2,this.2.1⟩
  ·rw[hv4]at e
   injection e with e
   subst e
   exact⟨by omega,fun h=>by have:=(hlt3 _ h).2;omega,fun h=>by have:=(hok3 _ h).1;omega⟩
structure JR (K:Nat)(S:Nat→Prop)(W1:World)(v0:Value)(cl:List (List Int))(v:Value)(S':Nat→Prop)(ko:Option Nat)(ka:Option Addr)(ks:List Int)(xs:List Int)(o:Value)(wr:World):Prop where
 rt:CTo K S' cl v0 W1 v wr
 sl:∀b,S' b→S b∨W1.heap.size≤b
 kd:Pak.Sits Pak.intSh (fun b=>ko=some b) wr ka ks
 kb:∀q,ko=some q→W1.heap.size≤q∧q<wr.heap.size∧v.ownBlock≠some q∧¬S' q
 ow:IRow K xs o wr
 ob:∀q,o.ownBlock=some q→W1.heap.size≤q∧v.ownBlock≠some q∧¬S' q∧ko≠some q
section
variable {K:Nat} {S:Nat→Prop} {W1:World} {v0:Value} {cl:List (List Int)} {v:Value} {S':Nat→Prop} {ko:Option Nat} {ka:Option Addr} {ks:List Int} {xs:List Int} {o:Value} {wr:World}
theorem CRow.add (h:CTo K S' cl v0 W1 v wr)(hK:K≤wr.heap.size)(hn:cl.length≤4000000){Sx:Nat→Prop}{a:Option Addr}{n cap:Nat}{zs:List Int}(hzn:zs.length=n)(hz:Pak.Sits Pak.intSh Sx wr a zs)(hSx:∀b,Sx b→b<wr.heap.size∧v.ownBlock≠some b):
 ∃a6 n6 c6 w6,(∀ty,(Builtin.append_ #[41,41] ty #[v,.slice (some ⟨wr.heap.size,0,none⟩) 1 1]).run Tryz.prog (wr.alloc (.cells #[.slice a n cap] 23))= .ok (.slice a6 n6 c6) w6)∧CTo K (fun b=>S' b∨Sx b) (cl ++ [zs]) v0 W1 (.slice a6 n6 c6) w6∧wr.grownBy w6 v.ownBlock∧((Value.slice a6 n6 c6).ownBlock=v.ownBlock∨∃q,(Value.slice a6 n6 c6).ownBlock=some q∧wr.heap.size≤q):=by
 subst hzn
 obtain⟨v6,w6,hr,k1,k2,k3⟩:=h.1.put (P:=Tryz.prog) (t:=41) (x:=zs) (cs:=[.slice a zs.length cap]) (Sx:=Sx) Tryz.underlying41 (by':=24) (by kernel_rfl) (by decide) (by decide) (by omega) hK ⟨_,rfl,a,cap,rfl,hz⟩ hSx
 have hT:CTo K (fun b=>S' b∨Sx b) (cl ++ [zs]) v0 W1 v6 w6:=h.of ⟨k1,k2,k3⟩
 obtain⟨a6,c6,e6⟩:=k1.form
 generalize (cl ++ [zs]).length=n6 at e6
 subst e6
 exact⟨a6,n6,c6,w6,hr,hT,k2,k3⟩
theorem JR.below (h:JR K S W1 v0 cl v S' ko ka ks xs o wr){w':World}(hb:Below wr.heap.size wr w'):JR K S W1 v0 cl v S' ko ka ks xs o w':=
 ⟨h.rt.after hb,h.sl,h.kd.on hb (fun b e=>(h.kb b e).2.1),fun q e=>⟨(h.kb q e).1,Nat.lt_of_lt_of_le (h.kb q e).2.1 hb.size,(h.kb q e).2.2⟩,h.ow.below hb,h.ob⟩
theorem JR.clause (h:JR K S W1 v0 cl v S' ko ka ks xs o wr)(hK:K≤W1.heap.size)(hn:cl.length≤4000000)(zs:List Int)(hzi:∀x∈zs, -9223372036854775808≤x∧x≤9223372036854775807)(hzl:zs.length≤9223372036854775807)(n cap:Nat)(hzn:zs.length=n):
 ∃a6 n6 c6 w6,(∀ty,(Builtin.append_ #[41,41] ty #[v,.slice (some ⟨wr.heap.size+1,0,none⟩) 1 1]).run Tryz.prog ((wr.alloc (.cells (zs.map (Value.int .i64)).toArray 3)).alloc (.cells #[.slice (some ⟨wr.heap.size,0,none⟩) n cap] 23))= .ok (.slice a6 n6 c6) w6)∧JR K S W1 v0 (cl ++ [zs]) (.slice a6 n6 c6) (fun b=>S' b∨b=wr.heap.size) ko ka ks xs o w6:=by
 have hA:Below wr.heap.size wr (wr.alloc (.cells (zs.map (Value.int .i64)).toArray 3)):=(Below.refl _ _).alloc (Nat.le_refl _) _
 have hz:(wr.alloc (.cells (zs.map (Value.int .i64)).toArray 3)).heap.size=wr.heap.size+1:=by simp
 have hJ:=h.below hA
 have hW:=h.rt.2.1.size
 have hvl:=fun q e=>(h.rt.1.lt q e).2
 obtain⟨a6,n6,c6,w6,hr,k1,k2,k3⟩:=CRow.add hJ.rt (by omega) hn (cap:=cap) hzn (ints_new wr zs hzi hzl) (fun b e=>⟨by omega,fun e2=>by have:=hvl b e2;omega⟩)
 rw[hz]at hr k3
 refine⟨a6,n6,c6,w6,hr,k1,fun b hb=> ?_,hJ.kd.past k2 (fun b e=>⟨(hJ.kb b e).2.1,fun e2=>(hJ.kb b e).2.2.1 e2.symm⟩),fun q e=> ?_,hJ.ow.grown k2 (fun q e=>⟨fun h=>h,fun e2=>(hJ.ob q e2).2.1 e⟩),fun q e=> ?_⟩
 ·rcases hb with hb | hb
  ·exact h.sl b hb
  ·right;omega
 ·obtain⟨e1,e2,e3,e4⟩:=h.kb q e
  refine⟨e1,by have:=k2.size;omega,fun e5=> ?_,fun e5=> ?_⟩
  ·rcases k3 with k3 | ⟨p,k3,hp⟩
   ·exact e3 (k3.symm.trans e5)
   ·rw[k3]at e5;injection e5 with e5;omega
  ·rcases e5 with e5 | e5
   ·exact e4 e5
   ·omega
 ·obtain⟨e1,e2,e3,e4⟩:=h.ob q e
  have e6:=(h.ow.lt q e).2
  refine⟨e1,fun e5=> ?_,fun e5=> ?_,e4⟩
  ·rcases k3 with k3 | ⟨p,k3,hp⟩
   ·exact e2 (k3.symm.trans e5)
   ·rw[k3]at e5;injection e5 with e5;omega
  ·rcases e5 with e5 | e5
   ·exact e3 e5
   ·omega
theorem JR.last (h:JR K S W1 v0 cl v S' ko ka ks xs o wr)(hK:K≤W1.heap.size)(hn:xs.length≤4000000){x:Int}(hx: -9223372036854775808≤x∧x≤9223372036854775807):
 ∃a6 n6 c6 w6,(∀ty,(Builtin.append_ #[23,23] ty #[o,.slice (some ⟨wr.heap.size,0,none⟩) 1 1]).run Tryz.prog (wr.alloc (.cells #[.int .i64 x] 3))= .ok (.slice a6 n6 c6) w6)∧JR K S W1 v0 cl v S' ko ka ks (xs ++ [x]) (.slice a6 n6 c6) w6:=by
 have hW:=h.rt.2.1.size
 obtain⟨v6,w6,hr,k1,k2,k3⟩:=h.ow.put (P:=Tryz.prog) (t:=23) (x:=x) (cs:=[.int .i64 x]) (Sx:=fun _=>False) Tryz.underlying23 (by':=8) (by kernel_rfl) (by decide) (by decide) (by omega) (by omega) ⟨rfl,hx⟩ (fun b hb=>hb.elim)
 have hR:=h.rt.other k2 (fun q e=>⟨(h.ob q e).1,(h.ob q e).2.2.1,(h.ob q e).2.1⟩)
 have hvl:=h.rt.1.lt
 have hok:=h.rt.1.ok
 obtain⟨a6,c6,e6⟩:=k1.form
 generalize (xs ++ [x]).length=n6 at e6
 subst e6
 refine⟨a6,n6,c6,w6,hr,hR,h.sl,h.kd.past k2 (fun b e=>⟨(h.kb b e).2.1,fun e2=>(h.ob b e2.symm).2.2.2 e⟩),fun q e=>⟨(h.kb q e).1,Nat.lt_of_lt_of_le (h.kb q e).2.1 k2.size,(h.kb q e).2.2⟩,k1.more (fun b hb=>by rcases hb with hb | hb<;>exact hb) (fun b hb=>hb.elim),fun q e=> ?_⟩
 rcases k3 with k3 | ⟨p,k3,hp⟩
 ·exact h.ob q (k3.symm.trans e)
 ·rw[k3]at e
  injection e with e
  subst e
  exact⟨by omega,fun e=>by have:=(hvl _ e).2;omega,fun e=>by have:=(hok _ e).1;omega,fun e=>by have:=(h.kb _ e).2.1;omega⟩
theorem KR.begin (h:KR K S W1 v0 cl ks v S' o wr)(hK:K≤W1.heap.size)(hn:ks.length≤100000){x:Int}(hx: -9223372036854775808≤x∧x≤9223372036854775807):
 ∃ka kc,o= .slice ka ks.length kc∧JR K S W1 v0 cl v S' o.ownBlock ka ks [x] (.slice (some ⟨wr.heap.size,0,none⟩) 1 1) (wr.alloc (.cells #[.int .i64 x] 3)):=by
 have hA:Below wr.heap.size wr (wr.alloc (.cells #[.int .i64 x] 3)):=(Below.refl _ _).alloc (Nat.le_refl _) _
 have hW:=h.rt.2.1.size
 have hvl:=h.rt.1.lt
 have hok:=h.rt.1.ok
 obtain⟨ka,kc,e,hs⟩:=h.ow.slot (by omega)
 refine⟨ka,kc,e,h.rt.after hA,h.sl, ?_,fun q e=>⟨(h.ob q e).1,Nat.lt_of_lt_of_le (h.ow.lt q e).2 hA.size,(h.ob q e).2⟩,own_new wr x hx (by omega),fun q e=> ?_⟩
 ·exact(hs.keep (fun b hb=>by rcases hb with hb | hb;exact hb.elim;exact hb) (fun b o _=>rfl)).on hA (fun b e=>(h.ow.lt b e).2)
 ·injection e with e
  have e:wr.heap.size=q:=e
  subst e
  exact⟨hW,fun e=>by have:=(hvl _ e).2;omega,fun e=>by have:=(hok _ e).1;omega,fun e=>by have:=(h.ow.lt _ e).2;omega⟩
theorem JR.end (h:JR K S W1 v0 cl v S' ko ka ks xs o wr)(hK:K≤W1.heap.size)(hn:cl.length≤4000000)(hxn:xs.length≤9223372036854775807):
 ∃oa oc,o= .slice oa xs.length oc∧∃a6 n6 c6 w6 S6,(∀ty,(Builtin.append_ #[41,41] ty #[v,.slice (some ⟨wr.heap.size,0,none⟩) 1 1]).run Tryz.prog (wr.alloc (.cells #[.slice oa xs.length oc] 23))= .ok (.slice a6 n6 c6) w6)∧(∀b,S6 b→S b∨W1.heap.size≤b)∧CTo K S6 (cl ++ [xs]) v0 W1 (.slice a6 n6 c6) w6:=by
 have hW:=h.rt.2.1.size
 obtain⟨oa,oc,e,hs⟩:=h.ow.slot hxn
 obtain⟨a6,n6,c6,w6,hr,k1,k2,k3⟩:=CRow.add h.rt (by omega) hn (cap:=oc) rfl hs (fun b hb=>by
  rcases hb with hb | hb
  ·exact hb.elim
  ·exact⟨(h.ow.lt b hb).2,(h.ob b hb).2.1⟩)
 refine⟨oa,oc,e,a6,n6,c6,w6,_,hr,fun b hb=> ?_,k1⟩
 rcases hb with hb | hb | hb
 ·exact h.sl b hb
 ·exact hb.elim
 ·exact .inr (h.ob b hb).1
end
theorem joinK_5 {v:Int}{ls:List Int}{k:Nat}(h:k<ls.length):joinK v 1 ls (k+1)=joinK v 1 ls k ++ [[-v,ls[k]]]:=by rw[joinK_succ h,Int.one_mul]
theorem joinK_6 {v:Int}{ls:List Int}{k:Nat}(h:k<ls.length):joinK (-v) (-1) ls (k+1)=joinK (-v) (-1) ls k ++ [[v, -ls[k]]]:=by rw[joinK_succ h,Int.neg_one_mul,Int.neg_neg]
theorem lastK_5 {v:Int}{ls:List Int}{k:Nat}(h:k<ls.length):lastK v 1 ls (k+1)=lastK v 1 ls k ++ [-ls[k]]:=by rw[lastK_succ h,Int.neg_one_mul]
theorem lastK_6 {v:Int}{ls:List Int}{k:Nat}(h:k<ls.length):lastK (-v) (-1) ls (k+1)=lastK (-v) (-1) ls k ++ [ls[k]]:=by rw[lastK_succ h,Int.neg_neg,Int.one_mul]
theorem joinK_len {v s:Int}{ls:List Int}{k:Nat}(h:k≤ls.length):(joinK v s ls k).length=k:=by unfold joinK;rw[List.length_map,List.length_take];omega
theorem lastK_len {v s:Int}{ls:List Int}{k:Nat}(h:k≤ls.length):(lastK v s ls k).length=k+1:=by unfold lastK;rw[List.length_cons,List.length_map,List.length_take];omega
end
section
open Go.RowKit
theorem rmk_6 (am:List (Int×List (Int×Int)))(B K:Nat)(la:Option Addr)(lc:Nat)(hB:B≤K)(n:Nat)(IH:RMkSaid am B K la lc n)(f:FT)(cs:List Value)(N:Nat)(cl:List (List Int))(S:Nat→Prop)(v:Value)(w:World)(h:FLies B w (n+1) f cs)(hm:madeF (n+1) f=true)(hl:Pak.Sits linSh (Pak.Lo K) w la am)(hv:CRow K S cl v w)(hK:K≤w.heap.size)(hb1:am.length+N+siz (n+1) f≤100000)(hb2:cl.length+2*siz (n+1) f≤1000000)(hk:f.kind=6):
 Calls Tryz.prog 64 #[.agg cs.toArray,.slice la am.length lc,.int .i64 N,v] w (RMEnd K (mkF am (n+1) f N cl) S v w):=by
 obtain⟨ta,tcap,ka,kcap,rfl,hT,hl1,hl2,hks⟩:=h
 rw[mkF_x ⟨by omega,by omega⟩,hk]
 have hA:Below w.heap.size w (w.alloc (.cells #[.int .i64 f.kind,.int .i64 f.c,.slice ta f.t.length tcap,.slice ka f.ks.length kcap] 39)):=(Below.refl _ w).alloc (Nat.le_refl _) _
 have HB:=box_start w f.kind f.c ta ka f.t.length tcap f.ks.length kcap
 have HM:=Lib.hid (made_kids hm)
 have HTF:=Lib.hid (mkTo_fits am n f.ks N cl (made_kids hm))
 have HLZ:=Lib.hid (len_siz n f.ks (made_kids hm) f.ks.length (Nat.le_refl _))
 have HI:=Lib.hid IH
 have HK:=Lib.hid hks
 have HA:=Lib.hid hA
 have HBK:=Lib.hid (And.intro hB hK)
 have HLS:=Lib.hid hl
 have hsz:=sizTo_len n f
 rw[hsz]at hb1 hb2
 have HB1:=Lib.hid hb1
 have HB2:=Lib.hid hb2
 have HBX:=Lib.hid HB
 have hq1:w.heap.size<(w.alloc (.cells #[.int .i64 f.kind,.int .i64 f.c,.slice ta f.t.length tcap,.slice ka f.ks.length kcap] 39)).heap.size:=by simp
 have HQ1:=Lib.hid hq1
 have HQ:Hid (v.ownBlock≠some w.heap.size):=Lib.hid fun e=>by have:=(hv.lt _ e).2;omega
 have HVL:=Lib.hid (fun q (e:v.ownBlock=some q)=>(hv.lt q e).1)
 have HR1:=Lib.hid (KR.start (hv.below hA))
 have b0:=HB.c0
 have b3:=HB.c3
 obtain⟨va,vc,hvf⟩:=hv.form
 rw[hk]at*
 clear IH hks hT hv hA HB hm hsz hb1 hb2 hB hq1 hl1 hK hl hk
 obtain⟨cll,hcll⟩:∃cll,cll=cl.length:=⟨_,rfl⟩
 obtain⟨al,hal⟩:∃al,al=am.length:=⟨_,rfl⟩
 rw[←hcll]at hvf HB2
 subst hvf
 have HAL:=Lib.hid hal
 rw[←hal]
 rw[←hal]at HB1 HTF
 have HCLL:=Lib.hid hcll
 clear hcll hal
 generalize f.c=fc at*
 generalize f.t.length=ft at*
 generalize hlen:f.ks.length=len at*
 have HLEN:=Lib.hid hlen
 clear hlen
 go_enter Tryz.func64,Tryz.ntmps64
 go_wp2_with fail
 clear b0
 generalize w.alloc (.cells #[.int .i64 6,.int .i64 fc,.slice ta ft tcap,.slice ka len kcap] 39)=W1 at*
 go_loopw [2,3,14,15] (fun m3 u3 o i wr=>∃(k ol oc ul uc:Nat) (oa ua:Option Addr),i= .int .i64 k∧k≤len∧m3= .int .i64 (mkTo am n f.ks N cl k).1∧u3= .slice ua ul uc∧o= .slice oa ol oc∧Hid (∃S',KR K S W1 (.slice va cll vc) (mkTo am n f.ks N cl k).2.1 (mkTo am n f.ks N cl k).2.2 (.slice ua ul uc) S' (.slice oa ol oc) wr)) (fun _ _ _ i _=>len - (intOf i).toNat)
 case atStart=>exact⟨0,0,0,cll,vc,none,va,rfl,Nat.zero_le _,rfl,rfl,rfl,⟨S,HR1.out⟩⟩
 case round=>
  clear HR1
  obtain⟨k,ol,oc,ul,uc,oa,ua,rfl,hk,rfl,rfl,rfl,hS⟩:=hrel
  obtain⟨S1,hKR⟩:=hS.out
  have HKR:=Lib.hid hKR
  have hg:=hKR.rt.2.1
  have hbk:=HBK.out
  have hKW:K≤W1.heap.size:=Nat.le_trans hbk.2 HA.out.size
  have hMw:Below K w wr:=(HA.out.mono hbk.2).trans (grown_low hg hKW HVL.out)
  have HMW:=Lib.hid hMw
  have HKW:=Lib.hid hKW
  have hc:=fun j=>World.cell?_of_block (a:=⟨w.heap.size,j,none⟩) (hg.block w.heap.size HQ1.out (fun e=>HQ.out e.symm))
  have x3:=(hc 3).trans b3
  have x0:=(hc 0).trans HBX.out.c0
  clear hg hMw hc hKR hS hKW
  by_cases hlt:k<len
  ·have hlti:(k:Int)<(len:Int):=by omega
   have hkl:k<f.ks.length:=by rw[HLEN.out];exact hlt
   obtain⟨b,off,c0,c1,c2,c3,rfl,hbl,g0,g1,g2,g3,hf⟩:=HK.out k hlt
   have hblM:b<K:=by omega
   rw[←HMW.out.cell (p:=⟨b,_,none⟩) hblM]at g0 g1 g2 g3
   obtain⟨ck,cc,cta,ctn,ctcap,cka,ckn,ckcap,rfl,rfl,rfl,rfl⟩:=hf.form
   have hmk:=HM.out k hlt
   obtain⟨⟨f1,f2,_⟩,f4,_⟩:=HTF.out k (Nat.le_of_lt hlt)
   have hs1:=sizTo_succ n f.ks k hkl
   have hs2:=sizTo_mono n f.ks (i:=k+1) (j:=f.ks.length) hkl
   have hb1:=HB1.out
   have hb2:=HB2.out
   have hlz:=HLZ.out
   have hl:=HLEN.out
   have hal:=HAL.out
   rw[hl]at hs2
   have hcl0:cl.length≤cl.length:=Nat.le_refl _
   have hih:=HI.out (f.ks.getD k default) _ (mkTo am n f.ks N cl k).1 (mkTo am n f.ks N cl k).2.1 S1 (.slice ua ul uc) wr (hf.below (HMW.out.mono hbk.1)) hmk (HLS.out.up HMW.out) HKR.out.rt.1 (Nat.le_trans hbk.2 HMW.out.size) (by omega) (by have:=HCLL.out;omega)
   rw[←hal]at hih
   have hfar:=mkF_far (am:=am) (n:=n) (f:=f.ks.getD k default) (N:=(mkTo am n f.ks N cl k).1) (cl:=(mkTo am n f.ks N cl k).2.1) hmk (by omega)
   have HSTEP:=Lib.hid (fun cl3 v3 S3 w3 hS3 hR3=>HKR.out.step (Nat.le_trans hbk.2 HMW.out.size) (cl3:=cl3) (v3:=v3) (S3:=S3) (w3:=w3) hS3 hR3 (by omega) (x:=(mkF am n (f.ks.getD k default) (mkTo am n f.ks N cl k).1 (mkTo am n f.ks N cl k).2.1).lit) (by omega))
   have HSU:=Lib.hid (mkTo_succ am n f.ks N cl k hkl)
   have HIH:=Lib.hid hih
   clear hmk f1 f2 f4 hs1 hs2 hb1 hb2 hlz hl hal hih hfar hf hbl hblM hbk hkl hcl0
   generalize mkF am n (f.ks.getD k default) (mkTo am n f.ks N cl k).1 (mkTo am n f.ks N cl k).2.1=q at*
   go_wp2_with fail
   clear g0 g1 g2 g3 x0 x3
   refine HIH.out.mono ?_
   rintro e w3 ⟨v3,S3,rfl,hS3,hR3⟩
   obtain⟨a4,n4,c4,w4,hr4,hk4⟩:=HSTEP.out _ _ S3 w3 hS3 hR3
   obtain⟨a5,c5,e5⟩:=hR3.1.form
   generalize q.cl.length=n5 at e5
   subst e5
   have HK4:Hid (∃S',KR K S W1 (.slice va cll vc) (mkTo am n f.ks N cl (k+1)).2.1 (mkTo am n f.ks N cl (k+1)).2.2 (.slice a5 n5 c5) S' (.slice a4 n4 c4) w4):=Lib.hid ⟨S3,by rw[HSU.out];exact hk4⟩
   have HN4:Hid ((mkTo am n f.ks N cl (k+1)).1=q.n):=Lib.hid (by rw[HSU.out])
   clear hS3 hR3 hk4 HSTEP HIH HSU HKR
   go_wp2_with (at_builtin;refine Lib.wpList_append_run _ rfl _ _ _ _ rfl _ _ rfl rfl _ _ (hr4 _) ?_)
   go_roundw
   case rel=>exact⟨k+1,n4,c4,n5,c5,a4,a5,by go_num,by omega,by rw[HN4.out],rfl,rfl,HK4⟩
   case measure=>simp[intOf];omega
  ·have hlti:¬(k:Int)<(len:Int):=by omega
   obtain rfl:k=len:=by omega
   obtain⟨⟨f1,f2,_⟩,f4,f5⟩:=HTF.out k (Nat.le_refl _)
   have hb1:=HB1.out
   have hb2:=HB2.out
   have hlz:=HLZ.out
   have HF5:=Lib.hid f5
   have hcc:=HCLL.out
   obtain⟨p,hpp⟩:∃p,mkTo am n f.ks N cl k=p:=⟨_,rfl⟩
   have HPP:=Lib.hid hpp
   have hsz1:sizTo n f.ks k≤100000:=by omega
   rw[hpp]at HKR f1 f2 f4 HF5⊢
   clear f5 hpp
   obtain⟨m,hmm⟩:∃m:Nat,m=p.1+1:=⟨_,rfl⟩
   have hwm:IntKind.i64.wrap ((p.1:Int)+1)=(m:Int):=by rw[hmm];exact IntWalk.i64_in _ (by omega)
   have hwn:IntKind.i64.wrap (-(m:Int))= -(m:Int):=IntWalk.i64_in _ (by omega)
   have hmB:m≤200000:=by omega
   have hclB:p.2.1.length≤1000000:=by omega
   have hlitB:p.2.2.length≤100000:=by omega
   have HXB:Hid (∀x∈p.2.2, -1000000≤x∧x≤1000000):=Lib.hid fun x hx=>by have:=HF5.out x hx;omega
   have HMM:=Lib.hid hmm
   have HEND:=Lib.hid (fun(v6:Value) (S6:Nat→Prop) (w6:World) (hs:∀b,S6 b→S b∨W1.heap.size≤b) (hR:CTo K S6 (p.2.1 ++ ownC 6 m p.2.2) (.slice va cll vc) W1 v6 w6)=>(show RMEnd K ⟨m,p.2.1 ++ ownC 6 m p.2.2,m⟩ S (.slice va cll vc) w (.returned (.tuple #[v6,.int .i64 m,.int .i64 m])) w6 from⟨v6,S6,rfl,fun b hb=>(hs b hb).imp id (fun h=>Nat.le_trans HA.out.size h),hR.before HA.out⟩))
   have HGO:Hid ((⟨p.1+1,p.2.1 ++ ownC 6 ((p.1+1:Nat):Int) p.2.2,((p.1+1:Nat):Int)⟩:MkR)=⟨m,p.2.1 ++ ownC 6 m p.2.2,m⟩):=Lib.hid (by rw[hmm])
   rw[HGO.out]
   clear hmm HB1 HB2 HTF HLZ HK HM HI hb1 hb2 hlz f1 f2 HF5 hcc f4 HMW HLS HBK HQ HQ1 HBX hbk
   obtain⟨ka2,kc2,eo,hJ⟩:=HKR.out.begin HKW.out hlitB (x:=(-(m:Int))) (by omega)
   injection eo with eo1 eo2 eo3
   subst eo1 eo2 eo3
   have HJ:Hid (∃S',JR K S W1 (.slice va cll vc) (p.2.1 ++ joinK (-(m:Int)) (-1) p.2.2 0) (.slice ua ul uc) S' (Value.slice oa p.2.2.length oc).ownBlock oa p.2.2 (lastK (-(m:Int)) (-1) p.2.2 0) (.slice (some ⟨wr.heap.size,0,none⟩) 1 1) (wr.alloc (.cells #[.int .i64 (-(m:Int))] 3))):=Lib.hid ⟨S1,by simpa [joinK,lastK]using hJ⟩
   generalize (Value.slice oa p.2.2.length oc).ownBlock=ko at*
   obtain⟨ln,hln⟩:∃ln,ln=p.2.2.length:=⟨_,rfl⟩
   have HLN:=Lib.hid hln
   rw[←hln]at hlitB⊢
   clear hJ HKR hln
   go_wp2_with fail
   generalize wr.alloc (.cells #[.int .i64 (-(m:Int))] 3)=W3 at*
   go_loopw [3,22,23] (fun u3 o i wr=>∃(j ol oc ul uc:Nat) (oa2 ua:Option Addr),i= .int .i64 j∧j≤ln∧u3= .slice ua ul uc∧o= .slice oa2 ol oc∧Hid (∃S',JR K S W1 (.slice va cll vc) (p.2.1 ++ joinK (-(m:Int)) (-1) p.2.2 j) (.slice ua ul uc) S' ko oa p.2.2 (lastK (-(m:Int)) (-1) p.2.2 j) (.slice oa2 ol oc) wr)) (fun _ _ i _=>ln - (intOf i).toNat)
   case atStart=>exact⟨0,1,1,ul,uc,_,ua,rfl,Nat.zero_le _,rfl,rfl,HJ⟩
   case round=>
    clear HJ
    obtain⟨j,ol,oc,ul,uc,oa2,ua,rfl,hj,rfl,rfl,hS⟩:=hrel
    obtain⟨S2,hJ⟩:=hS.out
    have HJ:=Lib.hid hJ
    clear hS
    by_cases hjt:j<ln
    ·have hjti:(j:Int)<(ln:Int):=by omega
     have hjl:j<p.2.2.length:=by rw[←HLN.out];exact hjt
     obtain⟨b,off,us,hoa,hbk,hc,rfl,hi⟩:=hJ.kd.2 j hjl
     subst hoa
     have c1:=hc 0 _ rfl
     have ek:Pak.intSh.k=1:=rfl
     rw[ek,Nat.mul_one,Nat.add_zero]at c1
     have hxb:=HXB.out _ (List.getElem_mem hjl)
     have HJK:=Lib.hid (joinK_6 (v:=(m:Int)) hjl)
     have HLK:=Lib.hid (lastK_6 (v:=(m:Int)) hjl)
     clear hc hi ek
     have HX:Hid (∃x,x=p.2.2[j]):=⟨_,rfl⟩
     obtain⟨x,hx⟩:=HX.out
     have HX:Hid (∀h:j<p.2.2.length,p.2.2[j]=x):=Lib.hid fun _=>hx.symm
     rw[←hx]at c1 hxb HJK HLK
     clear hx
     have hwx:IntKind.i64.wrap (-x)= -x:=IntWalk.i64_in _ (by omega)
     obtain⟨a6,n6,c6,w6,hr6,hJ6⟩:=hJ.clause HKW.out (by rw[List.length_append,joinK_len (by omega)];omega) [(m:Int), -x] (fun y hy=>by
      rcases List.mem_cons.1 hy with rfl | hy
      ·omega
      ·rw[List.mem_singleton]at hy
       subst hy;omega) (by simp) 2 2 rfl
     have c2:w6.cell? ⟨b,off+j,none⟩=some (.int .i64 x):=by
      obtain⟨b',off',us',e',_,hc',rfl,_⟩:=hJ6.kd.2 j hjl
      injection e' with e'
      injection e' with e1 e2 e3
      subst e1 e2
      have:=hc' 0 _ rfl
      rw[show Pak.intSh.k=1 from rfl,Nat.mul_one,Nat.add_zero]at this
      rw[this,HX.out hjl]
     obtain⟨a7,n7,c7,w7,hr7,hJ7⟩:=hJ6.last HKW.out (by rw[lastK_len (by omega)];omega) (x:=x) (by omega)
     have HF:Hid (∃S',JR K S W1 (.slice va cll vc) (p.2.1 ++ joinK (-(m:Int)) (-1) p.2.2 (j+1)) (.slice a6 n6 c6) S' ko (some ⟨b,off,none⟩) p.2.2 (lastK (-(m:Int)) (-1) p.2.2 (j+1)) (.slice a7 n7 c7) w7):=Lib.hid ⟨_,by rw[HJK.out,HLK.out,←List.append_assoc];exact hJ7⟩
     simp only[List.map_cons,List.map_nil]at hr6
     clear hJ hJ6 hJ7 HJ HJK HLK
     go_wp2_with (at_builtin;first | refine Lib.wpList_append_run _ rfl _ _ _ _ rfl _ _ rfl rfl _ _ (hr6 _) ?_ | refine Lib.wpList_append_run _ rfl _ _ _ _ rfl _ _ rfl rfl _ _ (hr7 _) ?_)
     go_roundw
     case rel=>exact⟨j+1,n7,c7,n6,c6,a7,a6,by go_num,by omega,rfl,rfl,HF⟩
     case measure=>simp[intOf];omega
    ·have hjti:¬(j:Int)<(ln:Int):=by omega
     obtain rfl:j=ln:=by omega
     obtain⟨oa9,oc9,e9,a6,n6,c6,w6,S6,hr6,hs6,hR6⟩:=hJ.end HKW.out (by rw[List.length_append,joinK_len (by rw[←HLN.out];omega)];omega) (by rw[lastK_len (by rw[←HLN.out];omega)];omega)
     injection e9 with e91 e92 e93
     rw[←e92,←e91,←e93]at hr6
     have HE:=Lib.hid (HEND.out _ _ w6 hs6 (by rw[ownC_6,←join_all,←HLN.out,←List.append_assoc];exact hR6))
     clear hJ HJ hs6 hR6 HEND HXB e91 e92 e93 HLN
     go_wp2_with (at_builtin;refine Lib.wpList_append_run _ rfl _ _ _ _ rfl _ _ rfl rfl _ _ (hr6 _) ?_)
     go_ret3
     have e2:(p.1:Int)+1=(m:Int):=by rw[HMM.out];rfl
     rw[HPP.out,e2,←HMM.out]
     exact HE.out
end
section
open Go.RowKit
theorem rmk_5 (am:List (Int×List (Int×Int)))(B K:Nat)(la:Option Addr)(lc:Nat)(hB:B≤K)(n:Nat)(IH:RMkSaid am B K la lc n)(f:FT)(cs:List Value)(N:Nat)(cl:List (List Int))(S:Nat→Prop)(v:Value)(w:World)(h:FLies B w (n+1) f cs)(hm:madeF (n+1) f=true)(hl:Pak.Sits linSh (Pak.Lo K) w la am)(hv:CRow K S cl v w)(hK:K≤w.heap.size)(hb1:am.length+N+siz (n+1) f≤100000)(hb2:cl.length+2*siz (n+1) f≤1000000)(hk:f.kind=5):
 Calls Tryz.prog 64 #[.agg cs.toArray,.slice la am.length lc,.int .i64 N,v] w (RMEnd K (mkF am (n+1) f N cl) S v w):=by
 obtain⟨ta,tcap,ka,kcap,rfl,hT,hl1,hl2,hks⟩:=h
 rw[mkF_x ⟨by omega,by omega⟩,hk]
 have hA:Below w.heap.size w (w.alloc (.cells #[.int .i64 f.kind,.int .i64 f.c,.slice ta f.t.length tcap,.slice ka f.ks.length kcap] 39)):=(Below.refl _ w).alloc (Nat.le_refl _) _
 have HB:=box_start w f.kind f.c ta ka f.t.length tcap f.ks.length kcap
 have HM:=Lib.hid (made_kids hm)
 have HTF:=Lib.hid (mkTo_fits am n f.ks N cl (made_kids hm))
 have HLZ:=Lib.hid (len_siz n f.ks (made_kids hm) f.ks.length (Nat.le_refl _))
 have HI:=Lib.hid IH
 have HK:=Lib.hid hks
 have HA:=Lib.hid hA
 have HBK:=Lib.hid (And.intro hB hK)
 have HLS:=Lib.hid hl
 have hsz:=sizTo_len n f
 rw[hsz]at hb1 hb2
 have HB1:=Lib.hid hb1
 have HB2:=Lib.hid hb2
 have HBX:=Lib.hid HB
 have hq1:w.heap.size<(w.alloc (.cells #[.int .i64 f.kind,.int .i64 f.c,.slice ta f.t.length tcap,.slice ka f.ks.length kcap] 39)).heap.size:=by simp
 have HQ1:=Lib.hid hq1
 have HQ:Hid (v.ownBlock≠some w.heap.size):=Lib.hid fun e=>by have:=(hv.lt _ e).2;omega
 have HVL:=Lib.hid (fun q (e:v.ownBlock=some q)=>(hv.lt q e).1)
 have HR1:=Lib.hid (KR.start (hv.below hA))
 have b0:=HB.c0
 have b3:=HB.c3
 obtain⟨va,vc,hvf⟩:=hv.form
 rw[hk]at*
 clear IH hks hT hv hA HB hm hsz hb1 hb2 hB hq1 hl1 hK hl hk
 obtain⟨cll,hcll⟩:∃cll,cll=cl.length:=⟨_,rfl⟩
 obtain⟨al,hal⟩:∃al,al=am.length:=⟨_,rfl⟩
 rw[←hcll]at hvf HB2
 subst hvf
 have HAL:=Lib.hid hal
 rw[←hal]
 rw[←hal]at HB1 HTF
 have HCLL:=Lib.hid hcll
 clear hcll hal
 generalize f.c=fc at*
 generalize f.t.length=ft at*
 generalize hlen:f.ks.length=len at*
 have HLEN:=Lib.hid hlen
 clear hlen
 go_enter Tryz.func64,Tryz.ntmps64
 go_wp2_with fail
 clear b0
 generalize w.alloc (.cells #[.int .i64 5,.int .i64 fc,.slice ta ft tcap,.slice ka len kcap] 39)=W1 at*
 go_loopw [2,3,14,15] (fun m3 u3 o i wr=>∃(k ol oc ul uc:Nat) (oa ua:Option Addr),i= .int .i64 k∧k≤len∧m3= .int .i64 (mkTo am n f.ks N cl k).1∧u3= .slice ua ul uc∧o= .slice oa ol oc∧Hid (∃S',KR K S W1 (.slice va cll vc) (mkTo am n f.ks N cl k).2.1 (mkTo am n f.ks N cl k).2.2 (.slice ua ul uc) S' (.slice oa ol oc) wr)) (fun _ _ _ i _=>len - (intOf i).toNat)
 case atStart=>exact⟨0,0,0,cll,vc,none,va,rfl,Nat.zero_le _,rfl,rfl,rfl,⟨S,HR1.out⟩⟩
 case round=>
  clear HR1
  obtain⟨k,ol,oc,ul,uc,oa,ua,rfl,hk,rfl,rfl,rfl,hS⟩:=hrel
  obtain⟨S1,hKR⟩:=hS.out
  have HKR:=Lib.hid hKR
  have hg:=hKR.rt.2.1
  have hbk:=HBK.out
  have hKW:K≤W1.heap.size:=Nat.le_trans hbk.2 HA.out.size
  have hMw:Below K w wr:=(HA.out.mono hbk.2).trans (grown_low hg hKW HVL.out)
  have HMW:=Lib.hid hMw
  have HKW:=Lib.hid hKW
  have hc:=fun j=>World.cell?_of_block (a:=⟨w.heap.size,j,none⟩) (hg.block w.heap.size HQ1.out (fun e=>HQ.out e.symm))
  have x3:=(hc 3).trans b3
  have x0:=(hc 0).trans HBX.out.c0
  clear hg hMw hc hKR hS hKW
  by_cases hlt:k<len
  ·have hlti:(k:Int)<(len:Int):=by omega
   have hkl:k<f.ks.length:=by rw[HLEN.out];exact hlt
   obtain⟨b,off,c0,c1,c2,c3,rfl,hbl,g0,g1,g2,g3,hf⟩:=HK.out k hlt
   have hblM:b<K:=by omega
   rw[←HMW.out.cell (p:=⟨b,_,none⟩) hblM]at g0 g1 g2 g3
   obtain⟨ck,cc,cta,ctn,ctcap,cka,ckn,ckcap,rfl,rfl,rfl,rfl⟩:=hf.form
   have hmk:=HM.out k hlt
   obtain⟨⟨f1,f2,_⟩,f4,_⟩:=HTF.out k (Nat.le_of_lt hlt)
   have hs1:=sizTo_succ n f.ks k hkl
   have hs2:=sizTo_mono n f.ks (i:=k+1) (j:=f.ks.length) hkl
   have hb1:=HB1.out
   have hb2:=HB2.out
   have hlz:=HLZ.out
   have hl:=HLEN.out
   have hal:=HAL.out
   rw[hl]at hs2
   have hcl0:cl.length≤cl.length:=Nat.le_refl _
   have hih:=HI.out (f.ks.getD k default) _ (mkTo am n f.ks N cl k).1 (mkTo am n f.ks N cl k).2.1 S1 (.slice ua ul uc) wr (hf.below (HMW.out.mono hbk.1)) hmk (HLS.out.up HMW.out) HKR.out.rt.1 (Nat.le_trans hbk.2 HMW.out.size) (by omega) (by have:=HCLL.out;omega)
   rw[←hal]at hih
   have hfar:=mkF_far (am:=am) (n:=n) (f:=f.ks.getD k default) (N:=(mkTo am n f.ks N cl k).1) (cl:=(mkTo am n f.ks N cl k).2.1) hmk (by omega)
   have HSTEP:=Lib.hid (fun cl3 v3 S3 w3 hS3 hR3=>HKR.out.step (Nat.le_trans hbk.2 HMW.out.size) (cl3:=cl3) (v3:=v3) (S3:=S3) (w3:=w3) hS3 hR3 (by omega) (x:=(mkF am n (f.ks.getD k default) (mkTo am n f.ks N cl k).1 (mkTo am n f.ks N cl k).2.1).lit) (by omega))
   have HSU:=Lib.hid (mkTo_succ am n f.ks N cl k hkl)
   have HIH:=Lib.hid hih
   clear hmk f1 f2 f4 hs1 hs2 hb1 hb2 hlz hl hal hih hfar hf hbl hblM hbk hkl hcl0
   generalize mkF am n (f.ks.getD k default) (mkTo am n f.ks N cl k).1 (mkTo am n f.ks N cl k).2.1=q at*
   go_wp2_with fail
   clear g0 g1 g2 g3 x0 x3
   refine HIH.out.mono ?_
   rintro e w3 ⟨v3,S3,rfl,hS3,hR3⟩
   obtain⟨a4,n4,c4,w4,hr4,hk4⟩:=HSTEP.out _ _ S3 w3 hS3 hR3
   obtain⟨a5,c5,e5⟩:=hR3.1.form
   generalize q.cl.length=n5 at e5
   subst e5
   have HK4:Hid (∃S',KR K S W1 (.slice va cll vc) (mkTo am n f.ks N cl (k+1)).2.1 (mkTo am n f.ks N cl (k+1)).2.2 (.slice a5 n5 c5) S' (.slice a4 n4 c4) w4):=Lib.hid ⟨S3,by rw[HSU.out];exact hk4⟩
   have HN4:Hid ((mkTo am n f.ks N cl (k+1)).1=q.n):=Lib.hid (by rw[HSU.out])
   clear hS3 hR3 hk4 HSTEP HIH HSU HKR
   go_wp2_with (at_builtin;refine Lib.wpList_append_run _ rfl _ _ _ _ rfl _ _ rfl rfl _ _ (hr4 _) ?_)
   go_roundw
   case rel=>exact⟨k+1,n4,c4,n5,c5,a4,a5,by go_num,by omega,by rw[HN4.out],rfl,rfl,HK4⟩
   case measure=>simp[intOf];omega
  ·have hlti:¬(k:Int)<(len:Int):=by omega
   obtain rfl:k=len:=by omega
   obtain⟨⟨f1,f2,_⟩,f4,f5⟩:=HTF.out k (Nat.le_refl _)
   have hb1:=HB1.out
   have hb2:=HB2.out
   have hlz:=HLZ.out
   have HF5:=Lib.hid f5
   have hcc:=HCLL.out
   obtain⟨p,hpp⟩:∃p,mkTo am n f.ks N cl k=p:=⟨_,rfl⟩
   have HPP:=Lib.hid hpp
   have hsz1:sizTo n f.ks k≤100000:=by omega
   rw[hpp]at HKR f1 f2 f4 HF5⊢
   clear f5 hpp
   obtain⟨m,hmm⟩:∃m:Nat,m=p.1+1:=⟨_,rfl⟩
   have hwm:IntKind.i64.wrap ((p.1:Int)+1)=(m:Int):=by rw[hmm];exact IntWalk.i64_in _ (by omega)
   have hwn:IntKind.i64.wrap (-(m:Int))= -(m:Int):=IntWalk.i64_in _ (by omega)
   have hmB:m≤200000:=by omega
   have hclB:p.2.1.length≤1000000:=by omega
   have hlitB:p.2.2.length≤100000:=by omega
   have HXB:Hid (∀x∈p.2.2, -1000000≤x∧x≤1000000):=Lib.hid fun x hx=>by have:=HF5.out x hx;omega
   have HMM:=Lib.hid hmm
   have HEND:=Lib.hid (fun(v6:Value) (S6:Nat→Prop) (w6:World) (hs:∀b,S6 b→S b∨W1.heap.size≤b) (hR:CTo K S6 (p.2.1 ++ ownC 5 m p.2.2) (.slice va cll vc) W1 v6 w6)=>(show RMEnd K ⟨m,p.2.1 ++ ownC 5 m p.2.2,m⟩ S (.slice va cll vc) w (.returned (.tuple #[v6,.int .i64 m,.int .i64 m])) w6 from⟨v6,S6,rfl,fun b hb=>(hs b hb).imp id (fun h=>Nat.le_trans HA.out.size h),hR.before HA.out⟩))
   have HGO:Hid ((⟨p.1+1,p.2.1 ++ ownC 5 ((p.1+1:Nat):Int) p.2.2,((p.1+1:Nat):Int)⟩:MkR)=⟨m,p.2.1 ++ ownC 5 m p.2.2,m⟩):=Lib.hid (by rw[hmm])
   rw[HGO.out]
   clear hmm HB1 HB2 HTF HLZ HK HM HI hb1 hb2 hlz f1 f2 HF5 hcc f4 HMW HLS HBK HQ HQ1 HBX hbk
   obtain⟨ka2,kc2,eo,hJ⟩:=HKR.out.begin HKW.out hlitB (x:=(m:Int)) (by omega)
   injection eo with eo1 eo2 eo3
   subst eo1 eo2 eo3
   have HJ:Hid (∃S',JR K S W1 (.slice va cll vc) (p.2.1 ++ joinK (m:Int) 1 p.2.2 0) (.slice ua ul uc) S' (Value.slice oa p.2.2.length oc).ownBlock oa p.2.2 (lastK (m:Int) 1 p.2.2 0) (.slice (some ⟨wr.heap.size,0,none⟩) 1 1) (wr.alloc (.cells #[.int .i64 (m:Int)] 3))):=Lib.hid ⟨S1,by simpa [joinK,lastK]using hJ⟩
   generalize (Value.slice oa p.2.2.length oc).ownBlock=ko at*
   obtain⟨ln,hln⟩:∃ln,ln=p.2.2.length:=⟨_,rfl⟩
   have HLN:=Lib.hid hln
   rw[←hln]at hlitB⊢
   clear hJ HKR hln
   go_wp2_with fail
   generalize wr.alloc (.cells #[.int .i64 (m:Int)] 3)=W3 at*
   go_loopw [3,20,21] (fun u3 o i wr=>∃(j ol oc ul uc:Nat) (oa2 ua:Option Addr),i= .int .i64 j∧j≤ln∧u3= .slice ua ul uc∧o= .slice oa2 ol oc∧Hid (∃S',JR K S W1 (.slice va cll vc) (p.2.1 ++ joinK (m:Int) 1 p.2.2 j) (.slice ua ul uc) S' ko oa p.2.2 (lastK (m:Int) 1 p.2.2 j) (.slice oa2 ol oc) wr)) (fun _ _ i _=>ln - (intOf i).toNat)
   case atStart=>exact⟨0,1,1,ul,uc,_,ua,rfl,Nat.zero_le _,rfl,rfl,HJ⟩
   case round=>
    clear HJ
    obtain⟨j,ol,oc,ul,uc,oa2,ua,rfl,hj,rfl,rfl,hS⟩:=hrel
    obtain⟨S2,hJ⟩:=hS.out
    have HJ:=Lib.hid hJ
    clear hS
    by_cases hjt:j<ln
    ·have hjti:(j:Int)<(ln:Int):=by omega
     have hjl:j<p.2.2.length:=by rw[←HLN.out];exact hjt
     obtain⟨b,off,us,hoa,hbk,hc,rfl,hi⟩:=hJ.kd.2 j hjl
     subst hoa
     have c1:=hc 0 _ rfl
     have ek:Pak.intSh.k=1:=rfl
     rw[ek,Nat.mul_one,Nat.add_zero]at c1
     have hxb:=HXB.out _ (List.getElem_mem hjl)
     have HJK:=Lib.hid (joinK_5 (v:=(m:Int)) hjl)
     have HLK:=Lib.hid (lastK_5 (v:=(m:Int)) hjl)
     clear hc hi ek
     have HX:Hid (∃x,x=p.2.2[j]):=⟨_,rfl⟩
     obtain⟨x,hx⟩:=HX.out
     have HX:Hid (∀h:j<p.2.2.length,p.2.2[j]=x):=Lib.hid fun _=>hx.symm
     rw[←hx]at c1 hxb HJK HLK
     clear hx
     have hwx:IntKind.i64.wrap (-x)= -x:=IntWalk.i64_in _ (by omega)
     obtain⟨a6,n6,c6,w6,hr6,hJ6⟩:=hJ.clause HKW.out (by rw[List.length_append,joinK_len (by omega)];omega) [-(m:Int),x] (fun y hy=>by
      rcases List.mem_cons.1 hy with rfl | hy
      ·omega
      ·rw[List.mem_singleton]at hy
       subst hy;omega) (by simp) 2 2 rfl
     have c2:w6.cell? ⟨b,off+j,none⟩=some (.int .i64 x):=by
      obtain⟨b',off',us',e',_,hc',rfl,_⟩:=hJ6.kd.2 j hjl
      injection e' with e'
      injection e' with e1 e2 e3
      subst e1 e2
      have:=hc' 0 _ rfl
      rw[show Pak.intSh.k=1 from rfl,Nat.mul_one,Nat.add_zero]at this
      rw[this,HX.out hjl]
     obtain⟨a7,n7,c7,w7,hr7,hJ7⟩:=hJ6.last HKW.out (by rw[lastK_len (by omega)];omega) (x:=(-x)) (by omega)
     have HF:Hid (∃S',JR K S W1 (.slice va cll vc) (p.2.1 ++ joinK (m:Int) 1 p.2.2 (j+1)) (.slice a6 n6 c6) S' ko (some ⟨b,off,none⟩) p.2.2 (lastK (m:Int) 1 p.2.2 (j+1)) (.slice a7 n7 c7) w7):=Lib.hid ⟨_,by rw[HJK.out,HLK.out,←List.append_assoc];exact hJ7⟩
     simp only[List.map_cons,List.map_nil]at hr6
     clear hJ hJ6 hJ7 HJ HJK HLK
     go_wp2_with (at_builtin;first | refine Lib.wpList_append_run _ rfl _ _ _ _ rfl _ _ rfl rfl _ _ (hr6 _) ?_ | refine Lib.wpList_append_run _ rfl _ _ _ _ rfl _ _ rfl rfl _ _ (hr7 _) ?_)
     go_roundw
     case rel=>exact⟨j+1,n7,c7,n6,c6,a7,a6,by go_num,by omega,rfl,rfl,HF⟩
     case measure=>simp[intOf];omega
    ·have hjti:¬(j:Int)<(ln:Int):=by omega
     obtain rfl:j=ln:=by omega
     obtain⟨oa9,oc9,e9,a6,n6,c6,w6,S6,hr6,hs6,hR6⟩:=hJ.end HKW.out (by rw[List.length_append,joinK_len (by rw[←HLN.out];omega)];omega) (by rw[lastK_len (by rw[←HLN.out];omega)];omega)
     injection e9 with e91 e92 e93
     rw[←e92,←e91,←e93]at hr6
     have HE:=Lib.hid (HEND.out _ _ w6 hs6 (by rw[ownC_5,←join_all,←HLN.out,←List.append_assoc];exact hR6))
     clear hJ HJ hs6 hR6 HEND HXB e91 e92 e93 HLN
     go_wp2_with (at_builtin;refine Lib.wpList_append_run _ rfl _ _ _ _ rfl _ _ rfl rfl _ _ (hr6 _) ?_)
     go_ret3
     have e2:(p.1:Int)+1=(m:Int):=by rw[HMM.out];rfl
     rw[HPP.out,e2,←HMM.out]
     exact HE.out
end
section
open Go.RowKit
theorem make_no (n:Nat)(f:FT)(cs:List Value)(w:World)(h:FLies w.heap.size w (n+1) f cs)(hi:isF (n+1) f=false):
 Calls Tryz.prog 31 #[.agg cs.toArray] w (CnfEnd (n+1) f w):=by
 obtain⟨ta,tcap,ka,kcap,rfl,h4,h5,h6,h7⟩:=h
 have hfl:FLies w.heap.size w (n+1) f [.int .i64 f.kind,.int .i64 f.c,.slice ta f.t.length tcap,.slice ka f.ks.length kcap]:=⟨ta,tcap,ka,kcap,rfl,h4,h5,h6,h7⟩
 have HK:Hid (cnfK (n+1) f=5):=Lib.hid (by unfold cnfK;rw[if_pos hi])
 have hA:Below w.heap.size w (w.alloc (.cells #[.int .i64 f.kind,.int .i64 f.c,.slice ta f.t.length tcap,.slice ka f.ks.length kcap] 39)):=(Below.refl _ w).alloc (Nat.le_refl _) _
 have HB:=box_start w f.kind f.c ta ka f.t.length tcap f.ks.length kcap
 have hA2:Below (w.alloc (.cells #[.int .i64 f.kind,.int .i64 f.c,.slice ta f.t.length tcap,.slice ka f.ks.length kcap] 39)).heap.size (w.alloc (.cells #[.int .i64 f.kind,.int .i64 f.c,.slice ta f.t.length tcap,.slice ka f.ks.length kcap] 39)) ((w.alloc (.cells #[.int .i64 f.kind,.int .i64 f.c,.slice ta f.t.length tcap,.slice ka f.ks.length kcap] 39)).alloc (.cells #[.int .i64 0,.slice none 0 0,.slice none 0 0] 71)):=(Below.refl _ _).alloc (Nat.le_refl _) _
 have hz1:(w.alloc (.cells #[.int .i64 f.kind,.int .i64 f.c,.slice ta f.t.length tcap,.slice ka f.ks.length kcap] 39)).heap.size=w.heap.size+1:=by simp
 have hrc:=rc_new (w.alloc (.cells #[.int .i64 f.kind,.int .i64 f.c,.slice ta f.t.length tcap,.slice ka f.ks.length kcap] 39)) (w.heap.size+1) hz1
 have hAA:=hA.trans (hA2.mono hA.size)
 have hz2:((w.alloc (.cells #[.int .i64 f.kind,.int .i64 f.c,.slice ta f.t.length tcap,.slice ka f.ks.length kcap] 39)).alloc (.cells #[.int .i64 0,.slice none 0 0,.slice none 0 0] 71)).heap.size=w.heap.size+2:=by simp
 have HIS:=Lib.hid (nis_any (n+1) f _ _ ((hfl.below hAA).mono hAA.size))
 rw[hi]at HIS
 have hbx:=fun j=>hA2.cell (p:=⟨w.heap.size,j,none⟩) (show w.heap.size<_ by rw[hz1];omega)
 have b0:=(hbx 0).trans HB.c0
 have b1:=(hbx 1).trans HB.c1
 have b2:=(hbx 2).trans HB.c2
 have b3:=(hbx 3).trans HB.c3
 have HZ2:=Lib.hid hz2
 have HRC:=Lib.hid hrc
 have HAA:=Lib.hid hAA
 unfold CnfEnd
 rw[HK.out]
 clear HK hA HB hA2 hz1 hz2 hrc hAA hbx hfl h4 h7 hi
 generalize f.kind=fk at*
 generalize f.c=fc at*
 generalize f.t.length=ft at*
 generalize f.ks.length=fl at*
 go_enter Tryz.func31,Tryz.ntmps31
 go_wp2_with fail
 generalize (w.alloc (.cells #[.int .i64 fk,.int .i64 fc,.slice ta ft tcap,.slice ka fl kcap] 39)).alloc (.cells #[.int .i64 0,.slice none 0 0,.slice none 0 0] 71)=W2 at*
 refine HIS.out.mono ?_
 rintro e w3 ⟨rfl,hb3⟩
 have hr3:=HRC.out.keep (hb3.block (w.heap.size+1) (by rw[HZ2.out];omega))
 have HR3:=Lib.hid hr3
 have HB3:=Lib.hid (HAA.out.trans (hb3.mono HAA.out.size))
 clear hb3 hr3 b0 b1 b2 b3
 obtain⟨r0,r1,r2,rf⟩:=HR3.out
 go_wp2_with fail
 clear r0 r1 r2 rf
 refine bodyPost_ret (v:= .tuple #[.agg #[.int .i64 0,.slice none 0 0,.slice none 0 0],.iface 60 (.int .i64 5)]) ?_ rfl ⟨fun _=>rfl,fun h=>absurd h (by decide),below3 HB3.out (Nat.le_succ _) _ _ _⟩
 obtain⟨e0,e1,e2⟩:=res3 HR3.out (.int .i64 0) (.slice none 0 0) (.slice none 0 0)
 simp[results,Tryz.results31,go_sem,e0,e1,e2]
end
section
open Go.RowKit
theorem rmk_1 (am:List (Int×List (Int×Int)))(B K:Nat)(la:Option Addr)(lc:Nat)(hB:B≤K)(n:Nat)(IH:RMkSaid am B K la lc n)(f:FT)(cs:List Value)(N:Nat)(cl:List (List Int))(S:Nat→Prop)(v:Value)(w:World)(h:FLies B w (n+1) f cs)(hm:madeF (n+1) f=true)(hl:Pak.Sits linSh (Pak.Lo K) w la am)(hv:CRow K S cl v w)(hK:K≤w.heap.size)(hb1:am.length+N+siz (n+1) f≤100000)(hb2:cl.length+2*siz (n+1) f≤1000000)(hk:f.kind=1):
 Calls Tryz.prog 64 #[.agg cs.toArray,.slice la am.length lc,.int .i64 N,v] w (RMEnd K (mkF am (n+1) f N cl) S v w):=by
 obtain⟨ta,tcap,ka,kcap,rfl,hT,hl1,hl2,hks⟩:=h
 rw[mkF_x ⟨by omega,by omega⟩,hk]
 have hA:Below w.heap.size w (w.alloc (.cells #[.int .i64 f.kind,.int .i64 f.c,.slice ta f.t.length tcap,.slice ka f.ks.length kcap] 39)):=(Below.refl _ w).alloc (Nat.le_refl _) _
 have HB:=box_start w f.kind f.c ta ka f.t.length tcap f.ks.length kcap
 have HM:=Lib.hid (made_kids hm)
 have HTF:=Lib.hid (mkTo_fits am n f.ks N cl (made_kids hm))
 have HLZ:=Lib.hid (len_siz n f.ks (made_kids hm) f.ks.length (Nat.le_refl _))
 have HI:=Lib.hid IH
 have HK:=Lib.hid hks
 have HA:=Lib.hid hA
 have HBK:=Lib.hid (And.intro hB hK)
 have HLS:=Lib.hid hl
 have hsz:=sizTo_len n f
 rw[hsz]at hb1 hb2
 have HB1:=Lib.hid hb1
 have HB2:=Lib.hid hb2
 have HBX:=Lib.hid HB
 have hq1:w.heap.size<(w.alloc (.cells #[.int .i64 f.kind,.int .i64 f.c,.slice ta f.t.length tcap,.slice ka f.ks.length kcap] 39)).heap.size:=by simp
 have HQ1:=Lib.hid hq1
 have HQ:Hid (v.ownBlock≠some w.heap.size):=Lib.hid fun e=>by have:=(hv.lt _ e).2;omega
 have HVL:=Lib.hid (fun q (e:v.ownBlock=some q)=>(hv.lt q e).1)
 have HR1:=Lib.hid (KR.start (hv.below hA))
 have b0:=HB.c0
 have b3:=HB.c3
 obtain⟨va,vc,hvf⟩:=hv.form
 rw[hk]at*
 clear IH hks hT hv hA HB hm hsz hb1 hb2 hB hq1 hl1 hK hl hk
 obtain⟨cll,hcll⟩:∃cll,cll=cl.length:=⟨_,rfl⟩
 obtain⟨al,hal⟩:∃al,al=am.length:=⟨_,rfl⟩
 rw[←hcll]at hvf HB2
 subst hvf
 have HAL:=Lib.hid hal
 rw[←hal]
 rw[←hal]at HB1 HTF
 have HCLL:=Lib.hid hcll
 clear hcll hal
 generalize f.c=fc at*
 generalize f.t.length=ft at*
 generalize hlen:f.ks.length=len at*
 have HLEN:=Lib.hid hlen
 clear hlen
 go_enter Tryz.func64,Tryz.ntmps64
 go_wp2_with fail
 clear b0
 generalize w.alloc (.cells #[.int .i64 1,.int .i64 fc,.slice ta ft tcap,.slice ka len kcap] 39)=W1 at*
 go_loopw [2,3,14,15] (fun m3 u3 o i wr=>∃(k ol oc ul uc:Nat) (oa ua:Option Addr),i= .int .i64 k∧k≤len∧m3= .int .i64 (mkTo am n f.ks N cl k).1∧u3= .slice ua ul uc∧o= .slice oa ol oc∧Hid (∃S',KR K S W1 (.slice va cll vc) (mkTo am n f.ks N cl k).2.1 (mkTo am n f.ks N cl k).2.2 (.slice ua ul uc) S' (.slice oa ol oc) wr)) (fun _ _ _ i _=>len - (intOf i).toNat)
 case atStart=>exact⟨0,0,0,cll,vc,none,va,rfl,Nat.zero_le _,rfl,rfl,rfl,⟨S,HR1.out⟩⟩
 case round=>
  clear HR1
  obtain⟨k,ol,oc,ul,uc,oa,ua,rfl,hk,rfl,rfl,rfl,hS⟩:=hrel
  obtain⟨S1,hKR⟩:=hS.out
  have HKR:=Lib.hid hKR
  have hg:=hKR.rt.2.1
  have hbk:=HBK.out
  have hKW:K≤W1.heap.size:=Nat.le_trans hbk.2 HA.out.size
  have hMw:Below K w wr:=(HA.out.mono hbk.2).trans (grown_low hg hKW HVL.out)
  have HMW:=Lib.hid hMw
  have HKW:=Lib.hid hKW
  have hc:=fun j=>World.cell?_of_block (a:=⟨w.heap.size,j,none⟩) (hg.block w.heap.size HQ1.out (fun e=>HQ.out e.symm))
  have x3:=(hc 3).trans b3
  have x0:=(hc 0).trans HBX.out.c0
  clear hg hMw hc hKR hS hKW
  by_cases hlt:k<len
  ·have hlti:(k:Int)<(len:Int):=by omega
   have hkl:k<f.ks.length:=by rw[HLEN.out];exact hlt
   obtain⟨b,off,c0,c1,c2,c3,rfl,hbl,g0,g1,g2,g3,hf⟩:=HK.out k hlt
   have hblM:b<K:=by omega
   rw[←HMW.out.cell (p:=⟨b,_,none⟩) hblM]at g0 g1 g2 g3
   obtain⟨ck,cc,cta,ctn,ctcap,cka,ckn,ckcap,rfl,rfl,rfl,rfl⟩:=hf.form
   have hmk:=HM.out k hlt
   obtain⟨⟨f1,f2,_⟩,f4,_⟩:=HTF.out k (Nat.le_of_lt hlt)
   have hs1:=sizTo_succ n f.ks k hkl
   have hs2:=sizTo_mono n f.ks (i:=k+1) (j:=f.ks.length) hkl
   have hb1:=HB1.out
   have hb2:=HB2.out
   have hlz:=HLZ.out
   have hl:=HLEN.out
   have hal:=HAL.out
   rw[hl]at hs2
   have hcl0:cl.length≤cl.length:=Nat.le_refl _
   have hih:=HI.out (f.ks.getD k default) _ (mkTo am n f.ks N cl k).1 (mkTo am n f.ks N cl k).2.1 S1 (.slice ua ul uc) wr (hf.below (HMW.out.mono hbk.1)) hmk (HLS.out.up HMW.out) HKR.out.rt.1 (Nat.le_trans hbk.2 HMW.out.size) (by omega) (by have:=HCLL.out;omega)
   rw[←hal]at hih
   have hfar:=mkF_far (am:=am) (n:=n) (f:=f.ks.getD k default) (N:=(mkTo am n f.ks N cl k).1) (cl:=(mkTo am n f.ks N cl k).2.1) hmk (by omega)
   have HSTEP:=Lib.hid (fun cl3 v3 S3 w3 hS3 hR3=>HKR.out.step (Nat.le_trans hbk.2 HMW.out.size) (cl3:=cl3) (v3:=v3) (S3:=S3) (w3:=w3) hS3 hR3 (by omega) (x:=(mkF am n (f.ks.getD k default) (mkTo am n f.ks N cl k).1 (mkTo am n f.ks N cl k).2.1).lit) (by omega))
   have HSU:=Lib.hid (mkTo_succ am n f.ks N cl k hkl)
   have HIH:=Lib.hid hih
   clear hmk f1 f2 f4 hs1 hs2 hb1 hb2 hlz hl hal hih hfar hf hbl hblM hbk hkl hcl0
   generalize mkF am n (f.ks.getD k default) (mkTo am n f.ks N cl k).1 (mkTo am n f.ks N cl k).2.1=q at*
   go_wp2_with fail
   clear g0 g1 g2 g3 x0 x3
   refine HIH.out.mono ?_
   rintro e w3 ⟨v3,S3,rfl,hS3,hR3⟩
   obtain⟨a4,n4,c4,w4,hr4,hk4⟩:=HSTEP.out _ _ S3 w3 hS3 hR3
   obtain⟨a5,c5,e5⟩:=hR3.1.form
   generalize q.cl.length=n5 at e5
   subst e5
   have HK4:Hid (∃S',KR K S W1 (.slice va cll vc) (mkTo am n f.ks N cl (k+1)).2.1 (mkTo am n f.ks N cl (k+1)).2.2 (.slice a5 n5 c5) S' (.slice a4 n4 c4) w4):=Lib.hid ⟨S3,by rw[HSU.out];exact hk4⟩
   have HN4:Hid ((mkTo am n f.ks N cl (k+1)).1=q.n):=Lib.hid (by rw[HSU.out])
   clear hS3 hR3 hk4 HSTEP HIH HSU HKR
   go_wp2_with (at_builtin;refine Lib.wpList_append_run _ rfl _ _ _ _ rfl _ _ rfl rfl _ _ (hr4 _) ?_)
   go_roundw
   case rel=>exact⟨k+1,n4,c4,n5,c5,a4,a5,by go_num,by omega,by rw[HN4.out],rfl,rfl,HK4⟩
   case measure=>simp[intOf];omega
  ·have hlti:¬(k:Int)<(len:Int):=by omega
   obtain rfl:k=len:=by omega
   obtain⟨⟨f1,f2,_⟩,f4,f5⟩:=HTF.out k (Nat.le_refl _)
   have hb1:=HB1.out
   have hb2:=HB2.out
   have hlz:=HLZ.out
   have HF5:=Lib.hid f5
   have hcc:=HCLL.out
   obtain⟨p,hpp⟩:∃p,mkTo am n f.ks N cl k=p:=⟨_,rfl⟩
   have HPP:=Lib.hid hpp
   have hsz1:sizTo n f.ks k≤100000:=by omega
   rw[hpp]at HKR f1 f2 f4 HF5⊢
   clear f5 hpp
   obtain⟨m,hmm⟩:∃m:Nat,m=p.1+1:=⟨_,rfl⟩
   have hwm:IntKind.i64.wrap ((p.1:Int)+1)=(m:Int):=by rw[hmm];exact IntWalk.i64_in _ (by omega)
   have hwn:IntKind.i64.wrap (-(m:Int))= -(m:Int):=IntWalk.i64_in _ (by omega)
   have hmB:m≤200000:=by omega
   have hclB:p.2.1.length≤1000000:=by omega
   have hlitB:p.2.2.length≤100000:=by omega
   have HXB:Hid (∀x∈p.2.2, -1000000≤x∧x≤1000000):=Lib.hid fun x hx=>by have:=HF5.out x hx;omega
   have HMM:=Lib.hid hmm
   have HEND:=Lib.hid (fun(v6:Value) (S6:Nat→Prop) (w6:World) (hs:∀b,S6 b→S b∨W1.heap.size≤b) (hR:CTo K S6 (p.2.1 ++ ownC 1 m p.2.2) (.slice va cll vc) W1 v6 w6)=>(show RMEnd K ⟨m,p.2.1 ++ ownC 1 m p.2.2,m⟩ S (.slice va cll vc) w (.returned (.tuple #[v6,.int .i64 m,.int .i64 m])) w6 from⟨v6,S6,rfl,fun b hb=>(hs b hb).imp id (fun h=>Nat.le_trans HA.out.size h),hR.before HA.out⟩))
   have HGO:Hid ((⟨p.1+1,p.2.1 ++ ownC 1 ((p.1+1:Nat):Int) p.2.2,((p.1+1:Nat):Int)⟩:MkR)=⟨m,p.2.1 ++ ownC 1 m p.2.2,m⟩):=Lib.hid (by rw[hmm])
   rw[HGO.out]
   clear hmm HB1 HB2 HTF HLZ HK HM HI hb1 hb2 hlz f1 f2 HF5 hcc f4 HMW HLS HBK HQ HQ1 HBX hbk
   have hzW:=HKR.out.rt.2.1.size
   have hkw:=HKW.out
   have hA2:Below wr.heap.size wr (wr.alloc (.cells #[.int .i64 (-(m:Int))] 3)):=(Below.refl _ _).alloc (Nat.le_refl _) _
   have hz2:(wr.alloc (.cells #[.int .i64 (-(m:Int))] 3)).heap.size=wr.heap.size+1:=by simp
   have hvl:=fun q e=>(HKR.out.rt.1.lt q e).2
   have hIn:Pak.Sits Pak.intSh (fun b=>b=wr.heap.size) (wr.alloc (.cells #[.int .i64 (-(m:Int))] 3)) (some ⟨wr.heap.size,0,none⟩) [(-(m:Int))]:=ints_new wr [(-(m:Int))] (fun y hy=>by
    rw[List.mem_singleton]at hy
    subst hy;omega) (by simp)
   obtain⟨a6,n6,c6,w6,hr6,k1,k2,k3⟩:=CRow.add (HKR.out.rt.after hA2) (by omega) (by omega) (cap:=1) (n:=1) (zs:=[(-(m:Int))]) rfl hIn (fun b e=>⟨by omega,fun e2=>by have:=hvl b e2;omega⟩)
   rw[hz2]at hr6
   have HE:=Lib.hid (HEND.out _ (fun b=>S1 b∨b=wr.heap.size) w6 (fun b hb=>by
    rcases hb with hb | hb
    ·exact HKR.out.sl b hb
    ·right;omega) (by rw[ownC_1];exact k1))
   clear k1 k2 k3 hIn hvl hA2 hz2 hzW hkw HKR HEND HXB
   go_wp2_with (at_builtin;refine Lib.wpList_append_run _ rfl _ _ _ _ rfl _ _ rfl rfl _ _ (hr6 _) ?_)
   go_ret3
   have e2:(p.1:Int)+1=(m:Int):=by rw[HMM.out];rfl
   rw[HPP.out,e2,←HMM.out]
   exact HE.out
end
section
theorem lit_of {B:Nat}{w:World}:∀ {n:Nat} {f:FT} {cs:List Value},FLies B w n f cs→sndF n f=true→siz n f≤4096→litF n f
 | 0,_,_,h,_,_=>h.elim
 | n+1,f,cs,h,hs,hz=>by
   obtain⟨ta,tcap,ka,kcap,_,_,_,_,hks⟩:=h
   obtain⟨ho,hk⟩:=sndF_split hs
   have hsz:=sizTo_len n f
   have hpos:∀i,i<f.ks.length→1≤siz n (f.ks.getD i default):=fun i hi=>by
    obtain⟨_,_,_,_,_,_,_,_,_,_,_,_,hf⟩:=hks i hi
    cases n with
    | zero=>exact hf.elim
    | succ n=>exact siz_pos n _
   have hle:∀i,i≤f.ks.length→i≤sizTo n f.ks i:=fun i=>by
    induction i with
    | zero=>exact fun _=>Nat.zero_le _
    | succ i ih=>
      intro hi
      have h1:=ih (by omega)
      have h2:=hpos i hi
      rw[sizTo_succ n f.ks i hi]
      omega
   have hl:=hle f.ks.length (Nat.le_refl _)
   refine⟨?_,by omega,fun i hi=> ?_⟩
   ·rcases ownF_kind ho with h0 | h0 | h0 | h0 | h0 | h0
    ·unfold ownF ownV at ho
     rw[if_pos (.inl h0)]at ho
     simp at ho
     first | omega | simp[ho]
    ·unfold ownF ownV at ho
     rw[if_pos (.inr h0)]at ho
     simp at ho
     first | omega | simp[ho]
    ·have:=(snd_iff.1 (ownF_form ho h0)).2.1
     omega
    ·unfold ownF ownV at ho
     rw[if_neg (by omega),if_neg (by omega),if_pos h0]at ho
     simp at ho
     first | omega | simp[ho]
    ·unfold ownF ownV at ho
     rw[if_neg (by omega),if_neg (by omega),if_neg (by omega),if_pos (.inl h0)]at ho
     simp at ho
     first | omega | simp[ho]
    ·unfold ownF ownV at ho
     rw[if_neg (by omega),if_neg (by omega),if_neg (by omega),if_pos (.inr h0)]at ho
     simp at ho
     first | omega | simp[ho]
   ·obtain⟨_,_,_,_,_,_,_,_,_,_,_,_,hf⟩:=hks i hi
    have h1:=sizTo_succ n f.ks i hi
    have h2:=sizTo_mono n f.ks (i:=i+1) (j:=f.ks.length) hi
    exact lit_of hf (hk i hi) (by omega)
end
end Go.Proofs.YtipahfcaplbifaaGreatDoor
