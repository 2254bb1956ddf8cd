/- Parts of a proof. -/
import Derived.Test.YtipahfcaplbifaaGreatDoorZ02
import Derived.Test.YtipahfcaplbifaaGreatDoorZ06
import Derived.Test.YtipahfcaplbifaaGreatDoorZ09
import Derived.Test.YtipahfcaplbifaaGreatDoorZ14
import Derived.Test.YtipahfcaplbifaaGreatDoorZShelf
import Derived.Sort.OwnSortedInts
import Derived.Lib.OwnBridge
import Derived.Maps.RangeWalk
import Derived.Maps.AppendAt
import Derived.Deep.RegionLaw
import Derived.Deep.AppendLies
import Derived.Deep.DrawnRows
import Derived.Maps.Range
set_option linter.unusedVariables false
set_option linter.unusedSimpArgs false
set_option maxHeartbeats 60000000
set_option maxRecDepth 100000
namespace Go.Proofs.YtipahfcaplbifaaGreatDoor
namespace Cut
open Go.RowKit Go.Maps
theorem Sums.alloc {T:List (Int×Int)}{n B:Nat}{w:World}(h:Sums T n B w)(o:Obj):Sums T n B (w.alloc o):=by
 obtain⟨D,h1,h2⟩:=h.ex
 exact⟨D,h1.alloc _,h2⟩
theorem Sums.more {T T':List (Int×Int)}{n B:Nat}{w:World}(h:Sums T n B w)(he:∀v,coef T v=coef T' v):Sums T' n B w:=by
 obtain⟨D,h1,h2⟩:=h.ex
 exact⟨D,h1,fun v=>by rw[h2 v,he v]⟩
theorem csum_any (a:Option Addr)(n cap:Nat)(ls:List (Int×List (Int×Int)))(pa:Option Addr)(pn pcap:Nat)(ps:List (Int×Int))(w:World)(hn:ls.length=n)(hm:n≤9223372036854775807)(hl:LLies w.heap.size w a ls)(hpn:ps.length=pn)(hp:Lies w.heap.size w pa ps)(hok:partsOk ls ps):
 Calls Tryz.prog 132 #[.slice a n cap,.slice pa pn pcap] w fun e w'=>e= .returned (.tuple #[.int .i64 (cTo ls ps pn),.map (some w.heap.size)])∧Sums (tTo ls ps pn) (tTo ls ps pn).length w.heap.size w'∧Below w.heap.size w w':=by
 have hmm:= @run_makeMap Tryz.prog
 have HP:=Lib.hid hp
 have HL:=Lib.hid hl
 have HOK:=Lib.hid hok
 have HPN:=Lib.hid hpn
 have HN:=Lib.hid hn
 have p64:pn≤64:=by rw[←hpn];exact hok.1
 clear hp hl hok hpn hn
 go_enter Tryz.func132,Tryz.ntmps132
 go_wp2
 go_loopw [6,16] (fun c i wr=>∃(k:Nat),k≤pn∧i= .int .i64 k∧c= .int .i64 (cTo ls ps k)∧Hid (Sums (tTo ls ps k) (tTo ls ps k).length w.heap.size wr)∧Hid (Below w.heap.size w wr)∧Hid (w.heap.size<wr.heap.size)) (fun _ i _=>pn - (intOf i).toNat)
 case atStart=>exact⟨0,Nat.zero_le _,rfl,rfl,⟨.map [],World.ownsMap_made _ _ _ _,fun v=>rfl⟩,(Below.refl _ _).alloc (Nat.le_refl _) _,by show _<_;simp⟩
 case round=>
  clear hmm
  obtain⟨k,hk,rfl,rfl,hs,hb,hz⟩:=hrel
  by_cases hlt:k<pn
  ·obtain⟨b,off,rfl,hblt,c1,c2⟩:=(HP.out.below hb.out) k (by rw[HPN.out];exact hlt)
   obtain⟨⟨hx0,hx1⟩,hy,hsn⟩:=HOK.out.2 k (by rw[HPN.out];exact hlt)
   obtain⟨b2,off2,ta,tcap,rfl,hb2,l0,l1,hll⟩:=HL.out (ps.getD k (0,0)).1.toNat hx1
   rw[←hb.out.cell (p:=⟨b2,_,none⟩) hb2]at l0 l1
   obtain⟨q,hq⟩:∃q:Nat,(ps.getD k (0,0)).1=q:=⟨_,(Int.toNat_of_nonneg hx0).symm⟩
   have e1:ls.getD (ps.getD k (0,0)).1.toNat (0,[])=lineAt ls ps k:=rfl
   rw[e1]at l0 l1 hll
   rw[hq]at c1 hx1 l0 l1
   simp only[Int.toNat_natCast]at hx1 l0 l1
   have hqn:q<n:=by rw[←HN.out];exact hx1
   have hc0:=cTo_in HOK.out k (by rw[HPN.out];omega)
   have hc1:=cTo_in HOK.out (k+1) (by rw[HPN.out];omega)
   have ht0:=tTo_in HOK.out k (by rw[HPN.out];omega)
   have HT1:Hid (tTo ls ps (k+1)=tTo ls ps k ++ timesL (ps.getD k (0,0)).2 (lineAt ls ps k).2):=rfl
   have hce:cTo ls ps (k+1)=cTo ls ps k+(lineAt ls ps k).1*(ps.getD k (0,0)).2:=rfl
   have HTI:=Lib.hid ht0
   have HLL:=Lib.hid hll
   have HSN:=Lib.hid hsn
   have h64:=(snd_iff.1 hsn).2.1
   have HTT:=Lib.hid (timesL_in hsn hy)
   clear hx0 hx1 hq e1 hsn hll ht0
   generalize hTe:tTo ls ps (k+1)=T1 at HT1
   have HTE:=Lib.hid hTe
   clear hTe
   generalize hC1:cTo ls ps (k+1)=ck1 at hce hc1
   have HC1:=Lib.hid hC1
   clear hC1
   generalize tTo ls ps k=T0 at hs HT1 HTI
   generalize hC0:cTo ls ps k=ck at hce hc0
   generalize (lineAt ls ps k).1=C at l0 hce HSN
   generalize (lineAt ls ps k).2=LT at l1 HT1 HLL HSN HTT h64
   generalize (ps.getD k (0,0)).2=y at c2 hy HT1 hce HTT
   have hw1:IntKind.i64.wrap (C*y)=C*y:=IntWalk.i64_in _ (by omega)
   have hw2:IntKind.i64.wrap (ck+C*y)=ck+C*y:=IntWalk.i64_in _ (by omega)
   have S2:=Lib.hid ((hs.out.alloc (.cells #[.int .i64 q,.int .i64 y] 193)).alloc (.cells #[.int .i64 C,.slice ta LT.length tcap] 36))
   have hba:=((Below.refl wr.heap.size wr).alloc (Nat.le_refl _) (.cells #[.int .i64 q,.int .i64 y] 193)).alloc (by simp) (.cells #[.int .i64 C,.slice ta LT.length tcap] 36)
   have B2:=Lib.hid (hb.out.trans (hba.mono (Nat.le_of_lt hz.out)))
   have PY:Hid (wr.heap.size<((wr.alloc (.cells #[.int .i64 q,.int .i64 y] 193)).alloc (.cells #[.int .i64 C,.slice ta LT.length tcap] 36)).heap.size∧((wr.alloc (.cells #[.int .i64 q,.int .i64 y] 193)).alloc (.cells #[.int .i64 C,.slice ta LT.length tcap] 36)).cell? ⟨wr.heap.size,1,none⟩=some (.int .i64 y)):=by
    refine⟨by simp;omega, ?_⟩
    rw[((Below.refl (wr.alloc (.cells #[.int .i64 q,.int .i64 y] 193)).heap.size (wr.alloc (.cells #[.int .i64 q,.int .i64 y] 193))).alloc (Nat.le_refl _) _).cell (p:=⟨wr.heap.size,1,none⟩) (by simp)]
    simp
   have hzp:=hz.out
   have hb2z:b2<wr.heap.size:=by omega
   have hbp:=(Below.refl wr.heap.size wr).alloc (Nat.le_refl _) (.cells #[.int .i64 q,.int .i64 y] 193)
   rw[←hbp.cell (p:=⟨b2,_,none⟩) hb2z]at l0 l1
   clear hba hs hbp
   go_wp2
   clear c1 c2 l0 l1 hw1
   generalize (wr.alloc (.cells #[.int .i64 q,.int .i64 y] 193)).alloc (.cells #[.int .i64 C,.slice ta LT.length tcap] 36)=w2 at S2 B2 PY⊢
   generalize wr.heap.size=P at hzp PY⊢
   go_loopw [35] (fun i wr=>∃(j:Nat),j≤LT.length∧i= .int .i64 j∧Hid (Sums (T0 ++ timesL y (LT.take j)) (T0.length+j) w.heap.size wr)∧Hid (Below w.heap.size w wr)∧Hid (P<wr.heap.size∧wr.cell? ⟨P,1,none⟩=some (.int .i64 y))) (fun i _=>LT.length - (intOf i).toNat)
   case atStart=>exact⟨0,Nat.zero_le _,rfl,S2.out.more (fun v=>by simp[timesL]),B2,PY⟩
   case round=>
    clear S2 B2 PY
    obtain⟨j,hj,rfl,hsi,hbi,hpi⟩:=hrel
    by_cases hjt:j<LT.length
    ·obtain⟨b3,off3,rfl,hb3,d1,d2⟩:=(HLL.out.below hbi.out) j hjt
     have hok3:=okAt_in ((snd_iff.1 HSN.out).2.2 j hjt)
     obtain⟨D,hown,hat0⟩:=hsi.out.ex
     have hmem:((LT.getD j (0,0)).1,(LT.getD j (0,0)).2*y)∈timesL y LT:=List.mem_map.2 ⟨LT.getD j (0,0),by rw[List.getD_eq_getElem?_getD,List.getElem?_eq_getElem hjt];exact List.getElem_mem hjt,rfl⟩
     have hky:=HTT.out _ hmem
     have hlen:(T0 ++ timesL y (LT.take j)).length=T0.length+j:=by rw[List.length_append,timesL_len,List.length_take];omega
     have hci:=coef_in (l:=T0 ++ timesL y (LT.take j)) (M:=4398046511104) (by omega) (fun m hm=>by
      rcases List.mem_append.1 hm with hm | hm
      ·exact HTI.out.2 m hm
      ·obtain⟨x,hx,rfl⟩:=List.mem_map.1 hm
       exact HTT.out _ (List.mem_map.2 ⟨x,List.mem_of_mem_take hx,rfl⟩)) (LT.getD j (0,0)).1
     rw[hlen]at hci
     have hT0l:=HTI.out.1
     have hstep:∀v,coef (T0 ++ timesL y (LT.take (j+1))) v=coef (T0 ++ timesL y (LT.take j)) v+(if(LT.getD j (0,0)).1=v then(LT.getD j (0,0)).2*y else 0):=fun v=>by
      rw[coef_append,coef_append,timesL_take hjt,Int.add_assoc]
     have hv0:=hat0 (LT.getD j (0,0)).1
     have HST:=Lib.hid hstep
     have HAT:=Lib.hid hat0
     generalize hco:coef (T0 ++ timesL y (LT.take j)) (LT.getD j (0,0)).1=co at hci hv0
     have HCO:=Lib.hid hco
     clear hstep hat0 hsi hmem hco hlen
     generalize (LT.getD j (0,0)).1=v at d1 hok3 hv0 HST HCO
     generalize (LT.getD j (0,0)).2=K at d2 hok3 hky HST
     replace hky: -4398046511104≤K*y∧K*y≤4398046511104:=hky
     have hw3:IntKind.i64.wrap (K*y)=K*y:=IntWalk.i64_in _ (by omega)
     have hw4:IntKind.i64.wrap (co+K*y)=co+K*y:=IntWalk.i64_in _ (by push_cast at hci;omega)
     have hkey:keyOf Tryz.prog 3 (.int .i64 v)=some (.int .i64 v):=keyOf_int_mk Tryz.underlying3 (WalkArith.wf_i64 (by omega))
     have hpa:(wr.alloc (.cells #[.int .i64 v,.int .i64 K] 92)).cell? ⟨P,1,none⟩=some (.int .i64 y):=(((Below.refl wr.heap.size wr).alloc (Nat.le_refl _) _).cell (p:=⟨P,1,none⟩) hpi.out.1).trans hpi.out.2
     go_wp2_with (first
      | (at_lookup;refine wpList_lookup_own_int _ rfl _ _ 199 rfl 3 3 .i64 Tryz.lawInt Tryz.underlying199 Tryz.underlying3 (Tryz.zeroInt _) w.heap.size (T0.length+j) D rfl (hown.alloc _) _ _ rfl hkey ?_;intro c hat hwc;obtain rfl:c=co:=by have h9:=hat.symm.trans hv0;injection h9 with h9;injection h9)
      | (at_mapUpdate;refine wpList_mapUpdate_own _ rfl _ _ _ 199 rfl 3 3 Tryz.lawInt Tryz.underlying199 _ w.heap.size (T0.length+j) D rfl (hown.alloc _) (by unfold maxLen;omega) _ _ _ rfl rfl hkey _ [] (plainElem_int Tryz.underlying3 (WalkArith.wf_i64 (by push_cast at hci;omega))) ?_;intro w1 hown1 hgrow1)
      | go_in)
     have hz1:=hgrow1.size
     have hza:(wr.alloc (.cells #[.int .i64 v,.int .i64 K] 92)).heap.size=wr.heap.size+1:=by simp
     have hbs:=hbi.out.size
     have hq1:P<w1.heap.size:=by have:=hpi.out.1;omega
     have hq2:w.heap.size≤(wr.alloc (.cells #[.int .i64 v,.int .i64 K] 92)).heap.size:=by omega
     have hq3:(some P:Option Nat)≠some w.heap.size:=fun e=>by injection e with e;omega
     refine⟨⟨j+1,by omega,by go_num,⟨_,hown1,fun u=> ?_⟩,(hbi.out.alloc hbi.out.size _).grown hgrow1 hq2 (fun k hk=>by cases hk;exact Nat.le_refl _),hq1,hgrow1.cell hpa hq3⟩,by simp[intOf];omega⟩
     rw[HST.out u]
     by_cases e:v=u
     ·subst e
      rw[if_pos rfl,HCO.out]
      exact atKey_put_same hown.isMap (by exact trivial) _ _
     ·rw[if_neg e,Int.add_zero,←HAT.out u]
      exact atKey_put_other (fun h=>e (by injection h with h1 h2;exact h2.symm)) _ _
    ·obtain rfl:j=LT.length:=by omega
     have S9:Hid (Sums T1 T1.length w.heap.size wr∧Below w.heap.size w wr∧w.heap.size<wr.heap.size):=by
      refine⟨?_,hbi.out,by have:=hpi.out.1;omega⟩
      have h1:=hsi.out
      rw[List.take_length,←HT1.out]at h1
      rw[show T1.length=T0.length+LT.length by rw[HT1.out,List.length_append,timesL_len]]
      exact h1
     go_wp2
     refine⟨⟨k+1,by omega,by go_num,by rw[HC1.out,hce],by rw[HTE.out];exact S9.out.1,S9.out.2.1,S9.out.2.2⟩,by simp[intOf];omega⟩
  ·obtain rfl:k=pn:=by omega
   go_wp2
   refine bodyPost_ret (v:= .tuple #[.int .i64 (cTo ls ps k),.map (some w.heap.size)]) ?_ rfl ⟨rfl,hs.out,hb.out⟩
   simp[results,Tryz.results132,go_sem]
end Cut
section
open Go.RowKit
def LitEnd (B:Nat)(f:FT)(x:Value)(w:World)(e:Ending)(w':World):Prop:=∃cs,e= .returned (.tuple #[.agg cs.toArray,x])∧FLiesQ (fun b=>B≤b∧b<w'.heap.size) w' 2 f cs∧Below B w w'
theorem flies_flat {S:Nat→Prop}{w:World}{k c:Int}:FLiesQ S w 2 (.mk k c [] []) [.int .i64 k,.int .i64 c,.slice none 0 0,.slice none 0 0]:=
 ⟨none,0,none,0,rfl,fun i hi=>absurd hi (Nat.not_lt_zero i),by simp[FT.t],by simp[FT.ks],fun i hi=>absurd hi (by simp[FT.ks])⟩
theorem Row.liesQ {B:Nat}{l:List (Int×Int)}{v:Value}{w:World}(h:Row B l v w):∃a cap,v= .slice a l.length cap∧LiesQ (fun b=>B≤b∧b<w.heap.size) w a l:=by
 obtain⟨a,cap,rfl,hl,_⟩:=h.lies
 refine⟨a,cap,rfl,fun i hi=> ?_⟩
 obtain⟨b,off,rfl,hb,g0,g1⟩:=hl i hi
 exact⟨b,off,rfl,⟨(World.ownsRow.lt h b rfl).1,hb⟩,g0,g1⟩
theorem flies_leafS {S:Nat→Prop}{w:World}{n:Nat}{k c:Int}{t:List (Int×Int)}{ta:Option Addr}{tcap:Nat}(ht:t.length≤9223372036854775807)(h:LiesQ S w ta t):FLiesQ S w (n+1) (.mk k c t []) [.int .i64 k,.int .i64 c,.slice ta t.length tcap,.slice none 0 0]:=
 ⟨ta,tcap,none,0,rfl,h,ht,by simp[FT.ks],fun i hi=>absurd hi (by simp[FT.ks])⟩
theorem literal_bad (c:Int)(a:Option Addr)(n cap:Nat)(l:List (Int×Int))(w:World)(hn:l.length=n)(hm:n≤9223372036854775807)(hl:Lies w.heap.size w a l)(hs:snd c l=false):
 Calls Tryz.prog 111 #[.agg #[.int .i64 c,.slice a n cap]] w (LitEnd w.heap.size (.mk 0 0 [] []) (.iface 60 (.int .i64 5)) w):=by
 have HCK:=Lib.hid (fun W (hb:Below w.heap.size w W)=>check_no c a n cap l W hn hm ((hl.below hb).mono hb.size) hs)
 have hb1:Below w.heap.size w (w.alloc (.cells #[.int .i64 c,.slice a n cap] 36)):=(Below.refl _ w).alloc (Nat.le_refl _) _
 have B0:Hid (Below w.heap.size w ((w.alloc (.cells #[.int .i64 c,.slice a n cap] 36)).alloc (.cells #[.int .i64 0,.int .i64 0,.slice none 0 0,.slice none 0 0] 39))):=hb1.alloc hb1.size _
 have F0:=Lib.hid (fb_new (w.alloc (.cells #[.int .i64 c,.slice a n cap] 36)) (w.heap.size+1) (by simp))
 have hb2:=(Below.refl (w.alloc (.cells #[.int .i64 c,.slice a n cap] 36)).heap.size (w.alloc (.cells #[.int .i64 c,.slice a n cap] 36))).alloc (Nat.le_refl _) (.cells #[.int .i64 0,.int .i64 0,.slice none 0 0,.slice none 0 0] 39)
 have l0:((w.alloc (.cells #[.int .i64 c,.slice a n cap] 36)).alloc (.cells #[.int .i64 0,.int .i64 0,.slice none 0 0,.slice none 0 0] 39)).cell? ⟨w.heap.size,0,none⟩=some (.int .i64 c):=by rw[hb2.cell (p:=⟨w.heap.size,0,none⟩) (by simp)];simp
 have l1:((w.alloc (.cells #[.int .i64 c,.slice a n cap] 36)).alloc (.cells #[.int .i64 0,.int .i64 0,.slice none 0 0,.slice none 0 0] 39)).cell? ⟨w.heap.size,1,none⟩=some (.slice a n cap):=by rw[hb2.cell (p:=⟨w.heap.size,1,none⟩) (by simp)];simp
 clear hb1 hb2 hs hl hn
 go_enter Tryz.func111,Tryz.ntmps111
 have n1:=fun W=>Tryz.neCode 5 W
 go_wp2_with fail
 refine(HCK.out _ B0.out).mono ?_
 rintro e w2 ⟨rfl,hb2⟩
 have B2:=Lib.hid (B0.out.trans (hb2.mono B0.out.size))
 have F2:=Lib.hid (F0.out.below hb2 (by simp))
 clear hb2 l0 l1
 obtain⟨r0,r1,r2,r3,rf⟩:=F2.out
 go_wp2_with fail
 clear r0 r1 r2 r3 rf
 refine bodyPost_ret (v:= .tuple #[.agg #[.int .i64 0,.int .i64 0,.slice none 0 0,.slice none 0 0],.iface 60 (.int .i64 5)]) ?_ rfl ⟨_,rfl,flies_flat,below4 B2.out (Nat.le_succ _) _ _ _ _⟩
 obtain⟨e0,e1,e2,e3⟩:=res4 F2.out (.int .i64 0) (.int .i64 0) (.slice none 0 0) (.slice none 0 0)
 simp[results,Tryz.results111,go_sem,e0,e1,e2,e3]
theorem literal_none (c:Int)(a:Option Addr)(cap:Nat)(w:World)(hs:snd c []=true)(k:Int)(hk:k=if c≤0 then 0 else 1):
 Calls Tryz.prog 111 #[.agg #[.int .i64 c,.slice a 0 cap]] w (LitEnd w.heap.size (.mk k 0 [] []) .nilIface w):=by
 have HCK:=Lib.hid (fun W (hb:Below w.heap.size w W)=>check_yes c a 0 cap [] W rfl (fun i hi=>absurd hi (Nat.not_lt_zero i)) hs)
 have hb1:Below w.heap.size w (w.alloc (.cells #[.int .i64 c,.slice a 0 cap] 36)):=(Below.refl _ w).alloc (Nat.le_refl _) _
 have B0:Hid (Below w.heap.size w ((w.alloc (.cells #[.int .i64 c,.slice a 0 cap] 36)).alloc (.cells #[.int .i64 0,.int .i64 0,.slice none 0 0,.slice none 0 0] 39))):=hb1.alloc hb1.size _
 have F0:=Lib.hid (fb_new (w.alloc (.cells #[.int .i64 c,.slice a 0 cap] 36)) (w.heap.size+1) (by simp))
 have hb2:=(Below.refl (w.alloc (.cells #[.int .i64 c,.slice a 0 cap] 36)).heap.size (w.alloc (.cells #[.int .i64 c,.slice a 0 cap] 36))).alloc (Nat.le_refl _) (.cells #[.int .i64 0,.int .i64 0,.slice none 0 0,.slice none 0 0] 39)
 have l0:((w.alloc (.cells #[.int .i64 c,.slice a 0 cap] 36)).alloc (.cells #[.int .i64 0,.int .i64 0,.slice none 0 0,.slice none 0 0] 39)).cell? ⟨w.heap.size,0,none⟩=some (.int .i64 c):=by rw[hb2.cell (p:=⟨w.heap.size,0,none⟩) (by simp)];simp
 have l1:((w.alloc (.cells #[.int .i64 c,.slice a 0 cap] 36)).alloc (.cells #[.int .i64 0,.int .i64 0,.slice none 0 0,.slice none 0 0] 39)).cell? ⟨w.heap.size,1,none⟩=some (.slice a 0 cap):=by rw[hb2.cell (p:=⟨w.heap.size,1,none⟩) (by simp)];simp
 clear hb1 hb2 hs
 have n1:=fun W=>Tryz.neNil W
 by_cases hc:c≤0
 ·rw[if_pos hc]at hk
  subst hk
  go_enter Tryz.func111,Tryz.ntmps111
  go_wp2_with fail
  refine(HCK.out _ B0.out).mono ?_
  rintro e w2 ⟨rfl,hb2⟩
  have B2:=Lib.hid (B0.out.trans (hb2.mono B0.out.size))
  have F2:=Lib.hid (F0.out.below hb2 (by simp))
  have d0:w2.cell? ⟨w.heap.size,0,none⟩=some (.int .i64 c):=(hb2.cell (p:=⟨w.heap.size,0,none⟩) (by simp;omega)).trans l0
  have d1:w2.cell? ⟨w.heap.size,1,none⟩=some (.slice a 0 cap):=(hb2.cell (p:=⟨w.heap.size,1,none⟩) (by simp;omega)).trans l1
  clear hb2 l0 l1
  obtain⟨r0,r1,r2,r3,rf⟩:=F2.out
  go_wp2_with fail
  clear r0 r1 r2 r3 rf d0 d1
  refine bodyPost_ret (v:= .tuple #[.agg #[.int .i64 0,.int .i64 0,.slice none 0 0,.slice none 0 0],.nilIface]) ?_ rfl ⟨_,rfl,flies_flat,below4 B2.out (Nat.le_succ _) _ _ _ _⟩
  obtain⟨e0,e1,e2,e3⟩:=res4 F2.out (.int .i64 0) (.int .i64 0) (.slice none 0 0) (.slice none 0 0)
  simp[results,Tryz.results111,go_sem,e0,e1,e2,e3]
 ·rw[if_neg hc]at hk
  subst hk
  go_enter Tryz.func111,Tryz.ntmps111
  go_wp2_with fail
  refine(HCK.out _ B0.out).mono ?_
  rintro e w2 ⟨rfl,hb2⟩
  have B2:=Lib.hid (B0.out.trans (hb2.mono B0.out.size))
  have F2:=Lib.hid (F0.out.below hb2 (by simp))
  have d0:w2.cell? ⟨w.heap.size,0,none⟩=some (.int .i64 c):=(hb2.cell (p:=⟨w.heap.size,0,none⟩) (by simp;omega)).trans l0
  have d1:w2.cell? ⟨w.heap.size,1,none⟩=some (.slice a 0 cap):=(hb2.cell (p:=⟨w.heap.size,1,none⟩) (by simp;omega)).trans l1
  clear hb2 l0 l1
  obtain⟨r0,r1,r2,r3,rf⟩:=F2.out
  go_wp2_with fail
  clear r0 r1 r2 r3 rf d0 d1
  refine bodyPost_ret (v:= .tuple #[.agg #[.int .i64 1,.int .i64 0,.slice none 0 0,.slice none 0 0],.nilIface]) ?_ rfl ⟨_,rfl,flies_flat,below4 B2.out (Nat.le_succ _) _ _ _ _⟩
  obtain⟨e0,e1,e2,e3⟩:=res4 F2.out (.int .i64 1) (.int .i64 0) (.slice none 0 0) (.slice none 0 0)
  simp[results,Tryz.results111,go_sem,e0,e1,e2,e3]
end
namespace Cut
open Go.RowKit Go.Sort Go.Maps
def ints (zs:List Int):List Value:=zs.map (Value.int .i64)
theorem ints_append (l r:List Int):ints (l ++ r)=ints l ++ ints r:=by simp[ints]
theorem Tryz.infoInt:(Tryz.prog.info? 3).map (fun i=>(i.zero,i.size,i.bytes))=some (some (.int .i64 0),1,8):=by kernel_rfl
def IRow (B:Nat)(zs:List Int)(v:Value)(w:World):Prop:=w.ownsRow B 3 1 v zs.length (ints zs)
theorem IRow.at {B:Nat}{zs:List Int}{v:Value}{w:World}(h:IRow B zs v w):(v= .slice none 0 0∧zs=[])∨∃g cap,v= .slice (some ⟨g,0,none⟩) zs.length cap∧B≤g:=by
 rcases h.2 with ⟨h1,h2⟩ | ⟨g,cap,cur,h1,h2,_⟩
 ·exact .inl ⟨h1,List.eq_nil_of_length_eq_zero h2⟩
 ·exact .inr ⟨g,cap,h1,h2⟩
def srt (zs:List Int):List Int:=zs.mergeSort fun x y=>decide (x≤y)
theorem srt_len (zs:List Int):(srt zs).length=zs.length:=List.length_mergeSort zs
theorem grow_below {B:Nat}{w:World}{g n:Nat}{os:Array Obj}(d:Array Int)(hB:B≤w.heap.size)(hg:B≤g):Below B w (grow (putRow (Value.int .i64) (Sort.ahead w n) g 0 d) os):=
 (Below.refl B w).grown (grownBy_sortedI d) hB (fun k hk=>by injection hk with hk;omega)
theorem sort_irow {B:Nat}{zs:List Int}{v:Value}{w:World}(h:IRow B zs v w)(hB:B≤w.heap.size)(hz:zs.length<4611686018427387904):
 Calls Tryz.prog 156 #[v] w fun e w'=>e= .returned (.tuple #[])∧IRow B (srt zs) v w'∧Below B w w':=by
 by_cases hv:v= .slice none 0 0
 ·subst hv
  rcases h.at with ⟨_,rfl⟩ | ⟨g,cap,e,_⟩
  ·refine(Tryz.slices_Sort_int_none none 0 w).mono ?_
   rintro e w' ⟨rfl,rfl⟩
   exact⟨rfl,by rw[show srt []=[] from List.eq_nil_of_length_eq_zero (srt_len [])];exact h,Below.refl _ _⟩
  ·cases e
 ·obtain⟨g,cap,rfl,hg,hgl,hcap,hmax,hlen,hH⟩:=Lib.holds_of_ownsRow (enc:=Value.int .i64) h hv
  refine(Tryz.slices_Sort_int g 0 cap zs w hH hgl hz).mono ?_
  rintro e w' ⟨rfl,n,os,rfl⟩
  obtain⟨_,⟨e0,_⟩ | ⟨g',cap',cur,e0,_,hb,h1,h2,h3,_⟩⟩:=h
  ·cases e0
  ·simp only[Value.slice.injEq,Option.some.injEq,Addr.mk.injEq,and_true,true_and]at e0
   obtain⟨rfl,rfl⟩:=e0
   refine⟨rfl, ?_,grow_below _ hB hg⟩
   unfold IRow
   rw[srt_len]
   exact ownsRow_sortedI (srt_len zs) hg hb h1 h2 h3
theorem vars_sum {T R:List (Int×Int)}(hR:IsSum T R){vs:List Int}(hd:vs.Nodup)(hm:∀u,u∈vs↔coef T u≠0):srt vs=R.map (·.1):=by
 have hmr:∀u,u∈R.map (·.1)↔coef T u≠0:=fun u=>by
  rw[←hR.eq u]
  constructor
  ·intro h
   obtain⟨m,hm,rfl⟩:=List.mem_map.1 h
   rw[coef_up hR.up hm]
   exact hR.nz m hm
  ·intro h
   by_cases e:u∈R.map (·.1)
   ·exact e
   ·exact absurd (coef_none (fun m hm h2=>e (List.mem_map.2 ⟨m,hm,h2⟩))) h
 have hup:(R.map (·.1)).Pairwise (·<·):=List.pairwise_map.2 hR.up
 have hp:(srt vs).Perm (R.map (·.1)):=(List.mergeSort_perm _ _).trans ((List.perm_ext_iff_of_nodup hd (hup.imp (fun h=>by omega))).2 fun u=>by rw[hm u,hmr u])
 have hs:(srt vs).Pairwise (·≤·):=by
  have:=List.pairwise_mergeSort (le:=fun x y:Int=>decide (x≤y)) (fun a b c h1 h2=>by simp at *; omega) (fun a b=>by simp;omega) vs
  exact this.imp (fun h=>by simpa using h)
 exact hp.eq_of_pairwise (fun a b _ _ h1 h2=>by omega) hs (hup.imp (fun h=>by omega))
end Cut
namespace Cut
open Go.RowKit Go.Sort Go.Maps
theorem one_at (w:World)(x:Value)(t:TypeId)(N:Nat)(hN:w.heap.size=N):∀j u,[x][j]? =some u→(w.alloc (.cells #[x] t)).cell? ((⟨N,0,none⟩:Addr).add j)=some u:=by
 subst hN
 exact cell_one_new w x t
theorem one_int (x:Int):∀u∈[Value.int .i64 x],u.oneCell'=true:=by
 intro u hu
 obtain rfl:=List.mem_singleton.1 hu
 rfl
theorem standing_any (T R:List (Int×Int))(n B:Nat)(w:World)(hs:Sums T n B w)(hR:IsSum T R)(hn:n≤65536):
 Calls Tryz.prog 133 #[.map (some B)] w fun e w'=>∃v,e= .returned v∧IRow w.heap.size (R.map (·.1)) v w'∧Below w.heap.size w w':=by
 obtain⟨D,hown,hat0⟩:=hs.ex
 obtain⟨i0,hi,hz0,hz1,hz2⟩:=info_parts Tryz.infoInt
 have HAT:=Lib.hid hat0
 have HRS:=Lib.hid hR
 have hBz:=hown.lt
 clear hs hat0 hR
 go_enter Tryz.func133,Tryz.ntmps133
 go_wp2_with (first | (at_range;refine wpList_range_own _ rfl _ 199 rfl 3 3 Tryz.lawInt Tryz.underlying199 _ B n D rfl hown ?_;intro w0 hrg0 hg0 hs0) | go_in)
 go_frame
 go_loopw [3] (fun s wr=>∃(left:Lit→Bool) (cnt:Nat) (vs:List Int),wr.ranges Tryz.prog 3 (plainElem Tryz.prog 3) B w.heap.size n D left cnt∧Hid (IRow (w.heap.size+1) vs s wr)∧Hid (∀u:Int,u∈vs↔coef T u≠0∧left (.int .i64 u)=false)∧Hid vs.Nodup∧Hid (Below w.heap.size w wr)∧Hid (vs.length+cnt≤Maps.size D)) (fun _ wr=>wr.rangeLeft B w.heap.size)
 case atStart=>
  refine⟨_,_,[],hrg0,World.ownsRow_nil _ _ _ _,fun u=> ?_,List.nodup_nil, ?_,by show 0+_≤_;omega⟩
  ·constructor
   ·intro h;cases h
   ·rintro⟨h1,h2⟩
    have h3:=atKey_of_not_has h2 (.lit (.int .i64 0))
    rw[HAT.out u]at h3
    injection h3 with h3
    injection h3 with h3 h4
    exact absurd h4 h1
  ·exact(Below.refl _ _).grown hg0 (Nat.le_refl _) (fun k hk=>by cases hk)
 case round=>
  obtain⟨left,cnt,vs,hrg,hrow,hmem,hnd,hb,hvn⟩:=hrel
  have hsn:=hown.size_le
  have hvn':=hvn.out
  go_wp2_with (first | (at_next;refine wpList_next_ranges_ii _ rfl _ rfl 3 3 .i64 .i64 Tryz.lawInt Tryz.underlying3 Tryz.underlying3 B w.heap.size n D left cnt rfl hrg ?_ ?_) | go_in)
  ·intro hc0 hl0
   have hvs:=vars_sum HRS.out hnd.out (fun u=>by rw[hmem.out u];exact⟨fun h=>h.1,fun h=>⟨h,hl0 _⟩⟩)
   have hzr:=hrg.lt
   go_wp2_with fail
   refine(sort_irow hrow.out (by omega) (by omega)).mono ?_
   rintro e w2 ⟨rfl,hr2,hb2⟩
   have HR2:=Lib.hid hr2
   have HB2:=Lib.hid (hb.out.trans (hb2.mono (by omega)))
   clear hr2 hb2
   go_wp2_with fail
   go_ret
   refine⟨_,rfl, ?_,HB2.out⟩
   rw[←hvs]
   exact Joins.ownsRow_le HR2.out (Nat.le_succ _)
  ·intro x c w1 cnt1 hwx hwc hlx hat hrg1 hlt hg1 hs1 hen
   have hcx:c=coef T x:=by
    have h1:=(hat (.lit (.int .i64 0))).symm.trans (HAT.out x)
    injection h1 with h1
    injection h1
   have hzr:=hrg.lt
   have hsk:∀u:Int,u≠x→(Lit.int .i64 u).sameKey (.int .i64 x)=false:=fun u h=>sameKey_ne (fun e=>h (by injection e))
   have hsx:(Lit.int .i64 x).sameKey (.int .i64 x)=true:=WideAt.sameKey_self trivial
   have hrow1:IRow (w.heap.size+1) vs u3 w1:=by
    refine World.ownsRow.kept (row:=some w.heap.size) hrow.out hg1 ?_
    cases hv:u3.ownBlock with
    | none=>exact .inl rfl
    | some g=>
      right
      intro e
      injection e with e
      have:=(World.ownsRow.lt hrow.out g hv).1
      omega
   have hb1:Below w.heap.size w w1:=hb.out.grown hg1 (by omega) (fun k hk=>by injection hk with hk;omega)
   by_cases hc0:c=0
   ·go_wp2
    refine⟨⟨_,cnt1,vs,hrg1,hrow1,fun u=> ?_,hnd.out,hb1,by show _≤_;omega⟩,by rw[hrg1.left_eq,hrg.left_eq];omega⟩
    rw[hmem.out u]
    by_cases e:u=x
    ·subst e
     rw[←hcx,hc0]
     simp
    ·rw[hsk u e]
     simp
   ·have HRW:Hid (IRow (w.heap.size+1) vs u3 (w1.alloc (.cells #[.int .i64 x] 3))):=World.ownsRow.alloc hrow1 _
    have hgb:∀g,u3.ownBlock=some g→w.heap.size+1≤g:=fun g hg=>(World.ownsRow.lt hrow.out g hg).1
    have HS1:=Lib.hid hs1
    clear hs1
    go_wp2_with (at_builtin;refine wpList_append_own_at _ rfl _ _ 23 rfl (w.heap.size+1) 3 i0 _ 1 8 Tryz.underlying23 hi hz0 hz1 hz2 rfl (by decide) u3 vs.length (ints vs) rfl HRW.out ⟨w1.heap.size,0,none⟩ 1 1 [.int .i64 x] rfl rfl ?c2 ?c3 ?c4 ?c5 ?c6 ?_)
    case c2=>exact one_at _ _ _ _ (by simp)
    case c3=>exact one_int x
    case c4=>unfold maxLen;omega
    case c5=>omega
    case c6=>have:=HS1.out;simp;omega
    intro v2 w2 hown2 hgrow2 _ hat2
    go_wp2_with fail
    have hs9:=HS1.out
    have hza:(w1.alloc (.cells #[.int .i64 x] 3)).heap.size=w1.heap.size+1:=by simp
    have hrg2:=(hrg1.alloc (.cells #[.int .i64 x] 3)).kept hgrow2 (fun e=>by have:=hgb B e.symm;omega) (fun e=>by have:=hgb _ e.symm;omega)
    have hrow2:IRow (w.heap.size+1) (vs ++ [x]) v2 w2:=by
     unfold IRow
     rw[List.length_append,ints_append]
     exact hown2
    refine⟨⟨_,cnt1,vs ++ [x],hrg2,hrow2,fun u=> ?_, ?_,(hb1.alloc hb1.size _).grown hgrow2 (by omega) (fun k hk=>by have:=hgb k hk;omega),by show _≤_;rw[List.length_append];show vs.length+1+cnt1≤_;omega⟩,by rw[hrg2.left_eq,hrg.left_eq];omega⟩
    ·rw[List.mem_append,List.mem_singleton,hmem.out u]
     by_cases e:u=x
     ·subst e
      rw[hsx]
      simp
      exact fun h=>hc0 (hcx.trans h)
     ·rw[hsk u e]
      simp[e]
    ·show(vs ++ [x]).Nodup
     refine List.nodup_append.2 ⟨hnd.out,by simp,fun a ha b hb e=> ?_⟩
     rw[List.mem_singleton]at hb
     subst hb
     subst e
     have:=((hmem.out _).1 ha).2
     rw[hlx]at this
     cases this
end Cut
section
open Go.RowKit
theorem okAt_mkG {l:List (Int×Int)}{i:Nat}(h:lastAt l i<(l.getD i (0,0)).1∧(l.getD i (0,0)).2≠0∧0≤(l.getD i (0,0)).1∧(l.getD i (0,0)).1<1048576∧ -1073741824≤(l.getD i (0,0)).2∧(l.getD i (0,0)).2≤1073741824):okAt l i=true:=by
 obtain⟨h1,h2,h3,h4,h5,h6⟩:=h
 unfold okAt chk mst wi
 simp only[Bool.and_eq_true,decide_eq_true_eq]
 exact⟨h1,h2,⟨h3,h4⟩,h5,h6⟩
theorem upI_wi {c g:Int}(hc: -1073741824≤c∧c≤1073741824)(hg:1≤g): -1073741824≤upI c g∧upI c g≤1073741824:=by
 have h:=tdiv_in (c:=c) (g:=g) (B:=1073741824) (by omega)
 unfold upI
 split
 ·rename_i hm
  have hg2:2≤g:=by
   by_cases e:g=1
   ·subst e;rw[Int.tmod_one]at hm;omega
   ·omega
  have h1:(c.tdiv g).natAbs=c.natAbs / g.natAbs:=Int.natAbs_tdiv c g
  have h2:c.natAbs / g.natAbs≤c.natAbs / 2:=Nat.div_le_div_left (by omega) (by omega)
  omega
 ·omega
theorem gAt_dvd (l:List (Int×Int)):∀n j,j<n→gAt l n∣(l.getD j (0,0)).2
 | 0,_,h=>absurd h (Nat.not_lt_zero _)
 | n+1,j,h=>by
   have e:gAt l (n+1)=(Nat.gcd (gAt l n).natAbs (l.getD n (0,0)).2.natAbs:Nat):=rfl
   rw[e]
   by_cases hj:j=n
   ·subst hj
    exact Int.ofNat_dvd_left.2 (Nat.gcd_dvd_right _ _)
   ·have ih:=gAt_dvd l n j (by omega)
    have h1:((Nat.gcd (gAt l n).natAbs (l.getD n (0,0)).2.natAbs:Nat):Int)∣gAt l n:=Int.ofNat_dvd_left.2 (Nat.gcd_dvd_left _ _)
    exact Int.dvd_trans h1 ih
theorem tdiv_ne {k g:Int}(hk:k≠0)(hg:1≤g)(hd:g∣k):k.tdiv g≠0:=by
 obtain⟨q,rfl⟩:=hd
 rw[Int.mul_tdiv_cancel_left _ (by omega)]
 intro h
 subst h
 exact hk (Int.mul_zero _)
theorem redL_len (g:Int)(l:List (Int×Int)):(redL g l).length=l.length:=by unfold redL;rw[List.length_map]
theorem redL_last (g:Int)(l:List (Int×Int))(i:Nat)(h:i<l.length):lastAt (redL g l) i=lastAt l i:=by
 unfold lastAt
 by_cases h0:i=0
 ·rw[if_pos h0,if_pos h0]
 ·rw[if_neg h0,if_neg h0,redL_get g l (i - 1) (by omega)]
theorem red_snd {c:Int}{l:List (Int×Int)}(hs:snd c l=true)(h0:0<l.length):snd (upI c (gAt l l.length)) (redL (gAt l l.length) l)=true:=by
 obtain⟨hc,h64,hall⟩:=snd_iff.1 hs
 have hcb: -1073741824≤c∧c≤1073741824:=by unfold wi at hc;simpa using hc
 have hg:=gAt_pos hs l.length h0 (Nat.le_refl _)
 refine snd_iff.2 ⟨wi_t (upI_wi hcb hg),by rw[redL_len];exact h64,fun i hi=> ?_⟩
 rw[redL_len]at hi
 obtain⟨h1,h2,h3,h4,h5,h6⟩:=okAt_in (hall i hi)
 have hd:=tdiv_ne h2 hg (gAt_dvd l l.length i hi)
 have hb:=tdiv_in (c:=(l.getD i (0,0)).2) (g:=gAt l l.length) (B:=1073741824) (by omega)
 refine okAt_mkG ?_
 rw[redL_last _ _ _ hi,redL_get _ _ _ hi]
 exact⟨h1,hd,h3,h4,by omega,by omega⟩
theorem snd_lt {c:Int}{l:List (Int×Int)}(hs:snd c l=true):∀j i,i<j→j<l.length→(l.getD i (0,0)).1<(l.getD j (0,0)).1
 | 0,i,h,_=>absurd h (Nat.not_lt_zero i)
 | j+1,i,h,hj=>by
   have h1:=(okAt_in ((snd_iff.1 hs).2.2 (j+1) hj)).1
   rw[lastAt_succ]at h1
   by_cases e:i=j
   ·rw[e];exact h1
   ·have:=snd_lt hs j i (by omega) (by omega)
    omega
theorem snd_Up {c:Int}{l:List (Int×Int)}(hs:snd c l=true):Up l:=by
 refine List.pairwise_iff_getElem.2 fun i j hi hj hij=> ?_
 have:=snd_lt hs j i hij hj
 rwa [List.getD_eq_getElem?_getD,List.getElem?_eq_getElem hi,List.getD_eq_getElem?_getD,List.getElem?_eq_getElem hj]at this
theorem neg_sum {c:Int}{l:List (Int×Int)}(hs:snd c l=true):IsSum (scale 1 [] ++ scale (-1) l) (scale (-1) l):=by
 refine⟨?_,fun m hm=> ?_,fun v=>by rw[show scale 1 []=[] from rfl,List.nil_append]⟩
 ·exact List.Pairwise.map _ (fun a b h=>h) (snd_Up hs)
 ·obtain⟨p,hp,rfl⟩:=List.mem_map.1 hm
  obtain⟨i,hi,rfl⟩:=List.getElem_of_mem hp
  have:=(okAt_in ((snd_iff.1 hs).2.2 i hi)).2.1
  rw[List.getD_eq_getElem?_getD,List.getElem?_eq_getElem hi]at this
  simp only[Option.getD_some]at this
  simp only
  omega
theorem neg_wi {c:Int}{l:List (Int×Int)}(hs:snd c l=true):∀m∈scale (-1) l,wi m.2 1073741824=true:=fun m hm=>by
 obtain⟨p,hp,rfl⟩:=List.mem_map.1 hm
 have:=(snd_terms hs p hp).2
 exact wi_t (by simp only;omega)
end
namespace Cut
open Go.RowKit Go.Maps
def divT (g:Int)(R:List (Int×Int)):List (Int×Int):=R.map fun m=>(m.1,m.2.tdiv g)
theorem divT_len (g:Int)(R:List (Int×Int)):(divT g R).length=R.length:=by simp[divT]
theorem divT_get (g:Int)(R:List (Int×Int))(k:Nat)(h:k<R.length):(divT g R).getD k (0,0)=((R.getD k (0,0)).1,(R.getD k (0,0)).2.tdiv g):=by
 simp[divT,List.getD_eq_getElem?_getD,h]
def allIn (M:Int)(R:List (Int×Int)):Bool:=R.all fun m=>wi m.2 M
theorem allIn_get {M:Int}{R:List (Int×Int)}(h:allIn M R=true)(k:Nat)(hk:k<R.length):wi (R.getD k (0,0)).2 M=true:=by
 have:=List.all_eq_true.1 h R[k] (List.getElem_mem hk)
 simpa [List.getD_eq_getElem?_getD,hk]using this
theorem allIn_of {M:Int}{R:List (Int×Int)}(h:∀k,k<R.length→wi (R.getD k (0,0)).2 M=true):allIn M R=true:=by
 refine List.all_eq_true.2 fun m hm=> ?_
 obtain⟨k,hk,rfl⟩:=List.getElem_of_mem hm
 have:=h k hk
 simpa [List.getD_eq_getElem?_getD,hk]using this
theorem allIn_not {M:Int}{R:List (Int×Int)}{k:Nat}(hk:k<R.length)(h:wi (R.getD k (0,0)).2 M=false):allIn M R=false:=by
 cases e:allIn M R
 ·rfl
 ·rw[allIn_get e k hk]at h;cases h
def divK (u:Int)(D:List (Int×Int)):Int:=if wi u 1073741824=true∧allIn 1073741824 D=true then(if 64<D.length then 2 else 0) else 3
def LEnd (B:Nat)(x C:Int)(D:List (Int×Int))(w:World)(e:Ending)(w':World):Prop:=∃v,e= .returned (.tuple #[.agg #[.int .i64 C,v],codeV x])∧Row B D v w'∧Below B w w'
theorem LEnd.none {B:Nat}{x:Int}{w:World}{e:Ending}{w':World}(he:e= .returned (.tuple #[.agg #[.int .i64 0,.slice none 0 0],codeV x]))(hb:Below B w w'):LEnd B x 0 [] w e w':=⟨_,he,World.ownsRow_nil _ _ _ _,hb⟩
structure DivSt (w W:World)(u:Int)(v:Value)(r:List (Int×Int)):Prop where
 row:Row (w.heap.size+2) r v W
 r0:W.cell? ⟨w.heap.size,0,none⟩=some (.int .i64 0)
 r1:W.cell? ⟨w.heap.size,1,none⟩=some (.slice none 0 0)
 rf:∀o,W.frozen? ⟨w.heap.size,o,none⟩=false
 m0:W.cell? ⟨w.heap.size+1,0,none⟩=some (.int .i64 u)
 m1:W.cell? ⟨w.heap.size+1,1,none⟩=some v
 mf:∀o,W.frozen? ⟨w.heap.size+1,o,none⟩=false
 mz:w.heap.size+1<W.heap.size
 bel:Below w.heap.size w W
theorem DivSt.start (w:World)(u:Int):DivSt w ((w.alloc (.cells #[.int .i64 0,.slice none 0 0] 36)).alloc (.cells #[.int .i64 u,.slice none 0 0] 36)) u (.slice none 0 0) []:=by
 have h0:=heap_alloc_new w (.cells #[.int .i64 0,.slice none 0 0] 36)
 have hb:=(Below.refl w.heap.size w).alloc (Nat.le_refl _) (.cells #[.int .i64 0,.slice none 0 0] 36)
 have hz:(w.alloc (.cells #[.int .i64 0,.slice none 0 0] 36)).heap.size=w.heap.size+1:=by simp
 generalize w.alloc (.cells #[.int .i64 0,.slice none 0 0] 36)=w1 at h0 hb hz⊢
 have h1:=heap_alloc_new w1 (.cells #[.int .i64 u,.slice none 0 0] 36)
 have hb1:=(Below.refl w1.heap.size w1).alloc (Nat.le_refl _) (.cells #[.int .i64 u,.slice none 0 0] 36)
 rw[hz]at h1
 have hlt:w.heap.size<w1.heap.size:=by omega
 exact⟨World.ownsRow_nil _ _ _ _,(hb1.cell (p:=⟨w.heap.size,0,none⟩) hlt).trans (by rw[cell_of_row _ _ _ _ _ _ h0];rfl),(hb1.cell (p:=⟨w.heap.size,1,none⟩) hlt).trans (by rw[cell_of_row _ _ _ _ _ _ h0];rfl),fun o=>(hb1.frozen (p:=⟨w.heap.size,o,none⟩) hlt).trans (frozen_of_row _ _ _ _ _ h0),
  by rw[cell_of_row _ _ _ _ _ _ h1];rfl,by rw[cell_of_row _ _ _ _ _ _ h1];rfl,fun o=>frozen_of_row _ _ _ _ _ h1,by have:(w1.alloc (.cells #[.int .i64 u,.slice none 0 0] 36)).heap.size=w1.heap.size+1:=by simp
                                                                                                                   omega,hb.trans (hb1.mono (by omega))⟩
theorem DivSt.below {w W w6 w5:World}{u:Int}{v:Value}{r:List (Int×Int)}(h:DivSt w W u v r)(hb5:Below (w.heap.size+2) W w5)(hg:w5.grownBy w6 v.ownBlock):Below (w.heap.size+2) W w6:=
 hb5.grown hg (Nat.le_trans h.mz hb5.size) (fun j hj=>(World.ownsRow.lt h.row j hj).1)
theorem DivSt.far {w W w6 w5:World}{u:Int}{v:Value}{r:List (Int×Int)}(h:DivSt w W u v r)(hb5:Below (w.heap.size+2) W w5)(hg:w5.grownBy w6 v.ownBlock):
 w6.cell? ⟨w.heap.size+1,1,none⟩=some v∧∀o,w6.frozen? ⟨w.heap.size+1,o,none⟩=false:=by
 have hb6:=h.below hb5 hg
 exact⟨(hb6.cell (p:=⟨w.heap.size+1,1,none⟩) (Nat.lt_succ_self _)).trans h.m1,fun o=>(hb6.frozen (p:=⟨w.heap.size+1,o,none⟩) (Nat.lt_succ_self _)).trans (h.mf o)⟩
theorem DivSt.step {w W w6 w5:World}{u:Int}{v v6:Value}{r r6:List (Int×Int)}(h:DivSt w W u v r)(hb5:Below (w.heap.size+2) W w5)(hg:w5.grownBy w6 v.ownBlock)(hr:Row (w.heap.size+2) r6 v6 w6):
 DivSt w (w6.setCell ⟨w.heap.size+1,1,none⟩ v6) u v6 r6:=by
 have hb6:=h.below hb5 hg
 have hz6:w.heap.size+1<w6.heap.size:=Nat.lt_of_lt_of_le h.mz hb6.size
 have k:w6.grownBy (w6.setCell ⟨w.heap.size+1,1,none⟩ v6) (some (w.heap.size+1)):=⟨rfl,rfl,rfl,Nat.le_of_eq (World.size_setCell _ _ _).symm,fun q _ hq=>Below.heap_setCell _ _ _ _ (fun e=>hq (by rw[e]))⟩
 have hc:∀b o,b<w.heap.size+1→(w6.setCell ⟨w.heap.size+1,1,none⟩ v6).cell? ⟨b,o,none⟩=W.cell? ⟨b,o,none⟩:=fun b o hb=>by
  rw[World.cell?_setCell_other _ _ _ _ (by simp<;>omega)]
  exact hb6.cell (p:=⟨b,o,none⟩) (by show b<_;omega)
 have hf:∀b o,b≤w.heap.size+1→(w6.setCell ⟨w.heap.size+1,1,none⟩ v6).frozen? ⟨b,o,none⟩=W.frozen? ⟨b,o,none⟩:=fun b o hb=>(World.frozen?_setCell _ _ _ _).trans (hb6.frozen (p:=⟨b,o,none⟩) (by show b<_;omega))
 refine⟨World.ownsRow.kept hr k (.inr (fun e=> ?_)),(hc _ _ (by omega)).trans h.r0,(hc _ _ (by omega)).trans h.r1,fun o=>(hf _ o (by omega)).trans (h.rf o), ?_, ?_,fun o=>(hf _ o (Nat.le_refl _)).trans (h.mf o),by rw[World.size_setCell];exact hz6,(h.bel.trans (hb6.mono (by omega))).setCell (p:=⟨w.heap.size+1,1,none⟩) (by show _≤w.heap.size+1;omega) _⟩
 ·have:=(World.ownsRow.lt hr _ e).1;omega
 ·rw[World.cell?_setCell_other _ _ _ _ (by simp)]
  exact(hb6.cell (p:=⟨w.heap.size+1,0,none⟩) (Nat.lt_succ_self _)).trans h.m0
 ·exact World.cell?_setCell_same _ _ _ (h.far hb5 hg).1
theorem DivSt.alloc {w W:World}{u:Int}{v:Value}{r:List (Int×Int)}(h:DivSt w W u v r)(o:Obj):DivSt w (W.alloc o) u v r:=by
 have hb:Below (w.heap.size+2) W (W.alloc o):=(Below.refl _ W).alloc h.mz o
 have h0:w.heap.size<w.heap.size+2:=by omega
 have h1:w.heap.size+1<w.heap.size+2:=by omega
 exact⟨World.ownsRow.alloc h.row o,(hb.cell (p:=⟨w.heap.size,0,none⟩) h0).trans h.r0,(hb.cell (p:=⟨w.heap.size,1,none⟩) h0).trans h.r1,fun j=>(hb.frozen (p:=⟨w.heap.size,j,none⟩) h0).trans (h.rf j),(hb.cell (p:=⟨w.heap.size+1,0,none⟩) h1).trans h.m0,(hb.cell (p:=⟨w.heap.size+1,1,none⟩) h1).trans h.m1,fun j=>(hb.frozen (p:=⟨w.heap.size+1,j,none⟩) h1).trans (h.mf j),Nat.lt_of_lt_of_le h.mz hb.size,h.bel.trans (hb.mono (by omega))⟩
theorem below2 {B:Nat}{w W:World}{No:Nat}(h:Below B w W)(hB:B≤No)(x0 x1:Value):Below B w ((W.setCell ⟨No,0,none⟩ x0).setCell ⟨No,1,none⟩ x1):=(h.setCell (p:=⟨No,0,none⟩) hB _).setCell (p:=⟨No,1,none⟩) hB _
theorem res2 {W:World}{No:Nat}{y0 y1:Value}(h0:W.cell? ⟨No,0,none⟩=some y0)(h1:W.cell? ⟨No,1,none⟩=some y1)(x0 x1:Value):
 ((W.setCell ⟨No,0,none⟩ x0).setCell ⟨No,1,none⟩ x1).cell? ⟨No,0,none⟩=some x0∧((W.setCell ⟨No,0,none⟩ x0).setCell ⟨No,1,none⟩ x1).cell? ⟨No,1,none⟩=some x1:=by
 refine⟨?_,World.cell?_setCell_same _ _ _ (u:=y1) (by rw[World.cell?_setCell_other _ _ _ _ (by simp)];exact h1)⟩
 rw[World.cell?_setCell_other _ _ _ _ (by simp)]
 exact World.cell?_setCell_same _ _ _ h0
theorem _root_.Go.Proofs.YtipahfcaplbifaaGreatDoor.Row.set2 {B:Nat}{l:List (Int×Int)}{v:Value}{W:World}{No:Nat}(h:Row B l v W)(hN:No<B)(x0 x1:Value):Row B l v ((W.setCell ⟨No,0,none⟩ x0).setCell ⟨No,1,none⟩ x1):=by
 have k:∀(V:World) o x,V.grownBy (V.setCell ⟨No,o,none⟩ x) (some No):=fun V o x=>⟨rfl,rfl,rfl,Nat.le_of_eq (World.size_setCell _ _ _).symm,fun q _ hq=>Below.heap_setCell _ _ _ _ (fun e=>hq (by rw[e]))⟩
 have h1:Row B l v (W.setCell ⟨No,0,none⟩ x0):=World.ownsRow.kept h (k W 0 x0) (.inr (fun e=>by have:=(World.ownsRow.lt h _ e).1;omega))
 exact World.ownsRow.kept h1 (k _ 1 x1) (.inr (fun e=>by have:=(World.ownsRow.lt h1 _ e).1;omega))
theorem IRow.nums {B:Nat}{zs:List Int}{v:Value}{w:World}(h:IRow B zs v w):∃a cap,v= .slice a zs.length cap∧Nums w.heap.size w a zs:=by
 have hc:=fun g=>World.ownsRow.cells h (g:=g)
 have hlt:=World.ownsRow.lt h
 obtain⟨_,h1 | ⟨g,cap,cur,hv,h2⟩⟩:=h
 ·exact⟨none,0,by rw[h1.1,h1.2],fun i hi=>by omega⟩
 ·subst hv
  refine⟨some ⟨g,0,none⟩,cap,rfl,fun i hi=>⟨g,0,rfl,(hlt g rfl).2, ?_⟩⟩
  have:=hc g rfl i (.int .i64 (zs.getD i 0)) (by simp[ints,List.getD_eq_getElem?_getD,hi])
  rwa [show(⟨g,0,none⟩:Addr).add i=⟨g,0+i,none⟩ by unfold Addr.add;split<;>simp_all]at this
theorem map_getD (R:List (Int×Int))(k:Nat)(h:k<R.length):(R.map (·.1)).getD k 0=(R.getD k (0,0)).1:=by simp[List.getD_eq_getElem?_getD,h]
end Cut
section
open Go.RowKit
theorem upI_ceil {c g:Int}(hg:1≤g):c≤upI c g*g∧(upI c g - 1)*g<c:=by
 have h1:c.tmod g+g*c.tdiv g=c:=Int.tmod_add_mul_tdiv c g
 have h2:c.tmod g<g:=Int.tmod_lt_of_pos c (by omega)
 have h3: -g<c.tmod g:=by
  have:=Int.natAbs_tmod c g
  have h4:c.natAbs % g.natAbs<g.natAbs:=Nat.mod_lt _ (by omega)
  omega
 rw[Int.mul_comm]at h1
 unfold upI
 generalize c.tdiv g=q at h1⊢
 generalize c.tmod g=r at h1 h2 h3⊢
 have e1:(q+1)*g=q*g+g:=by rw[Int.add_mul,Int.one_mul]
 have e2:(q - 1)*g=q*g - g:=by rw[Int.sub_mul,Int.one_mul]
 generalize q*g=X at h1 e1 e2
 split
 ·rw[e1,show q+1 - 1=q by omega]
  constructor
  ·omega
  ·rename_i h5
   have:q*g=X:=by have:=e1;rw[Int.add_mul,Int.one_mul]at this;omega
   omega
 ·rw[e2]
  have:q*g=X:=by have:=e1;rw[Int.add_mul,Int.one_mul]at this;omega
  omega
theorem upI_near (c g:Int):c.tdiv g=upI c g∨c.tdiv g=upI c g - 1:=by
 unfold upI
 split<;>omega
theorem rup_any (c g:Int)(w:World)(hg:1≤g∧g≤1073741824)(hc: -1073741824≤c∧c≤1073741824):
 Calls Tryz.prog 124 #[.int .i64 c,.int .i64 g] w fun e w'=>e= .returned (.int .i64 (upI c g))∧w=w':=by
 have hg0:g≠0:=by omega
 obtain⟨k1,k2⟩:=upI_ceil (c:=c) hg.1
 have hn:=upI_near c g
 have hub:=upI_in (c:=c) (g:=g) (B:=1073741824) (by omega)
 have hqb:=tdiv_in (c:=c) (g:=g) (B:=1073741824) (by omega)
 have hwd:IntKind.i64.wrap (c.tdiv g)=c.tdiv g:=IntWalk.i64_in _ (by omega)
 generalize upI c g=u at k1 k2 hn hub⊢
 have e2:(u - 1)*g=u*g - g:=by rw[Int.sub_mul,Int.one_mul]
 have hw1:IntKind.i64.wrap (u*g)=u*g:=IntWalk.i64_in _ (by rw[e2]at k2;omega)
 have hw2:IntKind.i64.wrap ((u - 1)*g)=(u - 1)*g:=IntWalk.i64_in _ (by rw[e2]at k2⊢;omega)
 have k1':¬u*g<c:=by omega
 have k2':¬c≤(u - 1)*g:=by omega
 have HN:=Lib.hid hn
 clear hn e2 k1
 go_enter Tryz.func124,Tryz.ntmps124
 go_wp2_with fail
 go_loopw [5] (fun s wr=>∃q:Int,s= .int .i64 q∧(q=u∨q=u - 1)∧w=wr) (fun s _=>(u - intOf s).toNat)
 case atStart=>exact⟨c.tdiv g,rfl,HN.out,rfl⟩
 case round=>
  obtain⟨q,rfl,hq,rfl⟩:=hrel
  rcases hq with rfl | rfl
  ·go_wp2_with fail
   go_loopw [5] (fun s wr=>s= .int .i64 q∧w=wr) (fun _ _=>0)
   case atStart=>exact⟨rfl,rfl⟩
   case round=>
    obtain⟨rfl,rfl⟩:=hrel
    go_wp2_with fail
    go_ret
    exact⟨rfl,rfl⟩
  ·have k3:(u - 1)*g<c:=by omega
   go_wp2_with fail
   go_roundw
   case rel=>exact⟨u,by go_num,.inl rfl,trivial⟩
   case measure=>simp[intOf];omega
end
section
open Go.RowKit
theorem rlit_bad (c:Int)(a:Option Addr)(n cap:Nat)(l:List (Int×Int))(w:World)(hn:l.length=n)(hm:n≤9223372036854775807)(hl:Lies w.heap.size w a l)(hs:snd c l=false):
 Calls Tryz.prog 96 #[.agg #[.int .i64 c,.slice a n cap]] w (LitEnd w.heap.size (.mk 0 0 [] []) (.int .i64 5) w):=by
 have HCK:Hid (∀W,Below w.heap.size w W→Calls Tryz.prog 24 #[.agg #[.int .i64 c,.slice a n cap]] W fun e w'=>e= .returned (.bool false)∧Below W.heap.size W w'):=fun W hb=>by
  have:=rcheck_any c a n cap l W hn hm ((hl.below hb).mono hb.size)
  rwa [hs]at this
 have hb1:Below w.heap.size w (w.alloc (.cells #[.int .i64 c,.slice a n cap] 36)):=(Below.refl _ w).alloc (Nat.le_refl _) _
 have B0:Hid (Below w.heap.size w ((w.alloc (.cells #[.int .i64 c,.slice a n cap] 36)).alloc (.cells #[.int .i64 0,.int .i64 0,.slice none 0 0,.slice none 0 0] 39))):=hb1.alloc hb1.size _
 have F0:=Lib.hid (fb_new (w.alloc (.cells #[.int .i64 c,.slice a n cap] 36)) (w.heap.size+1) (by simp))
 have hb2:=(Below.refl (w.alloc (.cells #[.int .i64 c,.slice a n cap] 36)).heap.size (w.alloc (.cells #[.int .i64 c,.slice a n cap] 36))).alloc (Nat.le_refl _) (.cells #[.int .i64 0,.int .i64 0,.slice none 0 0,.slice none 0 0] 39)
 have l0:((w.alloc (.cells #[.int .i64 c,.slice a n cap] 36)).alloc (.cells #[.int .i64 0,.int .i64 0,.slice none 0 0,.slice none 0 0] 39)).cell? ⟨w.heap.size,0,none⟩=some (.int .i64 c):=by rw[hb2.cell (p:=⟨w.heap.size,0,none⟩) (by simp)];simp
 have l1:((w.alloc (.cells #[.int .i64 c,.slice a n cap] 36)).alloc (.cells #[.int .i64 0,.int .i64 0,.slice none 0 0,.slice none 0 0] 39)).cell? ⟨w.heap.size,1,none⟩=some (.slice a n cap):=by rw[hb2.cell (p:=⟨w.heap.size,1,none⟩) (by simp)];simp
 clear hb1 hb2 hs hl hn
 go_enter Tryz.func96,Tryz.ntmps96
 go_wp2_with fail
 refine(HCK.out _ B0.out).mono ?_
 rintro e w2 ⟨rfl,hb2⟩
 have B2:=Lib.hid (B0.out.trans (hb2.mono B0.out.size))
 have F2:=Lib.hid (F0.out.below hb2 (by simp))
 clear hb2 l0 l1
 obtain⟨r0,r1,r2,r3,rf⟩:=F2.out
 go_wp2_with fail
 clear r0 r1 r2 r3 rf
 refine bodyPost_ret (v:= .tuple #[.agg #[.int .i64 0,.int .i64 0,.slice none 0 0,.slice none 0 0],.int .i64 5]) ?_ rfl ⟨_,rfl,flies_flat,below4 B2.out (Nat.le_succ _) _ _ _ _⟩
 obtain⟨e0,e1,e2,e3⟩:=res4 F2.out (.int .i64 0) (.int .i64 0) (.slice none 0 0) (.slice none 0 0)
 simp[results,Tryz.results96,go_sem,e0,e1,e2,e3]
theorem rlit_none (c:Int)(a:Option Addr)(cap:Nat)(w:World)(hs:snd c []=true)(k:Int)(hk:k=if c≤0 then 0 else 1):
 Calls Tryz.prog 96 #[.agg #[.int .i64 c,.slice a 0 cap]] w (LitEnd w.heap.size (.mk k 0 [] []) (.int .i64 0) w):=by
 have HCK:Hid (∀W,Below w.heap.size w W→Calls Tryz.prog 24 #[.agg #[.int .i64 c,.slice a 0 cap]] W fun e w'=>e= .returned (.bool true)∧Below W.heap.size W w'):=fun W hb=>by
  have:=rcheck_any c a 0 cap [] W rfl (by omega) (fun i hi=>absurd hi (Nat.not_lt_zero i))
  rwa [hs]at this
 have hb1:Below w.heap.size w (w.alloc (.cells #[.int .i64 c,.slice a 0 cap] 36)):=(Below.refl _ w).alloc (Nat.le_refl _) _
 have B0:Hid (Below w.heap.size w ((w.alloc (.cells #[.int .i64 c,.slice a 0 cap] 36)).alloc (.cells #[.int .i64 0,.int .i64 0,.slice none 0 0,.slice none 0 0] 39))):=hb1.alloc hb1.size _
 have F0:=Lib.hid (fb_new (w.alloc (.cells #[.int .i64 c,.slice a 0 cap] 36)) (w.heap.size+1) (by simp))
 have hb2:=(Below.refl (w.alloc (.cells #[.int .i64 c,.slice a 0 cap] 36)).heap.size (w.alloc (.cells #[.int .i64 c,.slice a 0 cap] 36))).alloc (Nat.le_refl _) (.cells #[.int .i64 0,.int .i64 0,.slice none 0 0,.slice none 0 0] 39)
 have l0:((w.alloc (.cells #[.int .i64 c,.slice a 0 cap] 36)).alloc (.cells #[.int .i64 0,.int .i64 0,.slice none 0 0,.slice none 0 0] 39)).cell? ⟨w.heap.size,0,none⟩=some (.int .i64 c):=by rw[hb2.cell (p:=⟨w.heap.size,0,none⟩) (by simp)];simp
 have l1:((w.alloc (.cells #[.int .i64 c,.slice a 0 cap] 36)).alloc (.cells #[.int .i64 0,.int .i64 0,.slice none 0 0,.slice none 0 0] 39)).cell? ⟨w.heap.size,1,none⟩=some (.slice a 0 cap):=by rw[hb2.cell (p:=⟨w.heap.size,1,none⟩) (by simp)];simp
 clear hb1 hb2 hs
 by_cases hc:c≤0
 ·rw[if_pos hc]at hk
  subst hk
  have hc':¬ 0<c:=by omega
  go_enter Tryz.func96,Tryz.ntmps96
  go_wp2_with fail
  refine(HCK.out _ B0.out).mono ?_
  rintro e w2 ⟨rfl,hb2⟩
  have B2:=Lib.hid (B0.out.trans (hb2.mono B0.out.size))
  have F2:=Lib.hid (F0.out.below hb2 (by simp))
  have d0:w2.cell? ⟨w.heap.size,0,none⟩=some (.int .i64 c):=(hb2.cell (p:=⟨w.heap.size,0,none⟩) (by simp;omega)).trans l0
  have d1:w2.cell? ⟨w.heap.size,1,none⟩=some (.slice a 0 cap):=(hb2.cell (p:=⟨w.heap.size,1,none⟩) (by simp;omega)).trans l1
  clear hb2 l0 l1
  obtain⟨r0,r1,r2,r3,rf⟩:=F2.out
  go_wp2_with fail
  clear r0 r1 r2 r3 rf d0 d1
  refine bodyPost_ret (v:= .tuple #[.agg #[.int .i64 0,.int .i64 0,.slice none 0 0,.slice none 0 0],.int .i64 0]) ?_ rfl ⟨_,rfl,flies_flat,below4 B2.out (Nat.le_succ _) _ _ _ _⟩
  obtain⟨e0,e1,e2,e3⟩:=res4 F2.out (.int .i64 0) (.int .i64 0) (.slice none 0 0) (.slice none 0 0)
  simp[results,Tryz.results96,go_sem,e0,e1,e2,e3]
 ·rw[if_neg hc]at hk
  subst hk
  have hc':0<c:=by omega
  go_enter Tryz.func96,Tryz.ntmps96
  go_wp2_with fail
  refine(HCK.out _ B0.out).mono ?_
  rintro e w2 ⟨rfl,hb2⟩
  have B2:=Lib.hid (B0.out.trans (hb2.mono B0.out.size))
  have F2:=Lib.hid (F0.out.below hb2 (by simp))
  have d0:w2.cell? ⟨w.heap.size,0,none⟩=some (.int .i64 c):=(hb2.cell (p:=⟨w.heap.size,0,none⟩) (by simp;omega)).trans l0
  have d1:w2.cell? ⟨w.heap.size,1,none⟩=some (.slice a 0 cap):=(hb2.cell (p:=⟨w.heap.size,1,none⟩) (by simp;omega)).trans l1
  clear hb2 l0 l1
  obtain⟨r0,r1,r2,r3,rf⟩:=F2.out
  go_wp2_with fail
  clear r0 r1 r2 r3 rf d0 d1
  refine bodyPost_ret (v:= .tuple #[.agg #[.int .i64 1,.int .i64 0,.slice none 0 0,.slice none 0 0],.int .i64 0]) ?_ rfl ⟨_,rfl,flies_flat,below4 B2.out (Nat.le_succ _) _ _ _ _⟩
  obtain⟨e0,e1,e2,e3⟩:=res4 F2.out (.int .i64 1) (.int .i64 0) (.slice none 0 0) (.slice none 0 0)
  simp[results,Tryz.results96,go_sem,e0,e1,e2,e3]
structure LitSt (w W:World)(c u:Int)(a:Option Addr)(n cap Mb:Nat)(v:Value)(r:List (Int×Int)):Prop where
 row:Row (Mb+1) r v W
 l0:W.cell? ⟨w.heap.size,0,none⟩=some (.int .i64 c)
 l1:W.cell? ⟨w.heap.size,1,none⟩=some (.slice a n cap)
 fb:FB W (w.heap.size+1)
 m0:W.cell? ⟨Mb,0,none⟩=some (.int .i64 u)
 m1:W.cell? ⟨Mb,1,none⟩=some v
 mf:∀o,W.frozen? ⟨Mb,o,none⟩=false
 lt:w.heap.size+1<Mb
 mz:Mb<W.heap.size
 bel:Below w.heap.size w W
theorem LitSt.start {w w1:World}{c u:Int}{a:Option Addr}{n cap:Nat}(hb:Below w.heap.size w w1)(hz:w.heap.size+1<w1.heap.size)(p0:w1.cell? ⟨w.heap.size,0,none⟩=some (.int .i64 c))(p1:w1.cell? ⟨w.heap.size,1,none⟩=some (.slice a n cap))(hf:FB w1 (w.heap.size+1)):
 LitSt w (w1.alloc (.cells #[.int .i64 u,.slice none 0 0] 36)) c u a n cap w1.heap.size (.slice none 0 0) []:=by
 have hba:Below w1.heap.size w1 (w1.alloc (.cells #[.int .i64 u,.slice none 0 0] 36)):=(Below.refl _ w1).alloc (Nat.le_refl _) _
 have hn:=heap_alloc_new w1 (.cells #[.int .i64 u,.slice none 0 0] 36)
 exact⟨World.ownsRow_nil _ _ _ _,(hba.cell (p:=⟨w.heap.size,0,none⟩) (by show w.heap.size<_;omega)).trans p0,(hba.cell (p:=⟨w.heap.size,1,none⟩) (by show w.heap.size<_;omega)).trans p1,hf.below hba hz,
  by rw[cell_of_row _ _ _ _ _ _ hn];rfl,by rw[cell_of_row _ _ _ _ _ _ hn];rfl,fun o=>frozen_of_row _ _ _ _ _ hn,hz,by simp,hb.trans (hba.mono hb.size)⟩
theorem LitSt.below {w W w6 w5:World}{c u:Int}{a:Option Addr}{n cap Mb:Nat}{v:Value}{r:List (Int×Int)}(h:LitSt w W c u a n cap Mb v r)(hb5:Below (Mb+1) W w5)(hg:w5.grownBy w6 v.ownBlock):Below (Mb+1) W w6:=
 hb5.grown hg (Nat.le_trans h.mz hb5.size) (fun j hj=>(World.ownsRow.lt h.row j hj).1)
theorem LitSt.far {w W w6 w5:World}{c u:Int}{a:Option Addr}{n cap Mb:Nat}{v:Value}{r:List (Int×Int)}(h:LitSt w W c u a n cap Mb v r)(hb5:Below (Mb+1) W w5)(hg:w5.grownBy w6 v.ownBlock):
 w6.cell? ⟨Mb,1,none⟩=some v∧∀o,w6.frozen? ⟨Mb,o,none⟩=false:=by
 have hb6:=h.below hb5 hg
 exact⟨(hb6.cell (p:=⟨Mb,1,none⟩) (Nat.lt_succ_self _)).trans h.m1,fun o=>(hb6.frozen (p:=⟨Mb,o,none⟩) (Nat.lt_succ_self _)).trans (h.mf o)⟩
theorem LitSt.step {w W w6 w5:World}{c u:Int}{a:Option Addr}{n cap Mb:Nat}{v v6:Value}{r r6:List (Int×Int)}(h:LitSt w W c u a n cap Mb v r)(hb5:Below (Mb+1) W w5)(hg:w5.grownBy w6 v.ownBlock)(hr:Row (Mb+1) r6 v6 w6):
 LitSt w (w6.setCell ⟨Mb,1,none⟩ v6) c u a n cap Mb v6 r6:=by
 have hb6:=h.below hb5 hg
 have hlt:=h.lt
 have hz6:Mb<w6.heap.size:=Nat.lt_of_lt_of_le h.mz hb6.size
 have k:w6.grownBy (w6.setCell ⟨Mb,1,none⟩ v6) (some Mb):=⟨rfl,rfl,rfl,Nat.le_of_eq (World.size_setCell _ _ _).symm,fun q _ hq=>Below.heap_setCell _ _ _ _ (fun e=>hq (by rw[e]))⟩
 have hc:∀b o,b<Mb→(w6.setCell ⟨Mb,1,none⟩ v6).cell? ⟨b,o,none⟩=W.cell? ⟨b,o,none⟩:=fun b o hb=>by
  rw[World.cell?_setCell_other _ _ _ _ (by simp<;>omega)]
  exact hb6.cell (p:=⟨b,o,none⟩) (by show b<_;omega)
 have hf:∀b o,b≤Mb→(w6.setCell ⟨Mb,1,none⟩ v6).frozen? ⟨b,o,none⟩=W.frozen? ⟨b,o,none⟩:=fun b o hb=>(World.frozen?_setCell _ _ _ _).trans (hb6.frozen (p:=⟨b,o,none⟩) (by show b<_;omega))
 refine⟨World.ownsRow.kept hr k (.inr (fun e=> ?_)),(hc _ _ (by omega)).trans h.l0,(hc _ _ (by omega)).trans h.l1,⟨(hc _ _ hlt).trans h.fb.r0,(hc _ _ hlt).trans h.fb.r1,(hc _ _ hlt).trans h.fb.r2,(hc _ _ hlt).trans h.fb.r3,fun o=>(hf _ o (by omega)).trans (h.fb.fz o)⟩, ?_, ?_,fun o=>(hf _ o (Nat.le_refl _)).trans (h.mf o),hlt,by rw[World.size_setCell];exact hz6,(h.bel.trans (hb6.mono (by omega))).setCell (p:=⟨Mb,1,none⟩) (by show _≤Mb;omega) _⟩
 ·have:=(World.ownsRow.lt hr _ e).1;omega
 ·rw[World.cell?_setCell_other _ _ _ _ (by simp)]
  exact(hb6.cell (p:=⟨Mb,0,none⟩) (Nat.lt_succ_self _)).trans h.m0
 ·exact World.cell?_setCell_same _ _ _ (h.far hb5 hg).1
end
end Go.Proofs.YtipahfcaplbifaaGreatDoor
