/- Parts of a proof. -/
import Derived.Test.YtjbkhdbjdahbiaaGreatDoorQ02
import Derived.Test.YtjbkhdbjdahbiaaGreatDoorQ03
import Derived.Deep.RegionHeld3
import Derived.Deep.AppendLies
import Derived.Deep.DrawnRows
set_option linter.unusedVariables false
set_option linter.unusedSimpArgs false
set_option maxHeartbeats 60000000
set_option maxRecDepth 100000
namespace Go.Proofs.YtjbkhdbjdahbiaaGreatDoor
namespace Lf
open Go.RowKit
def scale (x:Int)(l:List (Int×Int)):List (Int×Int):=l.map fun m=>(m.1,x*m.2)
theorem scale_snoc (x:Int)(l:List (Int×Int))(m:Int×Int):scale x (l ++ [m])=scale x l ++ [(m.1,x*m.2)]:=by simp[scale]
theorem scale_len (x:Int)(l:List (Int×Int)):(scale x l).length=l.length:=by simp[scale]
theorem mul_in {x k:Int}(hx: -4096≤x∧x≤4096)(hk: -1073741824≤k∧k≤1073741824): -4398046511104≤x*k∧x*k≤4398046511104:=by
 have h1:(x*k).natAbs≤4096*1073741824:=by
  rw[Int.natAbs_mul];exact Nat.mul_le_mul (by omega) (by omega)
 omega
theorem two_at2 (w:World)(o:Obj)(x y:Value)(t:TypeId):∀j u,[x,y][j]? =some u→((w.alloc o).alloc (.cells #[x,y] t)).cell? ((⟨w.heap.size+1,0,none⟩:Addr).add j)=some u:=by
 intro j u hj
 have h:=cell_two_new' (w.alloc o) x y t j u hj
 have e:(w.alloc o).heap.size=w.heap.size+1:=by simp
 rwa [e]at h
theorem snd_terms {c:Int}{l:List (Int×Int)}(h:snd c l=true):∀m∈l,(0≤m.1∧m.1<1048576)∧ -1073741824≤m.2∧m.2≤1073741824:=fun m hm=>by
 obtain⟨i,hi,rfl⟩:=List.getElem_of_mem hm
 have:=okAt_in ((snd_iff.1 h).2.2 i hi)
 rw[List.getD_eq_getElem?_getD,List.getElem?_eq_getElem hi]at this
 simp only[Option.getD_some]at this
 omega
theorem both_terms {ca cb x y:Int}{la lb:List (Int×Int)}(ha:snd ca la=true)(hb:snd cb lb=true)(hx: -4096≤x∧x≤4096)(hy: -4096≤y∧y≤4096):
 Bd 4398046511104 (scale x la ++ scale y lb)∧∀m∈scale x la ++ scale y lb,0≤m.1∧m.1<1048576:=by
 have h:∀m∈scale x la ++ scale y lb,(0≤m.1∧m.1<1048576)∧ -4398046511104≤m.2∧m.2≤4398046511104:=fun m hm=>by
  rcases List.mem_append.1 hm with hm | hm
  ·obtain⟨p,hp,rfl⟩:=List.mem_map.1 hm
   have:=snd_terms ha p hp
   exact⟨this.1,mul_in hx this.2⟩
  ·obtain⟨p,hp,rfl⟩:=List.mem_map.1 hm
   have:=snd_terms hb p hp
   exact⟨this.1,mul_in hy this.2⟩
 exact⟨fun m hm=>(h m hm).2,fun m hm=>(h m hm).1⟩
structure Three (w W:World)(N:Nat)(ca cb:Int)(a b:Option Addr)(na nb capa capb:Nat):Prop where
 lt:N+2<W.heap.size
 a0:W.cell? ⟨N,0,none⟩=some (.int .i64 ca)
 a1:W.cell? ⟨N,1,none⟩=some (.slice a na capa)
 b0:W.cell? ⟨N+1,0,none⟩=some (.int .i64 cb)
 b1:W.cell? ⟨N+1,1,none⟩=some (.slice b nb capb)
 r0:W.cell? ⟨N+2,0,none⟩=some (.int .i64 0)
 r1:W.cell? ⟨N+2,1,none⟩=some (.slice none 0 0)
 rf:∀o,W.frozen? ⟨N+2,o,none⟩=false
 bel:Below N w W
theorem Three.below {w W W':World}{N B:Nat}{ca cb:Int}{a b:Option Addr}{na nb capa capb:Nat}(h:Three w W N ca cb a b na nb capa capb)(hb:Below B W W')(hB:N+2<B):Three w W' N ca cb a b na nb capa capb:=
 ⟨Nat.lt_of_lt_of_le h.lt hb.size,(hb.cell (p:=⟨N,0,none⟩) (show N<B by omega)).trans h.a0,(hb.cell (p:=⟨N,1,none⟩) (show N<B by omega)).trans h.a1,(hb.cell (p:=⟨N+1,0,none⟩) (show N+1<B by omega)).trans h.b0,(hb.cell (p:=⟨N+1,1,none⟩) (show N+1<B by omega)).trans h.b1,
   (hb.cell (p:=⟨N+2,0,none⟩) hB).trans h.r0,(hb.cell (p:=⟨N+2,1,none⟩) hB).trans h.r1,fun o=>(hb.frozen (p:=⟨N+2,o,none⟩) hB).trans (h.rf o),h.bel.trans (hb.mono (by omega))⟩
theorem three_start (w:World)(ca cb:Int)(a b:Option Addr)(na nb capa capb:Nat):Three w (((w.alloc (.cells #[.int .i64 ca,.slice a na capa] 25)).alloc (.cells #[.int .i64 cb,.slice b nb capb] 25)).alloc (.cells #[.int .i64 0,.slice none 0 0] 25)) w.heap.size ca cb a b na nb capa capb:=
 ⟨by simp,by simp[go_sem],by simp[go_sem],by simp[go_sem],by simp[go_sem],by simp[go_sem],by simp[go_sem],fun o=>by simp[go_sem],(((Below.refl _ w).alloc (Nat.le_refl _) _).alloc (by simp) _).alloc (by simp;omega) _⟩
theorem add_ok (ca cb x y:Int)(a b:Option Addr)(na nb capa capb:Nat)(la lb R:List (Int×Int))(w:World)(hna:la.length=na)(hnb:lb.length=nb)(hla:Lies w.heap.size w a la)(hlb:Lies w.heap.size w b lb)
 (ha:snd ca la=true) (hb:snd cb lb=true) (hx: -4096≤x∧x≤4096) (hy: -4096≤y∧y≤4096)
 (hga:∀(a:Option Addr) (n cap:Nat) (W:World) (B:Nat),(scale x la ++ scale y lb).length=n→Row B (scale x la ++ scale y lb) (.slice a n cap) W→B≤W.heap.size→n≤8192→Calls Tryz.prog 75 #[.int .i64 (x*ca+y*cb),.slice a n cap] W (LinOk B (x*ca+y*cb) R W)):
 Calls Tryz.prog 56 #[.agg #[.int .i64 ca,.slice a na capa],.agg #[.int .i64 cb,.slice b nb capb],.int .i64 x,.int .i64 y] w (LinOk w.heap.size (x*ca+y*cb) R w):=by
 obtain⟨i0,hi,hz0,hz1,hz2⟩:=info_parts Tryz.infoMono
 have hca: -1073741824≤ca∧ca≤1073741824:=by have:=(snd_iff.1 ha).1;unfold wi at this;simpa using this
 have hcb: -1073741824≤cb∧cb≤1073741824:=by have:=(snd_iff.1 hb).1;unfold wi at this;simpa using this
 have m1:=mul_in hx hca
 have m2:=mul_in hy hcb
 have n1:na≤64:=by have:=(snd_iff.1 ha).2.1;omega
 have n2:nb≤64:=by have:=(snd_iff.1 hb).2.1;omega
 have hwx:=fun W=>within_any x 4096 W (by omega) (by omega)
 have hwy:=fun W=>within_any y 4096 W (by omega) (by omega)
 rw[wi_t hx]at hwx
 rw[wi_t hy]at hwy
 have hck1:=fun W (hb:Below w.heap.size w W)=>check_yes ca a na capa la W hna ((hla.below hb).mono hb.size) ha
 have hck2:=fun W (hb':Below w.heap.size w W)=>check_yes cb b nb capb lb W hnb ((hlb.below hb').mono hb'.size) hb
 have HT:=Lib.hid (fun i (hi:i<na)=>snd_terms ha (la.getD i (0,0)) (by rw[List.getD_eq_getElem?_getD,List.getElem?_eq_getElem (by omega)];simp))
 have HT2:=Lib.hid (fun i (hi:i<nb)=>snd_terms hb (lb.getD i (0,0)) (by rw[List.getD_eq_getElem?_getD,List.getElem?_eq_getElem (by omega)];simp))
 have HNA:=Lib.hid hna
 have HNB:=Lib.hid hnb
 have HLA:=Lib.hid hla
 have HLB:=Lib.hid hlb
 have HG:=Lib.hid hga
 have HC1:=Lib.hid hck1
 have HC2:=Lib.hid hck2
 have T0:=Lib.hid (three_start w ca cb a b na nb capa capb)
 clear hna hnb hla hlb ha hb hga hck1 hck2
 go_enter Tryz.func56,Tryz.ntmps56
 go_wp2_with fail
 refine(HC1.out _ T0.out.bel).mono ?_
 rintro e w1 ⟨rfl,hb1⟩
 have T1:=Lib.hid (T0.out.below hb1 T0.out.lt)
 obtain⟨l1,_,_,b10,b11,_,_,_,_⟩:=T1.out
 have l1':w.heap.size+1<w1.heap.size:=by omega
 clear hb1
 go_wp2_with fail
 refine(HC2.out _ T1.out.bel).mono ?_
 rintro e w2 ⟨rfl,hb2⟩
 have T2:=Lib.hid (T1.out.below hb2 T1.out.lt)
 clear hb2 b10 b11 l1 l1'
 obtain⟨l2,a0,a1,b0,b1,r0,r1,rf,_⟩:=T2.out
 go_wp2_with fail
 refine(hwx _).mono ?_
 rintro e w' ⟨rfl,rfl⟩
 go_wp2_with fail
 refine(hwy _).mono ?_
 rintro e w' ⟨rfl,rfl⟩
 go_wp2_with (at_make;refine wpList_make_own _ rfl _ _ 23 rfl w2.heap.size 84 i0 (.agg #[.int .i64 0,.int .i64 0]) 2 Tryz.underlying23 hi hz0 hz1 .i64 .i64 _ (na+nb) rfl rfl (by omega) (by rw[hz2];omega) (by unfold maxLen;omega) (Nat.le_refl _) ?_)
 intro w3 hown3 hgrow3
 have B3:Hid (Below w2.heap.size w2 w3):=(Below.refl _ w2).grown hgrow3 (Nat.le_refl _) (fun k hk=>by cases hk)
 have HO3:Hid (Row w2.heap.size ([] ++ scale x (la.take 0)) (.slice (some ⟨w2.heap.size,0,none⟩) 0 (na+nb)) w3):=by
  show Row _ _ _ _
  simpa [Row,scale,flat]using hown3
 obtain⟨l3,a30,a31,b30,b31,_,_,_,_⟩:=T2.out.below B3.out T2.out.lt
 clear hown3 hgrow3 a0 a1 b0 b1 r0 r1 rf
 go_wp2_with fail
 go_loopw [10,46] (fun s i wr=>∃k:Nat,k≤na∧i= .int .i64 k∧Hid (Row w2.heap.size ([] ++ scale x (la.take k)) s wr)∧Hid (Below w2.heap.size w2 wr)) (fun _ i _=>na - (intOf i).toNat)
 case atStart=>exact⟨0,Nat.zero_le _,rfl,HO3,B3⟩
 case round=>
  obtain⟨k,hk,rfl,hrow,hb⟩:=hrel
  by_cases hlt:k<na
  ·have hbw:Below w.heap.size w wr:=T2.out.bel.trans (hb.out.mono (by omega))
   obtain⟨bb,off,rfl,hblt,c1,c2⟩:=(HLA.out.below hbw) k (by rw[HNA.out];exact hlt)
   have hts:=take_snoc la k (by rw[HNA.out];exact hlt)
   have hm:=mul_in hx (HT.out k hlt).2
   have hrl:([] ++ scale x (la.take k)).length≤128:=by rw[List.length_append,scale_len,List.length_take];simp;omega
   have HT3:Hid ([] ++ scale x (la.take (k+1))=([] ++ scale x (la.take k)) ++ [((la.getD k (0,0)).1,x*(la.getD k (0,0)).2)]):=by
    show _=_
    rw[hts,scale_snoc,List.append_assoc]
   generalize (la.getD k (0,0)).1=v at c1 HT3
   generalize (la.getD k (0,0)).2=u at c2 HT3 hm
   generalize [] ++ scale x (la.take k)=r at hrow hrl HT3
   have hzr:w2.heap.size≤wr.heap.size:=hb.out.size
   clear hts hbw
   go_wp2_with (at_builtin;refine wpList_append_own _ rfl _ _ 23 rfl w2.heap.size 84 i0 _ 2 16 Tryz.underlying23 hi hz0 hz1 hz2 rfl (by decide) u10 r.length (flat r) rfl (World.ownsRow.alloc (World.ownsRow.alloc hrow.out _) _) ⟨wr.heap.size+1,0,none⟩ 1 1 [.int .i64 v,.int .i64 (x*u)] rfl rfl ?c2 ?c3 ?c4 ?c5 ?c6 ?_)
   case c2=>exact fun j z hj=>two_at2 wr _ _ _ _ j z hj
   case c3=>first | exact⟨rfl,rfl⟩ | exact flat_cells [(v,x*u)]
   case c4=>unfold maxLen;omega
   case c5=>omega
   case c6=>simp;omega
   intro v' w4 hown' hgrow _
   have HO:Hid (Row w2.heap.size ([] ++ scale x (la.take (k+1))) v' w4):=by
    show Row _ _ _ _
    rw[HT3.out]
    unfold Row
    rw[List.length_append,flat_append]
    exact hown'
   have HB:Hid (Below w2.heap.size w2 w4):=((hb.out.alloc hzr _).alloc (by simp;omega) _).grown hgrow (by simp;omega) (fun j hj=>(World.ownsRow.lt hrow.out j hj).1)
   clear hown' hgrow hrow
   go_wp2
   go_roundw
   case rel=>exact⟨k+1,by omega,by go_num,HO,HB⟩
   case measure=>simp[intOf];omega
  ·obtain rfl:k=na:=by omega
   have HA1:Hid (Row w2.heap.size (scale x la ++ scale y (lb.take 0)) u10 wr):=by
    have:=hrow.out
    rw[List.nil_append,List.take_of_length_le (by rw[HNA.out];exact Nat.le_refl _)]at this
    show Row _ _ _ _
    simpa [scale]using this
   obtain⟨l4,a40,a41,b40,b41,r40,r41,rf4,_⟩:=T2.out.below hb.out T2.out.lt
   clear hrow a30 a31 b30 b31
   go_wp2_with fail
   go_loopw [10,64] (fun s i wr=>∃k:Nat,k≤nb∧i= .int .i64 k∧Hid (Row w2.heap.size (scale x la ++ scale y (lb.take k)) s wr)∧Hid (Below w2.heap.size w2 wr)) (fun _ i _=>nb - (intOf i).toNat)
   case atStart=>exact⟨0,Nat.zero_le _,rfl,HA1,hb⟩
   case round=>
    obtain⟨k,hk,rfl,hrow,hb⟩:=hrel
    by_cases hlt:k<nb
    ·have hbw:Below w.heap.size w wr:=T2.out.bel.trans (hb.out.mono (by omega))
     obtain⟨bb,off,rfl,hblt,c1,c2⟩:=(HLB.out.below hbw) k (by rw[HNB.out];exact hlt)
     have hts:=take_snoc lb k (by rw[HNB.out];exact hlt)
     have hm:=mul_in hy (HT2.out k hlt).2
     have hrl:(scale x la ++ scale y (lb.take k)).length≤128:=by have:=HNA.out;simp[scale_len];omega
     have HT3:Hid (scale x la ++ scale y (lb.take (k+1))=(scale x la ++ scale y (lb.take k)) ++ [((lb.getD k (0,0)).1,y*(lb.getD k (0,0)).2)]):=by
      show _=_
      rw[hts,scale_snoc,List.append_assoc]
     generalize (lb.getD k (0,0)).1=v at c1 HT3
     generalize (lb.getD k (0,0)).2=u at c2 HT3 hm
     generalize scale x la ++ scale y (lb.take k)=r at hrow hrl HT3
     have hzr:w2.heap.size≤wr.heap.size:=hb.out.size
     clear hts hbw
     go_wp2_with (at_builtin;refine wpList_append_own _ rfl _ _ 23 rfl w2.heap.size 84 i0 _ 2 16 Tryz.underlying23 hi hz0 hz1 hz2 rfl (by decide) u10 r.length (flat r) rfl (World.ownsRow.alloc (World.ownsRow.alloc hrow.out _) _) ⟨wr.heap.size+1,0,none⟩ 1 1 [.int .i64 v,.int .i64 (y*u)] rfl rfl ?c2 ?c3 ?c4 ?c5 ?c6 ?_)
     case c2=>exact fun j z hj=>two_at2 wr _ _ _ _ j z hj
     case c3=>first | exact⟨rfl,rfl⟩ | exact flat_cells [(v,y*u)]
     case c4=>unfold maxLen;omega
     case c5=>omega
     case c6=>simp;omega
     intro v' w4 hown' hgrow _
     have HO:Hid (Row w2.heap.size (scale x la ++ scale y (lb.take (k+1))) v' w4):=by
      show Row _ _ _ _
      rw[HT3.out]
      unfold Row
      rw[List.length_append,flat_append]
      exact hown'
     have HB:Hid (Below w2.heap.size w2 w4):=((hb.out.alloc hzr _).alloc (by simp;omega) _).grown hgrow (by simp;omega) (fun j hj=>(World.ownsRow.lt hrow.out j hj).1)
     clear hown' hgrow hrow
     go_wp2
     go_roundw
     case rel=>exact⟨k+1,by omega,by go_num,HO,HB⟩
     case measure=>simp[intOf];omega
    ·obtain rfl:k=nb:=by omega
     have HF:Hid (Row w2.heap.size (scale x la ++ scale y lb) u10 wr):=by
      have:=hrow.out
      rwa [List.take_of_length_le (by rw[HNB.out];exact Nat.le_refl _)]at this
     obtain⟨a5,cap5,rfl,_,_⟩:=HF.out.lies
     have hlen5:(scale x la ++ scale y lb).length≤8192:=by rw[List.length_append,scale_len,scale_len,HNA.out,HNB.out];omega
     have T5:=Lib.hid (T2.out.below hb.out T2.out.lt)
     obtain⟨l5,a50,a51,b50,b51,r50,r51,rf5,_⟩:=T5.out
     have hcon:=HG.out a5 _ cap5 wr w2.heap.size rfl HF.out hb.out.size hlen5
     rw[List.length_append]at hcon
     clear hrow
     go_wp2_with fail
     refine hcon.mono ?_
     rintro e w7 ⟨v7,rfl,hrow7,hb7⟩
     have T7:=Lib.hid (T5.out.below hb7 T2.out.lt)
     clear hcon hb7 a50 a51 b50 b51 r50 r51 rf5 l5
     obtain⟨l7,_,_,_,_,r70,r71,rf7,bel7⟩:=T7.out
     obtain⟨a7,cap7,rfl,_,_⟩:=hrow7.lies
     have hrowf:Row w.heap.size R (.slice a7 R.length cap7) ((w7.setCell ⟨w.heap.size+2,0,none⟩ (.int .i64 (x*ca+y*cb))).setCell ⟨w.heap.size+2,1,none⟩ (.slice a7 R.length cap7)):=
      Row.mono (ownsRow_setCell_below (ownsRow_setCell_below hrow7 (by have:=T2.out.lt;simpa using this) _) (by have:=T2.out.lt;simpa using this) _) (by omega)
     have hbf:=(bel7.setCell (p:=⟨w.heap.size+2,0,none⟩) (Nat.le_add_right _ _) (.int .i64 (x*ca+y*cb))).setCell (p:=⟨w.heap.size+2,1,none⟩) (Nat.le_add_right _ _) (.slice a7 R.length cap7)
     obtain⟨e0,e1⟩:=res_cells w7 (w.heap.size+2) (.int .i64 (x*ca+y*cb)) (.slice a7 R.length cap7) _ _ r70 r71
     clear bel7 hrow7
     go_wp2_with fail
     refine bodyPost_ret (v:= .tuple #[.agg #[.int .i64 (x*ca+y*cb),.slice a7 R.length cap7],.nilIface]) ?_ rfl ⟨_,rfl,hrowf,hbf⟩
     clear r70 r71 rf7
     simp[results,Tryz.results56,go_sem,e0,e1]
theorem add_err (j ca cb x y:Int)(a b:Option Addr)(na nb capa capb:Nat)(la lb:List (Int×Int))(w:World)(hna:la.length=na)(hnb:lb.length=nb)(hla:Lies w.heap.size w a la)(hlb:Lies w.heap.size w b lb)
 (ha:snd ca la=true) (hb:snd cb lb=true) (hx: -4096≤x∧x≤4096) (hy: -4096≤y∧y≤4096)
 (hga:∀(a:Option Addr) (n cap:Nat) (W:World) (B:Nat),(scale x la ++ scale y lb).length=n→Row B (scale x la ++ scale y lb) (.slice a n cap) W→B≤W.heap.size→n≤8192→Calls Tryz.prog 75 #[.int .i64 (x*ca+y*cb),.slice a n cap] W (LinErr B j W)):
 Calls Tryz.prog 56 #[.agg #[.int .i64 ca,.slice a na capa],.agg #[.int .i64 cb,.slice b nb capb],.int .i64 x,.int .i64 y] w (LinErr w.heap.size j w):=by
 obtain⟨i0,hi,hz0,hz1,hz2⟩:=info_parts Tryz.infoMono
 have hca: -1073741824≤ca∧ca≤1073741824:=by have:=(snd_iff.1 ha).1;unfold wi at this;simpa using this
 have hcb: -1073741824≤cb∧cb≤1073741824:=by have:=(snd_iff.1 hb).1;unfold wi at this;simpa using this
 have m1:=mul_in hx hca
 have m2:=mul_in hy hcb
 have n1:na≤64:=by have:=(snd_iff.1 ha).2.1;omega
 have n2:nb≤64:=by have:=(snd_iff.1 hb).2.1;omega
 have hwx:=fun W=>within_any x 4096 W (by omega) (by omega)
 have hwy:=fun W=>within_any y 4096 W (by omega) (by omega)
 rw[wi_t hx]at hwx
 rw[wi_t hy]at hwy
 have hck1:=fun W (hb:Below w.heap.size w W)=>check_yes ca a na capa la W hna ((hla.below hb).mono hb.size) ha
 have hck2:=fun W (hb':Below w.heap.size w W)=>check_yes cb b nb capb lb W hnb ((hlb.below hb').mono hb'.size) hb
 have HT:=Lib.hid (fun i (hi:i<na)=>snd_terms ha (la.getD i (0,0)) (by rw[List.getD_eq_getElem?_getD,List.getElem?_eq_getElem (by omega)];simp))
 have HT2:=Lib.hid (fun i (hi:i<nb)=>snd_terms hb (lb.getD i (0,0)) (by rw[List.getD_eq_getElem?_getD,List.getElem?_eq_getElem (by omega)];simp))
 have HNA:=Lib.hid hna
 have HNB:=Lib.hid hnb
 have HLA:=Lib.hid hla
 have HLB:=Lib.hid hlb
 have HG:=Lib.hid hga
 have HC1:=Lib.hid hck1
 have HC2:=Lib.hid hck2
 have T0:=Lib.hid (three_start w ca cb a b na nb capa capb)
 clear hna hnb hla hlb ha hb hga hck1 hck2
 go_enter Tryz.func56,Tryz.ntmps56
 go_wp2_with fail
 refine(HC1.out _ T0.out.bel).mono ?_
 rintro e w1 ⟨rfl,hb1⟩
 have T1:=Lib.hid (T0.out.below hb1 T0.out.lt)
 obtain⟨l1,_,_,b10,b11,_,_,_,_⟩:=T1.out
 have l1':w.heap.size+1<w1.heap.size:=by omega
 clear hb1
 go_wp2_with fail
 refine(HC2.out _ T1.out.bel).mono ?_
 rintro e w2 ⟨rfl,hb2⟩
 have T2:=Lib.hid (T1.out.below hb2 T1.out.lt)
 clear hb2 b10 b11 l1 l1'
 obtain⟨l2,a0,a1,b0,b1,r0,r1,rf,_⟩:=T2.out
 go_wp2_with fail
 refine(hwx _).mono ?_
 rintro e w' ⟨rfl,rfl⟩
 go_wp2_with fail
 refine(hwy _).mono ?_
 rintro e w' ⟨rfl,rfl⟩
 go_wp2_with (at_make;refine wpList_make_own _ rfl _ _ 23 rfl w2.heap.size 84 i0 (.agg #[.int .i64 0,.int .i64 0]) 2 Tryz.underlying23 hi hz0 hz1 .i64 .i64 _ (na+nb) rfl rfl (by omega) (by rw[hz2];omega) (by unfold maxLen;omega) (Nat.le_refl _) ?_)
 intro w3 hown3 hgrow3
 have B3:Hid (Below w2.heap.size w2 w3):=(Below.refl _ w2).grown hgrow3 (Nat.le_refl _) (fun k hk=>by cases hk)
 have HO3:Hid (Row w2.heap.size ([] ++ scale x (la.take 0)) (.slice (some ⟨w2.heap.size,0,none⟩) 0 (na+nb)) w3):=by
  show Row _ _ _ _
  simpa [Row,scale,flat]using hown3
 obtain⟨l3,a30,a31,b30,b31,_,_,_,_⟩:=T2.out.below B3.out T2.out.lt
 clear hown3 hgrow3 a0 a1 b0 b1 r0 r1 rf
 go_wp2_with fail
 go_loopw [10,46] (fun s i wr=>∃k:Nat,k≤na∧i= .int .i64 k∧Hid (Row w2.heap.size ([] ++ scale x (la.take k)) s wr)∧Hid (Below w2.heap.size w2 wr)) (fun _ i _=>na - (intOf i).toNat)
 case atStart=>exact⟨0,Nat.zero_le _,rfl,HO3,B3⟩
 case round=>
  obtain⟨k,hk,rfl,hrow,hb⟩:=hrel
  by_cases hlt:k<na
  ·have hbw:Below w.heap.size w wr:=T2.out.bel.trans (hb.out.mono (by omega))
   obtain⟨bb,off,rfl,hblt,c1,c2⟩:=(HLA.out.below hbw) k (by rw[HNA.out];exact hlt)
   have hts:=take_snoc la k (by rw[HNA.out];exact hlt)
   have hm:=mul_in hx (HT.out k hlt).2
   have hrl:([] ++ scale x (la.take k)).length≤128:=by rw[List.length_append,scale_len,List.length_take];simp;omega
   have HT3:Hid ([] ++ scale x (la.take (k+1))=([] ++ scale x (la.take k)) ++ [((la.getD k (0,0)).1,x*(la.getD k (0,0)).2)]):=by
    show _=_
    rw[hts,scale_snoc,List.append_assoc]
   generalize (la.getD k (0,0)).1=v at c1 HT3
   generalize (la.getD k (0,0)).2=u at c2 HT3 hm
   generalize [] ++ scale x (la.take k)=r at hrow hrl HT3
   have hzr:w2.heap.size≤wr.heap.size:=hb.out.size
   clear hts hbw
   go_wp2_with (at_builtin;refine wpList_append_own _ rfl _ _ 23 rfl w2.heap.size 84 i0 _ 2 16 Tryz.underlying23 hi hz0 hz1 hz2 rfl (by decide) u10 r.length (flat r) rfl (World.ownsRow.alloc (World.ownsRow.alloc hrow.out _) _) ⟨wr.heap.size+1,0,none⟩ 1 1 [.int .i64 v,.int .i64 (x*u)] rfl rfl ?c2 ?c3 ?c4 ?c5 ?c6 ?_)
   case c2=>exact fun j z hj=>two_at2 wr _ _ _ _ j z hj
   case c3=>first | exact⟨rfl,rfl⟩ | exact flat_cells [(v,x*u)]
   case c4=>unfold maxLen;omega
   case c5=>omega
   case c6=>simp;omega
   intro v' w4 hown' hgrow _
   have HO:Hid (Row w2.heap.size ([] ++ scale x (la.take (k+1))) v' w4):=by
    show Row _ _ _ _
    rw[HT3.out]
    unfold Row
    rw[List.length_append,flat_append]
    exact hown'
   have HB:Hid (Below w2.heap.size w2 w4):=((hb.out.alloc hzr _).alloc (by simp;omega) _).grown hgrow (by simp;omega) (fun j hj=>(World.ownsRow.lt hrow.out j hj).1)
   clear hown' hgrow hrow
   go_wp2
   go_roundw
   case rel=>exact⟨k+1,by omega,by go_num,HO,HB⟩
   case measure=>simp[intOf];omega
  ·obtain rfl:k=na:=by omega
   have HA1:Hid (Row w2.heap.size (scale x la ++ scale y (lb.take 0)) u10 wr):=by
    have:=hrow.out
    rw[List.nil_append,List.take_of_length_le (by rw[HNA.out];exact Nat.le_refl _)]at this
    show Row _ _ _ _
    simpa [scale]using this
   obtain⟨l4,a40,a41,b40,b41,r40,r41,rf4,_⟩:=T2.out.below hb.out T2.out.lt
   clear hrow a30 a31 b30 b31
   go_wp2_with fail
   go_loopw [10,64] (fun s i wr=>∃k:Nat,k≤nb∧i= .int .i64 k∧Hid (Row w2.heap.size (scale x la ++ scale y (lb.take k)) s wr)∧Hid (Below w2.heap.size w2 wr)) (fun _ i _=>nb - (intOf i).toNat)
   case atStart=>exact⟨0,Nat.zero_le _,rfl,HA1,hb⟩
   case round=>
    obtain⟨k,hk,rfl,hrow,hb⟩:=hrel
    by_cases hlt:k<nb
    ·have hbw:Below w.heap.size w wr:=T2.out.bel.trans (hb.out.mono (by omega))
     obtain⟨bb,off,rfl,hblt,c1,c2⟩:=(HLB.out.below hbw) k (by rw[HNB.out];exact hlt)
     have hts:=take_snoc lb k (by rw[HNB.out];exact hlt)
     have hm:=mul_in hy (HT2.out k hlt).2
     have hrl:(scale x la ++ scale y (lb.take k)).length≤128:=by have:=HNA.out;simp[scale_len];omega
     have HT3:Hid (scale x la ++ scale y (lb.take (k+1))=(scale x la ++ scale y (lb.take k)) ++ [((lb.getD k (0,0)).1,y*(lb.getD k (0,0)).2)]):=by
      show _=_
      rw[hts,scale_snoc,List.append_assoc]
     generalize (lb.getD k (0,0)).1=v at c1 HT3
     generalize (lb.getD k (0,0)).2=u at c2 HT3 hm
     generalize scale x la ++ scale y (lb.take k)=r at hrow hrl HT3
     have hzr:w2.heap.size≤wr.heap.size:=hb.out.size
     clear hts hbw
     go_wp2_with (at_builtin;refine wpList_append_own _ rfl _ _ 23 rfl w2.heap.size 84 i0 _ 2 16 Tryz.underlying23 hi hz0 hz1 hz2 rfl (by decide) u10 r.length (flat r) rfl (World.ownsRow.alloc (World.ownsRow.alloc hrow.out _) _) ⟨wr.heap.size+1,0,none⟩ 1 1 [.int .i64 v,.int .i64 (y*u)] rfl rfl ?c2 ?c3 ?c4 ?c5 ?c6 ?_)
     case c2=>exact fun j z hj=>two_at2 wr _ _ _ _ j z hj
     case c3=>first | exact⟨rfl,rfl⟩ | exact flat_cells [(v,y*u)]
     case c4=>unfold maxLen;omega
     case c5=>omega
     case c6=>simp;omega
     intro v' w4 hown' hgrow _
     have HO:Hid (Row w2.heap.size (scale x la ++ scale y (lb.take (k+1))) v' w4):=by
      show Row _ _ _ _
      rw[HT3.out]
      unfold Row
      rw[List.length_append,flat_append]
      exact hown'
     have HB:Hid (Below w2.heap.size w2 w4):=((hb.out.alloc hzr _).alloc (by simp;omega) _).grown hgrow (by simp;omega) (fun j hj=>(World.ownsRow.lt hrow.out j hj).1)
     clear hown' hgrow hrow
     go_wp2
     go_roundw
     case rel=>exact⟨k+1,by omega,by go_num,HO,HB⟩
     case measure=>simp[intOf];omega
    ·obtain rfl:k=nb:=by omega
     have HF:Hid (Row w2.heap.size (scale x la ++ scale y lb) u10 wr):=by
      have:=hrow.out
      rwa [List.take_of_length_le (by rw[HNB.out];exact Nat.le_refl _)]at this
     obtain⟨a5,cap5,rfl,_,_⟩:=HF.out.lies
     have hlen5:(scale x la ++ scale y lb).length≤8192:=by rw[List.length_append,scale_len,scale_len,HNA.out,HNB.out];omega
     have T5:=Lib.hid (T2.out.below hb.out T2.out.lt)
     obtain⟨l5,a50,a51,b50,b51,r50,r51,rf5,_⟩:=T5.out
     have hcon:=HG.out a5 _ cap5 wr w2.heap.size rfl HF.out hb.out.size hlen5
     rw[List.length_append]at hcon
     clear hrow
     go_wp2_with fail
     refine hcon.mono ?_
     rintro e w7 ⟨rfl,hb7⟩
     have T7:=Lib.hid (T5.out.below hb7 T2.out.lt)
     clear hcon hb7 a50 a51 b50 b51 r50 r51 rf5 l5
     obtain⟨l7,_,_,_,_,r70,r71,rf7,bel7⟩:=T7.out
     have hbf:=(bel7.setCell (p:=⟨w.heap.size+2,0,none⟩) (Nat.le_add_right _ _) (.int .i64 0)).setCell (p:=⟨w.heap.size+2,1,none⟩) (Nat.le_add_right _ _) (.slice none 0 0)
     obtain⟨e0,e1⟩:=res_cells w7 (w.heap.size+2) (.int .i64 0) (.slice none 0 0) _ _ r70 r71
     clear bel7
     go_wp2_with fail
     refine bodyPost_ret (v:= .tuple #[.agg #[.int .i64 0,.slice none 0 0],.iface 89 (.int .i64 j)]) ?_ rfl ⟨rfl,hbf⟩
     clear r70 r71 rf7
     simp[results,Tryz.results56,go_sem,e0,e1]
end Lf
namespace Lf
open Go.RowKit
theorem snd_of_sum {c:Int}{l R:List (Int×Int)}(h:IsSum l R)(hc:wi c 1073741824=true)(hk:∀m∈R,wi m.2 1073741824=true)(h64:R.length≤64)(hV:∀m∈l,0≤m.1∧m.1<1048576):snd c R=true:=by
 refine snd_iff.2 ⟨hc,h64,fun i hi=>okAt_mk ?_⟩
 have hmem:R.getD i (0,0)∈R:=by rw[List.getD_eq_getElem?_getD,List.getElem?_eq_getElem hi];simp
 obtain⟨x,hx,hxe⟩:=h.comes hmem
 have hv:=hV x hx
 have hw:=hk _ hmem
 unfold wi at hw
 have hw: -1073741824≤(R.getD i (0,0)).2∧(R.getD i (0,0)).2≤1073741824:=by simpa using hw
 refine⟨?_,h.nz _ hmem,by omega,by omega,hw.1,hw.2⟩
 by_cases h0:i=0
 ·subst h0;rw[lastAt_zero];omega
 ·obtain⟨j,rfl⟩:∃j,i=j+1:=⟨i - 1,by omega⟩
  rw[lastAt_succ]
  have:=List.pairwise_iff_getElem.1 h.up j (j+1) (by omega) hi (by omega)
  rw[List.getD_eq_getElem?_getD,List.getElem?_eq_getElem (show j<R.length by omega),List.getD_eq_getElem?_getD,List.getElem?_eq_getElem hi]
  simpa using this
end Lf
namespace Lf
def nvStep (L v:Int)(m:Int×Int):Int:=if L<m.1∧(v<0∨m.1<v) then m.1 else v
def nv (L:Int)(l:List (Int×Int)):Int:=l.foldl (nvStep L) (-1)
theorem nv_snoc (L:Int)(l:List (Int×Int))(m:Int×Int):nv L (l ++ [m])=nvStep L (nv L l) m:=by unfold nv;rw[List.foldl_append];rfl
theorem nv_spec (L:Int)(l:List (Int×Int))(hV:∀m∈l,0≤m.1∧m.1<1048576):∀k,k≤l.length→
 (nv L (l.take k)= -1∧∀m∈l.take k,m.1≤L)∨(0≤nv L (l.take k)∧nv L (l.take k)<1048576∧L<nv L (l.take k)∧∀m∈l.take k,L<m.1→nv L (l.take k)≤m.1)
 | 0,_=> .inl ⟨by simp[nv],fun m hm=>by simp at hm⟩
 | k+1,hk=>by
   have hm:=hV (l.getD k (0,0)) (by rw[List.getD_eq_getElem?_getD,List.getElem?_eq_getElem (by omega)];simp)
   have ih:=nv_spec L l hV k (by omega)
   rw[take_snoc l k (by omega),nv_snoc]
   generalize l.getD k (0,0)=m at hm
   generalize nv L (l.take k)=v at ih
   unfold nvStep
   by_cases c:L<m.1∧(v<0∨m.1<v)
   ·rw[if_pos c]
    refine .inr ⟨hm.1,hm.2,c.1,fun x hx hxL=> ?_⟩
    rcases List.mem_append.1 hx with hx | hx
    ·rcases ih with ⟨_,h2⟩ | ⟨_,_,_,h4⟩
     ·have:=h2 x hx;omega
     ·have:=h4 x hx hxL;omega
    ·simp at hx;subst hx;exact Int.le_refl _
   ·rw[if_neg c]
    rcases ih with ⟨h1,h2⟩ | ⟨h1,h2,h3,h4⟩
    ·refine .inl ⟨h1,fun x hx=> ?_⟩
     rcases List.mem_append.1 hx with hx | hx
     ·exact h2 x hx
     ·simp at hx;subst hx;omega
    ·refine .inr ⟨h1,h2,h3,fun x hx hxL=> ?_⟩
     rcases List.mem_append.1 hx with hx | hx
     ·exact h4 x hx hxL
     ·simp at hx;subst hx;omega
def upTo (R:List (Int×Int))(L:Int):List (Int×Int):=R.filter fun m=>decide (m.1≤L)
theorem upTo_up {R:List (Int×Int)}(h:Up R)(L:Int):Up (upTo R L):=h.filter _
theorem coef_upTo (R:List (Int×Int))(L v:Int):coef (upTo R L) v=if v≤L then coef R v else 0:=by
 induction R with
 | nil=>simp[upTo,coef]
 | cons m r ih=>
   unfold upTo at ih⊢
   by_cases hm:m.1≤L
   ·rw[List.filter_cons_of_pos (by simp[hm]),coef_cons,ih,coef_cons]
    by_cases hv:m.1=v
    ·subst hv;simp[hm]
    ·by_cases hvL:v≤L<;>simp[hv,hvL]
   ·rw[List.filter_cons_of_neg (by simp[hm]),ih,coef_cons]
    by_cases hv:m.1=v
    ·subst hv;simp[hm]
    ·simp[hv]
theorem upTo_start {l R:List (Int×Int)}(hR:IsSum l R)(hV:∀m∈l,0≤m.1∧m.1<1048576):upTo R (-1)=[]:=by
 unfold upTo
 rw[List.filter_eq_nil_iff]
 intro m hm
 obtain⟨x,hx,hxe⟩:=hR.comes hm
 have:=hV x hx
 simp;omega
theorem upTo_end {l R:List (Int×Int)}(hR:IsSum l R){L:Int}(h:∀m∈l,m.1≤L):upTo R L=R:=by
 unfold upTo
 rw[List.filter_eq_self]
 intro m hm
 obtain⟨x,hx,hxe⟩:=hR.comes hm
 have:=h x hx
 simp;omega
theorem upTo_step {l R:List (Int×Int)}(hR:IsSum l R){L v:Int}(hLv:L<v)(h:∀m∈l,L<m.1→v≤m.1):
 upTo R v=upTo R L ++ (if coef l v=0 then[] else[(v,coef l v)]):=by
 have hnz:∀m∈upTo R v,m.2≠0:=fun m hm=>hR.nz m (List.mem_filter.1 hm).1
 have hnz':∀m∈upTo R L ++ (if coef l v=0 then[] else[(v,coef l v)]),m.2≠0:=fun m hm=>by
  rcases List.mem_append.1 hm with hm | hm
  ·exact hR.nz m (List.mem_filter.1 hm).1
  ·by_cases e:coef l v=0
   ·rw[if_pos e]at hm;cases hm
   ·rw[if_neg e]at hm;simp at hm;subst hm;exact e
 refine sum_unique (upTo_up hR.up v) ?_ hnz hnz' fun u=> ?_
 ·refine List.pairwise_append.2 ⟨upTo_up hR.up L, ?_,fun a ha b hb=> ?_⟩
  ·by_cases e:coef l v=0<;>simp[e]
  ·have ha:=(List.mem_filter.1 ha).2
   simp only[decide_eq_true_eq]at ha
   by_cases e:coef l v=0
   ·rw[if_pos e]at hb;cases hb
   ·rw[if_neg e]at hb;simp at hb;subst hb;show a.1<v;omega
 ·rw[coef_append,coef_upTo,coef_upTo,hR.eq]
  by_cases hu:u≤L
  ·have h1:u≤v:=by omega
   have h2:¬v=u:=by omega
   rw[if_pos h1,if_pos hu]
   by_cases e:coef l v=0
   ·rw[if_pos e,coef_nil];omega
   ·rw[if_neg e,coef_cons,coef_nil,if_neg h2];omega
  ·rw[if_neg hu]
   by_cases huv:u=v
   ·subst huv
    rw[if_pos (Int.le_refl _)]
    by_cases e:coef l u=0
    ·rw[if_pos e,coef_nil,e];rfl
    ·rw[if_neg e,coef_cons,coef_nil,if_pos rfl];omega
   ·have h2:¬v=u:=by omega
    have h4:coef (if coef l v=0 then[] else[(v,coef l v)]) u=0:=by
     by_cases e:coef l v=0
     ·rw[if_pos e];rfl
     ·rw[if_neg e,coef_cons,coef_nil,if_neg h2];rfl
    rw[h4]
    by_cases hle:u≤v
    ·rw[if_pos hle,coef_none (fun x hx hxe=>by have:=h x hx (by omega);omega)];omega
    ·rw[if_neg hle];omega
theorem coef_bd (l:List (Int×Int))(h:Bd 4398046511104 l)(v:Int):∀k,k≤l.length→ -(k*4398046511104:Int)≤coef (l.take k) v∧coef (l.take k) v≤k*4398046511104
 | 0,_=>by simp[coef]
 | k+1,hk=>by
   have h1:=coef_bd l h v k (by omega)
   have h2:=h (l.getD k (0,0)) (by rw[List.getD_eq_getElem?_getD,List.getElem?_eq_getElem (by omega)];simp)
   rw[take_snoc l k (by omega),coef_append,coef_cons,coef_nil]
   split<;>omega
theorem sum_len {l R:List (Int×Int)}(h:IsSum l R):R.length≤l.length:=by
 have hA:Asc (l.mergeSort fun a b=>decide (a.1≤b.1)):=by
  intro i j hij hj
  have hs:=List.pairwise_mergeSort (le:=fun a b:Int×Int=>decide (a.1≤b.1)) (fun a b c h1 h2=>by simp at *; omega) (fun a b=>by simp;omega) l
  have:=List.pairwise_iff_getElem.1 hs i j (by omega) hj hij
  simp only[List.getD_eq_getElem?_getD]
  rw[List.getElem?_eq_getElem hj,List.getElem?_eq_getElem (by omega)]
  simpa using this
 rw[h.unique ((tog_isSum _ hA).perm (List.mergeSort_perm _ _))]
 refine Nat.le_trans (List.length_filter_le _ _) ?_
 have:=tog_len (l.mergeSort fun a b=>decide (a.1≤b.1)) _ (Nat.le_refl _)
 rw[List.take_length]at this
 rwa [List.length_mergeSort]at this
def okTo (R:List (Int×Int))(L:Int):Bool:=(upTo R L).all fun m=>wi m.2 1073741824
end Lf
namespace Lf
open Go.RowKit
structure SumAt (w W:World)(N:Nat)(c:Int)(T:List (Int×Int)):Prop where
 lt:N+1<W.heap.size
 r0:W.cell? ⟨N,0,none⟩=some (.int .i64 0)
 r1:W.cell? ⟨N,1,none⟩=some (.slice none 0 0)
 rf:∀o,W.frozen? ⟨N,o,none⟩=false
 o0:W.cell? ⟨N+1,0,none⟩=some (.int .i64 c)
 o1:∃v,W.cell? ⟨N+1,1,none⟩=some v∧Row (N+2) T v W
 ofr:∀o,W.frozen? ⟨N+1,o,none⟩=false
 bel:Below N w W
theorem sum_start (w:World)(c:Int):SumAt w ((w.alloc (.cells #[.int .i64 0,.slice none 0 0] 25)).alloc (.cells #[.int .i64 c,.slice none 0 0] 25)) w.heap.size c []:=
 ⟨by simp,by simp[go_sem],by simp[go_sem],fun o=>by simp[go_sem],by simp[go_sem],⟨.slice none 0 0,by simp[go_sem],World.ownsRow_nil _ _ _ _⟩,fun o=>by simp[go_sem],((Below.refl _ w).alloc (Nat.le_refl _) _).alloc (by simp) _⟩
theorem SumAt.push {w W W1:World}{N:Nat}{c:Int}{T T':List (Int×Int)}{v':Value}(h:SumAt w W N c T)(hb:Below (N+2) W W1)(hrow:Row (N+2) T' v' W1):SumAt w (W1.setCell ⟨N+1,1,none⟩ v') N c T':=by
 have hz:=hb.size
 have hlt:=h.lt
 have e1:=(hb.cell (p:=⟨N+1,1,none⟩) (show N+1<N+2 by omega))
 obtain⟨v,o1,_⟩:=h.o1
 refine⟨by rw[World.size_setCell];omega, ?_, ?_,fun o=> ?_, ?_,⟨v',World.cell?_setCell_same _ _ _ (e1.trans o1),ownsRow_setCell_below hrow (by show N+1<N+2;omega) _⟩,fun o=> ?_,(h.bel.trans (hb.mono (by omega))).setCell (p:=⟨N+1,1,none⟩) (Nat.le_succ _) _⟩
 ·rw[World.cell?_setCell_other _ _ _ _ (by simp)];exact(hb.cell (p:=⟨N,0,none⟩) (show N<N+2 by omega)).trans h.r0
 ·rw[World.cell?_setCell_other _ _ _ _ (by simp)];exact(hb.cell (p:=⟨N,1,none⟩) (show N<N+2 by omega)).trans h.r1
 ·rw[World.frozen?_setCell];exact(hb.frozen (p:=⟨N,o,none⟩) (show N<N+2 by omega)).trans (h.rf o)
 ·rw[World.cell?_setCell_other _ _ _ _ (by simp)];exact(hb.cell (p:=⟨N+1,0,none⟩) (show N+1<N+2 by omega)).trans h.o0
 ·rw[World.frozen?_setCell];exact(hb.frozen (p:=⟨N+1,o,none⟩) (show N+1<N+2 by omega)).trans (h.ofr o)
def farB (c:Int)(R:List (Int×Int))(L:Int):Bool:= !(wi c 1073741824 && okTo R L)
def RSum (c:Int)(R:List (Int×Int))(B:Nat)(w:World)(e:Ending)(w':World):Prop:=
 Below B w w'∧if farB c R 1048576=true then e= .returned (.tuple #[.agg #[.int .i64 0,.slice none 0 0],.int .i64 3])
  else if 64<R.length then e= .returned (.tuple #[.agg #[.int .i64 0,.slice none 0 0],.int .i64 2])
  else ∃v,e= .returned (.tuple #[.agg #[.int .i64 c,v],.int .i64 0])∧Row B R v w'
theorem rsum_any (c:Int)(a:Option Addr)(n cap:Nat)(l R:List (Int×Int))(w:World)(hn:l.length=n)(hm:n≤8192)(hl:Lies w.heap.size w a l)(hbd:Bd 4398046511104 l)(hV:∀m∈l,0≤m.1∧m.1<1048576)(hR:IsSum l R):
 Calls Tryz.prog 61 #[.int .i64 c,.slice a n cap] w (RSum c R w.heap.size w):=by
 obtain⟨i0,hi,hz0,hz1,hz2⟩:=info_parts Tryz.infoMono
 have hco:=fun W=>coef_any c W
 have HN:=Lib.hid hn
 have HL:=Lib.hid hl
 have HBD:=Lib.hid hbd
 have HV:=Lib.hid hV
 have HR:=Lib.hid hR
 have S0:=Lib.hid (sum_start w c)
 have HF0:Hid ((!(wi c 1073741824))=farB c R (-1)):=by
  show _=_
  unfold farB okTo
  rw[upTo_start hR hV];simp
 clear hn hl hbd hV hR
 generalize hwc:wi c 1073741824=wc at hco HF0
 clear hwc
 go_enter Tryz.func61,Tryz.ntmps61
 go_wp2_with (go_at_call 59;refine(hco _).mono ?_;rintro e w' ⟨rfl,rfl⟩)
 go_loopw [7,8] (fun far last wr=>∃L:Int, -1≤L∧L<1048576∧last= .int .i64 L∧far= .bool (farB c R L)∧Hid (SumAt w wr w.heap.size c (upTo R L))) (fun _ last _=>(1048576 - intOf last).toNat)
 case atStart=>exact⟨-1,by omega,by omega,rfl,by rw[HF0.out],by show SumAt _ _ _ _ _;rw[upTo_start HR.out HV.out];exact S0.out⟩
 case round=>
  obtain⟨L,hL1,hL2,rfl,rfl,hS⟩:=hrel
  generalize hfb:farB c R L=fb
  have HFB:=Lib.hid hfb
  clear hfb
  obtain⟨wo,rfl⟩:∃wo:World,wo=wr:=⟨_,rfl⟩
  go_wp2_with fail
  go_loop [9,10] (fun v i=>∃k:Nat,k≤n∧i= .int .i64 k∧v= .int .i64 (nv L (l.take k))) (fun _ i=>n - (intOf i).toNat)
  case atStart=>exact⟨0,Nat.zero_le _,rfl,rfl⟩
  case round=>
   obtain⟨k,hk,rfl,rfl⟩:=hrel
   by_cases hlt:k<n
   ·obtain⟨b,off,rfl,hblt,c1,c2⟩:=(HL.out.below hS.out.bel) k (by rw[HN.out];exact hlt)
    have hst:=nv_snoc L (l.take k) (l.getD k (0,0))
    rw[←take_snoc l k (by rw[HN.out];exact hlt)]at hst
    unfold nvStep at hst
    generalize nv L (l.take k)=v at hst
    generalize (l.getD k (0,0)).1=x at c1 hst
    by_cases tA:L<x
    ·by_cases tB:v<0
     ·have HT:Hid (nv L (l.take (k+1))=x):=hst.trans (if_pos ⟨tA,.inl tB⟩)
      clear hst c2
      go_wp2_with fail
      go_round
      case rel=>exact⟨k+1,by omega,by go_num,by rw[HT.out]⟩
      case measure=>simp[intOf];omega
     ·by_cases tC:x<v
      ·have HT:Hid (nv L (l.take (k+1))=x):=hst.trans (if_pos ⟨tA,.inr tC⟩)
       clear hst c2
       go_wp2_with fail
       go_round
       case rel=>exact⟨k+1,by omega,by go_num,by rw[HT.out]⟩
       case measure=>simp[intOf];omega
      ·have HT:Hid (nv L (l.take (k+1))=v):=hst.trans (if_neg (by omega))
       clear hst c2
       go_wp2_with fail
       go_round
       case rel=>exact⟨k+1,by omega,by go_num,by rw[HT.out]⟩
       case measure=>simp[intOf];omega
    ·have HT:Hid (nv L (l.take (k+1))=v):=hst.trans (if_neg (by omega))
     clear hst c2
     go_wp2_with fail
     go_round
     case rel=>exact⟨k+1,by omega,by go_num,by rw[HT.out]⟩
     case measure=>simp[intOf];omega
   ·have hkn:k=l.length:=by rw[HN.out];omega
    have hsp:=nv_spec L l HV.out l.length (Nat.le_refl _)
    rw[List.take_length]at hsp
    rw[show l.take k=l by rw[hkn];exact List.take_length]
    generalize hv:nv L l=v at hsp
    clear hkn hv
    rcases hsp with ⟨rfl,hend⟩ | ⟨hv0,hv1,hvL,hmin⟩
    ·obtain⟨l1,r0,r1,rf,o0,⟨v1,o1,hrow⟩,ofr,bel⟩:=hS.out
     have hup:upTo R L=R:=upTo_end HR.out hend
     have hfar:farB c R 1048576=fb:=by
      rw[←HFB.out]
      unfold farB okTo
      rw[hup,upTo_end HR.out (fun m hm=>by have:=HV.out m hm;omega)]
     rw[hup]at hrow
     obtain⟨a1,cap1,rfl,_,_⟩:=hrow.lies
     have hrowf:∀x y,Row w.heap.size R (.slice a1 R.length cap1) ((wo.setCell ⟨w.heap.size,0,none⟩ x).setCell ⟨w.heap.size,1,none⟩ y):=fun x y=>
      Row.mono (ownsRow_setCell_below (ownsRow_setCell_below hrow (by simp) _) (by simp) _) (by omega)
     have hbf:∀x y,Below w.heap.size w ((wo.setCell ⟨w.heap.size,0,none⟩ x).setCell ⟨w.heap.size,1,none⟩ y):=fun x y=>
      (bel.setCell (p:=⟨w.heap.size,0,none⟩) (Nat.le_refl _) x).setCell (p:=⟨w.heap.size,1,none⟩) (Nat.le_refl _) y
     have hres:=fun x y=>res_cells wo w.heap.size x y _ _ r0 r1
     have HRF:=Lib.hid hrowf
     have HBF:=Lib.hid hbf
     have HRES:=Lib.hid hres
     clear hend hup hrow hrowf hbf hres bel HFB
     cases fb with
     | true=>
       go_wp2_with fail
       refine bodyPost_ret (v:= .tuple #[.agg #[.int .i64 0,.slice none 0 0],.int .i64 3]) ?_ rfl ⟨HBF.out _ _,by rw[if_pos hfar]⟩
       obtain⟨e0,e1⟩:=HRES.out (.int .i64 0) (.slice none 0 0)
       clear r0 r1 rf o0 o1 ofr
       simp[results,Tryz.results61,go_sem,e0,e1]
     | false=>
       by_cases h64:64<R.length
       ·go_wp2_with fail
        refine bodyPost_ret (v:= .tuple #[.agg #[.int .i64 0,.slice none 0 0],.int .i64 2]) ?_ rfl ⟨HBF.out _ _,by rw[if_neg (by rw[hfar];decide),if_pos h64]⟩
        obtain⟨e0,e1⟩:=HRES.out (.int .i64 0) (.slice none 0 0)
        clear r0 r1 rf o0 o1 ofr
        simp[results,Tryz.results61,go_sem,e0,e1]
       ·go_wp2_with fail
        refine bodyPost_ret (v:= .tuple #[.agg #[.int .i64 c,.slice a1 R.length cap1],.int .i64 0]) ?_ rfl ⟨HBF.out _ _,by rw[if_neg (by rw[hfar];decide),if_neg h64];exact⟨_,rfl,HRF.out _ _⟩⟩
        obtain⟨e0,e1⟩:=HRES.out (.int .i64 c) (.slice a1 R.length cap1)
        clear r0 r1 rf o0 o1 ofr
        simp[results,Tryz.results61,go_sem,e0,e1]
    ·obtain⟨l1,r0,r1,rf,o0,⟨v1,o1,hrow⟩,ofr,bel⟩:=hS.out
     have HCB:=Lib.hid (coef_bd l HBD.out v)
     have HST:=Lib.hid (upTo_step HR.out hvL hmin)
     have HBEL:=Lib.hid bel
     have HROW:=Lib.hid hrow
     have HSL:=Lib.hid hS.out
     clear hmin bel hrow
     go_wp2_with fail
     go_loop [11,12] (fun s i=>∃k:Nat,k≤n∧i= .int .i64 k∧s= .int .i64 (coef (l.take k) v)) (fun _ i=>n - (intOf i).toNat)
     case atStart=>exact⟨0,Nat.zero_le _,rfl,rfl⟩
     case round=>
      obtain⟨k,hk,rfl,rfl⟩:=hrel
      by_cases hlt:k<n
      ·obtain⟨b,off,rfl,hblt,c1,c2⟩:=(HL.out.below HBEL.out) k (by rw[HN.out];exact hlt)
       have hs:=HCB.out k (by rw[HN.out];omega)
       have hts:=take_snoc l k (by rw[HN.out];exact hlt)
       have hkb:=HBD.out (l.getD k (0,0)) (by rw[List.getD_eq_getElem?_getD,List.getElem?_eq_getElem (by rw[HN.out];exact hlt)];simp)
       have HT:Hid (coef (l.take (k+1)) v=coef (l.take k) v+if(l.getD k (0,0)).1=v then(l.getD k (0,0)).2 else 0):=by
        show _=_
        rw[hts,coef_append,coef_cons,coef_nil];omega
       have hs2: -36028797018963968≤coef (l.take k) v∧coef (l.take k) v≤36028797018963968:=by omega
       clear hs hts
       generalize (l.getD k (0,0)).1=x at c1 HT
       generalize (l.getD k (0,0)).2=u at c2 HT hkb
       generalize coef (l.take k) v=s at HT hs2
       by_cases hx:x=v
       ·have HT2:Hid (coef (l.take (k+1)) v=s+u):=HT.out.trans (by rw[if_pos hx])
        clear HT
        go_wp2_with fail
        go_round
        case rel=>exact⟨k+1,by omega,by go_num,by rw[HT2.out]⟩
        case measure=>simp[intOf];omega
       ·have HT2:Hid (coef (l.take (k+1)) v=s):=HT.out.trans (by rw[if_neg hx];omega)
        clear HT c2
        go_wp2_with fail
        go_round
        case rel=>exact⟨k+1,by omega,by go_num,by rw[HT2.out]⟩
        case measure=>simp[intOf];omega
      ·have hkn:k=l.length:=by rw[HN.out];omega
       have hKb:=HCB.out l.length (Nat.le_refl _)
       rw[List.take_length]at hKb
       rw[show l.take k=l by rw[hkn];exact List.take_length]
       have hKb2: -36028797018963968≤coef l v∧coef l v≤36028797018963968:=by have:=HN.out;omega
       clear hKb hkn
       generalize coef l v=K at hKb2 HST
       have hcK:=fun W=>coef_any K W
       by_cases hK:K=0
       ·subst hK
        have hstep:upTo R v=upTo R L:=by rw[HST.out];simp
        have HF:Hid (farB c R v=fb):=by show _=_;rw[←HFB.out];unfold farB okTo;rw[hstep]
        have HS2:Hid (SumAt w wo w.heap.size c (upTo R v)):=by show SumAt _ _ _ _ _;rw[hstep];exact HSL.out
        clear hstep
        rw[show wi 0 1073741824=true from by decide]at hcK
        go_wp2_with (go_at_call 59;refine(hcK _).mono ?_;rintro e w' ⟨rfl,rfl⟩)
        go_roundw
        case rel=>exact⟨v,by omega,hv1,rfl,by rw[HF.out],HS2⟩
        case measure=>simp[intOf];omega
       ·have hstep:upTo R v=upTo R L ++ [(v,K)]:=by rw[HST.out,if_neg hK]
        have hKne:(K != 0)=true:=by simpa using hK
        have hlen:(upTo R L).length≤8192:=by
         have h1:=List.length_filter_le (fun m:Int×Int=>decide (m.1≤L)) R
         have h2:=sum_len HR.out
         have h3:=HN.out
         unfold upTo;omega
        have HF:Hid (farB c R v= !(!fb && wi K 1073741824)):=by
         show _=_
         rw[←HFB.out]
         unfold farB okTo
         rw[hstep,List.all_append]
         cases wi c 1073741824<;>cases ((upTo R L).all fun m=>wi m.2 1073741824)<;>cases h:wi K 1073741824<;>simp[h]
        have HST2:=Lib.hid hstep
        generalize upTo R L=r at hlen HROW HST2
        clear hstep HST HCB
        generalize wi K 1073741824=wk at hcK HF
        go_wp2_with (at_builtin;refine wpList_append_own _ rfl _ _ 23 rfl (w.heap.size+2) 84 i0 _ 2 16 Tryz.underlying23 hi hz0 hz1 hz2 rfl (by decide) v1 r.length (flat r) rfl (World.ownsRow.alloc HROW.out _) ⟨wo.heap.size,0,none⟩ 1 1 [.int .i64 v,.int .i64 K] rfl rfl ?c2 ?c3 ?c4 ?c5 ?c6 ?_)
        case c3=>exact⟨rfl,rfl⟩
        case c4=>unfold maxLen;omega
        case c5=>omega
        case c6=>omega
        intro v' w1 hown' hgrow _
        have HB1:Hid (Below (w.heap.size+2) wo w1):=((Below.refl (w.heap.size+2) wo).alloc (by omega) _).grown hgrow (by simp;omega) (fun j hj=>(World.ownsRow.lt HROW.out j hj).1)
        have HO:Hid (Row (w.heap.size+2) (upTo R v) v' w1):=by
         show Row _ _ _ _
         rw[HST2.out]
         unfold Row
         rw[List.length_append,flat_append]
         exact hown'
        obtain⟨a9,cap9,rfl,_,_⟩:=HO.out.lies
        have HS2:=Lib.hid (HSL.out.push HB1.out HO.out)
        have p1:w1.cell? ⟨w.heap.size+1,1,none⟩=some v1:=(HB1.out.cell (p:=⟨w.heap.size+1,1,none⟩) (show w.heap.size+1<w.heap.size+2 by omega)).trans o1
        have pf:∀o,w1.frozen? ⟨w.heap.size+1,o,none⟩=false:=fun o=>(HB1.out.frozen (p:=⟨w.heap.size+1,o,none⟩) (show w.heap.size+1<w.heap.size+2 by omega)).trans (ofr o)
        have pz:w.heap.size+1<w1.heap.size:=by have:=HB1.out.size;omega
        clear hown' hgrow
        cases wk with
        | true=>
          have HF2:Hid (farB c R v=fb):=HF.out.trans (by cases fb<;>rfl)
          go_wp2_with (go_at_call 59;refine(hcK _).mono ?_;rintro e w' ⟨rfl,rfl⟩)
          go_roundw
          case rel=>exact⟨v,by omega,hv1,rfl,by rw[HF2.out],HS2⟩
          case measure=>simp[intOf];omega
        | false=>
          have HF2:Hid (farB c R v=true):=HF.out.trans (by cases fb<;>rfl)
          go_wp2_with (go_at_call 59;refine(hcK _).mono ?_;rintro e w' ⟨rfl,rfl⟩)
          go_roundw
          case rel=>exact⟨v,by omega,hv1,rfl,by rw[HF2.out],HS2⟩
          case measure=>simp[intOf];omega
end Lf
namespace Lf
open Go.RowKit
attribute [local go_sem ↓] Go.wp_at_zero Go.wp_at_succ
theorem rtimes_any (c x:Int)(a:Option Addr)(n cap:Nat)(l:List (Int×Int))(w:World)(hn:l.length=n)(hm:n≤64)(hl:Lies w.heap.size w a l)(hxk:∀m∈l, -4398046511104≤x*m.2∧x*m.2≤4398046511104):
 Calls Tryz.prog 60 #[.agg #[.int .i64 c,.slice a n cap],.int .i64 x] w (RowEnd w.heap.size (scale x l) w):=by
 obtain⟨i0,hi,hz0,hz1,hz2⟩:=info_parts Tryz.infoMono
 have HN:=Lib.hid hn
 have HL:=Lib.hid hl
 have HX:=Lib.hid hxk
 have HB0:Hid (Below (w.heap.size+1) (w.alloc (.cells #[.int .i64 c,.slice a n cap] 25)) (w.alloc (.cells #[.int .i64 c,.slice a n cap] 25))):=Below.refl _ _
 clear hn hl hxk
 go_enter Tryz.func60,Tryz.ntmps60
 go_wp2_with fail
 go_loopw [5,6] (fun s i wr=>∃k:Nat,k≤n∧i= .int .i64 k∧Hid (Row (w.heap.size+1) (scale x (l.take k)) s wr)∧Hid (Below (w.heap.size+1) (w.alloc (.cells #[.int .i64 c,.slice a n cap] 25)) wr)) (fun _ i _=>n - (intOf i).toNat)
 case atStart=>exact⟨0,Nat.zero_le _,rfl,World.ownsRow_nil _ _ _ _,HB0⟩
 case round=>
  obtain⟨k,hk,rfl,hrow,hb⟩:=hrel
  have hbw:Below w.heap.size w wr:=((Below.refl _ w).alloc (Nat.le_refl _) _).trans (hb.out.mono (by omega))
  have g0:wr.cell? ⟨w.heap.size,0,none⟩=some (.int .i64 c):=by rw[hb.out.cell (p:=⟨w.heap.size,0,none⟩) (by simp)];simp
  have g1:wr.cell? ⟨w.heap.size,1,none⟩=some (.slice a n cap):=by rw[hb.out.cell (p:=⟨w.heap.size,1,none⟩) (by simp)];simp
  have gz:w.heap.size<wr.heap.size:=by have:=hb.out.size;simp at this;omega
  obtain⟨wo,rfl⟩:∃wo:World,wo=wr:=⟨_,rfl⟩
  by_cases hlt:k<n
  ·obtain⟨b,off,rfl,hblt,c1,c2⟩:=(HL.out.below hbw) k (by rw[HN.out];exact hlt)
   have hts:=take_snoc l k (by rw[HN.out];exact hlt)
   have hm2:=HX.out (l.getD k (0,0)) (by rw[List.getD_eq_getElem?_getD,List.getElem?_eq_getElem (by rw[HN.out];exact hlt)];simp)
   have hrl:(scale x (l.take k)).length≤128:=by rw[scale_len,List.length_take];omega
   have HT3:Hid (scale x (l.take (k+1))=scale x (l.take k) ++ [((l.getD k (0,0)).1,x*(l.getD k (0,0)).2)]):=by
    show _=_
    rw[hts,scale_snoc]
   have HBW:=Lib.hid hbw
   generalize (l.getD k (0,0)).1=v at c1 HT3
   generalize (l.getD k (0,0)).2=u at c2 HT3 hm2
   generalize scale x (l.take k)=r at hrow hrl HT3
   clear hts hbw
   have hzr:w.heap.size+1≤wo.heap.size:=by omega
   have hown:=hrow.out
   unfold Row at hown
   have al:u5.ownBlock≠some w.heap.size:=fun e=>by have:=(World.ownsRow.lt hown _ e).1;omega
   have ab:u5.ownBlock≠some b:=fun e=>by have:=(World.ownsRow.lt hown _ e).1;omega
   have hk0:(0:Int)≤(k:Int):=Int.natCast_nonneg _
   have hk1:(k:Int)<(n:Int):=by omega
   have hw1:IntKind.i64.wrap (x*u)=x*u:=IntWalk.i64_in _ (by omega)
   go_wp2_with fail
   go_region_held3 (fun w'=>w'.cell? ⟨w.heap.size,1,none⟩=some (.slice (some ⟨b,off,none⟩) n cap)∧w'.cell? ⟨b,off+k*2,none⟩=some (.int .i64 v)∧w'.cell? ⟨b,off+k*2+1,none⟩=some (.int .i64 u))
    (first
      | go_keep
      | (go_split_ands
         refine⟨?_, ?_, ?_⟩
         ·(rw[hgrow.cell_far _ (by simp;omega) (Ne.symm al)];assumption)
         ·(rw[hgrow.cell_far _ (by simp;omega) (Ne.symm ab)];assumption)
         ·(rw[hgrow.cell_far _ (by simp;omega) (Ne.symm ab)];assumption)))
    ((refine step_append_lies _ (by rfl) _ _ _ (by rfl) (w.heap.size+1) 84 i0 _ 2 16 Tryz.underlying23 hi hz0 hz1 hz2 rfl (by omega) u5 r.length (flat r) (by rfl) ((hown.alloc _).drew)
       ⟨wo.heap.size,0,none⟩ 1 1 [.int .i64 v,.int .i64 (x*u)] (by rfl) (by rfl) (World.news_of_block (cs:= #[.int .i64 v,.int .i64 (x*u)]) (t:=84) (fr:=(0,0)) (heap_alloc_new wo _)) (by simp[Value.oneCell'])
       (by omega) (by unfold maxLen;omega) (by omega) (by simp;omega) (wo.heap.size+1) (by simp) ?_;intro gg cap2 w1 hown1 hgrow hat hlt2))
   have HO:Hid (Row (w.heap.size+1) (scale x (l.take (k+1))) (.slice (some ⟨gg,0,none⟩) (r.length+1) cap2) w1):=by
    show Row _ _ _ _
    rw[HT3.out]
    unfold Row
    rw[List.length_append,flat_append]
    exact hown1
   have HB:Hid (Below (w.heap.size+1) (w.alloc (.cells #[.int .i64 c,.slice (some ⟨b,off,none⟩) n cap] 25)) w1):=((hb.out.alloc hzr _).drew).grown hgrow (by simp;omega) (fun j hj=>(World.ownsRow.lt hown j hj).1)
   clear hown1 hgrow hrow hown
   go_wp2
   go_roundw
   case rel=>exact⟨k+1,by omega,by go_num,HO,HB⟩
   case measure=>simp[intOf];omega
  ·have HF:Hid (Row (w.heap.size+1) (scale x l) u5 wo):=by
    have:=hrow.out
    rwa [List.take_of_length_le (by rw[HN.out];omega)]at this
   have HBW:=Lib.hid hbw
   clear hrow hbw
   go_wp2_with fail
   go_ret
   exact⟨_,rfl,HF.out.mono (by omega),HBW.out⟩
end Lf
end Go.Proofs.YtjbkhdbjdahbiaaGreatDoor
