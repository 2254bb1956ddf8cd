/- Parts of a proof. -/
import Derived.Test.YtipahfcaplbifaaGreatDoorQ06
import Derived.Test.YtipahfcaplbifaaGreatDoorQ11
import Derived.Test.YtipahfcaplbifaaGreatDoorQ13
import Derived.Deep.RegionHeld3
import Derived.Deep.AppendLies
import Derived.Deep.DrawnRows
import Derived.Deep.RegionLaw
set_option linter.unusedVariables false
set_option linter.unusedSimpArgs false
set_option maxHeartbeats 60000000
set_option maxRecDepth 100000
namespace Go.Proofs.YtipahfcaplbifaaGreatDoor
section
open Go.RowKit
def scale (x:Int)(l:List (Int×Int)):List (Int×Int):=l.map fun m=>(m.1,x*m.2)
theorem scale_snoc (x:Int)(l:List (Int×Int))(m:Int×Int):scale x (l ++ [m])=scale x l ++ [(m.1,x*m.2)]:=by simp[scale]
theorem scale_len (x:Int)(l:List (Int×Int)):(scale x l).length=l.length:=by simp[scale]
theorem mul_in {x k:Int}(hx: -4096≤x∧x≤4096)(hk: -1073741824≤k∧k≤1073741824): -4398046511104≤x*k∧x*k≤4398046511104:=by
 have h1:(x*k).natAbs≤4096*1073741824:=by
  rw[Int.natAbs_mul];exact Nat.mul_le_mul (by omega) (by omega)
 omega
theorem two_at2 (w:World)(o:Obj)(x y:Value)(t:TypeId):∀j u,[x,y][j]? =some u→((w.alloc o).alloc (.cells #[x,y] t)).cell? ((⟨w.heap.size+1,0,none⟩:Addr).add j)=some u:=by
 intro j u hj
 have h:=cell_two_new' (w.alloc o) x y t j u hj
 have e:(w.alloc o).heap.size=w.heap.size+1:=by simp
 rwa [e]at h
theorem snd_terms {c:Int}{l:List (Int×Int)}(h:snd c l=true):∀m∈l,(0≤m.1∧m.1<1048576)∧ -1073741824≤m.2∧m.2≤1073741824:=fun m hm=>by
 obtain⟨i,hi,rfl⟩:=List.getElem_of_mem hm
 have:=okAt_in ((snd_iff.1 h).2.2 i hi)
 rw[List.getD_eq_getElem?_getD,List.getElem?_eq_getElem hi]at this
 simp only[Option.getD_some]at this
 omega
theorem both_terms {ca cb x y:Int}{la lb:List (Int×Int)}(ha:snd ca la=true)(hb:snd cb lb=true)(hx: -4096≤x∧x≤4096)(hy: -4096≤y∧y≤4096):
 Bd 4398046511104 (scale x la ++ scale y lb)∧∀m∈scale x la ++ scale y lb,0≤m.1∧m.1<1048576:=by
 have h:∀m∈scale x la ++ scale y lb,(0≤m.1∧m.1<1048576)∧ -4398046511104≤m.2∧m.2≤4398046511104:=fun m hm=>by
  rcases List.mem_append.1 hm with hm | hm
  ·obtain⟨p,hp,rfl⟩:=List.mem_map.1 hm
   have:=snd_terms ha p hp
   exact⟨this.1,mul_in hx this.2⟩
  ·obtain⟨p,hp,rfl⟩:=List.mem_map.1 hm
   have:=snd_terms hb p hp
   exact⟨this.1,mul_in hy this.2⟩
 exact⟨fun m hm=>(h m hm).2,fun m hm=>(h m hm).1⟩
structure Three (w W:World)(N:Nat)(ca cb:Int)(a b:Option Addr)(na nb capa capb:Nat):Prop where
 lt:N+2<W.heap.size
 a0:W.cell? ⟨N,0,none⟩=some (.int .i64 ca)
 a1:W.cell? ⟨N,1,none⟩=some (.slice a na capa)
 b0:W.cell? ⟨N+1,0,none⟩=some (.int .i64 cb)
 b1:W.cell? ⟨N+1,1,none⟩=some (.slice b nb capb)
 r0:W.cell? ⟨N+2,0,none⟩=some (.int .i64 0)
 r1:W.cell? ⟨N+2,1,none⟩=some (.slice none 0 0)
 rf:∀o,W.frozen? ⟨N+2,o,none⟩=false
 bel:Below N w W
theorem Three.below {w W W':World}{N B:Nat}{ca cb:Int}{a b:Option Addr}{na nb capa capb:Nat}(h:Three w W N ca cb a b na nb capa capb)(hb:Below B W W')(hB:N+2<B):Three w W' N ca cb a b na nb capa capb:=
 ⟨Nat.lt_of_lt_of_le h.lt hb.size,(hb.cell (p:=⟨N,0,none⟩) (show N<B by omega)).trans h.a0,(hb.cell (p:=⟨N,1,none⟩) (show N<B by omega)).trans h.a1,(hb.cell (p:=⟨N+1,0,none⟩) (show N+1<B by omega)).trans h.b0,(hb.cell (p:=⟨N+1,1,none⟩) (show N+1<B by omega)).trans h.b1,
   (hb.cell (p:=⟨N+2,0,none⟩) hB).trans h.r0,(hb.cell (p:=⟨N+2,1,none⟩) hB).trans h.r1,fun o=>(hb.frozen (p:=⟨N+2,o,none⟩) hB).trans (h.rf o),h.bel.trans (hb.mono (by omega))⟩
theorem three_start (w:World)(ca cb:Int)(a b:Option Addr)(na nb capa capb:Nat):Three w (((w.alloc (.cells #[.int .i64 ca,.slice a na capa] 36)).alloc (.cells #[.int .i64 cb,.slice b nb capb] 36)).alloc (.cells #[.int .i64 0,.slice none 0 0] 36)) w.heap.size ca cb a b na nb capa capb:=
 ⟨by simp,by simp[go_sem],by simp[go_sem],by simp[go_sem],by simp[go_sem],by simp[go_sem],by simp[go_sem],fun o=>by simp[go_sem],(((Below.refl _ w).alloc (Nat.le_refl _) _).alloc (by simp) _).alloc (by simp;omega) _⟩
theorem add_ok (ca cb x y:Int)(a b:Option Addr)(na nb capa capb:Nat)(la lb R:List (Int×Int))(w:World)(hna:la.length=na)(hnb:lb.length=nb)(hla:Lies w.heap.size w a la)(hlb:Lies w.heap.size w b lb)
 (ha:snd ca la=true) (hb:snd cb lb=true) (hx: -4096≤x∧x≤4096) (hy: -4096≤y∧y≤4096)
 (hga:∀(a:Option Addr) (n cap:Nat) (W:World) (B:Nat),(scale x la ++ scale y lb).length=n→Row B (scale x la ++ scale y lb) (.slice a n cap) W→B≤W.heap.size→n≤8192→Calls Tryz.prog 78 #[.int .i64 (x*ca+y*cb),.slice a n cap] W (LinOk B (x*ca+y*cb) R W)):
 Calls Tryz.prog 50 #[.agg #[.int .i64 ca,.slice a na capa],.agg #[.int .i64 cb,.slice b nb capb],.int .i64 x,.int .i64 y] w (LinOk w.heap.size (x*ca+y*cb) R w):=by
 obtain⟨i0,hi,hz0,hz1,hz2⟩:=info_parts Tryz.infoMono
 have hca: -1073741824≤ca∧ca≤1073741824:=by have:=(snd_iff.1 ha).1;unfold wi at this;simpa using this
 have hcb: -1073741824≤cb∧cb≤1073741824:=by have:=(snd_iff.1 hb).1;unfold wi at this;simpa using this
 have m1:=mul_in hx hca
 have m2:=mul_in hy hcb
 have n1:na≤64:=by have:=(snd_iff.1 ha).2.1;omega
 have n2:nb≤64:=by have:=(snd_iff.1 hb).2.1;omega
 have hwx:=fun W=>within_any x 4096 W (by omega) (by omega)
 have hwy:=fun W=>within_any y 4096 W (by omega) (by omega)
 rw[wi_t hx]at hwx
 rw[wi_t hy]at hwy
 have hck1:=fun W (hb:Below w.heap.size w W)=>check_yes ca a na capa la W hna ((hla.below hb).mono hb.size) ha
 have hck2:=fun W (hb':Below w.heap.size w W)=>check_yes cb b nb capb lb W hnb ((hlb.below hb').mono hb'.size) hb
 have HT:=Lib.hid (fun i (hi:i<na)=>snd_terms ha (la.getD i (0,0)) (by rw[List.getD_eq_getElem?_getD,List.getElem?_eq_getElem (by omega)];simp))
 have HT2:=Lib.hid (fun i (hi:i<nb)=>snd_terms hb (lb.getD i (0,0)) (by rw[List.getD_eq_getElem?_getD,List.getElem?_eq_getElem (by omega)];simp))
 have HNA:=Lib.hid hna
 have HNB:=Lib.hid hnb
 have HLA:=Lib.hid hla
 have HLB:=Lib.hid hlb
 have HG:=Lib.hid hga
 have HC1:=Lib.hid hck1
 have HC2:=Lib.hid hck2
 have T0:=Lib.hid (three_start w ca cb a b na nb capa capb)
 clear hna hnb hla hlb ha hb hga hck1 hck2
 go_enter Tryz.func50,Tryz.ntmps50
 go_wp2_with fail
 refine(HC1.out _ T0.out.bel).mono ?_
 rintro e w1 ⟨rfl,hb1⟩
 have T1:=Lib.hid (T0.out.below hb1 T0.out.lt)
 obtain⟨l1,_,_,b10,b11,_,_,_,_⟩:=T1.out
 have l1':w.heap.size+1<w1.heap.size:=by omega
 clear hb1
 go_wp2_with fail
 refine(HC2.out _ T1.out.bel).mono ?_
 rintro e w2 ⟨rfl,hb2⟩
 have T2:=Lib.hid (T1.out.below hb2 T1.out.lt)
 clear hb2 b10 b11 l1 l1'
 obtain⟨l2,a0,a1,b0,b1,r0,r1,rf,_⟩:=T2.out
 go_wp2_with fail
 refine(hwx _).mono ?_
 rintro e w' ⟨rfl,rfl⟩
 go_wp2_with fail
 refine(hwy _).mono ?_
 rintro e w' ⟨rfl,rfl⟩
 go_wp2_with (at_make;refine wpList_make_own _ rfl _ _ 34 rfl w2.heap.size 92 i0 (.agg #[.int .i64 0,.int .i64 0]) 2 Tryz.underlying34 hi hz0 hz1 .i64 .i64 _ (na+nb) rfl rfl (by omega) (by rw[hz2];omega) (by unfold maxLen;omega) (Nat.le_refl _) ?_)
 intro w3 hown3 hgrow3
 have B3:Hid (Below w2.heap.size w2 w3):=(Below.refl _ w2).grown hgrow3 (Nat.le_refl _) (fun k hk=>by cases hk)
 have HO3:Hid (Row w2.heap.size ([] ++ scale x (la.take 0)) (.slice (some ⟨w2.heap.size,0,none⟩) 0 (na+nb)) w3):=by
  show Row _ _ _ _
  simpa [Row,scale,flat]using hown3
 obtain⟨l3,a30,a31,b30,b31,_,_,_,_⟩:=T2.out.below B3.out T2.out.lt
 clear hown3 hgrow3 a0 a1 b0 b1 r0 r1 rf
 go_wp2_with fail
 go_loopw [10,46] (fun s i wr=>∃k:Nat,k≤na∧i= .int .i64 k∧Hid (Row w2.heap.size ([] ++ scale x (la.take k)) s wr)∧Hid (Below w2.heap.size w2 wr)) (fun _ i _=>na - (intOf i).toNat)
 case atStart=>exact⟨0,Nat.zero_le _,rfl,HO3,B3⟩
 case round=>
  obtain⟨k,hk,rfl,hrow,hb⟩:=hrel
  by_cases hlt:k<na
  ·have hbw:Below w.heap.size w wr:=T2.out.bel.trans (hb.out.mono (by omega))
   obtain⟨bb,off,rfl,hblt,c1,c2⟩:=(HLA.out.below hbw) k (by rw[HNA.out];exact hlt)
   have hts:=take_snoc la k (by rw[HNA.out];exact hlt)
   have hm:=mul_in hx (HT.out k hlt).2
   have hrl:([] ++ scale x (la.take k)).length≤128:=by rw[List.length_append,scale_len,List.length_take];simp;omega
   have HT3:Hid ([] ++ scale x (la.take (k+1))=([] ++ scale x (la.take k)) ++ [((la.getD k (0,0)).1,x*(la.getD k (0,0)).2)]):=by
    show _=_
    rw[hts,scale_snoc,List.append_assoc]
   generalize (la.getD k (0,0)).1=v at c1 HT3
   generalize (la.getD k (0,0)).2=u at c2 HT3 hm
   generalize [] ++ scale x (la.take k)=r at hrow hrl HT3
   have hzr:w2.heap.size≤wr.heap.size:=hb.out.size
   clear hts hbw
   go_wp2_with (at_builtin;refine wpList_append_own _ rfl _ _ 34 rfl w2.heap.size 92 i0 _ 2 16 Tryz.underlying34 hi hz0 hz1 hz2 rfl (by decide) u10 r.length (flat r) rfl (World.ownsRow.alloc (World.ownsRow.alloc hrow.out _) _) ⟨wr.heap.size+1,0,none⟩ 1 1 [.int .i64 v,.int .i64 (x*u)] rfl rfl ?c2 ?c3 ?c4 ?c5 ?c6 ?_)
   case c2=>exact fun j z hj=>two_at2 wr _ _ _ _ j z hj
   case c3=>first | exact⟨rfl,rfl⟩ | exact flat_cells [(v,x*u)]
   case c4=>unfold maxLen;omega
   case c5=>omega
   case c6=>simp;omega
   intro v' w4 hown' hgrow _
   have HO:Hid (Row w2.heap.size ([] ++ scale x (la.take (k+1))) v' w4):=by
    show Row _ _ _ _
    rw[HT3.out]
    unfold Row
    rw[List.length_append,flat_append]
    exact hown'
   have HB:Hid (Below w2.heap.size w2 w4):=((hb.out.alloc hzr _).alloc (by simp;omega) _).grown hgrow (by simp;omega) (fun j hj=>(World.ownsRow.lt hrow.out j hj).1)
   clear hown' hgrow hrow
   go_wp2
   go_roundw
   case rel=>exact⟨k+1,by omega,by go_num,HO,HB⟩
   case measure=>simp[intOf];omega
  ·obtain rfl:k=na:=by omega
   have HA1:Hid (Row w2.heap.size (scale x la ++ scale y (lb.take 0)) u10 wr):=by
    have:=hrow.out
    rw[List.nil_append,List.take_of_length_le (by rw[HNA.out];exact Nat.le_refl _)]at this
    show Row _ _ _ _
    simpa [scale]using this
   obtain⟨l4,a40,a41,b40,b41,r40,r41,rf4,_⟩:=T2.out.below hb.out T2.out.lt
   clear hrow a30 a31 b30 b31
   go_wp2_with fail
   go_loopw [10,64] (fun s i wr=>∃k:Nat,k≤nb∧i= .int .i64 k∧Hid (Row w2.heap.size (scale x la ++ scale y (lb.take k)) s wr)∧Hid (Below w2.heap.size w2 wr)) (fun _ i _=>nb - (intOf i).toNat)
   case atStart=>exact⟨0,Nat.zero_le _,rfl,HA1,hb⟩
   case round=>
    obtain⟨k,hk,rfl,hrow,hb⟩:=hrel
    by_cases hlt:k<nb
    ·have hbw:Below w.heap.size w wr:=T2.out.bel.trans (hb.out.mono (by omega))
     obtain⟨bb,off,rfl,hblt,c1,c2⟩:=(HLB.out.below hbw) k (by rw[HNB.out];exact hlt)
     have hts:=take_snoc lb k (by rw[HNB.out];exact hlt)
     have hm:=mul_in hy (HT2.out k hlt).2
     have hrl:(scale x la ++ scale y (lb.take k)).length≤128:=by have:=HNA.out;simp[scale_len];omega
     have HT3:Hid (scale x la ++ scale y (lb.take (k+1))=(scale x la ++ scale y (lb.take k)) ++ [((lb.getD k (0,0)).1,y*(lb.getD k (0,0)).2)]):=by
      show _=_
      rw[hts,scale_snoc,List.append_assoc]
     generalize (lb.getD k (0,0)).1=v at c1 HT3
     generalize (lb.getD k (0,0)).2=u at c2 HT3 hm
     generalize scale x la ++ scale y (lb.take k)=r at hrow hrl HT3
     have hzr:w2.heap.size≤wr.heap.size:=hb.out.size
     clear hts hbw
     go_wp2_with (at_builtin;refine wpList_append_own _ rfl _ _ 34 rfl w2.heap.size 92 i0 _ 2 16 Tryz.underlying34 hi hz0 hz1 hz2 rfl (by decide) u10 r.length (flat r) rfl (World.ownsRow.alloc (World.ownsRow.alloc hrow.out _) _) ⟨wr.heap.size+1,0,none⟩ 1 1 [.int .i64 v,.int .i64 (y*u)] rfl rfl ?c2 ?c3 ?c4 ?c5 ?c6 ?_)
     case c2=>exact fun j z hj=>two_at2 wr _ _ _ _ j z hj
     case c3=>first | exact⟨rfl,rfl⟩ | exact flat_cells [(v,y*u)]
     case c4=>unfold maxLen;omega
     case c5=>omega
     case c6=>simp;omega
     intro v' w4 hown' hgrow _
     have HO:Hid (Row w2.heap.size (scale x la ++ scale y (lb.take (k+1))) v' w4):=by
      show Row _ _ _ _
      rw[HT3.out]
      unfold Row
      rw[List.length_append,flat_append]
      exact hown'
     have HB:Hid (Below w2.heap.size w2 w4):=((hb.out.alloc hzr _).alloc (by simp;omega) _).grown hgrow (by simp;omega) (fun j hj=>(World.ownsRow.lt hrow.out j hj).1)
     clear hown' hgrow hrow
     go_wp2
     go_roundw
     case rel=>exact⟨k+1,by omega,by go_num,HO,HB⟩
     case measure=>simp[intOf];omega
    ·obtain rfl:k=nb:=by omega
     have HF:Hid (Row w2.heap.size (scale x la ++ scale y lb) u10 wr):=by
      have:=hrow.out
      rwa [List.take_of_length_le (by rw[HNB.out];exact Nat.le_refl _)]at this
     obtain⟨a5,cap5,rfl,_,_⟩:=HF.out.lies
     have hlen5:(scale x la ++ scale y lb).length≤8192:=by rw[List.length_append,scale_len,scale_len,HNA.out,HNB.out];omega
     have T5:=Lib.hid (T2.out.below hb.out T2.out.lt)
     obtain⟨l5,a50,a51,b50,b51,r50,r51,rf5,_⟩:=T5.out
     have hcon:=HG.out a5 _ cap5 wr w2.heap.size rfl HF.out hb.out.size hlen5
     rw[List.length_append]at hcon
     clear hrow
     go_wp2_with fail
     refine hcon.mono ?_
     rintro e w7 ⟨v7,rfl,hrow7,hb7⟩
     have T7:=Lib.hid (T5.out.below hb7 T2.out.lt)
     clear hcon hb7 a50 a51 b50 b51 r50 r51 rf5 l5
     obtain⟨l7,_,_,_,_,r70,r71,rf7,bel7⟩:=T7.out
     obtain⟨a7,cap7,rfl,_,_⟩:=hrow7.lies
     have hrowf:Row w.heap.size R (.slice a7 R.length cap7) ((w7.setCell ⟨w.heap.size+2,0,none⟩ (.int .i64 (x*ca+y*cb))).setCell ⟨w.heap.size+2,1,none⟩ (.slice a7 R.length cap7)):=
      Row.mono (ownsRow_setCell_below (ownsRow_setCell_below hrow7 (by have:=T2.out.lt;simpa using this) _) (by have:=T2.out.lt;simpa using this) _) (by omega)
     have hbf:=(bel7.setCell (p:=⟨w.heap.size+2,0,none⟩) (Nat.le_add_right _ _) (.int .i64 (x*ca+y*cb))).setCell (p:=⟨w.heap.size+2,1,none⟩) (Nat.le_add_right _ _) (.slice a7 R.length cap7)
     obtain⟨e0,e1⟩:=res_cells w7 (w.heap.size+2) (.int .i64 (x*ca+y*cb)) (.slice a7 R.length cap7) _ _ r70 r71
     clear bel7 hrow7
     go_wp2_with fail
     refine bodyPost_ret (v:= .tuple #[.agg #[.int .i64 (x*ca+y*cb),.slice a7 R.length cap7],.nilIface]) ?_ rfl ⟨_,rfl,hrowf,hbf⟩
     clear r70 r71 rf7
     simp[results,Tryz.results50,go_sem,e0,e1]
theorem add_err (j ca cb x y:Int)(a b:Option Addr)(na nb capa capb:Nat)(la lb:List (Int×Int))(w:World)(hna:la.length=na)(hnb:lb.length=nb)(hla:Lies w.heap.size w a la)(hlb:Lies w.heap.size w b lb)
 (ha:snd ca la=true) (hb:snd cb lb=true) (hx: -4096≤x∧x≤4096) (hy: -4096≤y∧y≤4096)
 (hga:∀(a:Option Addr) (n cap:Nat) (W:World) (B:Nat),(scale x la ++ scale y lb).length=n→Row B (scale x la ++ scale y lb) (.slice a n cap) W→B≤W.heap.size→n≤8192→Calls Tryz.prog 78 #[.int .i64 (x*ca+y*cb),.slice a n cap] W (LinErr B j W)):
 Calls Tryz.prog 50 #[.agg #[.int .i64 ca,.slice a na capa],.agg #[.int .i64 cb,.slice b nb capb],.int .i64 x,.int .i64 y] w (LinErr w.heap.size j w):=by
 obtain⟨i0,hi,hz0,hz1,hz2⟩:=info_parts Tryz.infoMono
 have hca: -1073741824≤ca∧ca≤1073741824:=by have:=(snd_iff.1 ha).1;unfold wi at this;simpa using this
 have hcb: -1073741824≤cb∧cb≤1073741824:=by have:=(snd_iff.1 hb).1;unfold wi at this;simpa using this
 have m1:=mul_in hx hca
 have m2:=mul_in hy hcb
 have n1:na≤64:=by have:=(snd_iff.1 ha).2.1;omega
 have n2:nb≤64:=by have:=(snd_iff.1 hb).2.1;omega
 have hwx:=fun W=>within_any x 4096 W (by omega) (by omega)
 have hwy:=fun W=>within_any y 4096 W (by omega) (by omega)
 rw[wi_t hx]at hwx
 rw[wi_t hy]at hwy
 have hck1:=fun W (hb:Below w.heap.size w W)=>check_yes ca a na capa la W hna ((hla.below hb).mono hb.size) ha
 have hck2:=fun W (hb':Below w.heap.size w W)=>check_yes cb b nb capb lb W hnb ((hlb.below hb').mono hb'.size) hb
 have HT:=Lib.hid (fun i (hi:i<na)=>snd_terms ha (la.getD i (0,0)) (by rw[List.getD_eq_getElem?_getD,List.getElem?_eq_getElem (by omega)];simp))
 have HT2:=Lib.hid (fun i (hi:i<nb)=>snd_terms hb (lb.getD i (0,0)) (by rw[List.getD_eq_getElem?_getD,List.getElem?_eq_getElem (by omega)];simp))
 have HNA:=Lib.hid hna
 have HNB:=Lib.hid hnb
 have HLA:=Lib.hid hla
 have HLB:=Lib.hid hlb
 have HG:=Lib.hid hga
 have HC1:=Lib.hid hck1
 have HC2:=Lib.hid hck2
 have T0:=Lib.hid (three_start w ca cb a b na nb capa capb)
 clear hna hnb hla hlb ha hb hga hck1 hck2
 go_enter Tryz.func50,Tryz.ntmps50
 go_wp2_with fail
 refine(HC1.out _ T0.out.bel).mono ?_
 rintro e w1 ⟨rfl,hb1⟩
 have T1:=Lib.hid (T0.out.below hb1 T0.out.lt)
 obtain⟨l1,_,_,b10,b11,_,_,_,_⟩:=T1.out
 have l1':w.heap.size+1<w1.heap.size:=by omega
 clear hb1
 go_wp2_with fail
 refine(HC2.out _ T1.out.bel).mono ?_
 rintro e w2 ⟨rfl,hb2⟩
 have T2:=Lib.hid (T1.out.below hb2 T1.out.lt)
 clear hb2 b10 b11 l1 l1'
 obtain⟨l2,a0,a1,b0,b1,r0,r1,rf,_⟩:=T2.out
 go_wp2_with fail
 refine(hwx _).mono ?_
 rintro e w' ⟨rfl,rfl⟩
 go_wp2_with fail
 refine(hwy _).mono ?_
 rintro e w' ⟨rfl,rfl⟩
 go_wp2_with (at_make;refine wpList_make_own _ rfl _ _ 34 rfl w2.heap.size 92 i0 (.agg #[.int .i64 0,.int .i64 0]) 2 Tryz.underlying34 hi hz0 hz1 .i64 .i64 _ (na+nb) rfl rfl (by omega) (by rw[hz2];omega) (by unfold maxLen;omega) (Nat.le_refl _) ?_)
 intro w3 hown3 hgrow3
 have B3:Hid (Below w2.heap.size w2 w3):=(Below.refl _ w2).grown hgrow3 (Nat.le_refl _) (fun k hk=>by cases hk)
 have HO3:Hid (Row w2.heap.size ([] ++ scale x (la.take 0)) (.slice (some ⟨w2.heap.size,0,none⟩) 0 (na+nb)) w3):=by
  show Row _ _ _ _
  simpa [Row,scale,flat]using hown3
 obtain⟨l3,a30,a31,b30,b31,_,_,_,_⟩:=T2.out.below B3.out T2.out.lt
 clear hown3 hgrow3 a0 a1 b0 b1 r0 r1 rf
 go_wp2_with fail
 go_loopw [10,46] (fun s i wr=>∃k:Nat,k≤na∧i= .int .i64 k∧Hid (Row w2.heap.size ([] ++ scale x (la.take k)) s wr)∧Hid (Below w2.heap.size w2 wr)) (fun _ i _=>na - (intOf i).toNat)
 case atStart=>exact⟨0,Nat.zero_le _,rfl,HO3,B3⟩
 case round=>
  obtain⟨k,hk,rfl,hrow,hb⟩:=hrel
  by_cases hlt:k<na
  ·have hbw:Below w.heap.size w wr:=T2.out.bel.trans (hb.out.mono (by omega))
   obtain⟨bb,off,rfl,hblt,c1,c2⟩:=(HLA.out.below hbw) k (by rw[HNA.out];exact hlt)
   have hts:=take_snoc la k (by rw[HNA.out];exact hlt)
   have hm:=mul_in hx (HT.out k hlt).2
   have hrl:([] ++ scale x (la.take k)).length≤128:=by rw[List.length_append,scale_len,List.length_take];simp;omega
   have HT3:Hid ([] ++ scale x (la.take (k+1))=([] ++ scale x (la.take k)) ++ [((la.getD k (0,0)).1,x*(la.getD k (0,0)).2)]):=by
    show _=_
    rw[hts,scale_snoc,List.append_assoc]
   generalize (la.getD k (0,0)).1=v at c1 HT3
   generalize (la.getD k (0,0)).2=u at c2 HT3 hm
   generalize [] ++ scale x (la.take k)=r at hrow hrl HT3
   have hzr:w2.heap.size≤wr.heap.size:=hb.out.size
   clear hts hbw
   go_wp2_with (at_builtin;refine wpList_append_own _ rfl _ _ 34 rfl w2.heap.size 92 i0 _ 2 16 Tryz.underlying34 hi hz0 hz1 hz2 rfl (by decide) u10 r.length (flat r) rfl (World.ownsRow.alloc (World.ownsRow.alloc hrow.out _) _) ⟨wr.heap.size+1,0,none⟩ 1 1 [.int .i64 v,.int .i64 (x*u)] rfl rfl ?c2 ?c3 ?c4 ?c5 ?c6 ?_)
   case c2=>exact fun j z hj=>two_at2 wr _ _ _ _ j z hj
   case c3=>first | exact⟨rfl,rfl⟩ | exact flat_cells [(v,x*u)]
   case c4=>unfold maxLen;omega
   case c5=>omega
   case c6=>simp;omega
   intro v' w4 hown' hgrow _
   have HO:Hid (Row w2.heap.size ([] ++ scale x (la.take (k+1))) v' w4):=by
    show Row _ _ _ _
    rw[HT3.out]
    unfold Row
    rw[List.length_append,flat_append]
    exact hown'
   have HB:Hid (Below w2.heap.size w2 w4):=((hb.out.alloc hzr _).alloc (by simp;omega) _).grown hgrow (by simp;omega) (fun j hj=>(World.ownsRow.lt hrow.out j hj).1)
   clear hown' hgrow hrow
   go_wp2
   go_roundw
   case rel=>exact⟨k+1,by omega,by go_num,HO,HB⟩
   case measure=>simp[intOf];omega
  ·obtain rfl:k=na:=by omega
   have HA1:Hid (Row w2.heap.size (scale x la ++ scale y (lb.take 0)) u10 wr):=by
    have:=hrow.out
    rw[List.nil_append,List.take_of_length_le (by rw[HNA.out];exact Nat.le_refl _)]at this
    show Row _ _ _ _
    simpa [scale]using this
   obtain⟨l4,a40,a41,b40,b41,r40,r41,rf4,_⟩:=T2.out.below hb.out T2.out.lt
   clear hrow a30 a31 b30 b31
   go_wp2_with fail
   go_loopw [10,64] (fun s i wr=>∃k:Nat,k≤nb∧i= .int .i64 k∧Hid (Row w2.heap.size (scale x la ++ scale y (lb.take k)) s wr)∧Hid (Below w2.heap.size w2 wr)) (fun _ i _=>nb - (intOf i).toNat)
   case atStart=>exact⟨0,Nat.zero_le _,rfl,HA1,hb⟩
   case round=>
    obtain⟨k,hk,rfl,hrow,hb⟩:=hrel
    by_cases hlt:k<nb
    ·have hbw:Below w.heap.size w wr:=T2.out.bel.trans (hb.out.mono (by omega))
     obtain⟨bb,off,rfl,hblt,c1,c2⟩:=(HLB.out.below hbw) k (by rw[HNB.out];exact hlt)
     have hts:=take_snoc lb k (by rw[HNB.out];exact hlt)
     have hm:=mul_in hy (HT2.out k hlt).2
     have hrl:(scale x la ++ scale y (lb.take k)).length≤128:=by have:=HNA.out;simp[scale_len];omega
     have HT3:Hid (scale x la ++ scale y (lb.take (k+1))=(scale x la ++ scale y (lb.take k)) ++ [((lb.getD k (0,0)).1,y*(lb.getD k (0,0)).2)]):=by
      show _=_
      rw[hts,scale_snoc,List.append_assoc]
     generalize (lb.getD k (0,0)).1=v at c1 HT3
     generalize (lb.getD k (0,0)).2=u at c2 HT3 hm
     generalize scale x la ++ scale y (lb.take k)=r at hrow hrl HT3
     have hzr:w2.heap.size≤wr.heap.size:=hb.out.size
     clear hts hbw
     go_wp2_with (at_builtin;refine wpList_append_own _ rfl _ _ 34 rfl w2.heap.size 92 i0 _ 2 16 Tryz.underlying34 hi hz0 hz1 hz2 rfl (by decide) u10 r.length (flat r) rfl (World.ownsRow.alloc (World.ownsRow.alloc hrow.out _) _) ⟨wr.heap.size+1,0,none⟩ 1 1 [.int .i64 v,.int .i64 (y*u)] rfl rfl ?c2 ?c3 ?c4 ?c5 ?c6 ?_)
     case c2=>exact fun j z hj=>two_at2 wr _ _ _ _ j z hj
     case c3=>first | exact⟨rfl,rfl⟩ | exact flat_cells [(v,y*u)]
     case c4=>unfold maxLen;omega
     case c5=>omega
     case c6=>simp;omega
     intro v' w4 hown' hgrow _
     have HO:Hid (Row w2.heap.size (scale x la ++ scale y (lb.take (k+1))) v' w4):=by
      show Row _ _ _ _
      rw[HT3.out]
      unfold Row
      rw[List.length_append,flat_append]
      exact hown'
     have HB:Hid (Below w2.heap.size w2 w4):=((hb.out.alloc hzr _).alloc (by simp;omega) _).grown hgrow (by simp;omega) (fun j hj=>(World.ownsRow.lt hrow.out j hj).1)
     clear hown' hgrow hrow
     go_wp2
     go_roundw
     case rel=>exact⟨k+1,by omega,by go_num,HO,HB⟩
     case measure=>simp[intOf];omega
    ·obtain rfl:k=nb:=by omega
     have HF:Hid (Row w2.heap.size (scale x la ++ scale y lb) u10 wr):=by
      have:=hrow.out
      rwa [List.take_of_length_le (by rw[HNB.out];exact Nat.le_refl _)]at this
     obtain⟨a5,cap5,rfl,_,_⟩:=HF.out.lies
     have hlen5:(scale x la ++ scale y lb).length≤8192:=by rw[List.length_append,scale_len,scale_len,HNA.out,HNB.out];omega
     have T5:=Lib.hid (T2.out.below hb.out T2.out.lt)
     obtain⟨l5,a50,a51,b50,b51,r50,r51,rf5,_⟩:=T5.out
     have hcon:=HG.out a5 _ cap5 wr w2.heap.size rfl HF.out hb.out.size hlen5
     rw[List.length_append]at hcon
     clear hrow
     go_wp2_with fail
     refine hcon.mono ?_
     rintro e w7 ⟨rfl,hb7⟩
     have T7:=Lib.hid (T5.out.below hb7 T2.out.lt)
     clear hcon hb7 a50 a51 b50 b51 r50 r51 rf5 l5
     obtain⟨l7,_,_,_,_,r70,r71,rf7,bel7⟩:=T7.out
     have hbf:=(bel7.setCell (p:=⟨w.heap.size+2,0,none⟩) (Nat.le_add_right _ _) (.int .i64 0)).setCell (p:=⟨w.heap.size+2,1,none⟩) (Nat.le_add_right _ _) (.slice none 0 0)
     obtain⟨e0,e1⟩:=res_cells w7 (w.heap.size+2) (.int .i64 0) (.slice none 0 0) _ _ r70 r71
     clear bel7
     go_wp2_with fail
     refine bodyPost_ret (v:= .tuple #[.agg #[.int .i64 0,.slice none 0 0],.iface 60 (.int .i64 j)]) ?_ rfl ⟨rfl,hbf⟩
     clear r70 r71 rf7
     simp[results,Tryz.results50,go_sem,e0,e1]
end
section
open Go.RowKit
attribute [local go_sem ↓] Go.wp_at_zero Go.wp_at_succ
theorem rtimes_any (c x:Int)(a:Option Addr)(n cap:Nat)(l:List (Int×Int))(w:World)(hn:l.length=n)(hm:n≤64)(hl:Lies w.heap.size w a l)(hxk:∀m∈l, -4398046511104≤x*m.2∧x*m.2≤4398046511104):
 Calls Tryz.prog 25 #[.agg #[.int .i64 c,.slice a n cap],.int .i64 x] w (RowEnd w.heap.size (scale x l) w):=by
 obtain⟨i0,hi,hz0,hz1,hz2⟩:=info_parts Tryz.infoMono
 have HN:=Lib.hid hn
 have HL:=Lib.hid hl
 have HX:=Lib.hid hxk
 have HB0:Hid (Below (w.heap.size+1) (w.alloc (.cells #[.int .i64 c,.slice a n cap] 36)) (w.alloc (.cells #[.int .i64 c,.slice a n cap] 36))):=Below.refl _ _
 clear hn hl hxk
 go_enter Tryz.func25,Tryz.ntmps25
 go_wp2_with fail
 go_loopw [5,6] (fun s i wr=>∃k:Nat,k≤n∧i= .int .i64 k∧Hid (Row (w.heap.size+1) (scale x (l.take k)) s wr)∧Hid (Below (w.heap.size+1) (w.alloc (.cells #[.int .i64 c,.slice a n cap] 36)) wr)) (fun _ i _=>n - (intOf i).toNat)
 case atStart=>exact⟨0,Nat.zero_le _,rfl,World.ownsRow_nil _ _ _ _,HB0⟩
 case round=>
  obtain⟨k,hk,rfl,hrow,hb⟩:=hrel
  have hbw:Below w.heap.size w wr:=((Below.refl _ w).alloc (Nat.le_refl _) _).trans (hb.out.mono (by omega))
  have g0:wr.cell? ⟨w.heap.size,0,none⟩=some (.int .i64 c):=by rw[hb.out.cell (p:=⟨w.heap.size,0,none⟩) (by simp)];simp
  have g1:wr.cell? ⟨w.heap.size,1,none⟩=some (.slice a n cap):=by rw[hb.out.cell (p:=⟨w.heap.size,1,none⟩) (by simp)];simp
  have gz:w.heap.size<wr.heap.size:=by have:=hb.out.size;simp at this;omega
  obtain⟨wo,rfl⟩:∃wo:World,wo=wr:=⟨_,rfl⟩
  by_cases hlt:k<n
  ·obtain⟨b,off,rfl,hblt,c1,c2⟩:=(HL.out.below hbw) k (by rw[HN.out];exact hlt)
   have hts:=take_snoc l k (by rw[HN.out];exact hlt)
   have hm2:=HX.out (l.getD k (0,0)) (by rw[List.getD_eq_getElem?_getD,List.getElem?_eq_getElem (by rw[HN.out];exact hlt)];simp)
   have hrl:(scale x (l.take k)).length≤128:=by rw[scale_len,List.length_take];omega
   have HT3:Hid (scale x (l.take (k+1))=scale x (l.take k) ++ [((l.getD k (0,0)).1,x*(l.getD k (0,0)).2)]):=by
    show _=_
    rw[hts,scale_snoc]
   have HBW:=Lib.hid hbw
   generalize (l.getD k (0,0)).1=v at c1 HT3
   generalize (l.getD k (0,0)).2=u at c2 HT3 hm2
   generalize scale x (l.take k)=r at hrow hrl HT3
   clear hts hbw
   have hzr:w.heap.size+1≤wo.heap.size:=by omega
   have hown:=hrow.out
   unfold Row at hown
   have al:u5.ownBlock≠some w.heap.size:=fun e=>by have:=(World.ownsRow.lt hown _ e).1;omega
   have ab:u5.ownBlock≠some b:=fun e=>by have:=(World.ownsRow.lt hown _ e).1;omega
   have hk0:(0:Int)≤(k:Int):=Int.natCast_nonneg _
   have hk1:(k:Int)<(n:Int):=by omega
   have hw1:IntKind.i64.wrap (x*u)=x*u:=IntWalk.i64_in _ (by omega)
   go_wp2_with fail
   go_region_held3 (fun w'=>w'.cell? ⟨w.heap.size,1,none⟩=some (.slice (some ⟨b,off,none⟩) n cap)∧w'.cell? ⟨b,off+k*2,none⟩=some (.int .i64 v)∧w'.cell? ⟨b,off+k*2+1,none⟩=some (.int .i64 u))
    (first
      | go_keep
      | (go_split_ands
         refine⟨?_, ?_, ?_⟩
         ·(rw[hgrow.cell_far _ (by simp;omega) (Ne.symm al)];assumption)
         ·(rw[hgrow.cell_far _ (by simp;omega) (Ne.symm ab)];assumption)
         ·(rw[hgrow.cell_far _ (by simp;omega) (Ne.symm ab)];assumption)))
    ((refine step_append_lies _ (by rfl) _ _ _ (by rfl) (w.heap.size+1) 92 i0 _ 2 16 Tryz.underlying34 hi hz0 hz1 hz2 rfl (by omega) u5 r.length (flat r) (by rfl) ((hown.alloc _).drew)
       ⟨wo.heap.size,0,none⟩ 1 1 [.int .i64 v,.int .i64 (x*u)] (by rfl) (by rfl) (World.news_of_block (cs:= #[.int .i64 v,.int .i64 (x*u)]) (t:=92) (fr:=(0,0)) (heap_alloc_new wo _)) (by simp[Value.oneCell'])
       (by omega) (by unfold maxLen;omega) (by omega) (by simp;omega) (wo.heap.size+1) (by simp) ?_;intro gg cap2 w1 hown1 hgrow hat hlt2))
   have HO:Hid (Row (w.heap.size+1) (scale x (l.take (k+1))) (.slice (some ⟨gg,0,none⟩) (r.length+1) cap2) w1):=by
    show Row _ _ _ _
    rw[HT3.out]
    unfold Row
    rw[List.length_append,flat_append]
    exact hown1
   have HB:Hid (Below (w.heap.size+1) (w.alloc (.cells #[.int .i64 c,.slice (some ⟨b,off,none⟩) n cap] 36)) w1):=((hb.out.alloc hzr _).drew).grown hgrow (by simp;omega) (fun j hj=>(World.ownsRow.lt hown j hj).1)
   clear hown1 hgrow hrow hown
   go_wp2
   go_roundw
   case rel=>exact⟨k+1,by omega,by go_num,HO,HB⟩
   case measure=>simp[intOf];omega
  ·have HF:Hid (Row (w.heap.size+1) (scale x l) u5 wo):=by
    have:=hrow.out
    rwa [List.take_of_length_le (by rw[HN.out];omega)]at this
   have HBW:=Lib.hid hbw
   clear hrow hbw
   go_wp2_with fail
   go_ret
   exact⟨_,rfl,HF.out.mono (by omega),HBW.out⟩
end
section
def nvStep (L v:Int)(m:Int×Int):Int:=if L<m.1∧(v<0∨m.1<v) then m.1 else v
def nv (L:Int)(l:List (Int×Int)):Int:=l.foldl (nvStep L) (-1)
theorem nv_snoc (L:Int)(l:List (Int×Int))(m:Int×Int):nv L (l ++ [m])=nvStep L (nv L l) m:=by unfold nv;rw[List.foldl_append];rfl
theorem nv_spec (L:Int)(l:List (Int×Int))(hV:∀m∈l,0≤m.1∧m.1<1048576):∀k,k≤l.length→
 (nv L (l.take k)= -1∧∀m∈l.take k,m.1≤L)∨(0≤nv L (l.take k)∧nv L (l.take k)<1048576∧L<nv L (l.take k)∧∀m∈l.take k,L<m.1→nv L (l.take k)≤m.1)
 | 0,_=> .inl ⟨by simp[nv],fun m hm=>by simp at hm⟩
 | k+1,hk=>by
   have hm:=hV (l.getD k (0,0)) (by rw[List.getD_eq_getElem?_getD,List.getElem?_eq_getElem (by omega)];simp)
   have ih:=nv_spec L l hV k (by omega)
   rw[take_snoc l k (by omega),nv_snoc]
   generalize l.getD k (0,0)=m at hm
   generalize nv L (l.take k)=v at ih
   unfold nvStep
   by_cases c:L<m.1∧(v<0∨m.1<v)
   ·rw[if_pos c]
    refine .inr ⟨hm.1,hm.2,c.1,fun x hx hxL=> ?_⟩
    rcases List.mem_append.1 hx with hx | hx
    ·rcases ih with ⟨_,h2⟩ | ⟨_,_,_,h4⟩
     ·have:=h2 x hx;omega
     ·have:=h4 x hx hxL;omega
    ·simp at hx;subst hx;exact Int.le_refl _
   ·rw[if_neg c]
    rcases ih with ⟨h1,h2⟩ | ⟨h1,h2,h3,h4⟩
    ·refine .inl ⟨h1,fun x hx=> ?_⟩
     rcases List.mem_append.1 hx with hx | hx
     ·exact h2 x hx
     ·simp at hx;subst hx;omega
    ·refine .inr ⟨h1,h2,h3,fun x hx hxL=> ?_⟩
     rcases List.mem_append.1 hx with hx | hx
     ·exact h4 x hx hxL
     ·simp at hx;subst hx;omega
def upTo (R:List (Int×Int))(L:Int):List (Int×Int):=R.filter fun m=>decide (m.1≤L)
theorem upTo_up {R:List (Int×Int)}(h:Up R)(L:Int):Up (upTo R L):=h.filter _
theorem coef_upTo (R:List (Int×Int))(L v:Int):coef (upTo R L) v=if v≤L then coef R v else 0:=by
 induction R with
 | nil=>simp[upTo,coef]
 | cons m r ih=>
   unfold upTo at ih⊢
   by_cases hm:m.1≤L
   ·rw[List.filter_cons_of_pos (by simp[hm]),coef_cons,ih,coef_cons]
    by_cases hv:m.1=v
    ·subst hv;simp[hm]
    ·by_cases hvL:v≤L<;>simp[hv,hvL]
   ·rw[List.filter_cons_of_neg (by simp[hm]),ih,coef_cons]
    by_cases hv:m.1=v
    ·subst hv;simp[hm]
    ·simp[hv]
theorem upTo_start {l R:List (Int×Int)}(hR:IsSum l R)(hV:∀m∈l,0≤m.1∧m.1<1048576):upTo R (-1)=[]:=by
 unfold upTo
 rw[List.filter_eq_nil_iff]
 intro m hm
 obtain⟨x,hx,hxe⟩:=hR.comes hm
 have:=hV x hx
 simp;omega
theorem upTo_end {l R:List (Int×Int)}(hR:IsSum l R){L:Int}(h:∀m∈l,m.1≤L):upTo R L=R:=by
 unfold upTo
 rw[List.filter_eq_self]
 intro m hm
 obtain⟨x,hx,hxe⟩:=hR.comes hm
 have:=h x hx
 simp;omega
theorem upTo_step {l R:List (Int×Int)}(hR:IsSum l R){L v:Int}(hLv:L<v)(h:∀m∈l,L<m.1→v≤m.1):
 upTo R v=upTo R L ++ (if coef l v=0 then[] else[(v,coef l v)]):=by
 have hnz:∀m∈upTo R v,m.2≠0:=fun m hm=>hR.nz m (List.mem_filter.1 hm).1
 have hnz':∀m∈upTo R L ++ (if coef l v=0 then[] else[(v,coef l v)]),m.2≠0:=fun m hm=>by
  rcases List.mem_append.1 hm with hm | hm
  ·exact hR.nz m (List.mem_filter.1 hm).1
  ·by_cases e:coef l v=0
   ·rw[if_pos e]at hm;cases hm
   ·rw[if_neg e]at hm;simp at hm;subst hm;exact e
 refine sum_unique (upTo_up hR.up v) ?_ hnz hnz' fun u=> ?_
 ·refine List.pairwise_append.2 ⟨upTo_up hR.up L, ?_,fun a ha b hb=> ?_⟩
  ·by_cases e:coef l v=0<;>simp[e]
  ·have ha:=(List.mem_filter.1 ha).2
   simp only[decide_eq_true_eq]at ha
   by_cases e:coef l v=0
   ·rw[if_pos e]at hb;cases hb
   ·rw[if_neg e]at hb;simp at hb;subst hb;show a.1<v;omega
 ·rw[coef_append,coef_upTo,coef_upTo,hR.eq]
  by_cases hu:u≤L
  ·have h1:u≤v:=by omega
   have h2:¬v=u:=by omega
   rw[if_pos h1,if_pos hu]
   by_cases e:coef l v=0
   ·rw[if_pos e,coef_nil];omega
   ·rw[if_neg e,coef_cons,coef_nil,if_neg h2];omega
  ·rw[if_neg hu]
   by_cases huv:u=v
   ·subst huv
    rw[if_pos (Int.le_refl _)]
    by_cases e:coef l u=0
    ·rw[if_pos e,coef_nil,e];rfl
    ·rw[if_neg e,coef_cons,coef_nil,if_pos rfl];omega
   ·have h2:¬v=u:=by omega
    have h4:coef (if coef l v=0 then[] else[(v,coef l v)]) u=0:=by
     by_cases e:coef l v=0
     ·rw[if_pos e];rfl
     ·rw[if_neg e,coef_cons,coef_nil,if_neg h2];rfl
    rw[h4]
    by_cases hle:u≤v
    ·rw[if_pos hle,coef_none (fun x hx hxe=>by have:=h x hx (by omega);omega)];omega
    ·rw[if_neg hle];omega
theorem coef_bd (l:List (Int×Int))(h:Bd 4398046511104 l)(v:Int):∀k,k≤l.length→ -(k*4398046511104:Int)≤coef (l.take k) v∧coef (l.take k) v≤k*4398046511104
 | 0,_=>by simp[coef]
 | k+1,hk=>by
   have h1:=coef_bd l h v k (by omega)
   have h2:=h (l.getD k (0,0)) (by rw[List.getD_eq_getElem?_getD,List.getElem?_eq_getElem (by omega)];simp)
   rw[take_snoc l k (by omega),coef_append,coef_cons,coef_nil]
   split<;>omega
theorem sum_len {l R:List (Int×Int)}(h:IsSum l R):R.length≤l.length:=by
 have hA:Asc (l.mergeSort fun a b=>decide (a.1≤b.1)):=by
  intro i j hij hj
  have hs:=List.pairwise_mergeSort (le:=fun a b:Int×Int=>decide (a.1≤b.1)) (fun a b c h1 h2=>by simp at *; omega) (fun a b=>by simp;omega) l
  have:=List.pairwise_iff_getElem.1 hs i j (by omega) hj hij
  simp only[List.getD_eq_getElem?_getD]
  rw[List.getElem?_eq_getElem hj,List.getElem?_eq_getElem (by omega)]
  simpa using this
 rw[h.unique ((tog_isSum _ hA).perm (List.mergeSort_perm _ _))]
 refine Nat.le_trans (List.length_filter_le _ _) ?_
 have:=tog_len (l.mergeSort fun a b=>decide (a.1≤b.1)) _ (Nat.le_refl _)
 rw[List.take_length]at this
 rwa [List.length_mergeSort]at this
end
end Go.Proofs.YtipahfcaplbifaaGreatDoor
