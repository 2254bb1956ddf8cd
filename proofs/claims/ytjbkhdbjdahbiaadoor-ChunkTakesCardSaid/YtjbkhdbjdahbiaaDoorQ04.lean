/- Parts of a proof. -/
import Derived.Test.YtjbkhdbjdahbiaaDoorQ02
import Derived.Test.YtjbkhdbjdahbiaaDoorQ03
set_option linter.unusedVariables false
set_option linter.unusedSimpArgs false
set_option maxHeartbeats 60000000
set_option maxRecDepth 100000
namespace Go.Proofs.YtjbkhdbjdahbiaaDoor
namespace Lf
open Go.RowKit
def scale (x:Int)(l:List (Int×Int)):List (Int×Int):=l.map fun m=>(m.1,x*m.2)
theorem scale_snoc (x:Int)(l:List (Int×Int))(m:Int×Int):scale x (l ++ [m])=scale x l ++ [(m.1,x*m.2)]:=by simp[scale]
theorem scale_len (x:Int)(l:List (Int×Int)):(scale x l).length=l.length:=by simp[scale]
theorem mul_in {x k:Int}(hx: -4096≤x∧x≤4096)(hk: -1073741824≤k∧k≤1073741824): -4398046511104≤x*k∧x*k≤4398046511104:=by
 have h1:(x*k).natAbs≤4096*1073741824:=by
  rw[Int.natAbs_mul];exact Nat.mul_le_mul (by omega) (by omega)
 omega
theorem two_at2 (w:World)(o:Obj)(x y:Value)(t:TypeId):∀j u,[x,y][j]? =some u→((w.alloc o).alloc (.cells #[x,y] t)).cell? ((⟨w.heap.size+1,0,none⟩:Addr).add j)=some u:=by
 intro j u hj
 have h:=cell_two_new' (w.alloc o) x y t j u hj
 have e:(w.alloc o).heap.size=w.heap.size+1:=by simp
 rwa [e]at h
theorem snd_terms {c:Int}{l:List (Int×Int)}(h:snd c l=true):∀m∈l,(0≤m.1∧m.1<1048576)∧ -1073741824≤m.2∧m.2≤1073741824:=fun m hm=>by
 obtain⟨i,hi,rfl⟩:=List.getElem_of_mem hm
 have:=okAt_in ((snd_iff.1 h).2.2 i hi)
 rw[List.getD_eq_getElem?_getD,List.getElem?_eq_getElem hi]at this
 simp only[Option.getD_some]at this
 omega
theorem both_terms {ca cb x y:Int}{la lb:List (Int×Int)}(ha:snd ca la=true)(hb:snd cb lb=true)(hx: -4096≤x∧x≤4096)(hy: -4096≤y∧y≤4096):
 Bd 4398046511104 (scale x la ++ scale y lb)∧∀m∈scale x la ++ scale y lb,0≤m.1∧m.1<1048576:=by
 have h:∀m∈scale x la ++ scale y lb,(0≤m.1∧m.1<1048576)∧ -4398046511104≤m.2∧m.2≤4398046511104:=fun m hm=>by
  rcases List.mem_append.1 hm with hm | hm
  ·obtain⟨p,hp,rfl⟩:=List.mem_map.1 hm
   have:=snd_terms ha p hp
   exact⟨this.1,mul_in hx this.2⟩
  ·obtain⟨p,hp,rfl⟩:=List.mem_map.1 hm
   have:=snd_terms hb p hp
   exact⟨this.1,mul_in hy this.2⟩
 exact⟨fun m hm=>(h m hm).2,fun m hm=>(h m hm).1⟩
structure Three (w W:World)(N:Nat)(ca cb:Int)(a b:Option Addr)(na nb capa capb:Nat):Prop where
 lt:N+2<W.heap.size
 a0:W.cell? ⟨N,0,none⟩=some (.int .i64 ca)
 a1:W.cell? ⟨N,1,none⟩=some (.slice a na capa)
 b0:W.cell? ⟨N+1,0,none⟩=some (.int .i64 cb)
 b1:W.cell? ⟨N+1,1,none⟩=some (.slice b nb capb)
 r0:W.cell? ⟨N+2,0,none⟩=some (.int .i64 0)
 r1:W.cell? ⟨N+2,1,none⟩=some (.slice none 0 0)
 rf:∀o,W.frozen? ⟨N+2,o,none⟩=false
 bel:Below N w W
theorem Three.below {w W W':World}{N B:Nat}{ca cb:Int}{a b:Option Addr}{na nb capa capb:Nat}(h:Three w W N ca cb a b na nb capa capb)(hb:Below B W W')(hB:N+2<B):Three w W' N ca cb a b na nb capa capb:=
 ⟨Nat.lt_of_lt_of_le h.lt hb.size,(hb.cell (p:=⟨N,0,none⟩) (show N<B by omega)).trans h.a0,(hb.cell (p:=⟨N,1,none⟩) (show N<B by omega)).trans h.a1,(hb.cell (p:=⟨N+1,0,none⟩) (show N+1<B by omega)).trans h.b0,(hb.cell (p:=⟨N+1,1,none⟩) (show N+1<B by omega)).trans h.b1,
   (hb.cell (p:=⟨N+2,0,none⟩) hB).trans h.r0,(hb.cell (p:=⟨N+2,1,none⟩) hB).trans h.r1,fun o=>(hb.frozen (p:=⟨N+2,o,none⟩) hB).trans (h.rf o),h.bel.trans (hb.mono (by omega))⟩
theorem three_start (w:World)(ca cb:Int)(a b:Option Addr)(na nb capa capb:Nat):Three w (((w.alloc (.cells #[.int .i64 ca,.slice a na capa] 38)).alloc (.cells #[.int .i64 cb,.slice b nb capb] 38)).alloc (.cells #[.int .i64 0,.slice none 0 0] 38)) w.heap.size ca cb a b na nb capa capb:=
 ⟨by simp,by simp[go_sem],by simp[go_sem],by simp[go_sem],by simp[go_sem],by simp[go_sem],by simp[go_sem],fun o=>by simp[go_sem],(((Below.refl _ w).alloc (Nat.le_refl _) _).alloc (by simp) _).alloc (by simp;omega) _⟩
theorem add_ok (ca cb x y:Int)(a b:Option Addr)(na nb capa capb:Nat)(la lb R:List (Int×Int))(w:World)(hna:la.length=na)(hnb:lb.length=nb)(hla:Lies w.heap.size w a la)(hlb:Lies w.heap.size w b lb)
 (ha:snd ca la=true) (hb:snd cb lb=true) (hx: -4096≤x∧x≤4096) (hy: -4096≤y∧y≤4096)
 (hga:∀(a:Option Addr) (n cap:Nat) (W:World) (B:Nat),(scale x la ++ scale y lb).length=n→Row B (scale x la ++ scale y lb) (.slice a n cap) W→B≤W.heap.size→n≤8192→Calls Tryd.prog 31 #[.int .i64 (x*ca+y*cb),.slice a n cap] W (LinOk B (x*ca+y*cb) R W)):
 Calls Tryd.prog 19 #[.agg #[.int .i64 ca,.slice a na capa],.agg #[.int .i64 cb,.slice b nb capb],.int .i64 x,.int .i64 y] w (LinOk w.heap.size (x*ca+y*cb) R w):=by
 obtain⟨i0,hi,hz0,hz1,hz2⟩:=info_parts Tryd.infoMono
 have hca: -1073741824≤ca∧ca≤1073741824:=by have:=(snd_iff.1 ha).1;unfold wi at this;simpa using this
 have hcb: -1073741824≤cb∧cb≤1073741824:=by have:=(snd_iff.1 hb).1;unfold wi at this;simpa using this
 have m1:=mul_in hx hca
 have m2:=mul_in hy hcb
 have n1:na≤64:=by have:=(snd_iff.1 ha).2.1;omega
 have n2:nb≤64:=by have:=(snd_iff.1 hb).2.1;omega
 have hwx:=fun W=>within_any x 4096 W (by omega) (by omega)
 have hwy:=fun W=>within_any y 4096 W (by omega) (by omega)
 rw[wi_t hx]at hwx
 rw[wi_t hy]at hwy
 have hck1:=fun W (hb:Below w.heap.size w W)=>check_yes ca a na capa la W hna ((hla.below hb).mono hb.size) ha
 have hck2:=fun W (hb':Below w.heap.size w W)=>check_yes cb b nb capb lb W hnb ((hlb.below hb').mono hb'.size) hb
 have HT:=Lib.hid (fun i (hi:i<na)=>snd_terms ha (la.getD i (0,0)) (by rw[List.getD_eq_getElem?_getD,List.getElem?_eq_getElem (by omega)];simp))
 have HT2:=Lib.hid (fun i (hi:i<nb)=>snd_terms hb (lb.getD i (0,0)) (by rw[List.getD_eq_getElem?_getD,List.getElem?_eq_getElem (by omega)];simp))
 have HNA:=Lib.hid hna
 have HNB:=Lib.hid hnb
 have HLA:=Lib.hid hla
 have HLB:=Lib.hid hlb
 have HG:=Lib.hid hga
 have HC1:=Lib.hid hck1
 have HC2:=Lib.hid hck2
 have T0:=Lib.hid (three_start w ca cb a b na nb capa capb)
 clear hna hnb hla hlb ha hb hga hck1 hck2
 go_enter Tryd.func19,Tryd.ntmps19
 go_wp2_with fail
 refine(HC1.out _ T0.out.bel).mono ?_
 rintro e w1 ⟨rfl,hb1⟩
 have T1:=Lib.hid (T0.out.below hb1 T0.out.lt)
 obtain⟨l1,_,_,b10,b11,_,_,_,_⟩:=T1.out
 have l1':w.heap.size+1<w1.heap.size:=by omega
 clear hb1
 go_wp2_with fail
 refine(HC2.out _ T1.out.bel).mono ?_
 rintro e w2 ⟨rfl,hb2⟩
 have T2:=Lib.hid (T1.out.below hb2 T1.out.lt)
 clear hb2 b10 b11 l1 l1'
 obtain⟨l2,a0,a1,b0,b1,r0,r1,rf,_⟩:=T2.out
 go_wp2_with fail
 refine(hwx _).mono ?_
 rintro e w' ⟨rfl,rfl⟩
 go_wp2_with fail
 refine(hwy _).mono ?_
 rintro e w' ⟨rfl,rfl⟩
 go_wp2_with (at_make;refine wpList_make_own _ rfl _ _ 36 rfl w2.heap.size 35 i0 (.agg #[.int .i64 0,.int .i64 0]) 2 Tryd.underlying36 hi hz0 hz1 .i64 .i64 _ (na+nb) rfl rfl (by omega) (by rw[hz2];omega) (by unfold maxLen;omega) (Nat.le_refl _) ?_)
 intro w3 hown3 hgrow3
 have B3:Hid (Below w2.heap.size w2 w3):=(Below.refl _ w2).grown hgrow3 (Nat.le_refl _) (fun k hk=>by cases hk)
 have HO3:Hid (Row w2.heap.size ([] ++ scale x (la.take 0)) (.slice (some ⟨w2.heap.size,0,none⟩) 0 (na+nb)) w3):=by
  show Row _ _ _ _
  simpa [Row,scale,flat]using hown3
 obtain⟨l3,a30,a31,b30,b31,_,_,_,_⟩:=T2.out.below B3.out T2.out.lt
 clear hown3 hgrow3 a0 a1 b0 b1 r0 r1 rf
 go_wp2_with fail
 go_loopw [10,46] (fun s i wr=>∃k:Nat,k≤na∧i= .int .i64 k∧Hid (Row w2.heap.size ([] ++ scale x (la.take k)) s wr)∧Hid (Below w2.heap.size w2 wr)) (fun _ i _=>na - (intOf i).toNat)
 case atStart=>exact⟨0,Nat.zero_le _,rfl,HO3,B3⟩
 case round=>
  obtain⟨k,hk,rfl,hrow,hb⟩:=hrel
  by_cases hlt:k<na
  ·have hbw:Below w.heap.size w wr:=T2.out.bel.trans (hb.out.mono (by omega))
   obtain⟨bb,off,rfl,hblt,c1,c2⟩:=(HLA.out.below hbw) k (by rw[HNA.out];exact hlt)
   have hts:=take_snoc la k (by rw[HNA.out];exact hlt)
   have hm:=mul_in hx (HT.out k hlt).2
   have hrl:([] ++ scale x (la.take k)).length≤128:=by rw[List.length_append,scale_len,List.length_take];simp;omega
   have HT3:Hid ([] ++ scale x (la.take (k+1))=([] ++ scale x (la.take k)) ++ [((la.getD k (0,0)).1,x*(la.getD k (0,0)).2)]):=by
    show _=_
    rw[hts,scale_snoc,List.append_assoc]
   generalize (la.getD k (0,0)).1=v at c1 HT3
   generalize (la.getD k (0,0)).2=u at c2 HT3 hm
   generalize [] ++ scale x (la.take k)=r at hrow hrl HT3
   have hzr:w2.heap.size≤wr.heap.size:=hb.out.size
   clear hts hbw
   go_wp2_with (at_builtin;refine wpList_append_own _ rfl _ _ 36 rfl w2.heap.size 35 i0 _ 2 16 Tryd.underlying36 hi hz0 hz1 hz2 rfl (by decide) u10 r.length (flat r) rfl (World.ownsRow.alloc (World.ownsRow.alloc hrow.out _) _) ⟨wr.heap.size+1,0,none⟩ 1 1 [.int .i64 v,.int .i64 (x*u)] rfl rfl ?c2 ?c3 ?c4 ?c5 ?c6 ?_)
   case c2=>exact fun j z hj=>two_at2 wr _ _ _ _ j z hj
   case c3=>first | exact⟨rfl,rfl⟩ | exact flat_cells [(v,x*u)]
   case c4=>unfold maxLen;omega
   case c5=>omega
   case c6=>simp;omega
   intro v' w4 hown' hgrow _
   have HO:Hid (Row w2.heap.size ([] ++ scale x (la.take (k+1))) v' w4):=by
    show Row _ _ _ _
    rw[HT3.out]
    unfold Row
    rw[List.length_append,flat_append]
    exact hown'
   have HB:Hid (Below w2.heap.size w2 w4):=((hb.out.alloc hzr _).alloc (by simp;omega) _).grown hgrow (by simp;omega) (fun j hj=>(World.ownsRow.lt hrow.out j hj).1)
   clear hown' hgrow hrow
   go_wp2
   go_roundw
   case rel=>exact⟨k+1,by omega,by go_num,HO,HB⟩
   case measure=>simp[intOf];omega
  ·obtain rfl:k=na:=by omega
   have HA1:Hid (Row w2.heap.size (scale x la ++ scale y (lb.take 0)) u10 wr):=by
    have:=hrow.out
    rw[List.nil_append,List.take_of_length_le (by rw[HNA.out];exact Nat.le_refl _)]at this
    show Row _ _ _ _
    simpa [scale]using this
   obtain⟨l4,a40,a41,b40,b41,r40,r41,rf4,_⟩:=T2.out.below hb.out T2.out.lt
   clear hrow a30 a31 b30 b31
   go_wp2_with fail
   go_loopw [10,64] (fun s i wr=>∃k:Nat,k≤nb∧i= .int .i64 k∧Hid (Row w2.heap.size (scale x la ++ scale y (lb.take k)) s wr)∧Hid (Below w2.heap.size w2 wr)) (fun _ i _=>nb - (intOf i).toNat)
   case atStart=>exact⟨0,Nat.zero_le _,rfl,HA1,hb⟩
   case round=>
    obtain⟨k,hk,rfl,hrow,hb⟩:=hrel
    by_cases hlt:k<nb
    ·have hbw:Below w.heap.size w wr:=T2.out.bel.trans (hb.out.mono (by omega))
     obtain⟨bb,off,rfl,hblt,c1,c2⟩:=(HLB.out.below hbw) k (by rw[HNB.out];exact hlt)
     have hts:=take_snoc lb k (by rw[HNB.out];exact hlt)
     have hm:=mul_in hy (HT2.out k hlt).2
     have hrl:(scale x la ++ scale y (lb.take k)).length≤128:=by have:=HNA.out;simp[scale_len];omega
     have HT3:Hid (scale x la ++ scale y (lb.take (k+1))=(scale x la ++ scale y (lb.take k)) ++ [((lb.getD k (0,0)).1,y*(lb.getD k (0,0)).2)]):=by
      show _=_
      rw[hts,scale_snoc,List.append_assoc]
     generalize (lb.getD k (0,0)).1=v at c1 HT3
     generalize (lb.getD k (0,0)).2=u at c2 HT3 hm
     generalize scale x la ++ scale y (lb.take k)=r at hrow hrl HT3
     have hzr:w2.heap.size≤wr.heap.size:=hb.out.size
     clear hts hbw
     go_wp2_with (at_builtin;refine wpList_append_own _ rfl _ _ 36 rfl w2.heap.size 35 i0 _ 2 16 Tryd.underlying36 hi hz0 hz1 hz2 rfl (by decide) u10 r.length (flat r) rfl (World.ownsRow.alloc (World.ownsRow.alloc hrow.out _) _) ⟨wr.heap.size+1,0,none⟩ 1 1 [.int .i64 v,.int .i64 (y*u)] rfl rfl ?c2 ?c3 ?c4 ?c5 ?c6 ?_)
     case c2=>exact fun j z hj=>two_at2 wr _ _ _ _ j z hj
     case c3=>first | exact⟨rfl,rfl⟩ | exact flat_cells [(v,y*u)]
     case c4=>unfold maxLen;omega
     case c5=>omega
     case c6=>simp;omega
     intro v' w4 hown' hgrow _
     have HO:Hid (Row w2.heap.size (scale x la ++ scale y (lb.take (k+1))) v' w4):=by
      show Row _ _ _ _
      rw[HT3.out]
      unfold Row
      rw[List.length_append,flat_append]
      exact hown'
     have HB:Hid (Below w2.heap.size w2 w4):=((hb.out.alloc hzr _).alloc (by simp;omega) _).grown hgrow (by simp;omega) (fun j hj=>(World.ownsRow.lt hrow.out j hj).1)
     clear hown' hgrow hrow
     go_wp2
     go_roundw
     case rel=>exact⟨k+1,by omega,by go_num,HO,HB⟩
     case measure=>simp[intOf];omega
    ·obtain rfl:k=nb:=by omega
     have HF:Hid (Row w2.heap.size (scale x la ++ scale y lb) u10 wr):=by
      have:=hrow.out
      rwa [List.take_of_length_le (by rw[HNB.out];exact Nat.le_refl _)]at this
     obtain⟨a5,cap5,rfl,_,_⟩:=HF.out.lies
     have hlen5:(scale x la ++ scale y lb).length≤8192:=by rw[List.length_append,scale_len,scale_len,HNA.out,HNB.out];omega
     have T5:=Lib.hid (T2.out.below hb.out T2.out.lt)
     obtain⟨l5,a50,a51,b50,b51,r50,r51,rf5,_⟩:=T5.out
     have hcon:=HG.out a5 _ cap5 wr w2.heap.size rfl HF.out hb.out.size hlen5
     rw[List.length_append]at hcon
     clear hrow
     go_wp2_with fail
     refine hcon.mono ?_
     rintro e w7 ⟨v7,rfl,hrow7,hb7⟩
     have T7:=Lib.hid (T5.out.below hb7 T2.out.lt)
     clear hcon hb7 a50 a51 b50 b51 r50 r51 rf5 l5
     obtain⟨l7,_,_,_,_,r70,r71,rf7,bel7⟩:=T7.out
     obtain⟨a7,cap7,rfl,_,_⟩:=hrow7.lies
     have hrowf:Row w.heap.size R (.slice a7 R.length cap7) ((w7.setCell ⟨w.heap.size+2,0,none⟩ (.int .i64 (x*ca+y*cb))).setCell ⟨w.heap.size+2,1,none⟩ (.slice a7 R.length cap7)):=
      Row.mono (ownsRow_setCell_below (ownsRow_setCell_below hrow7 (by have:=T2.out.lt;simpa using this) _) (by have:=T2.out.lt;simpa using this) _) (by omega)
     have hbf:=(bel7.setCell (p:=⟨w.heap.size+2,0,none⟩) (Nat.le_add_right _ _) (.int .i64 (x*ca+y*cb))).setCell (p:=⟨w.heap.size+2,1,none⟩) (Nat.le_add_right _ _) (.slice a7 R.length cap7)
     obtain⟨e0,e1⟩:=res_cells w7 (w.heap.size+2) (.int .i64 (x*ca+y*cb)) (.slice a7 R.length cap7) _ _ r70 r71
     clear bel7 hrow7
     go_wp2_with fail
     refine bodyPost_ret (v:= .tuple #[.agg #[.int .i64 (x*ca+y*cb),.slice a7 R.length cap7],.nilIface]) ?_ rfl ⟨_,rfl,hrowf,hbf⟩
     clear r70 r71 rf7
     simp[results,Tryd.results19,go_sem,e0,e1]
theorem add_err (j ca cb x y:Int)(a b:Option Addr)(na nb capa capb:Nat)(la lb:List (Int×Int))(w:World)(hna:la.length=na)(hnb:lb.length=nb)(hla:Lies w.heap.size w a la)(hlb:Lies w.heap.size w b lb)
 (ha:snd ca la=true) (hb:snd cb lb=true) (hx: -4096≤x∧x≤4096) (hy: -4096≤y∧y≤4096)
 (hga:∀(a:Option Addr) (n cap:Nat) (W:World) (B:Nat),(scale x la ++ scale y lb).length=n→Row B (scale x la ++ scale y lb) (.slice a n cap) W→B≤W.heap.size→n≤8192→Calls Tryd.prog 31 #[.int .i64 (x*ca+y*cb),.slice a n cap] W (LinErr B j W)):
 Calls Tryd.prog 19 #[.agg #[.int .i64 ca,.slice a na capa],.agg #[.int .i64 cb,.slice b nb capb],.int .i64 x,.int .i64 y] w (LinErr w.heap.size j w):=by
 obtain⟨i0,hi,hz0,hz1,hz2⟩:=info_parts Tryd.infoMono
 have hca: -1073741824≤ca∧ca≤1073741824:=by have:=(snd_iff.1 ha).1;unfold wi at this;simpa using this
 have hcb: -1073741824≤cb∧cb≤1073741824:=by have:=(snd_iff.1 hb).1;unfold wi at this;simpa using this
 have m1:=mul_in hx hca
 have m2:=mul_in hy hcb
 have n1:na≤64:=by have:=(snd_iff.1 ha).2.1;omega
 have n2:nb≤64:=by have:=(snd_iff.1 hb).2.1;omega
 have hwx:=fun W=>within_any x 4096 W (by omega) (by omega)
 have hwy:=fun W=>within_any y 4096 W (by omega) (by omega)
 rw[wi_t hx]at hwx
 rw[wi_t hy]at hwy
 have hck1:=fun W (hb:Below w.heap.size w W)=>check_yes ca a na capa la W hna ((hla.below hb).mono hb.size) ha
 have hck2:=fun W (hb':Below w.heap.size w W)=>check_yes cb b nb capb lb W hnb ((hlb.below hb').mono hb'.size) hb
 have HT:=Lib.hid (fun i (hi:i<na)=>snd_terms ha (la.getD i (0,0)) (by rw[List.getD_eq_getElem?_getD,List.getElem?_eq_getElem (by omega)];simp))
 have HT2:=Lib.hid (fun i (hi:i<nb)=>snd_terms hb (lb.getD i (0,0)) (by rw[List.getD_eq_getElem?_getD,List.getElem?_eq_getElem (by omega)];simp))
 have HNA:=Lib.hid hna
 have HNB:=Lib.hid hnb
 have HLA:=Lib.hid hla
 have HLB:=Lib.hid hlb
 have HG:=Lib.hid hga
 have HC1:=Lib.hid hck1
 have HC2:=Lib.hid hck2
 have T0:=Lib.hid (three_start w ca cb a b na nb capa capb)
 clear hna hnb hla hlb ha hb hga hck1 hck2
 go_enter Tryd.func19,Tryd.ntmps19
 go_wp2_with fail
 refine(HC1.out _ T0.out.bel).mono ?_
 rintro e w1 ⟨rfl,hb1⟩
 have T1:=Lib.hid (T0.out.below hb1 T0.out.lt)
 obtain⟨l1,_,_,b10,b11,_,_,_,_⟩:=T1.out
 have l1':w.heap.size+1<w1.heap.size:=by omega
 clear hb1
 go_wp2_with fail
 refine(HC2.out _ T1.out.bel).mono ?_
 rintro e w2 ⟨rfl,hb2⟩
 have T2:=Lib.hid (T1.out.below hb2 T1.out.lt)
 clear hb2 b10 b11 l1 l1'
 obtain⟨l2,a0,a1,b0,b1,r0,r1,rf,_⟩:=T2.out
 go_wp2_with fail
 refine(hwx _).mono ?_
 rintro e w' ⟨rfl,rfl⟩
 go_wp2_with fail
 refine(hwy _).mono ?_
 rintro e w' ⟨rfl,rfl⟩
 go_wp2_with (at_make;refine wpList_make_own _ rfl _ _ 36 rfl w2.heap.size 35 i0 (.agg #[.int .i64 0,.int .i64 0]) 2 Tryd.underlying36 hi hz0 hz1 .i64 .i64 _ (na+nb) rfl rfl (by omega) (by rw[hz2];omega) (by unfold maxLen;omega) (Nat.le_refl _) ?_)
 intro w3 hown3 hgrow3
 have B3:Hid (Below w2.heap.size w2 w3):=(Below.refl _ w2).grown hgrow3 (Nat.le_refl _) (fun k hk=>by cases hk)
 have HO3:Hid (Row w2.heap.size ([] ++ scale x (la.take 0)) (.slice (some ⟨w2.heap.size,0,none⟩) 0 (na+nb)) w3):=by
  show Row _ _ _ _
  simpa [Row,scale,flat]using hown3
 obtain⟨l3,a30,a31,b30,b31,_,_,_,_⟩:=T2.out.below B3.out T2.out.lt
 clear hown3 hgrow3 a0 a1 b0 b1 r0 r1 rf
 go_wp2_with fail
 go_loopw [10,46] (fun s i wr=>∃k:Nat,k≤na∧i= .int .i64 k∧Hid (Row w2.heap.size ([] ++ scale x (la.take k)) s wr)∧Hid (Below w2.heap.size w2 wr)) (fun _ i _=>na - (intOf i).toNat)
 case atStart=>exact⟨0,Nat.zero_le _,rfl,HO3,B3⟩
 case round=>
  obtain⟨k,hk,rfl,hrow,hb⟩:=hrel
  by_cases hlt:k<na
  ·have hbw:Below w.heap.size w wr:=T2.out.bel.trans (hb.out.mono (by omega))
   obtain⟨bb,off,rfl,hblt,c1,c2⟩:=(HLA.out.below hbw) k (by rw[HNA.out];exact hlt)
   have hts:=take_snoc la k (by rw[HNA.out];exact hlt)
   have hm:=mul_in hx (HT.out k hlt).2
   have hrl:([] ++ scale x (la.take k)).length≤128:=by rw[List.length_append,scale_len,List.length_take];simp;omega
   have HT3:Hid ([] ++ scale x (la.take (k+1))=([] ++ scale x (la.take k)) ++ [((la.getD k (0,0)).1,x*(la.getD k (0,0)).2)]):=by
    show _=_
    rw[hts,scale_snoc,List.append_assoc]
   generalize (la.getD k (0,0)).1=v at c1 HT3
   generalize (la.getD k (0,0)).2=u at c2 HT3 hm
   generalize [] ++ scale x (la.take k)=r at hrow hrl HT3
   have hzr:w2.heap.size≤wr.heap.size:=hb.out.size
   clear hts hbw
   go_wp2_with (at_builtin;refine wpList_append_own _ rfl _ _ 36 rfl w2.heap.size 35 i0 _ 2 16 Tryd.underlying36 hi hz0 hz1 hz2 rfl (by decide) u10 r.length (flat r) rfl (World.ownsRow.alloc (World.ownsRow.alloc hrow.out _) _) ⟨wr.heap.size+1,0,none⟩ 1 1 [.int .i64 v,.int .i64 (x*u)] rfl rfl ?c2 ?c3 ?c4 ?c5 ?c6 ?_)
   case c2=>exact fun j z hj=>two_at2 wr _ _ _ _ j z hj
   case c3=>first | exact⟨rfl,rfl⟩ | exact flat_cells [(v,x*u)]
   case c4=>unfold maxLen;omega
   case c5=>omega
   case c6=>simp;omega
   intro v' w4 hown' hgrow _
   have HO:Hid (Row w2.heap.size ([] ++ scale x (la.take (k+1))) v' w4):=by
    show Row _ _ _ _
    rw[HT3.out]
    unfold Row
    rw[List.length_append,flat_append]
    exact hown'
   have HB:Hid (Below w2.heap.size w2 w4):=((hb.out.alloc hzr _).alloc (by simp;omega) _).grown hgrow (by simp;omega) (fun j hj=>(World.ownsRow.lt hrow.out j hj).1)
   clear hown' hgrow hrow
   go_wp2
   go_roundw
   case rel=>exact⟨k+1,by omega,by go_num,HO,HB⟩
   case measure=>simp[intOf];omega
  ·obtain rfl:k=na:=by omega
   have HA1:Hid (Row w2.heap.size (scale x la ++ scale y (lb.take 0)) u10 wr):=by
    have:=hrow.out
    rw[List.nil_append,List.take_of_length_le (by rw[HNA.out];exact Nat.le_refl _)]at this
    show Row _ _ _ _
    simpa [scale]using this
   obtain⟨l4,a40,a41,b40,b41,r40,r41,rf4,_⟩:=T2.out.below hb.out T2.out.lt
   clear hrow a30 a31 b30 b31
   go_wp2_with fail
   go_loopw [10,64] (fun s i wr=>∃k:Nat,k≤nb∧i= .int .i64 k∧Hid (Row w2.heap.size (scale x la ++ scale y (lb.take k)) s wr)∧Hid (Below w2.heap.size w2 wr)) (fun _ i _=>nb - (intOf i).toNat)
   case atStart=>exact⟨0,Nat.zero_le _,rfl,HA1,hb⟩
   case round=>
    obtain⟨k,hk,rfl,hrow,hb⟩:=hrel
    by_cases hlt:k<nb
    ·have hbw:Below w.heap.size w wr:=T2.out.bel.trans (hb.out.mono (by omega))
     obtain⟨bb,off,rfl,hblt,c1,c2⟩:=(HLB.out.below hbw) k (by rw[HNB.out];exact hlt)
     have hts:=take_snoc lb k (by rw[HNB.out];exact hlt)
     have hm:=mul_in hy (HT2.out k hlt).2
     have hrl:(scale x la ++ scale y (lb.take k)).length≤128:=by have:=HNA.out;simp[scale_len];omega
     have HT3:Hid (scale x la ++ scale y (lb.take (k+1))=(scale x la ++ scale y (lb.take k)) ++ [((lb.getD k (0,0)).1,y*(lb.getD k (0,0)).2)]):=by
      show _=_
      rw[hts,scale_snoc,List.append_assoc]
     generalize (lb.getD k (0,0)).1=v at c1 HT3
     generalize (lb.getD k (0,0)).2=u at c2 HT3 hm
     generalize scale x la ++ scale y (lb.take k)=r at hrow hrl HT3
     have hzr:w2.heap.size≤wr.heap.size:=hb.out.size
     clear hts hbw
     go_wp2_with (at_builtin;refine wpList_append_own _ rfl _ _ 36 rfl w2.heap.size 35 i0 _ 2 16 Tryd.underlying36 hi hz0 hz1 hz2 rfl (by decide) u10 r.length (flat r) rfl (World.ownsRow.alloc (World.ownsRow.alloc hrow.out _) _) ⟨wr.heap.size+1,0,none⟩ 1 1 [.int .i64 v,.int .i64 (y*u)] rfl rfl ?c2 ?c3 ?c4 ?c5 ?c6 ?_)
     case c2=>exact fun j z hj=>two_at2 wr _ _ _ _ j z hj
     case c3=>first | exact⟨rfl,rfl⟩ | exact flat_cells [(v,y*u)]
     case c4=>unfold maxLen;omega
     case c5=>omega
     case c6=>simp;omega
     intro v' w4 hown' hgrow _
     have HO:Hid (Row w2.heap.size (scale x la ++ scale y (lb.take (k+1))) v' w4):=by
      show Row _ _ _ _
      rw[HT3.out]
      unfold Row
      rw[List.length_append,flat_append]
      exact hown'
     have HB:Hid (Below w2.heap.size w2 w4):=((hb.out.alloc hzr _).alloc (by simp;omega) _).grown hgrow (by simp;omega) (fun j hj=>(World.ownsRow.lt hrow.out j hj).1)
     clear hown' hgrow hrow
     go_wp2
     go_roundw
     case rel=>exact⟨k+1,by omega,by go_num,HO,HB⟩
     case measure=>simp[intOf];omega
    ·obtain rfl:k=nb:=by omega
     have HF:Hid (Row w2.heap.size (scale x la ++ scale y lb) u10 wr):=by
      have:=hrow.out
      rwa [List.take_of_length_le (by rw[HNB.out];exact Nat.le_refl _)]at this
     obtain⟨a5,cap5,rfl,_,_⟩:=HF.out.lies
     have hlen5:(scale x la ++ scale y lb).length≤8192:=by rw[List.length_append,scale_len,scale_len,HNA.out,HNB.out];omega
     have T5:=Lib.hid (T2.out.below hb.out T2.out.lt)
     obtain⟨l5,a50,a51,b50,b51,r50,r51,rf5,_⟩:=T5.out
     have hcon:=HG.out a5 _ cap5 wr w2.heap.size rfl HF.out hb.out.size hlen5
     rw[List.length_append]at hcon
     clear hrow
     go_wp2_with fail
     refine hcon.mono ?_
     rintro e w7 ⟨rfl,hb7⟩
     have T7:=Lib.hid (T5.out.below hb7 T2.out.lt)
     clear hcon hb7 a50 a51 b50 b51 r50 r51 rf5 l5
     obtain⟨l7,_,_,_,_,r70,r71,rf7,bel7⟩:=T7.out
     have hbf:=(bel7.setCell (p:=⟨w.heap.size+2,0,none⟩) (Nat.le_add_right _ _) (.int .i64 0)).setCell (p:=⟨w.heap.size+2,1,none⟩) (Nat.le_add_right _ _) (.slice none 0 0)
     obtain⟨e0,e1⟩:=res_cells w7 (w.heap.size+2) (.int .i64 0) (.slice none 0 0) _ _ r70 r71
     clear bel7
     go_wp2_with fail
     refine bodyPost_ret (v:= .tuple #[.agg #[.int .i64 0,.slice none 0 0],.iface 49 (.int .i64 j)]) ?_ rfl ⟨rfl,hbf⟩
     clear r70 r71 rf7
     simp[results,Tryd.results19,go_sem,e0,e1]
end Lf
namespace Lf
open Go.RowKit
theorem snd_of_sum {c:Int}{l R:List (Int×Int)}(h:IsSum l R)(hc:wi c 1073741824=true)(hk:∀m∈R,wi m.2 1073741824=true)(h64:R.length≤64)(hV:∀m∈l,0≤m.1∧m.1<1048576):snd c R=true:=by
 refine snd_iff.2 ⟨hc,h64,fun i hi=>okAt_mk ?_⟩
 have hmem:R.getD i (0,0)∈R:=by rw[List.getD_eq_getElem?_getD,List.getElem?_eq_getElem hi];simp
 obtain⟨x,hx,hxe⟩:=h.comes hmem
 have hv:=hV x hx
 have hw:=hk _ hmem
 unfold wi at hw
 have hw: -1073741824≤(R.getD i (0,0)).2∧(R.getD i (0,0)).2≤1073741824:=by simpa using hw
 refine⟨?_,h.nz _ hmem,by omega,by omega,hw.1,hw.2⟩
 by_cases h0:i=0
 ·subst h0;rw[lastAt_zero];omega
 ·obtain⟨j,rfl⟩:∃j,i=j+1:=⟨i - 1,by omega⟩
  rw[lastAt_succ]
  have:=List.pairwise_iff_getElem.1 h.up j (j+1) (by omega) hi (by omega)
  rw[List.getD_eq_getElem?_getD,List.getElem?_eq_getElem (show j<R.length by omega),List.getD_eq_getElem?_getD,List.getElem?_eq_getElem hi]
  simpa using this
end Lf
end Go.Proofs.YtjbkhdbjdahbiaaDoor
