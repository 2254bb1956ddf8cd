/- Parts of a proof. -/
import Derived.Test.YtcinokljkieijaaGreatDoorD01
set_option linter.unusedVariables false
set_option linter.unusedSimpArgs false
set_option maxHeartbeats 60000000
set_option maxRecDepth 100000
namespace Go.Proofs.YtcinokljkieijaaGreatDoor
section
open Go.RowKit
theorem deep_in (hup:UpSaid14)(hd:DeepSaid)(N:Nat)(hN:N≤200)(kd:Int)(hk: -9223372036854775808≤kd∧kd≤9223372036854775807)(K:Nat)(hK:K<5)(hm:(K=0∧kd.tmod 5=0∧¬kd.tmod 5<0)∨(K=1∧kd.tmod 5=1∧¬kd.tmod 5<0)∨(K=2∧kd.tmod 5=2∧¬kd.tmod 5<0)∨(K=3∧kd.tmod 5=3∧¬kd.tmod 5<0)∨(K=4∧kd.tmod 5=4∧¬kd.tmod 5<0)∨(K=1∧kd.tmod 5= -1∧kd.tmod 5<0)∨(K=2∧kd.tmod 5= -2∧kd.tmod 5<0)∨(K=3∧kd.tmod 5= -3∧kd.tmod 5<0)∨(K=4∧kd.tmod 5= -4∧kd.tmod 5<0))(w:World)(hL:Laid14 w):
 Calls Tryz.prog 4 #[.int .i64 (N:Int),.int .i64 kd] w fun e w'=>e= .returned (.bool true)∧Below w.heap.size w w':=by
 have HUP:=Lib.hid (hup w hL)
 have hS:(bSrc K N).size≤9223372036854775807:=Nat.le_trans (bSrc_size K N) (by omega)
 have HP1:=Lib.hid (fun W (hb:Below w.heap.size w W)=>parse_any (bSrc K N) W hS (hL.one.up hb))
 have HP2:=Lib.hid (fun W (hb:Below w.heap.size w W)=>Dc.rparse_any (bSrc K N) W hS (Nat.lt_of_lt_of_le hL.one.pos hb.size))
 rw[←ag_parse]at HP2
 have HLE:=Lib.hid (fun W (hb:Below w.heap.size w W)=>(hL.up hb).err)
 have HC:=Lib.hid (pparse_codes (bSrc K N))
 have HPL:=Lib.hid (pparse_place (bSrc K N))
 have HER:=Lib.hid (fun B er W=>deep_er hd (k:=K) (n:=N) hK (by omega) (B:=B) (er:=er) (w:=W))
 obtain⟨⟨x,at',qs⟩,hr⟩:∃r,pparse (bSrc K N)=r:=⟨_,rfl⟩
 rw[hr]at HP1 HP2 HC HPL HER
 obtain⟨nest,hne⟩:∃f,f=bNest K:=⟨_,rfl⟩
 have es:bSrc K N=(⟨#[112,114,111,99,32,112,32,40,32,59,32,41,32,114,101,113,117,105,114,101,115,32,101,109,112,32,101,110,115,117,114,101,115,32,101,109,112,32,123,32]⟩:ByteArray) ++ bStmt K (nest N) ++ (⟨#[32,125]⟩:ByteArray):=by rw[hne];rfl
 rw[es]at HP1 HP2
 have H0:Hid (nest 0=bIn K):=Lib.hid (by rw[hne];rfl)
 have HO:Hid (∀j,nest (j+1)=bFrom K ++ nest j ++ bTo K):=Lib.hid (fun j=>by rw[hne];rfl)
 have HQ:Hid (∀j,(nest j).size≤6+21*j):=Lib.hid (fun j=>by rw[hne];exact bNest_size K j)
 clear hL hr es hd hne hS hK
 have n2:=fun W=>Tryz.eqNil W
 have n3:=fun t u W=>Tryz.eqIface t u W
 have n4:=fun W=>Tryz.neNil W
 have n5:=fun t u W=>Tryz.neIface t u W
 have hn0:¬(N:Int)<0:=by omega
 have hn1:¬(200:Int)<(N:Int):=by omega
 rcases hm with ⟨rfl,hm,hm0⟩ | ⟨rfl,hm,hm0⟩ | ⟨rfl,hm,hm0⟩ | ⟨rfl,hm,hm0⟩ | ⟨rfl,hm,hm0⟩ | ⟨rfl,hm,hm0⟩ | ⟨rfl,hm,hm0⟩ | ⟨rfl,hm,hm0⟩ | ⟨rfl,hm,hm0⟩
 all_goals
  go_enter Tryz.func4,Tryz.ntmps4
  go_wp2_with fail
  refine HUP.out.mono ?_
  rintro e w1 ⟨rfl,hb1⟩
  have B1:=Lib.hid hb1
  clear hb1 HUP
  go_wp2_with fail
  go_loopw [9,10] (fun o i wr=>∃j:Nat,j≤N∧o= .string (nest j)∧i= .int .i64 j∧Hid (Below w.heap.size w wr)) (fun o i _=>N - (intOf i).toNat)
  case atStart=>exact⟨0,Nat.zero_le _,by rw[H0.out];rfl,rfl,Lib.hid (B1.out.trans (by first | exact(((Below.refl _ _).alloc (Nat.le_refl _) _).mono B1.out.size) | exact((((Below.refl _ _).alloc (Nat.le_refl _) _).alloc (by simp) _).alloc (by simp;omega) _).mono B1.out.size))⟩
  case round=>
   obtain⟨j,hj,rfl,rfl,hb⟩:=hrel
   obtain⟨wo,rfl⟩:∃wo:World,wo=wr:=⟨_,rfl⟩
   have q1:=HQ.out j
   by_cases hlt:j<N
   ·have hlti:(j:Int)<(N:Int):=by omega
    have HO1:=Lib.hid (HO.out j)
    generalize nest j=y at q1 HO1⊢
    have a1:¬ 9223372036854775807<2+y.size:=by omega
    have a2:¬ 9223372036854775807<4+y.size:=by omega
    have a3:¬ 9223372036854775807<10+y.size:=by omega
    have a4:¬ 9223372036854775807<2+y.size+2:=by omega
    have a5:¬ 9223372036854775807<10+y.size+11:=by omega
    clear q1
    go_wp2_with fail
    go_roundw
    case rel=>exact⟨j+1,by omega,by rw[HO1.out];rfl,by go_num,hb⟩
    case measure=>simp[intOf];omega
   ·obtain rfl:N=j:=by omega
    have B3:=hb
    clear B1 H0 HO HQ
    generalize nest N=y at*
    have u0:¬ 9223372036854775807<5+y.size:=by omega
    have u1:¬ 9223372036854775807<5+y.size+2:=by omega
    have u2:¬ 9223372036854775807<7+y.size:=by omega
    have u3:¬ 9223372036854775807<7+y.size+2:=by omega
    have u4:¬ 9223372036854775807<40+(5+y.size+2):=by omega
    have u5:¬ 9223372036854775807<40+(5+y.size+2)+2:=by omega
    have u6:¬ 9223372036854775807<40+(7+y.size+2):=by omega
    have u7:¬ 9223372036854775807<40+(7+y.size+2)+2:=by omega
    have u8:¬ 9223372036854775807<40+y.size:=by omega
    have u9:¬ 9223372036854775807<40+y.size+2:=by omega
    clear q1
    go_wp2_with fail
    refine(HP1.out _ B3.out).mono ?_
    rintro e w4 hq
    obtain⟨v4,er4,rfl,hs4,he4,hb4⟩:=hq
    obtain⟨va4,vc4,rfl,hs4⟩:=hs4
    have hs4:Pak.Slot qtX (InS wo.heap.size w4) w4 (.slice va4 qs.length vc4) qs:=⟨va4,vc4,rfl,hs4⟩
    have hA4:Below w4.heap.size w4 (w4.alloc (.cells #[(.slice va4 qs.length vc4)] 25)):=(Below.refl _ _).alloc (Nat.le_refl _) _
    have hn4:=heap_alloc_new w4 (.cells #[(.slice va4 qs.length vc4)] 25)
    have hz4:w4.heap.size<(w4.alloc (.cells #[(.slice va4 qs.length vc4)] 25)).heap.size:=by simp
    have hs4:=Lib.hid (show Pak.Slot qtX (fun b=>b<(w4.alloc (.cells #[(.slice va4 qs.length vc4)] 25)).heap.size) (w4.alloc (.cells #[(.slice va4 qs.length vc4)] 25)) (.slice va4 qs.length vc4) qs from hs4.keep (fun b ⟨_,hb⟩=>Nat.lt_trans hb hz4) (fun b o ⟨_,hb⟩=>hA4.cell (p:=⟨b,o,none⟩) hb))
    have c4:(w4.alloc (.cells #[(.slice va4 qs.length vc4)] 25)).cell? ⟨w4.heap.size,0,none⟩=some (.slice va4 qs.length vc4):=(cell_of_row _ _ _ _ _ _ hn4).trans rfl
    have C4:=Lib.hid c4
    have B4:=Lib.hid ((B3.out.trans (hb4.mono B3.out.size)).trans (hA4.mono (B3.out.trans (hb4.mono B3.out.size)).size))
    have Z4:=Lib.hid hz4
    have HCS:=Lib.hid (HER.out _ _ _ he4)
    have E4:=Lib.hid (he4.below hA4)
    clear he4 hb4 hA4 hn4 hz4 c4 HP1 B3 HER
    go_wp2_with fail
    generalize hW4:w4.alloc (.cells #[(.slice va4 qs.length vc4)] 25)=W4 at*
    refine(HP2.out _ B4.out).mono ?_
    rintro e w5 hq
    obtain⟨v5,rfl,hs5,hb5⟩:=hq
    obtain⟨va5,vc5,rfl,hs5⟩:=hs5
    have hs5:Pak.Slot qtX (InS W4.heap.size w5) w5 (.slice va5 qs.length vc5) qs:=⟨va5,vc5,rfl,hs5⟩
    have hA5:Below w5.heap.size w5 (w5.alloc (.cells #[(.slice va5 qs.length vc5)] 25)):=(Below.refl _ _).alloc (Nat.le_refl _) _
    have hn5:=heap_alloc_new w5 (.cells #[(.slice va5 qs.length vc5)] 25)
    have hz5:w5.heap.size<(w5.alloc (.cells #[(.slice va5 qs.length vc5)] 25)).heap.size:=by simp
    have hs5:Pak.Slot qtX (fun b=>b<(w5.alloc (.cells #[(.slice va5 qs.length vc5)] 25)).heap.size) (w5.alloc (.cells #[(.slice va5 qs.length vc5)] 25)) (.slice va5 qs.length vc5) qs:=hs5.keep (fun b ⟨_,hb⟩=>Nat.lt_trans hb hz5) (fun b o ⟨_,hb⟩=>hA5.cell (p:=⟨b,o,none⟩) hb)
    have c5:(w5.alloc (.cells #[(.slice va5 qs.length vc5)] 25)).cell? ⟨w5.heap.size,0,none⟩=some (.slice va5 qs.length vc5):=(cell_of_row _ _ _ _ _ _ hn5).trans rfl
    have hb45:Below W4.heap.size W4 (w5.alloc (.cells #[(.slice va5 qs.length vc5)] 25)):=hb5.trans (hA5.mono hb5.size)
    have R:=Lib.hid (same_any qs (.slice va4 qs.length vc4) (.slice va5 qs.length vc5) (w5.alloc (.cells #[(.slice va5 qs.length vc5)] 25)) _ _ (hs4.out.keep (S':=fun b=>b<(w5.alloc (.cells #[(.slice va5 qs.length vc5)] 25)).heap.size) (fun b hb=>Nat.lt_of_lt_of_le hb hb45.size) (fun b o hb=>hb45.cell (p:=⟨b,o,none⟩) hb)) hs5 (fun _ h=>h) (fun _ h=>h))
    have P4:Hid (∀W,Below (w5.alloc (.cells #[(.slice va5 qs.length vc5)] 25)).heap.size (w5.alloc (.cells #[(.slice va5 qs.length vc5)] 25)) W→W.cell? ⟨w4.heap.size,0,none⟩=some (.slice va4 qs.length vc4)):=fun W hW=>(hW.cell (p:=⟨w4.heap.size,0,none⟩) (Nat.lt_of_lt_of_le Z4.out hb45.size)).trans ((hb45.cell (p:=⟨w4.heap.size,0,none⟩) Z4.out).trans C4.out)
    have P5:Hid (∀W,Below (w5.alloc (.cells #[(.slice va5 qs.length vc5)] 25)).heap.size (w5.alloc (.cells #[(.slice va5 qs.length vc5)] 25)) W→W.cell? ⟨w5.heap.size,0,none⟩=some (.slice va5 qs.length vc5)):=fun W hW=>(hW.cell (p:=⟨w5.heap.size,0,none⟩) hz5).trans c5
    have B5:=Lib.hid (B4.out.trans (hb45.mono B4.out.size))
    have T:=Lib.hid (told_all (E4.out.below hb45) HC.out HPL.out (HLE.out _ B5.out))
    clear hb5 hA5 hn5 hz5 c5 HP2 B4 hs4 hs5 hb45 E4 C4 Z4 hW4 HC HPL HLE
    go_wp2_with fail
    generalize w5.alloc (.cells #[(.slice va5 qs.length vc5)] 25)=W5 at*
    refine(T.out _ (Below.refl _ _)).mono ?_
    rintro e w6 ⟨rfl,hb6⟩
    have d4:=P4.out w6 hb6
    have d5:=P5.out w6 hb6
    have R6:=Lib.hid (R.out.at hb6)
    have B6:=Lib.hid (B5.out.trans (hb6.mono B5.out.size))
    clear T R P4 P5 B5 hb6
    go_wp2_with fail
    refine R6.out.mono ?_
    rintro e w7 ⟨rfl,hb7⟩
    have B7:=Lib.hid (B6.out.trans (hb7.mono B6.out.size))
    have hcs:=HCS.out
    clear R6 B6 hb7 HCS
    rcases hcs with ⟨c1,rfl⟩ | ⟨c1,c2,rfl | ⟨t8,u8,rfl⟩⟩ | ⟨c1,t8,u8,rfl⟩
    ·have f1:¬(40:Int)<(N:Int):=by omega
     have f2:(N:Int)<(52:Int):=by omega
     go_wp2_with fail
     go_ret
     exact⟨rfl,B7.out⟩
    ·have f1:(40:Int)<(N:Int):=by omega
     have f2:(N:Int)<(52:Int):=by omega
     go_wp2_with fail
     go_ret
     exact⟨rfl,B7.out⟩
    ·have f1:(40:Int)<(N:Int):=by omega
     have f2:(N:Int)<(52:Int):=by omega
     go_wp2_with fail
     go_ret
     exact⟨rfl,B7.out⟩
    ·have f1:(40:Int)<(N:Int):=by omega
     have f2:¬(N:Int)<(52:Int):=by omega
     go_wp2_with fail
     go_ret
     exact⟨rfl,B7.out⟩
end
end Go.Proofs.YtcinokljkieijaaGreatDoor
