/- Parts of a proof. -/
import Derived.Test.YtjbkhdbjdahbiaaGreatDoorV01
import Derived.Test.YtjbkhdbjdahbiaaGreatDoorV02
set_option linter.unusedVariables false
set_option linter.unusedSimpArgs false
set_option maxHeartbeats 60000000
set_option maxRecDepth 100000
namespace Go.Proofs.YtjbkhdbjdahbiaaGreatDoor
namespace Lf
open Go.RowKit
theorem of_any (v:Int)(a:Option Addr)(n cap:Nat)(zs:List Int)(w:World)(hn:zs.length=n)(hm:n≤9223372036854775807)(hv:0≤v)(hz:Nums w.heap.size w a zs):
 Calls Tryz.prog 43 #[.slice a n cap,.int .i64 v] w fun e w'=>e= .returned (.int .i64 (valOf zs v))∧w=w':=by
 by_cases hlt:v<n
 ·obtain⟨i,rfl⟩:=Int.eq_ofNat_of_zero_le hv
  obtain⟨b,off,rfl,hb,hc⟩:=hz i (by omega)
  have hx2:valOf zs (i:Int)=zs.getD i 0:=by unfold valOf;rw[if_pos (by omega)];simp
  rw[hx2]
  generalize zs.getD i 0=x at hc⊢
  clear hz hn hx2
  go_enter Tryz.func43,Tryz.ntmps43
  go_wp2
  go_ret
  exact⟨rfl,rfl⟩
 ·have hx2:valOf zs v=0:=by unfold valOf;rw[if_neg (by omega)]
  rw[hx2]
  clear hz hn hx2
  go_enter Tryz.func43,Tryz.ntmps43
  go_wp2
  go_ret
  exact⟨rfl,rfl⟩
theorem sAt_eq (c:Int)(l:List (Int×Int))(zs:List Int)(k:Nat):sAt c l zs (k+1)=sAt c l zs k+valOf zs (l.getD k (0,0)).1*(l.getD k (0,0)).2:=by
 show sAt c l zs k+_*_=_
 rw[Int.mul_comm]
theorem rvalue_form (c:Int)(a:Option Addr)(n cap:Nat)(l:List (Int×Int))(a2:Option Addr)(n2 cap2:Nat)(w:World)(hn:l.length=n)(hm:n≤9223372036854775807)(hl:Lies w.heap.size w a l)(hs:snd c l=false):
 Calls Tryz.prog 20 #[.agg #[.int .i64 c,.slice a n cap],.slice a2 n2 cap2] w fun e w'=>e= .returned (.tuple #[.int .i64 0,.int .i64 5])∧Below w.heap.size w w':=by
 have hb0:Below w.heap.size w (w.alloc (.cells #[.int .i64 c,.slice a n cap] 25)):=(Below.refl _ w).alloc (Nat.le_refl _) _
 have hck:=rcheck_any c a n cap l _ hn hm ((hl.below hb0).mono hb0.size)
 rw[hs]at hck
 have HB:=Lib.hid hb0
 clear hn hs hl hb0
 go_enter Tryz.func20,Tryz.ntmps20
 go_wp2_with (go_at_call 33;refine hck.mono ?_;rintro e w1 ⟨rfl,hb1⟩)
 go_ret2
 exact⟨rfl,HB.out.trans (hb1.mono (by simp))⟩
theorem val_mul {x k:Int}(hx: -16777216≤x∧x≤16777216)(hk: -1073741824≤k∧k≤1073741824): -18014398509481984≤x*k∧x*k≤18014398509481984:=by
 have h1:(x*k).natAbs≤16777216*1073741824:=by
  rw[Int.natAbs_mul];exact Nat.mul_le_mul (by omega) (by omega)
 omega
theorem rvalue_any (c:Int)(a:Option Addr)(n cap:Nat)(l:List (Int×Int))(a2:Option Addr)(n2 cap2:Nat)(zs:List Int)(w:World)(hn:l.length=n)(hn2:zs.length=n2)(hm2:n2≤9223372036854775807)(hl:Lies w.heap.size w a l)(hz:Nums w.heap.size w a2 zs)(hs:snd c l=true)
 (v r:Int) (hr:(v=sAt c l zs n∧r=0∧∀i,i<n→near l zs i=true)∨(v=0∧r=1∧¬ ∀i,i<n→near l zs i=true)):
 Calls Tryz.prog 20 #[.agg #[.int .i64 c,.slice a n cap],.slice a2 n2 cap2] w fun e w'=>e= .returned (.tuple #[.int .i64 v,.int .i64 r])∧Below w.heap.size w w':=by
 obtain⟨hwc,h64,hall⟩:=snd_iff.1 hs
 have hcb: -1073741824≤c∧c≤1073741824:=by unfold wi at hwc;simpa using hwc
 have hb0:Below w.heap.size w (w.alloc (.cells #[.int .i64 c,.slice a n cap] 25)):=(Below.refl _ w).alloc (Nat.le_refl _) _
 have hck:=rcheck_any c a n cap l _ hn (by omega) ((hl.below hb0).mono hb0.size)
 rw[hs]at hck
 have hn64:n≤64:=by omega
 have HB:=Lib.hid hb0
 have HN:=Lib.hid hn
 have HN2:=Lib.hid hn2
 have HL:=Lib.hid hl
 have HZ:=Lib.hid hz
 have HR:=Lib.hid hr
 have HK:=Lib.hid (fun j (hj:j<n)=>okAt_in (hall j (by omega)))
 have HSI:=Lib.hid (fun k (hk:k≤n) hx=>sAt_in c l zs hcb k (by omega) (fun j hj=>(okAt_in (hall j (by omega))).2.2.2.2) hx)
 clear hn hn2 hl hz hr hall hwc hb0 hs h64 hcb
 go_enter Tryz.func20,Tryz.ntmps20
 go_wp2_with (go_at_call 33;refine hck.mono ?_;rintro e w1 ⟨rfl,hb1⟩;obtain⟨hc1,hf1⟩:=bcell hb1;have hz1:w.heap.size<w1.heap.size:=(by have:=hb1.size;simp at this;omega))
 have B1:=Lib.hid (HB.out.trans (hb1.mono (by simp)))
 have a0:w1.cell? ⟨w.heap.size,1,none⟩=some (.slice a n cap):=by rw[hc1 _ _ (by simp)];simp
 clear hc1 hf1 hb1 hck
 go_loop [7,8,9] (fun s i _=>∃k:Nat,k≤n∧i= .int .i64 k∧s= .int .i64 (sAt c l zs k)∧Hid (∀j,j<k→near l zs j=true)) (fun _ i _=>n - (intOf i).toNat)
 case atStart=>exact⟨0,Nat.zero_le _,rfl,rfl,fun j hj=>absurd hj (Nat.not_lt_zero j)⟩
 case round=>
  obtain⟨k,hk,rfl,rfl,hok⟩:=hrel
  by_cases hlt:k<n
  ·obtain⟨b,off,rfl,hblt,c1,c2⟩:=(HL.out.below B1.out) k (by rw[HN.out];exact hlt)
   have hkk:=HK.out k hlt
   have hof:=of_any (l.getD k (0,0)).1 a2 n2 cap2 zs w1 HN2.out hm2 hkk.2.2.1 ((HZ.out.below B1.out).mono B1.out.size)
   have hss:=HSI.out k hk (fun j hj=>hok.out j hj)
   have hst:=sAt_eq c l zs k
   by_cases hx:near l zs k=true
   ·have hok2:Hid (∀j,j<k+1→near l zs j=true):=fun j hj=>by
     by_cases ej:j=k
     ·rw[ej];exact hx
     ·exact hok.out j (by omega)
    have hxb: -16777216≤valOf zs (l.getD k (0,0)).1∧valOf zs (l.getD k (0,0)).1≤16777216:=by unfold near wi at hx;simpa using hx
    have hm:=val_mul hxb hkk.2.2.2.2
    have HST:=Lib.hid hst
    clear hst hx hkk
    generalize hX:valOf zs (l.getD k (0,0)).1=X at hof hxb hm HST
    generalize (l.getD k (0,0)).1=v at c1 hof
    generalize (l.getD k (0,0)).2=u at c2 hm HST
    generalize hS:sAt c l zs k=S at hss HST
    clear hX hS
    go_wp2_with (go_at_call 43;refine hof.mono ?_;rintro e w' ⟨rfl,rfl⟩)
    go_round
    case rel=>exact⟨k+1,by omega,by go_num,by rw[HST.out],hok2⟩
    case measure=>simp[intOf];omega
   ·have HF:Hid (v=0∧r=1):=by
     rcases HR.out with ⟨_,_,h3⟩ | ⟨h1,h2,_⟩
     ·exact absurd (h3 k hlt) hx
     ·exact⟨h1,h2⟩
    have hxb:¬(-16777216≤valOf zs (l.getD k (0,0)).1∧valOf zs (l.getD k (0,0)).1≤16777216):=fun h=>hx (by unfold near;exact wi_t h)
    clear hst hx hkk
    generalize hX:valOf zs (l.getD k (0,0)).1=X at hof hxb
    generalize (l.getD k (0,0)).1=v at c1 hof
    clear hX
    obtain⟨rfl,rfl⟩:=HF.out
    by_cases hlo:X< -16777216
    ·go_wp2_with (go_at_call 43;refine hof.mono ?_;rintro e w' ⟨rfl,rfl⟩)
     go_ret2
     exact⟨rfl,B1.out⟩
    ·have hhi:16777216<X:=by omega
     go_wp2_with (go_at_call 43;refine hof.mono ?_;rintro e w' ⟨rfl,rfl⟩)
     go_ret2
     exact⟨rfl,B1.out⟩
  ·have hkn:n=k:=by omega
   have HF:Hid (v=sAt c l zs k∧r=0):=by
    rcases HR.out with ⟨h1,h2,_⟩ | ⟨_,_,h3⟩
    ·rw[hkn]at h1;exact⟨h1,h2⟩
    ·exact absurd (fun i hi=>hok.out i (by omega)) h3
   clear hkn HR
   obtain⟨rfl,rfl⟩:=HF.out
   clear HF
   go_wp2
   go_ret2
   exact⟨rfl,B1.out⟩
end Lf
end Go.Proofs.YtjbkhdbjdahbiaaGreatDoor
