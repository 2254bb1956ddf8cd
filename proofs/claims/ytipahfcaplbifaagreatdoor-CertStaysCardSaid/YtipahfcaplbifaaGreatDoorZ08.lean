/- Parts of a proof. -/
import Derived.Test.YtipahfcaplbifaaGreatDoorZ02
import Derived.Test.YtipahfcaplbifaaGreatDoorZ06
set_option linter.unusedVariables false
set_option linter.unusedSimpArgs false
set_option maxHeartbeats 60000000
set_option maxRecDepth 100000
namespace Go.Proofs.YtipahfcaplbifaaGreatDoor
section
open Go.RowKit
theorem Tryz.eqNil (w:World):(binOp .eql 26 .nilIface .nilIface).run Tryz.prog w= .ok (.bool true) w:=by simp[go_sem]
def errV (b:Bool):Value:=if b then .nilIface else .iface 60 (.int .i64 5)
theorem lcheck_any (c:Int)(a:Option Addr)(n cap:Nat)(l:List (Int×Int))(w:World)(hn:l.length=n)(hm:n≤9223372036854775807)(hl:Lies w.heap.size w a l):
 Calls Tryz.prog 22 #[.agg #[.int .i64 c,.slice a n cap]] w fun e w'=>e= .returned (errV (snd c l))∧Below w.heap.size w w':=by
 by_cases hs:snd c l=true
 ·rw[hs];exact check_yes c a n cap l w hn hl hs
 ·have hs':snd c l=false:=by simpa using hs
  rw[hs'];exact check_no c a n cap l w hn hm hl hs'
theorem sound_any:∀(n:Nat) (f:FT) (cs:List Value) (w:World),FLies w.heap.size w n f cs→
 Calls Tryz.prog 70 #[.agg cs.toArray] w fun e w'=>e= .returned (.bool (sndF n f))∧Below w.heap.size w w'
 | 0,_,_,_,h=>h.elim
 | n+1,f,cs,w,h=>by
   have IH:=sound_any n
   obtain⟨ta,tcap,ka,kcap,rfl,hlt,ht4,hk4,hks⟩:=h
   have HC:=Lib.hid (fun W (hb:Below w.heap.size w W)=>lcheck_any f.c ta f.t.length tcap f.t W rfl ht4 ((hlt.below hb).mono hb.size))
   have HI:=Lib.hid IH
   have HK:=Lib.hid hks
   have HNO:=Lib.hid (fun i=>sndF_no (n:=n) (f:=f) (i:=i))
   have HYES:=Lib.hid (fun h=>(sndF_yes (n:=n) (f:=f) h).trans rfl)
   have HB0:Hid (Below (w.heap.size+1) (w.alloc (.cells #[.int .i64 f.kind,.int .i64 f.c,.slice ta f.t.length tcap,.slice ka f.ks.length kcap] 39)) (w.alloc (.cells #[.int .i64 f.kind,.int .i64 f.c,.slice ta f.t.length tcap,.slice ka f.ks.length kcap] 39))):=Below.refl _ _
   unfold ownF at HYES
   clear IH hks hlt
   generalize sndF (n+1) f=r at HNO HYES
   generalize snd f.c f.t=sn at HC HYES
   generalize f.kind=fk at HB0 HYES
   generalize f.c=fc at HB0 HC HYES
   generalize f.t.length=ft at HB0 HC HYES ht4
   generalize hl:f.ks.length=len at HB0 HK hk4 HNO HYES
   clear hl
   go_enter Tryz.func70,Tryz.ntmps70
   go_wp2
   go_loopw [9] (fun i wr=>∃k:Nat,k≤len∧i= .int .i64 k∧Hid (∀j,j<k→sndF n (f.ks.getD j default)=true)∧Below (w.heap.size+1) (w.alloc (.cells #[.int .i64 fk,.int .i64 fc,.slice ta ft tcap,.slice ka len kcap] 39)) wr) (fun i _=>len - (intOf i).toNat)
   case atStart=>exact⟨0,Nat.zero_le _,rfl,fun j hj=>absurd hj (Nat.not_lt_zero j),HB0.out⟩
   case round=>
    obtain⟨k,hk,rfl,hyes,hbx⟩:=hrel
    have hb:Below w.heap.size w wr:=((Below.refl _ w).alloc (Nat.le_refl _) _).trans (hbx.mono (by omega))
    have bz:w.heap.size<wr.heap.size:=by have:=hbx.size;simp at this;omega
    by_cases hlt:k<len
    ·obtain⟨b,off,c0,c1,c2,c3,rfl,hblt,g0,g1,g2,g3,hf⟩:=HK.out k hlt
     rw[←hb.cell (p:=⟨b,_,none⟩) hblt]at g0 g1 g2 g3
     obtain⟨ck,cc,cta,ctn,ctcap,cka,ckn,ckcap,rfl,rfl,rfl,rfl⟩:=hf.form
     have hb2:=hb.alloc hb.size (.cells #[.int .i64 ck,.int .i64 cc,.slice cta ctn ctcap,.slice cka ckn ckcap] 39)
     have hbx2:=hbx.alloc (show w.heap.size+1≤wr.heap.size by omega) (.cells #[.int .i64 ck,.int .i64 cc,.slice cta ctn ctcap,.slice cka ckn ckcap] 39)
     have hih:=HI.out (f.ks.getD k default) _ _ ((hf.below hb2).mono hb2.size)
     by_cases hd:sndF n (f.ks.getD k default)=true
     ·rw[hd]at hih
      have hyes2:Hid (∀j,j<k+1→sndF n (f.ks.getD j default)=true):=fun j hj=>by
       by_cases ej:j=k
       ·rw[ej];exact hd
       ·exact hyes.out j (by omega)
      clear hd hf hyes
      go_wp2_with fail
      refine hih.mono ?_
      rintro e w1 ⟨rfl,hb1⟩
      have HB1:=Lib.hid (hbx2.trans (hb1.mono (by simp;omega)))
      clear g0 g1 g2 g3 hih hb1 hb2 hbx2
      go_wp2
      go_roundw
      case rel=>exact⟨k+1,by omega,by go_num,hyes2,HB1.out⟩
      case measure=>simp[intOf];omega
     ·have hd':sndF n (f.ks.getD k default)=false:=by simpa using hd
      have hr:r=false:=HNO.out k hlt hd'
      rw[hd']at hih
      subst hr
      clear hd hd' hf hyes
      go_wp2_with fail
      refine hih.mono ?_
      rintro e w1 ⟨rfl,hb1⟩
      have HB1:=Lib.hid (hb2.trans (hb1.mono hb2.size))
      clear g0 g1 g2 g3 hih hb1 hb2 hbx2
      go_wp2
      go_ret
      exact⟨rfl,HB1.out⟩
    ·have hr:Hid (r=ownV fk fc ft len sn):=HYES.out (fun i hi=>hyes.out i (by omega))
     have q0:wr.cell? ⟨w.heap.size,0,none⟩=some (.int .i64 fk):=by rw[hbx.cell (p:=⟨w.heap.size,0,none⟩) (by simp)];simp
     have q1:wr.cell? ⟨w.heap.size,1,none⟩=some (.int .i64 fc):=by rw[hbx.cell (p:=⟨w.heap.size,1,none⟩) (by simp)];simp
     have q2:wr.cell? ⟨w.heap.size,2,none⟩=some (.slice ta ft tcap):=by rw[hbx.cell (p:=⟨w.heap.size,2,none⟩) (by simp)];simp
     have q3:wr.cell? ⟨w.heap.size,3,none⟩=some (.slice ka len kcap):=by rw[hbx.cell (p:=⟨w.heap.size,3,none⟩) (by simp)];simp
     have HCW:=Lib.hid (HC.out wr hb)
     have HBW:=Lib.hid hb
     clear hyes HYES HNO HI HK hbx hb HB0 HC
     have hkk:fk=0∨fk=1∨fk=2∨fk=3∨fk=4∨fk=5∨fk=6∨((fk == 0)=false∧(fk == 1)=false∧(fk == 2)=false∧(fk == 3)=false∧(fk == 4)=false∧(fk == 5)=false∧(fk == 6)=false):=by
      simp only[beq_eq_false_iff_ne,ne_eq];omega
     rcases hkk with rfl | rfl | rfl | rfl | rfl | rfl | rfl | ⟨k0,k1,k2,k3,k4,k5,k6⟩
     ·cases h1:(fc == 0)<;>cases h2:((ft:Int) == 0)<;>cases h3:((len:Int) == 0)
      all_goals
       go_wp2_with fail
       go_ret
       exact⟨ret_bool (by rw[hr.out];simp_all [ownV]),HBW.out⟩
     ·cases h1:(fc == 0)<;>cases h2:((ft:Int) == 0)<;>cases h3:((len:Int) == 0)
      all_goals
       go_wp2_with fail
       go_ret
       exact⟨ret_bool (by rw[hr.out];simp_all [ownV]),HBW.out⟩
     ·have hcw:=HCW.out
      have en:=fun W=>Tryz.eqNil W
      have ei:=fun W=>Tryz.eqIfaceNil 5 W
      cases h1:(fc == 0)<;>cases h2:((ft:Int) == 0)<;>cases h3:((len:Int) == 0)<;>cases sn
      all_goals
       simp only[errV]at hcw
       go_wp2_with fail
       refine hcw.mono ?_
       rintro e w1 ⟨rfl,hb1⟩
       have HB1:=Lib.hid (HBW.out.trans (hb1.mono HBW.out.size))
       have q31:w1.cell? ⟨w.heap.size,3,none⟩=some (.slice ka len kcap):=(hb1.cell (p:=⟨w.heap.size,3,none⟩) bz).trans q3
       have bz1:w.heap.size<w1.heap.size:=by have:=hb1.size;omega
       clear hb1 hcw
       go_wp2_with fail
       go_ret
       exact⟨ret_bool (by rw[hr.out];simp_all [ownV]),HB1.out⟩
     ·have hcw:=HCW.out
      have en:=fun W=>Tryz.eqNil W
      have ei:=fun W=>Tryz.eqIfaceNil 5 W
      cases h1:(fc == 0)<;>cases h2:((ft:Int) == 0)<;>cases h3:((len:Int) == 0)<;>cases sn
      all_goals
       simp only[errV]at hcw
       go_wp2_with fail
       refine hcw.mono ?_
       rintro e w1 ⟨rfl,hb1⟩
       have HB1:=Lib.hid (HBW.out.trans (hb1.mono HBW.out.size))
       have q31:w1.cell? ⟨w.heap.size,3,none⟩=some (.slice ka len kcap):=(hb1.cell (p:=⟨w.heap.size,3,none⟩) bz).trans q3
       have bz1:w.heap.size<w1.heap.size:=by have:=hb1.size;omega
       clear hb1 hcw
       go_wp2_with fail
       go_ret
       exact⟨ret_bool (by rw[hr.out];simp_all [ownV]),HB1.out⟩
     ·cases h1:(fc == 0)<;>cases h2:((ft:Int) == 0)<;>cases h3:((len:Int) == 1)
      all_goals
       go_wp2_with fail
       go_ret
       exact⟨ret_bool (by rw[hr.out];simp_all [ownV]),HBW.out⟩
     ·cases h1:(fc == 0)<;>cases h2:((ft:Int) == 0)
      all_goals
       go_wp2_with fail
       go_ret
       exact⟨ret_bool (by rw[hr.out];simp_all [ownV]),HBW.out⟩
     ·cases h1:(fc == 0)<;>cases h2:((ft:Int) == 0)
      all_goals
       go_wp2_with fail
       go_ret
       exact⟨ret_bool (by rw[hr.out];simp_all [ownV]),HBW.out⟩
     ·cases h1:(fc == 0)<;>cases h2:((ft:Int) == 0)
      all_goals
       go_wp2_with fail
       go_ret
       exact⟨ret_bool (by rw[hr.out];simp_all [ownV]),HBW.out⟩
end
end Go.Proofs.YtipahfcaplbifaaGreatDoor
