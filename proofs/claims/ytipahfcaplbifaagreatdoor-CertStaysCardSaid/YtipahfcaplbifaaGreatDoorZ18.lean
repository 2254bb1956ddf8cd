/- Parts of a proof. -/
import Derived.Test.YtipahfcaplbifaaGreatDoorZ14
set_option linter.unusedVariables false
set_option linter.unusedSimpArgs false
set_option maxHeartbeats 60000000
set_option maxRecDepth 100000
namespace Go.Proofs.YtipahfcaplbifaaGreatDoor
section
open Go.RowKit
theorem rfine_4 (n:Nat)(f:FT)(cs:List Value)(w:World)(IH:∀(f:FT) (cs:List Value) (w:World),FLies w.heap.size w n f cs→Calls Tryz.prog 94 #[.agg cs.toArray] w fun e w'=>e= .returned (.bool (sndF n f))∧Below w.heap.size w w')
 (h:FLies w.heap.size w (n+1) f cs) (hk:f.kind=4):
 Calls Tryz.prog 94 #[.agg cs.toArray] w fun e w'=>e= .returned (.bool (sndF (n+1) f))∧Below w.heap.size w w':=by
 obtain⟨ta,tcap,ka,kcap,rfl,hlt,ht4,hk4,hks⟩:=h
 have HC:=Lib.hid (fun W (hb:Below w.heap.size w W)=>rcheck_any f.c ta f.t.length tcap f.t W rfl ht4 ((hlt.below hb).mono hb.size))
 have HI:=Lib.hid IH
 have HK:=Lib.hid hks
 have HR:Hid (sndF (n+1) f=(ownV f.kind f.c f.t.length f.ks.length (snd f.c f.t) && decide (∀i,i<f.ks.length→sndF n (f.ks.getD i default)=true))):=rfl
 have HA1:=Lib.hid (fun i (hi:i<f.ks.length) (h:sndF n (f.ks.getD i default)=false)=>decide_eq_false (p:=∀i,i<f.ks.length→sndF n (f.ks.getD i default)=true) (fun hh=>by rw[hh i hi]at h;cases h))
 have HA2:=Lib.hid (fun h=>decide_eq_true (p:=∀i,i<f.ks.length→sndF n (f.ks.getD i default)=true) h)
 have B0:=Lib.hid (box_start w f.kind f.c ta ka f.t.length tcap f.ks.length kcap)
 clear IH hks hlt
 generalize sndF (n+1) f=r at HR
 generalize decide (∀i,i<f.ks.length→sndF n (f.ks.getD i default)=true)=all at HR HA1 HA2
 generalize snd f.c f.t=sn at HC HR
 generalize f.kind=fk at B0 HR hk
 generalize f.c=fc at B0 HC HR
 generalize f.t.length=ft at B0 HC HR ht4
 generalize hl:f.ks.length=len at B0 HK hk4 HR HA1 HA2
 clear hl
 have hcw:=HC.out _ B0.out.bel
 have hl0:len=0→all=true:=fun e=>HA2.out (fun i hi=>by omega)
 have hlen:len=0∨(((len:Int) == 0)=false∧(0:Int)<(len:Int)):=by
  by_cases h:len=0
  ·exact .inl h
  ·exact .inr ⟨by simp;omega,by omega⟩
 subst hk
 ·by_cases hown:(fc == 0)=true∧((ft:Int) == 0)=true∧((len:Int) == 1)=true
  ·have HRT:Hid (r=all):=by show _=_;rw[HR.out];simp_all [ownV]
   obtain⟨h1,h2,h4⟩:=hown
   clear hcw hlen hl0
   go_enter Tryz.func94,Tryz.ntmps94
   go_wp2_with fail
   go_loopw [5,6] (fun s i wr=>∃(k:Nat) (o:Bool),k≤len∧i= .int .i64 k∧s= .bool o∧Hid (o=true→∀j,j<k→sndF n (f.ks.getD j default)=true)∧Hid (o=false→all=false)∧Hid (Box w wr w.heap.size 4 fc ta ft tcap ka len kcap)) (fun _ i _=>len - (intOf i).toNat)
   case atStart=>exact⟨0,true,Nat.zero_le _,rfl,rfl,(fun _ j hj=>absurd hj (Nat.not_lt_zero j)),(fun e=>by cases e),B0⟩
   case round=>
    obtain⟨k,o,hk,rfl,rfl,hyes,hno,hbx⟩:=hrel
    obtain⟨bz,_,_,_,q3,hb⟩:=hbx.out
    cases o with
    | false=>
      have hr:r=false:=by rw[HRT.out];exact hno.out rfl
      subst hr
      clear hyes hno HI HK
      by_cases hlt:k<len
      ·go_wp2_with fail
       go_ret
       exact⟨rfl,hb⟩
      ·go_wp2_with fail
       go_ret
       exact⟨rfl,hb⟩
    | true=>
      by_cases hlt:k<len
      ·obtain⟨b,off,c0,c1,c2,c3,rfl,hblt,g0,g1,g2,g3,hf⟩:=HK.out k hlt
       rw[←hb.cell (p:=⟨b,_,none⟩) hblt]at g0 g1 g2 g3
       obtain⟨ck,cc,cta,ctn,ctcap,cka,ckn,ckcap,rfl,rfl,rfl,rfl⟩:=hf.form
       have hih:=HI.out (f.ks.getD k default) _ wr ((hf.below hb).mono hb.size)
       have hy2:Hid (sndF n (f.ks.getD k default)=true→∀j,j<k+1→sndF n (f.ks.getD j default)=true):=fun hd j hj=>by
        by_cases ej:j=k
        ·rw[ej];exact hd
        ·exact hyes.out rfl j (by omega)
       have hn2:Hid (sndF n (f.ks.getD k default)=false→all=false):=fun hd=>HA1.out k hlt hd
       generalize sndF n (f.ks.getD k default)=o2 at hih hy2 hn2
       clear hyes hno hf
       go_wp2_with fail
       refine hih.mono ?_
       rintro e w1 ⟨rfl,hb1⟩
       have HB1:=Lib.hid (hbx.out.below hb1 bz)
       clear g0 g1 g2 g3 hih hb1 hb hbx q3
       go_wp2
       go_roundw
       case rel=>exact⟨k+1,o2,by omega,by go_num,rfl,hy2,hn2,HB1⟩
       case measure=>simp[intOf];omega
      ·have hr:r=true:=by rw[HRT.out];exact HA2.out (fun i hi=>hyes.out rfl i (by omega))
       subst hr
       clear hyes hno HI HK
       go_wp2_with fail
       go_ret
       exact⟨rfl,hb⟩
  ·have hr:r=false:=by
    have ho:ownV 4 fc ft len sn=false:=by
     cases h1:(fc == 0)<;>cases h2:((ft:Int) == 0)<;>cases h4:((len:Int) == 1)<;>simp_all [ownV]
    rw[HR.out,ho];rfl
   subst hr
   have hdd:(fc == 0)=false∨((fc == 0)=true∧((ft:Int) == 0)=false)∨((fc == 0)=true∧((ft:Int) == 0)=true∧((len:Int) == 1)=false):=by
    revert hown
    cases (fc == 0)<;>cases ((ft:Int) == 0)<;>cases ((len:Int) == 1)<;>simp
   clear hown hl0 hcw HR
   rcases hdd with h1 | ⟨h1,h2⟩ | ⟨h1,h2,h4⟩<;>rcases hlen with rfl | ⟨h3,hpos⟩
   all_goals
    go_enter Tryz.func94,Tryz.ntmps94
    go_wp2_with fail
    go_loopw [5,6] (fun s i wr=>s= .bool false∧i= .int .i64 0∧Hid (Below w.heap.size w wr)) (fun _ _ _=>0)
    case atStart=>exact⟨rfl,rfl,B0.out.bel⟩
    case round=>
     obtain⟨rfl,rfl,hb⟩:=hrel
     go_wp2_with fail
     go_ret
     exact⟨rfl,hb.out⟩
theorem rfine_7 (n:Nat)(f:FT)(cs:List Value)(w:World)(IH:∀(f:FT) (cs:List Value) (w:World),FLies w.heap.size w n f cs→Calls Tryz.prog 94 #[.agg cs.toArray] w fun e w'=>e= .returned (.bool (sndF n f))∧Below w.heap.size w w')
 (h:FLies w.heap.size w (n+1) f cs) (hk:(f.kind == 0)=false∧(f.kind == 1)=false∧(f.kind == 2)=false∧(f.kind == 3)=false∧(f.kind == 4)=false∧(f.kind == 5)=false∧(f.kind == 6)=false):
 Calls Tryz.prog 94 #[.agg cs.toArray] w fun e w'=>e= .returned (.bool (sndF (n+1) f))∧Below w.heap.size w w':=by
 obtain⟨ta,tcap,ka,kcap,rfl,hlt,ht4,hk4,hks⟩:=h
 have HC:=Lib.hid (fun W (hb:Below w.heap.size w W)=>rcheck_any f.c ta f.t.length tcap f.t W rfl ht4 ((hlt.below hb).mono hb.size))
 have HI:=Lib.hid IH
 have HK:=Lib.hid hks
 have HR:Hid (sndF (n+1) f=(ownV f.kind f.c f.t.length f.ks.length (snd f.c f.t) && decide (∀i,i<f.ks.length→sndF n (f.ks.getD i default)=true))):=rfl
 have HA1:=Lib.hid (fun i (hi:i<f.ks.length) (h:sndF n (f.ks.getD i default)=false)=>decide_eq_false (p:=∀i,i<f.ks.length→sndF n (f.ks.getD i default)=true) (fun hh=>by rw[hh i hi]at h;cases h))
 have HA2:=Lib.hid (fun h=>decide_eq_true (p:=∀i,i<f.ks.length→sndF n (f.ks.getD i default)=true) h)
 have B0:=Lib.hid (box_start w f.kind f.c ta ka f.t.length tcap f.ks.length kcap)
 clear IH hks hlt
 generalize sndF (n+1) f=r at HR
 generalize decide (∀i,i<f.ks.length→sndF n (f.ks.getD i default)=true)=all at HR HA1 HA2
 generalize snd f.c f.t=sn at HC HR
 generalize f.kind=fk at B0 HR hk
 generalize f.c=fc at B0 HC HR
 generalize f.t.length=ft at B0 HC HR ht4
 generalize hl:f.ks.length=len at B0 HK hk4 HR HA1 HA2
 clear hl
 have hcw:=HC.out _ B0.out.bel
 have hl0:len=0→all=true:=fun e=>HA2.out (fun i hi=>by omega)
 have hlen:len=0∨(((len:Int) == 0)=false∧(0:Int)<(len:Int)):=by
  by_cases h:len=0
  ·exact .inl h
  ·exact .inr ⟨by simp;omega,by omega⟩
 obtain⟨k0,k1,k2,k3,k4,k5,k6⟩:=hk
 ·rcases hlen with rfl | ⟨h3,hpos⟩
  ·cases h1:(fc == 0)<;>cases h2:((ft:Int) == 0)
   all_goals
    clear hcw
    go_enter Tryz.func94,Tryz.ntmps94
    go_wp2_with fail
    go_loopw [5,6] (fun s i wr=>∃o:Bool,s= .bool o∧Hid (r=o)∧i= .int .i64 0∧Hid (Below w.heap.size w wr)) (fun _ _ _=>0)
    case atStart=>exact⟨_,rfl,by show _=_;rw[HR.out];simp_all [ownV],rfl,B0.out.bel⟩
    case round=>
     obtain⟨o,rfl,hro,rfl,hb⟩:=hrel
     go_wp2_with fail
     go_ret
     have e:=hro.out
     subst e
     exact⟨rfl,hb.out⟩
  ·cases h1:(fc == 0)<;>cases h2:((ft:Int) == 0)
   all_goals
    clear hcw
    go_enter Tryz.func94,Tryz.ntmps94
    go_wp2_with fail
    go_loopw [5,6] (fun s i wr=>s= .bool false∧Hid (r=false)∧i= .int .i64 0∧Hid (Below w.heap.size w wr)) (fun _ _ _=>0)
    case atStart=>exact⟨rfl,by show _=_;rw[HR.out];simp_all [ownV],rfl,B0.out.bel⟩
    case round=>
     obtain⟨rfl,hro,rfl,hb⟩:=hrel
     go_wp2_with fail
     go_ret
     have e:=hro.out
     subst e
     exact⟨rfl,hb.out⟩
end
section
open Go.RowKit
theorem rfine_5 (n:Nat)(f:FT)(cs:List Value)(w:World)(IH:∀(f:FT) (cs:List Value) (w:World),FLies w.heap.size w n f cs→Calls Tryz.prog 94 #[.agg cs.toArray] w fun e w'=>e= .returned (.bool (sndF n f))∧Below w.heap.size w w')
 (h:FLies w.heap.size w (n+1) f cs) (hk:f.kind=5):
 Calls Tryz.prog 94 #[.agg cs.toArray] w fun e w'=>e= .returned (.bool (sndF (n+1) f))∧Below w.heap.size w w':=by
 obtain⟨ta,tcap,ka,kcap,rfl,hlt,ht4,hk4,hks⟩:=h
 have HC:=Lib.hid (fun W (hb:Below w.heap.size w W)=>rcheck_any f.c ta f.t.length tcap f.t W rfl ht4 ((hlt.below hb).mono hb.size))
 have HI:=Lib.hid IH
 have HK:=Lib.hid hks
 have HR:Hid (sndF (n+1) f=(ownV f.kind f.c f.t.length f.ks.length (snd f.c f.t) && decide (∀i,i<f.ks.length→sndF n (f.ks.getD i default)=true))):=rfl
 have HA1:=Lib.hid (fun i (hi:i<f.ks.length) (h:sndF n (f.ks.getD i default)=false)=>decide_eq_false (p:=∀i,i<f.ks.length→sndF n (f.ks.getD i default)=true) (fun hh=>by rw[hh i hi]at h;cases h))
 have HA2:=Lib.hid (fun h=>decide_eq_true (p:=∀i,i<f.ks.length→sndF n (f.ks.getD i default)=true) h)
 have B0:=Lib.hid (box_start w f.kind f.c ta ka f.t.length tcap f.ks.length kcap)
 clear IH hks hlt
 generalize sndF (n+1) f=r at HR
 generalize decide (∀i,i<f.ks.length→sndF n (f.ks.getD i default)=true)=all at HR HA1 HA2
 generalize snd f.c f.t=sn at HC HR
 generalize f.kind=fk at B0 HR hk
 generalize f.c=fc at B0 HC HR
 generalize f.t.length=ft at B0 HC HR ht4
 generalize hl:f.ks.length=len at B0 HK hk4 HR HA1 HA2
 clear hl
 have hcw:=HC.out _ B0.out.bel
 have hl0:len=0→all=true:=fun e=>HA2.out (fun i hi=>by omega)
 have hlen:len=0∨(((len:Int) == 0)=false∧(0:Int)<(len:Int)):=by
  by_cases h:len=0
  ·exact .inl h
  ·exact .inr ⟨by simp;omega,by omega⟩
 subst hk
 ·by_cases hown:(fc == 0)=true∧((ft:Int) == 0)=true
  ·have HRT:Hid (r=all):=by show _=_;rw[HR.out];simp_all [ownV]
   obtain⟨h1,h2⟩:=hown
   clear hcw hlen hl0
   go_enter Tryz.func94,Tryz.ntmps94
   go_wp2_with fail
   go_loopw [5,6] (fun s i wr=>∃(k:Nat) (o:Bool),k≤len∧i= .int .i64 k∧s= .bool o∧Hid (o=true→∀j,j<k→sndF n (f.ks.getD j default)=true)∧Hid (o=false→all=false)∧Hid (Box w wr w.heap.size 5 fc ta ft tcap ka len kcap)) (fun _ i _=>len - (intOf i).toNat)
   case atStart=>exact⟨0,true,Nat.zero_le _,rfl,rfl,(fun _ j hj=>absurd hj (Nat.not_lt_zero j)),(fun e=>by cases e),B0⟩
   case round=>
    obtain⟨k,o,hk,rfl,rfl,hyes,hno,hbx⟩:=hrel
    obtain⟨bz,_,_,_,q3,hb⟩:=hbx.out
    cases o with
    | false=>
      have hr:r=false:=by rw[HRT.out];exact hno.out rfl
      subst hr
      clear hyes hno HI HK
      by_cases hlt:k<len
      ·go_wp2_with fail
       go_ret
       exact⟨rfl,hb⟩
      ·go_wp2_with fail
       go_ret
       exact⟨rfl,hb⟩
    | true=>
      by_cases hlt:k<len
      ·obtain⟨b,off,c0,c1,c2,c3,rfl,hblt,g0,g1,g2,g3,hf⟩:=HK.out k hlt
       rw[←hb.cell (p:=⟨b,_,none⟩) hblt]at g0 g1 g2 g3
       obtain⟨ck,cc,cta,ctn,ctcap,cka,ckn,ckcap,rfl,rfl,rfl,rfl⟩:=hf.form
       have hih:=HI.out (f.ks.getD k default) _ wr ((hf.below hb).mono hb.size)
       have hy2:Hid (sndF n (f.ks.getD k default)=true→∀j,j<k+1→sndF n (f.ks.getD j default)=true):=fun hd j hj=>by
        by_cases ej:j=k
        ·rw[ej];exact hd
        ·exact hyes.out rfl j (by omega)
       have hn2:Hid (sndF n (f.ks.getD k default)=false→all=false):=fun hd=>HA1.out k hlt hd
       generalize sndF n (f.ks.getD k default)=o2 at hih hy2 hn2
       clear hyes hno hf
       go_wp2_with fail
       refine hih.mono ?_
       rintro e w1 ⟨rfl,hb1⟩
       have HB1:=Lib.hid (hbx.out.below hb1 bz)
       clear g0 g1 g2 g3 hih hb1 hb hbx q3
       go_wp2
       go_roundw
       case rel=>exact⟨k+1,o2,by omega,by go_num,rfl,hy2,hn2,HB1⟩
       case measure=>simp[intOf];omega
      ·have hr:r=true:=by rw[HRT.out];exact HA2.out (fun i hi=>hyes.out rfl i (by omega))
       subst hr
       clear hyes hno HI HK
       go_wp2_with fail
       go_ret
       exact⟨rfl,hb⟩
  ·have hr:r=false:=by
    have ho:ownV 5 fc ft len sn=false:=by
     cases h1:(fc == 0)<;>cases h2:((ft:Int) == 0)<;>simp_all [ownV]
    rw[HR.out,ho];rfl
   subst hr
   have hdd:(fc == 0)=false∨((fc == 0)=true∧((ft:Int) == 0)=false):=by
    revert hown
    cases (fc == 0)<;>cases ((ft:Int) == 0)<;>simp
   clear hown hl0 hcw HR
   rcases hdd with h1 | ⟨h1,h2⟩<;>rcases hlen with rfl | ⟨h3,hpos⟩
   all_goals
    go_enter Tryz.func94,Tryz.ntmps94
    go_wp2_with fail
    go_loopw [5,6] (fun s i wr=>s= .bool false∧i= .int .i64 0∧Hid (Below w.heap.size w wr)) (fun _ _ _=>0)
    case atStart=>exact⟨rfl,rfl,B0.out.bel⟩
    case round=>
     obtain⟨rfl,rfl,hb⟩:=hrel
     go_wp2_with fail
     go_ret
     exact⟨rfl,hb.out⟩
theorem rfine_6 (n:Nat)(f:FT)(cs:List Value)(w:World)(IH:∀(f:FT) (cs:List Value) (w:World),FLies w.heap.size w n f cs→Calls Tryz.prog 94 #[.agg cs.toArray] w fun e w'=>e= .returned (.bool (sndF n f))∧Below w.heap.size w w')
 (h:FLies w.heap.size w (n+1) f cs) (hk:f.kind=6):
 Calls Tryz.prog 94 #[.agg cs.toArray] w fun e w'=>e= .returned (.bool (sndF (n+1) f))∧Below w.heap.size w w':=by
 obtain⟨ta,tcap,ka,kcap,rfl,hlt,ht4,hk4,hks⟩:=h
 have HC:=Lib.hid (fun W (hb:Below w.heap.size w W)=>rcheck_any f.c ta f.t.length tcap f.t W rfl ht4 ((hlt.below hb).mono hb.size))
 have HI:=Lib.hid IH
 have HK:=Lib.hid hks
 have HR:Hid (sndF (n+1) f=(ownV f.kind f.c f.t.length f.ks.length (snd f.c f.t) && decide (∀i,i<f.ks.length→sndF n (f.ks.getD i default)=true))):=rfl
 have HA1:=Lib.hid (fun i (hi:i<f.ks.length) (h:sndF n (f.ks.getD i default)=false)=>decide_eq_false (p:=∀i,i<f.ks.length→sndF n (f.ks.getD i default)=true) (fun hh=>by rw[hh i hi]at h;cases h))
 have HA2:=Lib.hid (fun h=>decide_eq_true (p:=∀i,i<f.ks.length→sndF n (f.ks.getD i default)=true) h)
 have B0:=Lib.hid (box_start w f.kind f.c ta ka f.t.length tcap f.ks.length kcap)
 clear IH hks hlt
 generalize sndF (n+1) f=r at HR
 generalize decide (∀i,i<f.ks.length→sndF n (f.ks.getD i default)=true)=all at HR HA1 HA2
 generalize snd f.c f.t=sn at HC HR
 generalize f.kind=fk at B0 HR hk
 generalize f.c=fc at B0 HC HR
 generalize f.t.length=ft at B0 HC HR ht4
 generalize hl:f.ks.length=len at B0 HK hk4 HR HA1 HA2
 clear hl
 have hcw:=HC.out _ B0.out.bel
 have hl0:len=0→all=true:=fun e=>HA2.out (fun i hi=>by omega)
 have hlen:len=0∨(((len:Int) == 0)=false∧(0:Int)<(len:Int)):=by
  by_cases h:len=0
  ·exact .inl h
  ·exact .inr ⟨by simp;omega,by omega⟩
 subst hk
 ·by_cases hown:(fc == 0)=true∧((ft:Int) == 0)=true
  ·have HRT:Hid (r=all):=by show _=_;rw[HR.out];simp_all [ownV]
   obtain⟨h1,h2⟩:=hown
   clear hcw hlen hl0
   go_enter Tryz.func94,Tryz.ntmps94
   go_wp2_with fail
   go_loopw [5,6] (fun s i wr=>∃(k:Nat) (o:Bool),k≤len∧i= .int .i64 k∧s= .bool o∧Hid (o=true→∀j,j<k→sndF n (f.ks.getD j default)=true)∧Hid (o=false→all=false)∧Hid (Box w wr w.heap.size 6 fc ta ft tcap ka len kcap)) (fun _ i _=>len - (intOf i).toNat)
   case atStart=>exact⟨0,true,Nat.zero_le _,rfl,rfl,(fun _ j hj=>absurd hj (Nat.not_lt_zero j)),(fun e=>by cases e),B0⟩
   case round=>
    obtain⟨k,o,hk,rfl,rfl,hyes,hno,hbx⟩:=hrel
    obtain⟨bz,_,_,_,q3,hb⟩:=hbx.out
    cases o with
    | false=>
      have hr:r=false:=by rw[HRT.out];exact hno.out rfl
      subst hr
      clear hyes hno HI HK
      by_cases hlt:k<len
      ·go_wp2_with fail
       go_ret
       exact⟨rfl,hb⟩
      ·go_wp2_with fail
       go_ret
       exact⟨rfl,hb⟩
    | true=>
      by_cases hlt:k<len
      ·obtain⟨b,off,c0,c1,c2,c3,rfl,hblt,g0,g1,g2,g3,hf⟩:=HK.out k hlt
       rw[←hb.cell (p:=⟨b,_,none⟩) hblt]at g0 g1 g2 g3
       obtain⟨ck,cc,cta,ctn,ctcap,cka,ckn,ckcap,rfl,rfl,rfl,rfl⟩:=hf.form
       have hih:=HI.out (f.ks.getD k default) _ wr ((hf.below hb).mono hb.size)
       have hy2:Hid (sndF n (f.ks.getD k default)=true→∀j,j<k+1→sndF n (f.ks.getD j default)=true):=fun hd j hj=>by
        by_cases ej:j=k
        ·rw[ej];exact hd
        ·exact hyes.out rfl j (by omega)
       have hn2:Hid (sndF n (f.ks.getD k default)=false→all=false):=fun hd=>HA1.out k hlt hd
       generalize sndF n (f.ks.getD k default)=o2 at hih hy2 hn2
       clear hyes hno hf
       go_wp2_with fail
       refine hih.mono ?_
       rintro e w1 ⟨rfl,hb1⟩
       have HB1:=Lib.hid (hbx.out.below hb1 bz)
       clear g0 g1 g2 g3 hih hb1 hb hbx q3
       go_wp2
       go_roundw
       case rel=>exact⟨k+1,o2,by omega,by go_num,rfl,hy2,hn2,HB1⟩
       case measure=>simp[intOf];omega
      ·have hr:r=true:=by rw[HRT.out];exact HA2.out (fun i hi=>hyes.out rfl i (by omega))
       subst hr
       clear hyes hno HI HK
       go_wp2_with fail
       go_ret
       exact⟨rfl,hb⟩
  ·have hr:r=false:=by
    have ho:ownV 6 fc ft len sn=false:=by
     cases h1:(fc == 0)<;>cases h2:((ft:Int) == 0)<;>simp_all [ownV]
    rw[HR.out,ho];rfl
   subst hr
   have hdd:(fc == 0)=false∨((fc == 0)=true∧((ft:Int) == 0)=false):=by
    revert hown
    cases (fc == 0)<;>cases ((ft:Int) == 0)<;>simp
   clear hown hl0 hcw HR
   rcases hdd with h1 | ⟨h1,h2⟩<;>rcases hlen with rfl | ⟨h3,hpos⟩
   all_goals
    go_enter Tryz.func94,Tryz.ntmps94
    go_wp2_with fail
    go_loopw [5,6] (fun s i wr=>s= .bool false∧i= .int .i64 0∧Hid (Below w.heap.size w wr)) (fun _ _ _=>0)
    case atStart=>exact⟨rfl,rfl,B0.out.bel⟩
    case round=>
     obtain⟨rfl,rfl,hb⟩:=hrel
     go_wp2_with fail
     go_ret
     exact⟨rfl,hb.out⟩
end
end Go.Proofs.YtipahfcaplbifaaGreatDoor
