/- Parts of a proof. -/
import Derived.Test.YtipahfcaplbifaaGreatDoorQ21
set_option linter.unusedVariables false
set_option linter.unusedSimpArgs false
set_option maxHeartbeats 60000000
set_option maxRecDepth 100000
namespace Go.Proofs.YtipahfcaplbifaaGreatDoor
section
open Go.RowKit
theorem rfine_0 (n:Nat)(f:FT)(cs:List Value)(w:World)(IH:∀(f:FT) (cs:List Value) (w:World),FLies w.heap.size w n f cs→Calls Tryz.prog 94 #[.agg cs.toArray] w fun e w'=>e= .returned (.bool (sndF n f))∧Below w.heap.size w w')
  (h:FLies w.heap.size w (n+1) f cs) (hk:f.kind=0):
  Calls Tryz.prog 94 #[.agg cs.toArray] w fun e w'=>e= .returned (.bool (sndF (n+1) f))∧Below w.heap.size w w':=by
  obtain⟨ta,tcap,ka,kcap,rfl,hlt,ht4,hk4,hks⟩:=h
  have HC:=Lib.hid (fun W (hb:Below w.heap.size w W)=>rcheck_any f.c ta f.t.length tcap f.t W rfl ht4 ((hlt.below hb).mono hb.size))
  have HI:=Lib.hid IH
  have HK:=Lib.hid hks
  have HR:Hid (sndF (n+1) f=(ownV f.kind f.c f.t.length f.ks.length (snd f.c f.t) && decide (∀i,i<f.ks.length→sndF n (f.ks.getD i default)=true))):=rfl
  have HA1:=Lib.hid (fun i (hi:i<f.ks.length) (h:sndF n (f.ks.getD i default)=false)=>decide_eq_false (p:=∀i,i<f.ks.length→sndF n (f.ks.getD i default)=true) (fun hh=>by rw[hh i hi]at h;cases h))
  have HA2:=Lib.hid (fun h=>decide_eq_true (p:=∀i,i<f.ks.length→sndF n (f.ks.getD i default)=true) h)
  have B0:=Lib.hid (box_start w f.kind f.c ta ka f.t.length tcap f.ks.length kcap)
  clear IH hks hlt
  generalize sndF (n+1) f=r at HR
  generalize decide (∀i,i<f.ks.length→sndF n (f.ks.getD i default)=true)=all at HR HA1 HA2
  generalize snd f.c f.t=sn at HC HR
  generalize f.kind=fk at B0 HR hk
  generalize f.c=fc at B0 HC HR
  generalize f.t.length=ft at B0 HC HR ht4
  generalize hl:f.ks.length=len at B0 HK hk4 HR HA1 HA2
  clear hl
  have hcw:=HC.out _ B0.out.bel
  have hl0:len=0→all=true:=fun e=>HA2.out (fun i hi=>by omega)
  have hlen:len=0∨(((len:Int) == 0)=false∧(0:Int)<(len:Int)):=by
   by_cases h:len=0
   ·exact .inl h
   ·exact .inr ⟨by simp;omega,by omega⟩
  subst hk
  ·rcases hlen with rfl | ⟨h3,hpos⟩
   ·cases h1:(fc == 0)<;>cases h2:((ft:Int) == 0)
    all_goals
     clear hcw
     go_enter Tryz.func94,Tryz.ntmps94
     go_wp2_with fail
     go_loopw [5,6] (fun s i wr=>∃o:Bool,s= .bool o∧Hid (r=o)∧i= .int .i64 0∧Hid (Below w.heap.size w wr)) (fun _ _ _=>0)
     case atStart=>exact⟨_,rfl,by show _=_;rw[HR.out];simp_all [ownV],rfl,B0.out.bel⟩
     case round=>
      obtain⟨o,rfl,hro,rfl,hb⟩:=hrel
      go_wp2_with fail
      go_ret
      have e:=hro.out
      subst e
      exact⟨rfl,hb.out⟩
   ·cases h1:(fc == 0)<;>cases h2:((ft:Int) == 0)
    all_goals
     clear hcw
     go_enter Tryz.func94,Tryz.ntmps94
     go_wp2_with fail
     go_loopw [5,6] (fun s i wr=>s= .bool false∧Hid (r=false)∧i= .int .i64 0∧Hid (Below w.heap.size w wr)) (fun _ _ _=>0)
     case atStart=>exact⟨rfl,by show _=_;rw[HR.out];simp_all [ownV],rfl,B0.out.bel⟩
     case round=>
      obtain⟨rfl,hro,rfl,hb⟩:=hrel
      go_wp2_with fail
      go_ret
      have e:=hro.out
      subst e
      exact⟨rfl,hb.out⟩
theorem rfine_1 (n:Nat)(f:FT)(cs:List Value)(w:World)(IH:∀(f:FT) (cs:List Value) (w:World),FLies w.heap.size w n f cs→Calls Tryz.prog 94 #[.agg cs.toArray] w fun e w'=>e= .returned (.bool (sndF n f))∧Below w.heap.size w w')
  (h:FLies w.heap.size w (n+1) f cs) (hk:f.kind=1):
  Calls Tryz.prog 94 #[.agg cs.toArray] w fun e w'=>e= .returned (.bool (sndF (n+1) f))∧Below w.heap.size w w':=by
  obtain⟨ta,tcap,ka,kcap,rfl,hlt,ht4,hk4,hks⟩:=h
  have HC:=Lib.hid (fun W (hb:Below w.heap.size w W)=>rcheck_any f.c ta f.t.length tcap f.t W rfl ht4 ((hlt.below hb).mono hb.size))
  have HI:=Lib.hid IH
  have HK:=Lib.hid hks
  have HR:Hid (sndF (n+1) f=(ownV f.kind f.c f.t.length f.ks.length (snd f.c f.t) && decide (∀i,i<f.ks.length→sndF n (f.ks.getD i default)=true))):=rfl
  have HA1:=Lib.hid (fun i (hi:i<f.ks.length) (h:sndF n (f.ks.getD i default)=false)=>decide_eq_false (p:=∀i,i<f.ks.length→sndF n (f.ks.getD i default)=true) (fun hh=>by rw[hh i hi]at h;cases h))
  have HA2:=Lib.hid (fun h=>decide_eq_true (p:=∀i,i<f.ks.length→sndF n (f.ks.getD i default)=true) h)
  have B0:=Lib.hid (box_start w f.kind f.c ta ka f.t.length tcap f.ks.length kcap)
  clear IH hks hlt
  generalize sndF (n+1) f=r at HR
  generalize decide (∀i,i<f.ks.length→sndF n (f.ks.getD i default)=true)=all at HR HA1 HA2
  generalize snd f.c f.t=sn at HC HR
  generalize f.kind=fk at B0 HR hk
  generalize f.c=fc at B0 HC HR
  generalize f.t.length=ft at B0 HC HR ht4
  generalize hl:f.ks.length=len at B0 HK hk4 HR HA1 HA2
  clear hl
  have hcw:=HC.out _ B0.out.bel
  have hl0:len=0→all=true:=fun e=>HA2.out (fun i hi=>by omega)
  have hlen:len=0∨(((len:Int) == 0)=false∧(0:Int)<(len:Int)):=by
   by_cases h:len=0
   ·exact .inl h
   ·exact .inr ⟨by simp;omega,by omega⟩
  subst hk
  ·rcases hlen with rfl | ⟨h3,hpos⟩
   ·cases h1:(fc == 0)<;>cases h2:((ft:Int) == 0)
    all_goals
     clear hcw
     go_enter Tryz.func94,Tryz.ntmps94
     go_wp2_with fail
     go_loopw [5,6] (fun s i wr=>∃o:Bool,s= .bool o∧Hid (r=o)∧i= .int .i64 0∧Hid (Below w.heap.size w wr)) (fun _ _ _=>0)
     case atStart=>exact⟨_,rfl,by show _=_;rw[HR.out];simp_all [ownV],rfl,B0.out.bel⟩
     case round=>
      obtain⟨o,rfl,hro,rfl,hb⟩:=hrel
      go_wp2_with fail
      go_ret
      have e:=hro.out
      subst e
      exact⟨rfl,hb.out⟩
   ·cases h1:(fc == 0)<;>cases h2:((ft:Int) == 0)
    all_goals
     clear hcw
     go_enter Tryz.func94,Tryz.ntmps94
     go_wp2_with fail
     go_loopw [5,6] (fun s i wr=>s= .bool false∧Hid (r=false)∧i= .int .i64 0∧Hid (Below w.heap.size w wr)) (fun _ _ _=>0)
     case atStart=>exact⟨rfl,by show _=_;rw[HR.out];simp_all [ownV],rfl,B0.out.bel⟩
     case round=>
      obtain⟨rfl,hro,rfl,hb⟩:=hrel
      go_wp2_with fail
      go_ret
      have e:=hro.out
      subst e
      exact⟨rfl,hb.out⟩
theorem rfine_2 (n:Nat)(f:FT)(cs:List Value)(w:World)(IH:∀(f:FT) (cs:List Value) (w:World),FLies w.heap.size w n f cs→Calls Tryz.prog 94 #[.agg cs.toArray] w fun e w'=>e= .returned (.bool (sndF n f))∧Below w.heap.size w w')
  (h:FLies w.heap.size w (n+1) f cs) (hk:f.kind=2):
  Calls Tryz.prog 94 #[.agg cs.toArray] w fun e w'=>e= .returned (.bool (sndF (n+1) f))∧Below w.heap.size w w':=by
  obtain⟨ta,tcap,ka,kcap,rfl,hlt,ht4,hk4,hks⟩:=h
  have HC:=Lib.hid (fun W (hb:Below w.heap.size w W)=>rcheck_any f.c ta f.t.length tcap f.t W rfl ht4 ((hlt.below hb).mono hb.size))
  have HI:=Lib.hid IH
  have HK:=Lib.hid hks
  have HR:Hid (sndF (n+1) f=(ownV f.kind f.c f.t.length f.ks.length (snd f.c f.t) && decide (∀i,i<f.ks.length→sndF n (f.ks.getD i default)=true))):=rfl
  have HA1:=Lib.hid (fun i (hi:i<f.ks.length) (h:sndF n (f.ks.getD i default)=false)=>decide_eq_false (p:=∀i,i<f.ks.length→sndF n (f.ks.getD i default)=true) (fun hh=>by rw[hh i hi]at h;cases h))
  have HA2:=Lib.hid (fun h=>decide_eq_true (p:=∀i,i<f.ks.length→sndF n (f.ks.getD i default)=true) h)
  have B0:=Lib.hid (box_start w f.kind f.c ta ka f.t.length tcap f.ks.length kcap)
  clear IH hks hlt
  generalize sndF (n+1) f=r at HR
  generalize decide (∀i,i<f.ks.length→sndF n (f.ks.getD i default)=true)=all at HR HA1 HA2
  generalize snd f.c f.t=sn at HC HR
  generalize f.kind=fk at B0 HR hk
  generalize f.c=fc at B0 HC HR
  generalize f.t.length=ft at B0 HC HR ht4
  generalize hl:f.ks.length=len at B0 HK hk4 HR HA1 HA2
  clear hl
  have hcw:=HC.out _ B0.out.bel
  have hl0:len=0→all=true:=fun e=>HA2.out (fun i hi=>by omega)
  have hlen:len=0∨(((len:Int) == 0)=false∧(0:Int)<(len:Int)):=by
   by_cases h:len=0
   ·exact .inl h
   ·exact .inr ⟨by simp;omega,by omega⟩
  subst hk
  ·rcases hlen with rfl | ⟨h3,hpos⟩
   ·cases h1:(fc == 0)<;>cases h2:((ft:Int) == 0)<;>cases sn
    all_goals
     go_enter Tryz.func94,Tryz.ntmps94
     go_wp2_with fail
     refine hcw.mono ?_
     rintro e w1 ⟨rfl,hb1⟩
     have T1:=Lib.hid (B0.out.below hb1 B0.out.lt)
     clear hb1 hcw
     go_wp2_with fail
     go_loopw [5,6] (fun s i wr=>∃o:Bool,s= .bool o∧Hid (r=o)∧i= .int .i64 0∧Hid (Below w.heap.size w wr)) (fun _ _ _=>0)
     case atStart=>exact⟨_,rfl,by show _=_;rw[HR.out];simp_all [ownV],rfl,T1.out.bel⟩
     case round=>
      obtain⟨o,rfl,hro,rfl,hb⟩:=hrel
      go_wp2_with fail
      go_ret
      have e:=hro.out
      subst e
      exact⟨rfl,hb.out⟩
   ·cases h1:(fc == 0)<;>cases h2:((ft:Int) == 0)
    all_goals
     clear hcw
     go_enter Tryz.func94,Tryz.ntmps94
     go_wp2_with fail
     go_loopw [5,6] (fun s i wr=>s= .bool false∧Hid (r=false)∧i= .int .i64 0∧Hid (Below w.heap.size w wr)) (fun _ _ _=>0)
     case atStart=>exact⟨rfl,by show _=_;rw[HR.out];simp_all [ownV],rfl,B0.out.bel⟩
     case round=>
      obtain⟨rfl,hro,rfl,hb⟩:=hrel
      go_wp2_with fail
      go_ret
      have e:=hro.out
      subst e
      exact⟨rfl,hb.out⟩
theorem rfine_3 (n:Nat)(f:FT)(cs:List Value)(w:World)(IH:∀(f:FT) (cs:List Value) (w:World),FLies w.heap.size w n f cs→Calls Tryz.prog 94 #[.agg cs.toArray] w fun e w'=>e= .returned (.bool (sndF n f))∧Below w.heap.size w w')
  (h:FLies w.heap.size w (n+1) f cs) (hk:f.kind=3):
  Calls Tryz.prog 94 #[.agg cs.toArray] w fun e w'=>e= .returned (.bool (sndF (n+1) f))∧Below w.heap.size w w':=by
  obtain⟨ta,tcap,ka,kcap,rfl,hlt,ht4,hk4,hks⟩:=h
  have HC:=Lib.hid (fun W (hb:Below w.heap.size w W)=>rcheck_any f.c ta f.t.length tcap f.t W rfl ht4 ((hlt.below hb).mono hb.size))
  have HI:=Lib.hid IH
  have HK:=Lib.hid hks
  have HR:Hid (sndF (n+1) f=(ownV f.kind f.c f.t.length f.ks.length (snd f.c f.t) && decide (∀i,i<f.ks.length→sndF n (f.ks.getD i default)=true))):=rfl
  have HA1:=Lib.hid (fun i (hi:i<f.ks.length) (h:sndF n (f.ks.getD i default)=false)=>decide_eq_false (p:=∀i,i<f.ks.length→sndF n (f.ks.getD i default)=true) (fun hh=>by rw[hh i hi]at h;cases h))
  have HA2:=Lib.hid (fun h=>decide_eq_true (p:=∀i,i<f.ks.length→sndF n (f.ks.getD i default)=true) h)
  have B0:=Lib.hid (box_start w f.kind f.c ta ka f.t.length tcap f.ks.length kcap)
  clear IH hks hlt
  generalize sndF (n+1) f=r at HR
  generalize decide (∀i,i<f.ks.length→sndF n (f.ks.getD i default)=true)=all at HR HA1 HA2
  generalize snd f.c f.t=sn at HC HR
  generalize f.kind=fk at B0 HR hk
  generalize f.c=fc at B0 HC HR
  generalize f.t.length=ft at B0 HC HR ht4
  generalize hl:f.ks.length=len at B0 HK hk4 HR HA1 HA2
  clear hl
  have hcw:=HC.out _ B0.out.bel
  have hl0:len=0→all=true:=fun e=>HA2.out (fun i hi=>by omega)
  have hlen:len=0∨(((len:Int) == 0)=false∧(0:Int)<(len:Int)):=by
   by_cases h:len=0
   ·exact .inl h
   ·exact .inr ⟨by simp;omega,by omega⟩
  subst hk
  ·rcases hlen with rfl | ⟨h3,hpos⟩
   ·cases h1:(fc == 0)<;>cases h2:((ft:Int) == 0)<;>cases sn
    all_goals
     go_enter Tryz.func94,Tryz.ntmps94
     go_wp2_with fail
     refine hcw.mono ?_
     rintro e w1 ⟨rfl,hb1⟩
     have T1:=Lib.hid (B0.out.below hb1 B0.out.lt)
     clear hb1 hcw
     go_wp2_with fail
     go_loopw [5,6] (fun s i wr=>∃o:Bool,s= .bool o∧Hid (r=o)∧i= .int .i64 0∧Hid (Below w.heap.size w wr)) (fun _ _ _=>0)
     case atStart=>exact⟨_,rfl,by show _=_;rw[HR.out];simp_all [ownV],rfl,T1.out.bel⟩
     case round=>
      obtain⟨o,rfl,hro,rfl,hb⟩:=hrel
      go_wp2_with fail
      go_ret
      have e:=hro.out
      subst e
      exact⟨rfl,hb.out⟩
   ·cases h1:(fc == 0)<;>cases h2:((ft:Int) == 0)
    all_goals
     clear hcw
     go_enter Tryz.func94,Tryz.ntmps94
     go_wp2_with fail
     go_loopw [5,6] (fun s i wr=>s= .bool false∧Hid (r=false)∧i= .int .i64 0∧Hid (Below w.heap.size w wr)) (fun _ _ _=>0)
     case atStart=>exact⟨rfl,by show _=_;rw[HR.out];simp_all [ownV],rfl,B0.out.bel⟩
     case round=>
      obtain⟨rfl,hro,rfl,hb⟩:=hrel
      go_wp2_with fail
      go_ret
      have e:=hro.out
      subst e
      exact⟨rfl,hb.out⟩
end
end Go.Proofs.YtipahfcaplbifaaGreatDoor
