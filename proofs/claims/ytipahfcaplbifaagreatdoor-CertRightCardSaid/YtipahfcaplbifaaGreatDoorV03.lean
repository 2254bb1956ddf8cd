/- Parts of a proof. -/
import Derived.Test.YtipahfcaplbifaaGreatDoorV01
import Derived.Test.YtipahfcaplbifaaGreatDoorQ22
set_option linter.unusedVariables false
set_option linter.unusedSimpArgs false
set_option maxHeartbeats 60000000
set_option maxRecDepth 100000
namespace Go.Proofs.YtipahfcaplbifaaGreatDoor
section
open Go.RowKit
theorem value_0 (n:Nat)(f:FT)(cs:List Value)(a2:Option Addr)(n2 cap2:Nat)(zs:List Int)(w:World)(IH:∀(f:FT) (cs:List Value) (a2:Option Addr) (n2 cap2:Nat) (zs:List Int) (w:World),FLies w.heap.size w n f cs→sndF n f=true→zs.length=n2→Nums w.heap.size w a2 zs→Calls Tryz.prog 41 #[.agg cs.toArray,.slice a2 n2 cap2] w (ValEnd w.heap.size (vOf zs n f) w))
 (h:FLies w.heap.size w (n+1) f cs) (hs:sndF (n+1) f=true) (hn2:zs.length=n2) (hz:Nums w.heap.size w a2 zs) (hk:f.kind=0):
 Calls Tryz.prog 41 #[.agg cs.toArray,.slice a2 n2 cap2] w (ValEnd w.heap.size (vOf zs (n+1) f) w):=by
 obtain⟨hown,hkids⟩:=sndF_split hs
 obtain⟨ta,tcap,ka,kcap,rfl,hlt,ht4,hk4,hks⟩:=h
 have B0:=Lib.hid (box_start w f.kind f.c ta ka f.t.length tcap f.ks.length kcap)
 have hv:vOf zs (n+1) f=(true,true):=by show(if f.kind=0 then _ else _)=_;rw[if_pos hk]
 rw[hv]
 rw[hk]at B0⊢
 generalize f.c=fc at B0
 generalize f.t.length=ft at B0
 generalize f.ks.length=len at B0
 clear IH hks hkids hlt hown hk hs hz hv hn2 hk4
 go_enter Tryz.func41,Tryz.ntmps41
 go_wp2_with fail
 refine bodyPost_ret (v:= .tuple #[.bool true,.bool true]) ?_ rfl ⟨rfl,B0.out.bel⟩
 simp[results,Tryz.results41,go_sem]
theorem value_1 (n:Nat)(f:FT)(cs:List Value)(a2:Option Addr)(n2 cap2:Nat)(zs:List Int)(w:World)(IH:∀(f:FT) (cs:List Value) (a2:Option Addr) (n2 cap2:Nat) (zs:List Int) (w:World),FLies w.heap.size w n f cs→sndF n f=true→zs.length=n2→Nums w.heap.size w a2 zs→Calls Tryz.prog 41 #[.agg cs.toArray,.slice a2 n2 cap2] w (ValEnd w.heap.size (vOf zs n f) w))
 (h:FLies w.heap.size w (n+1) f cs) (hs:sndF (n+1) f=true) (hn2:zs.length=n2) (hz:Nums w.heap.size w a2 zs) (hk:f.kind=1):
 Calls Tryz.prog 41 #[.agg cs.toArray,.slice a2 n2 cap2] w (ValEnd w.heap.size (vOf zs (n+1) f) w):=by
 obtain⟨hown,hkids⟩:=sndF_split hs
 obtain⟨ta,tcap,ka,kcap,rfl,hlt,ht4,hk4,hks⟩:=h
 have B0:=Lib.hid (box_start w f.kind f.c ta ka f.t.length tcap f.ks.length kcap)
 have hv:vOf zs (n+1) f=(false,true):=by show(if f.kind=0 then _ else if f.kind=1 then _ else _)=_;rw[if_neg (by omega),if_pos hk]
 rw[hv]
 rw[hk]at B0⊢
 generalize f.c=fc at B0
 generalize f.t.length=ft at B0
 generalize f.ks.length=len at B0
 clear IH hks hkids hlt hown hk hs hz hv hn2 hk4
 go_enter Tryz.func41,Tryz.ntmps41
 go_wp2_with fail
 refine bodyPost_ret (v:= .tuple #[.bool false,.bool true]) ?_ rfl ⟨rfl,B0.out.bel⟩
 simp[results,Tryz.results41,go_sem]
theorem value_2 (n:Nat)(f:FT)(cs:List Value)(a2:Option Addr)(n2 cap2:Nat)(zs:List Int)(w:World)(IH:∀(f:FT) (cs:List Value) (a2:Option Addr) (n2 cap2:Nat) (zs:List Int) (w:World),FLies w.heap.size w n f cs→sndF n f=true→zs.length=n2→Nums w.heap.size w a2 zs→Calls Tryz.prog 41 #[.agg cs.toArray,.slice a2 n2 cap2] w (ValEnd w.heap.size (vOf zs n f) w))
 (h:FLies w.heap.size w (n+1) f cs) (hs:sndF (n+1) f=true) (hn2:zs.length=n2) (hz:Nums w.heap.size w a2 zs) (hk:f.kind=2∨f.kind=3):
 Calls Tryz.prog 41 #[.agg cs.toArray,.slice a2 n2 cap2] w (ValEnd w.heap.size (vOf zs (n+1) f) w):=by
 obtain⟨hown,hkids⟩:=sndF_split hs
 obtain⟨ta,tcap,ka,kcap,rfl,hlt,ht4,hk4,hks⟩:=h
 have B0:=Lib.hid (box_start w f.kind f.c ta ka f.t.length tcap f.ks.length kcap)
 have hsn:=ownF_form hown hk
 have hv:vOf zs (n+1) f=if ∀i,i<f.t.length→near f.t zs i=true then(decide (sAt f.c f.t zs f.t.length=0) || (decide (sAt f.c f.t zs f.t.length<0) && decide (f.kind=2)),true) else(true,false):=by
  show(if f.kind=0 then _ else if f.kind=1 then _ else if f.kind=2∨f.kind=3 then _ else _)=_
  rw[if_neg (by omega),if_neg (by omega),if_pos hk]
 rw[hv]
 have en:=fun W=>Tryz.eqNil W
 have ei:=fun W=>Tryz.eqIfaceNil 1 W
 by_cases hnear:∀i,i<f.t.length→near f.t zs i=true
 ·rw[if_pos hnear]
  have hcv:=value_ok f.c ta f.t.length tcap f.t a2 n2 cap2 zs _ rfl hn2 ((hlt.below B0.out.bel).mono B0.out.bel.size) ((hz.below B0.out.bel).mono B0.out.bel.size) hsn hnear
  generalize sAt f.c f.t zs f.t.length=v at hcv
  generalize f.c=fc at B0 hcv
  generalize f.t.length=ft at B0 hcv
  generalize f.ks.length=len at B0 hcv
  generalize f.kind=fk at B0 hcv hk
  clear IH hks hkids hlt hown hs hz hv hn2 hk4 hsn hnear ei
  have hv3:v=0∨(decide (v<0)=true∧(v == 0)=false)∨(decide (v<0)=false∧(v == 0)=false):=by
   simp only[beq_eq_false_iff_ne,ne_eq,decide_eq_true_eq,decide_eq_false_iff_not];omega
  rcases hk with rfl | rfl<;>rcases hv3 with rfl | ⟨h1,h2⟩ | ⟨h1,h2⟩
  all_goals
   go_enter Tryz.func41,Tryz.ntmps41
   go_wp2_with fail
   refine hcv.mono ?_
   rintro e w1 ⟨rfl,hb1⟩
   have T1:=Lib.hid (B0.out.below hb1 B0.out.lt)
   obtain⟨l1,p0,_,_,_,_⟩:=T1.out
   clear hb1 hcv
   go_wp2_with fail
   go_quiet (fail)
   go_wp2
   refine bodyPost_ret ?_ rfl ⟨rfl,below_drewN T1.out.bel _⟩
   simp_all [results,Tryz.results41,go_sem]
 ·rw[if_neg hnear]
  have hcv:=value_far f.c ta f.t.length tcap f.t a2 n2 cap2 zs _ rfl hn2 ((hlt.below B0.out.bel).mono B0.out.bel.size) ((hz.below B0.out.bel).mono B0.out.bel.size) hsn hnear
  generalize f.c=fc at B0 hcv
  generalize f.t.length=ft at B0 hcv
  generalize f.ks.length=len at B0 hcv
  generalize f.kind=fk at B0 hcv hk
  clear IH hks hkids hlt hown hs hz hv hn2 hk4 hsn hnear en
  rcases hk with rfl | rfl
  all_goals
   go_enter Tryz.func41,Tryz.ntmps41
   go_wp2_with fail
   refine hcv.mono ?_
   rintro e w1 ⟨rfl,hb1⟩
   have T1:=Lib.hid (B0.out.below hb1 B0.out.lt)
   clear hb1 hcv
   go_wp2_with fail
   go_quiet (fail)
   go_wp2
   refine bodyPost_ret (v:= .tuple #[.bool true,.bool false]) ?_ rfl ⟨rfl,below_drewN T1.out.bel _⟩
   simp[results,Tryz.results41,go_sem]
theorem value_3 (n:Nat)(f:FT)(cs:List Value)(a2:Option Addr)(n2 cap2:Nat)(zs:List Int)(w:World)(IH:∀(f:FT) (cs:List Value) (a2:Option Addr) (n2 cap2:Nat) (zs:List Int) (w:World),FLies w.heap.size w n f cs→sndF n f=true→zs.length=n2→Nums w.heap.size w a2 zs→Calls Tryz.prog 41 #[.agg cs.toArray,.slice a2 n2 cap2] w (ValEnd w.heap.size (vOf zs n f) w))
 (h:FLies w.heap.size w (n+1) f cs) (hs:sndF (n+1) f=true) (hn2:zs.length=n2) (hz:Nums w.heap.size w a2 zs) (hk:f.kind=4):
 Calls Tryz.prog 41 #[.agg cs.toArray,.slice a2 n2 cap2] w (ValEnd w.heap.size (vOf zs (n+1) f) w):=by
 obtain⟨hown,hkids⟩:=sndF_split hs
 obtain⟨ta,tcap,ka,kcap,rfl,hlt,ht4,hk4,hks⟩:=h
 have B0:=Lib.hid (box_start w f.kind f.c ta ka f.t.length tcap f.ks.length kcap)
 have hlen:=ownF_not hown hk
 have hv:vOf zs (n+1) f=(!(vOf zs n (f.ks.getD 0 default)).1,(vOf zs n (f.ks.getD 0 default)).2):=by
  show(if f.kind=0 then _ else if f.kind=1 then _ else if f.kind=2∨f.kind=3 then _ else if f.kind=4 then _ else _)=_
  rw[if_neg (by omega),if_neg (by omega),if_neg (by omega),if_pos hk]
 rw[hv]
 obtain⟨b,off,c0,c1,c2,c3,rfl,hblt,g0,g1,g2,g3,hf⟩:=hks 0 (by omega)
 rw[←B0.out.bel.cell (p:=⟨b,_,none⟩) hblt]at g0 g1 g2 g3
 obtain⟨ck,cc,cta,ctn,ctcap,cka,ckn,ckcap,rfl,rfl,rfl,rfl⟩:=hf.form
 have hih:=IH (f.ks.getD 0 default) _ a2 n2 cap2 zs _ ((hf.below B0.out.bel).mono B0.out.bel.size) (hkids 0 (by omega)) hn2 ((hz.below B0.out.bel).mono B0.out.bel.size)
 simp only[Nat.zero_mul,Nat.add_zero]at g0 g1 g2 g3
 generalize vOf zs n (f.ks.getD 0 default)=p at hih
 obtain⟨o,u⟩:=p
 rw[hk]at B0 g0 g1 g2 g3 hih⊢
 rw[hlen]at B0 g0 g1 g2 g3 hih⊢
 generalize f.c=fc at B0 g0 g1 g2 g3 hih
 generalize f.t.length=ft at B0 g0 g1 g2 g3 hih
 clear IH hks hkids hlt hown hs hz hv hn2 hk4 hf hk hlen
 go_enter Tryz.func41,Tryz.ntmps41
 go_wp2_with fail
 refine hih.mono ?_
 rintro e w1 ⟨rfl,hb1⟩
 have T1:=Lib.hid (B0.out.below hb1 B0.out.lt)
 clear hb1 hih
 go_wp2_with fail
 refine bodyPost_ret (v:= .tuple #[.bool !o,.bool u]) ?_ rfl ⟨rfl,T1.out.bel⟩
 simp[results,Tryz.results41,go_sem]
end
end Go.Proofs.YtipahfcaplbifaaGreatDoor
