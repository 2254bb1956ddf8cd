/- Parts of a proof. -/
import Derived.Test.YtipahfcaplbifaaGreatDoorZ30
set_option linter.unusedVariables false
set_option linter.unusedSimpArgs false
set_option maxHeartbeats 60000000
set_option maxRecDepth 100000
namespace Go.Proofs.YtipahfcaplbifaaGreatDoor
section
open Go.RowKit
def NIR (n:Nat):Prop:=∀(f:FT) (nt:Bool) (cs:List Value) (W:World),sndF n f=true→litF n f→FLies W.heap.size W n f cs→
 Calls Tryz.prog 61 #[.agg cs.toArray,.bool nt] W (NormEnd W.heap.size (n+2) (normF n f (!nt)) (.bool true) (.bool false) W)
theorem rn_k5f (n:Nat)(IH:NIR n)(f:FT)(cs:List Value)(w:World)(hfk:f.kind=5)(hs:∀i,i<f.ks.length→sndF n (f.ks.getD i default)=true)(hlit:litF (n+1) f)(h:FLies w.heap.size w (n+1) f cs):
 Calls Tryz.prog 61 #[.agg cs.toArray,.bool false] w (NormEnd w.heap.size (n+3) (if(f.ks.all fun k=>(normF n k true).isSome)=true then some (kidsT n f true) else none) (.bool true) (.bool false) w):=by
 obtain⟨ta,tcap,ka,kcap,rfl,_,_,hk4,hks⟩:=h
 obtain⟨_,hk20,hklit⟩:=hlit
 have ST:=Lib.hid (args_start w f.kind f.c ta ka f.t.length tcap f.ks.length kcap)
 have SZ:Hid (w.heap.size+2=((w.alloc (.cells #[.int .i64 f.kind,.int .i64 f.c,.slice ta f.t.length tcap,.slice ka f.ks.length kcap] 39)).alloc (.cells #[.int .i64 0,.int .i64 0,.slice none 0 0,.slice none 0 0] 39)).heap.size):=by show _=_;simp
 have HI:Hid (∀(f:FT) (cs:List Value) (W:World),sndF n f=true→litF n f→FLies W.heap.size W n f cs→
  Calls Tryz.prog 61 #[.agg cs.toArray,.bool false] W (NormEnd W.heap.size (n+2) (normF n f true) (.bool true) (.bool false) W)):=fun f cs W h1 h2 h3=>IH f false cs W h1 h2 h3
 have HK:=Lib.hid hks
 have HKL:=Lib.hid hklit
 have HSN:=Lib.hid hs
 have HKT:Hid (∀k g,k<f.ks.length→normF n (f.ks.getD k default) true=some g→(kidsT n f true).ks.getD k default=g):=fun k g h1 h2=>kidsT_get h1 h2
 have HF:Hid ((kidsT n f true).t=[]∧(kidsT n f true).c=0∧(kidsT n f true).kind=5∧(kidsT n f true).ks.length=f.ks.length):=⟨rfl,rfl,by show(if true=true then f.kind else 11 - f.kind)=5;rw[hfk];rfl,kidsT_len n f true⟩
 have HALL:Hid ((∀k,k<f.ks.length→(normF n (f.ks.getD k default) true).isSome=true)→(if(f.ks.all fun k=>(normF n k true).isSome)=true then some (kidsT n f true) else none)=some (kidsT n f true)):=fun h=>if_pos (by
  rw[List.all_eq_true]
  intro g hg
  obtain⟨i,hi,rfl⟩:=List.getElem_of_mem hg
  have:=h i hi
  rw[List.getD_eq_getElem?_getD,List.getElem?_eq_getElem hi]at this
  exact this)
 have HBAD:Hid (∀k,k<f.ks.length→normF n (f.ks.getD k default) true=none→(if(f.ks.all fun k=>(normF n k true).isSome)=true then some (kidsT n f true) else none)=none):=fun k hk h=>if_neg (fun ha=>by
  rw[List.all_eq_true]at ha
  have:=ha _ (List.getElem_mem hk)
  rw[List.getD_eq_getElem?_getD,List.getElem?_eq_getElem hk]at h
  rw[show normF n f.ks[k] true=none from h]at this
  cases this)
 generalize (if(f.ks.all fun k=>(normF n k true).isSome)=true then some (kidsT n f true) else none)=OUT at HALL HBAD⊢
 generalize kidsT n f true=F at HKT HF HALL
 clear IH hks hklit hs
 rw[hfk]at ST SZ⊢
 generalize f.c=fc at ST SZ
 generalize f.t.length=ft at ST SZ
 generalize hl:f.ks.length=len at ST SZ HK HKL HSN HKT HF HALL HBAD hk4 hk20
 have HCLEN:Hid (∀css:List (List Value),css.length≤len→css.length≤1048576):=fun css h=>Nat.le_trans h hk20
 clear hl
 obtain⟨-,p0,p1,p2,p3, -⟩:=ST.out.1
 have BG:=Lib.hid (kids_begin (n:=n+2) (J:=5) HF.out.1 ST.out.1 ST.out.2 SZ.out)
 generalize hW:(w.alloc (.cells #[.int .i64 5,.int .i64 fc,.slice ta ft tcap,.slice ka len kcap] 39)).alloc (.cells #[.int .i64 0,.int .i64 0,.slice none 0 0,.slice none 0 0] 39)=W1 at ST SZ BG p0 p1 p2 p3
 have R4:Hid (Round w W1.heap.size (n+2) F 5 5 fc ta ft tcap ka len kcap 0 [] (.slice none 0 0) (W1.alloc (.cells #[.int .i64 5,.int .i64 0,.slice none 0 0,.slice none 0 0] 39))):=⟨BG.out.1,BG.out.2.1,BG.out.2.2.1,BG.out.2.2.2⟩
 have q0:(W1.alloc (.cells #[.int .i64 5,.int .i64 0,.slice none 0 0,.slice none 0 0] 39)).cell? ⟨w.heap.size,0,none⟩=some (.int .i64 5):=(((Below.refl _ W1).alloc (Nat.le_refl _) _).cell (p:=⟨w.heap.size,0,none⟩) (by show w.heap.size<_;have:=SZ.out;omega)).trans p0
 clear BG
 go_enter Tryz.func61,Tryz.ntmps61
 go_wp2_with fail
 clear hW q0 p0 p1 p2 p3
 generalize W1.alloc (.cells #[.int .i64 5,.int .i64 0,.slice none 0 0,.slice none 0 0] 39)=w4 at R4⊢
 generalize W1.heap.size=No at R4⊢
 clear ST SZ
 go_loopw [13] (fun i wr=>∃(k:Nat) (v:Value) (css:List (List Value)),k≤len∧i= .int .i64 k∧Hid (∀j,j<k→(normF n (f.ks.getD j default) true).isSome=true)∧Hid (Round w No (n+2) F 5 5 fc ta ft tcap ka len kcap k css v wr)) (fun i _=>len - (intOf i).toNat)
 case atStart=>exact⟨0,.slice none 0 0,[],Nat.zero_le _,rfl,fun j hj=>absurd hj (Nat.not_lt_zero j),R4⟩
 case round=>
  clear R4
  obtain⟨k,v,css,hk,rfl,hall,hr⟩:=hrel
  obtain⟨bz,_,_,_,q3,hb⟩:=hr.out.bx
  by_cases hlt:k<len
  ·obtain⟨b,off,c0,c1,c2,c3,rfl,hblt,g0,g1,g2,g3,hf⟩:=HK.out k hlt
   rw[←hb.cell (p:=⟨b,_,none⟩) hblt]at g0 g1 g2 g3
   obtain⟨ck,cc,cta,ctn,ctcap,cka,ckn,ckcap,rfl,rfl,rfl,rfl⟩:=hf.form
   have hih:=Lib.hid (HI.out (f.ks.getD k default) _ _ (HSN.out k hlt) (HKL.out k hlt) ((hf.below hb).mono hb.size))
   obtain⟨hzN,hzo⟩:=hr.out.zs
   clear hf
   cases hn:normF n (f.ks.getD k default) true with
   | none=>
     have hbad:=HBAD.out k hlt hn
     subst hbad
     rw[hn]at hih
     clear HALL HKT HI HSN HKL HK
     go_wp2_with fail
     refine hih.out.mono ?_
     intro e w5 he
     obtain⟨cs5,rfl,hf5,hb5⟩:=he.none
     obtain⟨dk,dc,dta,dtn,dtcap,dka,dkn,dkcap,rfl⟩:=hf5.form
     have hba6:Below w5.heap.size w5 (w5.alloc (.cells #[.int .i64 dk,.int .i64 dc,.slice dta dtn dtcap,.slice dka dkn dkcap] 39)):=(Below.refl _ _).alloc (Nat.le_refl _) _
     have hz5:=hb5.size
     have hb6:Below wr.heap.size wr (w5.alloc (.cells #[.int .i64 dk,.int .i64 dc,.slice dta dtn dtcap,.slice dka dkn dkcap] 39)):=hb5.trans (hba6.mono hz5)
     have F6:=Lib.hid (hr.out.fb.below hb6 (by omega))
     have RT:=Lib.hid (ret_set (m:=2) (f:= .mk 0 0 [] []) (S:=fun _=>False) F6.out (hb.trans (hb6.mono (Nat.le_of_lt bz))) flies_flat (fun b h=>h.elim))
     clear hb5 hba6 hf5 hb6 hih g0 g1 g2 g3 q3
     obtain⟨r0,r1,r2,r3,rf⟩:=F6.out
     go_wp2_with fail
     clear r0 r1 r2 r3 rf
     refine bodyPost_ret (v:= .tuple #[.agg #[.int .i64 0,.int .i64 0,.slice none 0 0,.slice none 0 0],.bool false]) ?_ rfl ⟨_,rfl,RT.out.lies.up (by omega),RT.out.bel⟩
     obtain⟨_,_,e0,e1,e2,e3⟩:=RT.out
     simp[results,Tryz.results61,go_sem,e0,e1,e2,e3]
   | some g=>
     have hg:=HKT.out k g hlt hn
     rw[hn]at hih
     have A2:Hid (∀j,j<k+1→(normF n (f.ks.getD j default) true).isSome=true):=fun j hj=>by
      by_cases e:j=k
      ·subst e;rw[hn];rfl
      ·exact hall.out j (by omega)
     clear HKT HI HSN HKL HK HALL HBAD hn
     go_wp2_with fail
     refine hih.out.mono ?_
     intro e w5 he
     obtain⟨cs5,rfl,hf5,hb5⟩:=he.some
     clear he
     have HF5:=Lib.hid hf5
     obtain⟨dk,dc,dta,dtn,dtcap,dka,dkn,dkcap,rfl⟩:=hf5.form
     have hba6:Below w5.heap.size w5 (w5.alloc (.cells #[.int .i64 dk,.int .i64 dc,.slice dta dtn dtcap,.slice dka dkn dkcap] 39)):=(Below.refl _ _).alloc (Nat.le_refl _) _
     have hz5:=hb5.size
     have hz6:=hba6.size
     have hb6:Below wr.heap.size wr (w5.alloc (.cells #[.int .i64 dk,.int .i64 dc,.slice dta dtn dtcap,.slice dka dkn dkcap] 39)):=hb5.trans (hba6.mono hz5)
     have HB6:=Lib.hid hb6
     have HF6:Hid (FLiesQ (fun b=>wr.heap.size≤b∧b<(w5.alloc (.cells #[.int .i64 dk,.int .i64 dc,.slice dta dtn dtcap,.slice dka dkn dkcap] 39)).heap.size) (w5.alloc (.cells #[.int .i64 dk,.int .i64 dc,.slice dta dtn dtcap,.slice dka dkn dkcap] 39)) (n+2) (F.ks.getD k default) [.int .i64 dk,.int .i64 dc,.slice dta dtn dtcap,.slice dka dkn dkcap]):=by
      rw[hg]
      exact HF5.out.keep (fun b ⟨h1,h2⟩=>⟨by omega,by omega⟩) (fun b o ⟨h1,h2⟩=>hba6.cell (p:=⟨b,o,none⟩) h2)
     obtain⟨t0,t1,t2,t3⟩:=form_cells (heap_alloc_new w5 (.cells #[.int .i64 dk,.int .i64 dc,.slice dta dtn dtcap,.slice dka dkn dkcap] 39))
     have o3:(w5.alloc (.cells #[.int .i64 dk,.int .i64 dc,.slice dta dtn dtcap,.slice dka dkn dkcap] 39)).cell? ⟨No,3,none⟩=some v:=(hb6.cell (p:=⟨No,3,none⟩) hzo).trans hr.out.ob.o3
     have hrw6:ORow w.heap.size css v (w5.alloc (.cells #[.int .i64 dk,.int .i64 dc,.slice dta dtn dtcap,.slice dka dkn dkcap] 39)):=World.ownsRow.kept (row:=none) hr.out.cs.row ⟨hb6.os,hb6.tape,hb6.output,hb6.size,fun q hq _=>hb6.block q hq⟩ (by cases v.ownBlock<;>simp)
     have hN5:w5.heap.size<(w5.alloc (.cells #[.int .i64 dk,.int .i64 dc,.slice dta dtn dtcap,.slice dka dkn dkcap] 39)).heap.size:=by simp
     clear hb5 hba6 hf5 hb6 hih HF5 g0 g1 g2 g3 q3
     generalize hW6:w5.alloc (.cells #[.int .i64 dk,.int .i64 dc,.slice dta dtn dtcap,.slice dka dkn dkcap] 39)=W6 at HB6 HF6 t0 t1 t2 t3 o3 hrw6 hN5 hz6
     generalize hN:w5.heap.size=N5 at t0 t1 t2 t3 hN5 hz5 hz6
     have HRW:Hid (ORow w.heap.size css v (W6.alloc (.cells #[.int .i64 dk,.int .i64 dc,.slice dta dtn dtcap,.slice dka dkn dkcap] 39))):=World.ownsRow.alloc hrw6 _
     have NEWS:=Lib.hid (four_new W6 (.int .i64 dk) (.int .i64 dc) (.slice dta dtn dtcap) (.slice dka dkn dkcap) 39 W6.heap.size rfl)
     have HBZ:Hid (w.heap.size≤(W6.alloc (.cells #[.int .i64 dk,.int .i64 dc,.slice dta dtn dtcap,.slice dka dkn dkcap] 39)).heap.size):=by show _≤_;simp;omega
     have HCL:Hid (css.length≤1048576):=HCLEN.out css (by rw[hr.out.cs.len];exact hk)
     clear hrw6
     go_wp2_with (at_builtin;refine wpList_append_form rfl _ _ rfl w.heap.size v rfl css HRW.out ⟨W6.heap.size,0,none⟩ 1 [.int .i64 dk,.int .i64 dc,.slice dta dtn dtcap,.slice dka dkn dkcap] rfl rfl NEWS.out (four_one _ _ _ _ _ _ _ _) HCL.out HBZ.out ?_)
     intro v8 w8 hrow8 hgrow8 hat8
     clear hW6 hN
     obtain⟨a8,c8,hv8, -⟩:=hrow8.form
     rw[List.length_append,hr.out.cs.len]at hv8
     replace hv8:v8= .slice a8 (k+1) c8:=hv8
     subst hv8
     have R8:=Lib.hid (hr.out.step HB6.out HF6.out hrow8 hgrow8 (by simpa using hat8))
     obtain⟨o38,of8⟩:=hr.out.stored HB6.out hgrow8
     clear hz5 hz6 hN5 o3 t0 t1 t2 t3 hrow8 hgrow8 hat8 HB6 HF6 HRW NEWS HBZ HCL hr hall hg
     go_wp2_with fail
     clear o38 of8
     go_roundw
     case rel=>exact⟨k+1,_,_,by omega,by go_num,A2,R8⟩
     case measure=>simp[intOf];omega
  ·obtain rfl:k=len:=by omega
   have hall':=HALL.out hall.out
   subst hall'
   obtain⟨a9,cap9,rfl,hrt⟩:=hr.out.done HF.out.1 HF.out.2.1 HF.out.2.2.1 HF.out.2.2.2.symm hk20
   have RT:=Lib.hid hrt
   have HRB:=Lib.hid hr.out.rb
   obtain⟨o0,o1,o2,o3,of⟩:=hr.out.ob
   clear hrt hr HALL HBAD HKT HI HSN HKL HK HCLEN
   obtain⟨r0,r1,r2,r3,rf⟩:=HRB.out
   go_wp2_with fail
   clear r0 r1 r2 r3 rf o0 o1 o2 o3 of
   refine bodyPost_ret (v:= .tuple #[.agg #[.int .i64 5,.int .i64 0,.slice none 0 0,.slice a9 k cap9],.bool true]) ?_ rfl ⟨_,rfl,RT.out.lies,RT.out.bel⟩
   obtain⟨_,_,e0,e1,e2,e3⟩:=RT.out
   simp[results,Tryz.results61,go_sem,e0,e1,e2,e3]
theorem rn_k5t (n:Nat)(IH:NIR n)(f:FT)(cs:List Value)(w:World)(hfk:f.kind=5)(hs:∀i,i<f.ks.length→sndF n (f.ks.getD i default)=true)(hlit:litF (n+1) f)(h:FLies w.heap.size w (n+1) f cs):
 Calls Tryz.prog 61 #[.agg cs.toArray,.bool true] w (NormEnd w.heap.size (n+3) (if(f.ks.all fun k=>(normF n k false).isSome)=true then some (kidsT n f false) else none) (.bool true) (.bool false) w):=by
 obtain⟨ta,tcap,ka,kcap,rfl,_,_,hk4,hks⟩:=h
 obtain⟨_,hk20,hklit⟩:=hlit
 have ST:=Lib.hid (args_start w f.kind f.c ta ka f.t.length tcap f.ks.length kcap)
 have SZ:Hid (w.heap.size+2=((w.alloc (.cells #[.int .i64 f.kind,.int .i64 f.c,.slice ta f.t.length tcap,.slice ka f.ks.length kcap] 39)).alloc (.cells #[.int .i64 0,.int .i64 0,.slice none 0 0,.slice none 0 0] 39)).heap.size):=by show _=_;simp
 have HI:Hid (∀(f:FT) (cs:List Value) (W:World),sndF n f=true→litF n f→FLies W.heap.size W n f cs→
  Calls Tryz.prog 61 #[.agg cs.toArray,.bool true] W (NormEnd W.heap.size (n+2) (normF n f false) (.bool true) (.bool false) W)):=fun f cs W h1 h2 h3=>IH f true cs W h1 h2 h3
 have HK:=Lib.hid hks
 have HKL:=Lib.hid hklit
 have HSN:=Lib.hid hs
 have HKT:Hid (∀k g,k<f.ks.length→normF n (f.ks.getD k default) false=some g→(kidsT n f false).ks.getD k default=g):=fun k g h1 h2=>kidsT_get h1 h2
 have HF:Hid ((kidsT n f false).t=[]∧(kidsT n f false).c=0∧(kidsT n f false).kind=6∧(kidsT n f false).ks.length=f.ks.length):=⟨rfl,rfl,by show(if false=true then f.kind else 11 - f.kind)=6;rw[hfk];rfl,kidsT_len n f false⟩
 have HALL:Hid ((∀k,k<f.ks.length→(normF n (f.ks.getD k default) false).isSome=true)→(if(f.ks.all fun k=>(normF n k false).isSome)=true then some (kidsT n f false) else none)=some (kidsT n f false)):=fun h=>if_pos (by
  rw[List.all_eq_true]
  intro g hg
  obtain⟨i,hi,rfl⟩:=List.getElem_of_mem hg
  have:=h i hi
  rw[List.getD_eq_getElem?_getD,List.getElem?_eq_getElem hi]at this
  exact this)
 have HBAD:Hid (∀k,k<f.ks.length→normF n (f.ks.getD k default) false=none→(if(f.ks.all fun k=>(normF n k false).isSome)=true then some (kidsT n f false) else none)=none):=fun k hk h=>if_neg (fun ha=>by
  rw[List.all_eq_true]at ha
  have:=ha _ (List.getElem_mem hk)
  rw[List.getD_eq_getElem?_getD,List.getElem?_eq_getElem hk]at h
  rw[show normF n f.ks[k] false=none from h]at this
  cases this)
 generalize (if(f.ks.all fun k=>(normF n k false).isSome)=true then some (kidsT n f false) else none)=OUT at HALL HBAD⊢
 generalize kidsT n f false=F at HKT HF HALL
 clear IH hks hklit hs
 rw[hfk]at ST SZ⊢
 generalize f.c=fc at ST SZ
 generalize f.t.length=ft at ST SZ
 generalize hl:f.ks.length=len at ST SZ HK HKL HSN HKT HF HALL HBAD hk4 hk20
 have HCLEN:Hid (∀css:List (List Value),css.length≤len→css.length≤1048576):=fun css h=>Nat.le_trans h hk20
 clear hl
 obtain⟨-,p0,p1,p2,p3, -⟩:=ST.out.1
 have BG:=Lib.hid (kids_begin (n:=n+2) (J:=6) HF.out.1 ST.out.1 ST.out.2 SZ.out)
 generalize hW:(w.alloc (.cells #[.int .i64 5,.int .i64 fc,.slice ta ft tcap,.slice ka len kcap] 39)).alloc (.cells #[.int .i64 0,.int .i64 0,.slice none 0 0,.slice none 0 0] 39)=W1 at ST SZ BG p0 p1 p2 p3
 have R4:Hid (Round w W1.heap.size (n+2) F 6 5 fc ta ft tcap ka len kcap 0 [] (.slice none 0 0) (W1.alloc (.cells #[.int .i64 6,.int .i64 0,.slice none 0 0,.slice none 0 0] 39))):=⟨BG.out.1,BG.out.2.1,BG.out.2.2.1,BG.out.2.2.2⟩
 have q0:(W1.alloc (.cells #[.int .i64 5,.int .i64 0,.slice none 0 0,.slice none 0 0] 39)).cell? ⟨w.heap.size,0,none⟩=some (.int .i64 5):=(((Below.refl _ W1).alloc (Nat.le_refl _) _).cell (p:=⟨w.heap.size,0,none⟩) (by show w.heap.size<_;have:=SZ.out;omega)).trans p0
 clear BG
 go_enter Tryz.func61,Tryz.ntmps61
 go_wp2_with fail
 clear hW q0 p0 p1 p2 p3
 generalize W1.alloc (.cells #[.int .i64 6,.int .i64 0,.slice none 0 0,.slice none 0 0] 39)=w4 at R4⊢
 generalize W1.heap.size=No at R4⊢
 clear ST SZ
 go_loopw [13] (fun i wr=>∃(k:Nat) (v:Value) (css:List (List Value)),k≤len∧i= .int .i64 k∧Hid (∀j,j<k→(normF n (f.ks.getD j default) false).isSome=true)∧Hid (Round w No (n+2) F 6 5 fc ta ft tcap ka len kcap k css v wr)) (fun i _=>len - (intOf i).toNat)
 case atStart=>exact⟨0,.slice none 0 0,[],Nat.zero_le _,rfl,fun j hj=>absurd hj (Nat.not_lt_zero j),R4⟩
 case round=>
  clear R4
  obtain⟨k,v,css,hk,rfl,hall,hr⟩:=hrel
  obtain⟨bz,_,_,_,q3,hb⟩:=hr.out.bx
  by_cases hlt:k<len
  ·obtain⟨b,off,c0,c1,c2,c3,rfl,hblt,g0,g1,g2,g3,hf⟩:=HK.out k hlt
   rw[←hb.cell (p:=⟨b,_,none⟩) hblt]at g0 g1 g2 g3
   obtain⟨ck,cc,cta,ctn,ctcap,cka,ckn,ckcap,rfl,rfl,rfl,rfl⟩:=hf.form
   have hih:=Lib.hid (HI.out (f.ks.getD k default) _ _ (HSN.out k hlt) (HKL.out k hlt) ((hf.below hb).mono hb.size))
   obtain⟨hzN,hzo⟩:=hr.out.zs
   clear hf
   cases hn:normF n (f.ks.getD k default) false with
   | none=>
     have hbad:=HBAD.out k hlt hn
     subst hbad
     rw[hn]at hih
     clear HALL HKT HI HSN HKL HK
     go_wp2_with fail
     refine hih.out.mono ?_
     intro e w5 he
     obtain⟨cs5,rfl,hf5,hb5⟩:=he.none
     obtain⟨dk,dc,dta,dtn,dtcap,dka,dkn,dkcap,rfl⟩:=hf5.form
     have hba6:Below w5.heap.size w5 (w5.alloc (.cells #[.int .i64 dk,.int .i64 dc,.slice dta dtn dtcap,.slice dka dkn dkcap] 39)):=(Below.refl _ _).alloc (Nat.le_refl _) _
     have hz5:=hb5.size
     have hb6:Below wr.heap.size wr (w5.alloc (.cells #[.int .i64 dk,.int .i64 dc,.slice dta dtn dtcap,.slice dka dkn dkcap] 39)):=hb5.trans (hba6.mono hz5)
     have F6:=Lib.hid (hr.out.fb.below hb6 (by omega))
     have RT:=Lib.hid (ret_set (m:=2) (f:= .mk 0 0 [] []) (S:=fun _=>False) F6.out (hb.trans (hb6.mono (Nat.le_of_lt bz))) flies_flat (fun b h=>h.elim))
     clear hb5 hba6 hf5 hb6 hih g0 g1 g2 g3 q3
     obtain⟨r0,r1,r2,r3,rf⟩:=F6.out
     go_wp2_with fail
     clear r0 r1 r2 r3 rf
     refine bodyPost_ret (v:= .tuple #[.agg #[.int .i64 0,.int .i64 0,.slice none 0 0,.slice none 0 0],.bool false]) ?_ rfl ⟨_,rfl,RT.out.lies.up (by omega),RT.out.bel⟩
     obtain⟨_,_,e0,e1,e2,e3⟩:=RT.out
     simp[results,Tryz.results61,go_sem,e0,e1,e2,e3]
   | some g=>
     have hg:=HKT.out k g hlt hn
     rw[hn]at hih
     have A2:Hid (∀j,j<k+1→(normF n (f.ks.getD j default) false).isSome=true):=fun j hj=>by
      by_cases e:j=k
      ·subst e;rw[hn];rfl
      ·exact hall.out j (by omega)
     clear HKT HI HSN HKL HK HALL HBAD hn
     go_wp2_with fail
     refine hih.out.mono ?_
     intro e w5 he
     obtain⟨cs5,rfl,hf5,hb5⟩:=he.some
     clear he
     have HF5:=Lib.hid hf5
     obtain⟨dk,dc,dta,dtn,dtcap,dka,dkn,dkcap,rfl⟩:=hf5.form
     have hba6:Below w5.heap.size w5 (w5.alloc (.cells #[.int .i64 dk,.int .i64 dc,.slice dta dtn dtcap,.slice dka dkn dkcap] 39)):=(Below.refl _ _).alloc (Nat.le_refl _) _
     have hz5:=hb5.size
     have hz6:=hba6.size
     have hb6:Below wr.heap.size wr (w5.alloc (.cells #[.int .i64 dk,.int .i64 dc,.slice dta dtn dtcap,.slice dka dkn dkcap] 39)):=hb5.trans (hba6.mono hz5)
     have HB6:=Lib.hid hb6
     have HF6:Hid (FLiesQ (fun b=>wr.heap.size≤b∧b<(w5.alloc (.cells #[.int .i64 dk,.int .i64 dc,.slice dta dtn dtcap,.slice dka dkn dkcap] 39)).heap.size) (w5.alloc (.cells #[.int .i64 dk,.int .i64 dc,.slice dta dtn dtcap,.slice dka dkn dkcap] 39)) (n+2) (F.ks.getD k default) [.int .i64 dk,.int .i64 dc,.slice dta dtn dtcap,.slice dka dkn dkcap]):=by
      rw[hg]
      exact HF5.out.keep (fun b ⟨h1,h2⟩=>⟨by omega,by omega⟩) (fun b o ⟨h1,h2⟩=>hba6.cell (p:=⟨b,o,none⟩) h2)
     obtain⟨t0,t1,t2,t3⟩:=form_cells (heap_alloc_new w5 (.cells #[.int .i64 dk,.int .i64 dc,.slice dta dtn dtcap,.slice dka dkn dkcap] 39))
     have o3:(w5.alloc (.cells #[.int .i64 dk,.int .i64 dc,.slice dta dtn dtcap,.slice dka dkn dkcap] 39)).cell? ⟨No,3,none⟩=some v:=(hb6.cell (p:=⟨No,3,none⟩) hzo).trans hr.out.ob.o3
     have hrw6:ORow w.heap.size css v (w5.alloc (.cells #[.int .i64 dk,.int .i64 dc,.slice dta dtn dtcap,.slice dka dkn dkcap] 39)):=World.ownsRow.kept (row:=none) hr.out.cs.row ⟨hb6.os,hb6.tape,hb6.output,hb6.size,fun q hq _=>hb6.block q hq⟩ (by cases v.ownBlock<;>simp)
     have hN5:w5.heap.size<(w5.alloc (.cells #[.int .i64 dk,.int .i64 dc,.slice dta dtn dtcap,.slice dka dkn dkcap] 39)).heap.size:=by simp
     clear hb5 hba6 hf5 hb6 hih HF5 g0 g1 g2 g3 q3
     generalize hW6:w5.alloc (.cells #[.int .i64 dk,.int .i64 dc,.slice dta dtn dtcap,.slice dka dkn dkcap] 39)=W6 at HB6 HF6 t0 t1 t2 t3 o3 hrw6 hN5 hz6
     generalize hN:w5.heap.size=N5 at t0 t1 t2 t3 hN5 hz5 hz6
     have HRW:Hid (ORow w.heap.size css v (W6.alloc (.cells #[.int .i64 dk,.int .i64 dc,.slice dta dtn dtcap,.slice dka dkn dkcap] 39))):=World.ownsRow.alloc hrw6 _
     have NEWS:=Lib.hid (four_new W6 (.int .i64 dk) (.int .i64 dc) (.slice dta dtn dtcap) (.slice dka dkn dkcap) 39 W6.heap.size rfl)
     have HBZ:Hid (w.heap.size≤(W6.alloc (.cells #[.int .i64 dk,.int .i64 dc,.slice dta dtn dtcap,.slice dka dkn dkcap] 39)).heap.size):=by show _≤_;simp;omega
     have HCL:Hid (css.length≤1048576):=HCLEN.out css (by rw[hr.out.cs.len];exact hk)
     clear hrw6
     go_wp2_with (at_builtin;refine wpList_append_form rfl _ _ rfl w.heap.size v rfl css HRW.out ⟨W6.heap.size,0,none⟩ 1 [.int .i64 dk,.int .i64 dc,.slice dta dtn dtcap,.slice dka dkn dkcap] rfl rfl NEWS.out (four_one _ _ _ _ _ _ _ _) HCL.out HBZ.out ?_)
     intro v8 w8 hrow8 hgrow8 hat8
     clear hW6 hN
     obtain⟨a8,c8,hv8, -⟩:=hrow8.form
     rw[List.length_append,hr.out.cs.len]at hv8
     replace hv8:v8= .slice a8 (k+1) c8:=hv8
     subst hv8
     have R8:=Lib.hid (hr.out.step HB6.out HF6.out hrow8 hgrow8 (by simpa using hat8))
     obtain⟨o38,of8⟩:=hr.out.stored HB6.out hgrow8
     clear hz5 hz6 hN5 o3 t0 t1 t2 t3 hrow8 hgrow8 hat8 HB6 HF6 HRW NEWS HBZ HCL hr hall hg
     go_wp2_with fail
     clear o38 of8
     go_roundw
     case rel=>exact⟨k+1,_,_,by omega,by go_num,A2,R8⟩
     case measure=>simp[intOf];omega
  ·obtain rfl:k=len:=by omega
   have hall':=HALL.out hall.out
   subst hall'
   obtain⟨a9,cap9,rfl,hrt⟩:=hr.out.done HF.out.1 HF.out.2.1 HF.out.2.2.1 HF.out.2.2.2.symm hk20
   have RT:=Lib.hid hrt
   have HRB:=Lib.hid hr.out.rb
   obtain⟨o0,o1,o2,o3,of⟩:=hr.out.ob
   clear hrt hr HALL HBAD HKT HI HSN HKL HK HCLEN
   obtain⟨r0,r1,r2,r3,rf⟩:=HRB.out
   go_wp2_with fail
   clear r0 r1 r2 r3 rf o0 o1 o2 o3 of
   refine bodyPost_ret (v:= .tuple #[.agg #[.int .i64 6,.int .i64 0,.slice none 0 0,.slice a9 k cap9],.bool true]) ?_ rfl ⟨_,rfl,RT.out.lies,RT.out.bel⟩
   obtain⟨_,_,e0,e1,e2,e3⟩:=RT.out
   simp[results,Tryz.results61,go_sem,e0,e1,e2,e3]
theorem rn_k6f (n:Nat)(IH:NIR n)(f:FT)(cs:List Value)(w:World)(hfk:f.kind=6)(hs:∀i,i<f.ks.length→sndF n (f.ks.getD i default)=true)(hlit:litF (n+1) f)(h:FLies w.heap.size w (n+1) f cs):
 Calls Tryz.prog 61 #[.agg cs.toArray,.bool false] w (NormEnd w.heap.size (n+3) (if(f.ks.all fun k=>(normF n k true).isSome)=true then some (kidsT n f true) else none) (.bool true) (.bool false) w):=by
 obtain⟨ta,tcap,ka,kcap,rfl,_,_,hk4,hks⟩:=h
 obtain⟨_,hk20,hklit⟩:=hlit
 have ST:=Lib.hid (args_start w f.kind f.c ta ka f.t.length tcap f.ks.length kcap)
 have SZ:Hid (w.heap.size+2=((w.alloc (.cells #[.int .i64 f.kind,.int .i64 f.c,.slice ta f.t.length tcap,.slice ka f.ks.length kcap] 39)).alloc (.cells #[.int .i64 0,.int .i64 0,.slice none 0 0,.slice none 0 0] 39)).heap.size):=by show _=_;simp
 have HI:Hid (∀(f:FT) (cs:List Value) (W:World),sndF n f=true→litF n f→FLies W.heap.size W n f cs→
  Calls Tryz.prog 61 #[.agg cs.toArray,.bool false] W (NormEnd W.heap.size (n+2) (normF n f true) (.bool true) (.bool false) W)):=fun f cs W h1 h2 h3=>IH f false cs W h1 h2 h3
 have HK:=Lib.hid hks
 have HKL:=Lib.hid hklit
 have HSN:=Lib.hid hs
 have HKT:Hid (∀k g,k<f.ks.length→normF n (f.ks.getD k default) true=some g→(kidsT n f true).ks.getD k default=g):=fun k g h1 h2=>kidsT_get h1 h2
 have HF:Hid ((kidsT n f true).t=[]∧(kidsT n f true).c=0∧(kidsT n f true).kind=6∧(kidsT n f true).ks.length=f.ks.length):=⟨rfl,rfl,by show(if true=true then f.kind else 11 - f.kind)=6;rw[hfk];rfl,kidsT_len n f true⟩
 have HALL:Hid ((∀k,k<f.ks.length→(normF n (f.ks.getD k default) true).isSome=true)→(if(f.ks.all fun k=>(normF n k true).isSome)=true then some (kidsT n f true) else none)=some (kidsT n f true)):=fun h=>if_pos (by
  rw[List.all_eq_true]
  intro g hg
  obtain⟨i,hi,rfl⟩:=List.getElem_of_mem hg
  have:=h i hi
  rw[List.getD_eq_getElem?_getD,List.getElem?_eq_getElem hi]at this
  exact this)
 have HBAD:Hid (∀k,k<f.ks.length→normF n (f.ks.getD k default) true=none→(if(f.ks.all fun k=>(normF n k true).isSome)=true then some (kidsT n f true) else none)=none):=fun k hk h=>if_neg (fun ha=>by
  rw[List.all_eq_true]at ha
  have:=ha _ (List.getElem_mem hk)
  rw[List.getD_eq_getElem?_getD,List.getElem?_eq_getElem hk]at h
  rw[show normF n f.ks[k] true=none from h]at this
  cases this)
 generalize (if(f.ks.all fun k=>(normF n k true).isSome)=true then some (kidsT n f true) else none)=OUT at HALL HBAD⊢
 generalize kidsT n f true=F at HKT HF HALL
 clear IH hks hklit hs
 rw[hfk]at ST SZ⊢
 generalize f.c=fc at ST SZ
 generalize f.t.length=ft at ST SZ
 generalize hl:f.ks.length=len at ST SZ HK HKL HSN HKT HF HALL HBAD hk4 hk20
 have HCLEN:Hid (∀css:List (List Value),css.length≤len→css.length≤1048576):=fun css h=>Nat.le_trans h hk20
 clear hl
 obtain⟨-,p0,p1,p2,p3, -⟩:=ST.out.1
 have BG:=Lib.hid (kids_begin (n:=n+2) (J:=6) HF.out.1 ST.out.1 ST.out.2 SZ.out)
 generalize hW:(w.alloc (.cells #[.int .i64 6,.int .i64 fc,.slice ta ft tcap,.slice ka len kcap] 39)).alloc (.cells #[.int .i64 0,.int .i64 0,.slice none 0 0,.slice none 0 0] 39)=W1 at ST SZ BG p0 p1 p2 p3
 have R4:Hid (Round w W1.heap.size (n+2) F 6 6 fc ta ft tcap ka len kcap 0 [] (.slice none 0 0) (W1.alloc (.cells #[.int .i64 6,.int .i64 0,.slice none 0 0,.slice none 0 0] 39))):=⟨BG.out.1,BG.out.2.1,BG.out.2.2.1,BG.out.2.2.2⟩
 have q0:(W1.alloc (.cells #[.int .i64 6,.int .i64 0,.slice none 0 0,.slice none 0 0] 39)).cell? ⟨w.heap.size,0,none⟩=some (.int .i64 6):=(((Below.refl _ W1).alloc (Nat.le_refl _) _).cell (p:=⟨w.heap.size,0,none⟩) (by show w.heap.size<_;have:=SZ.out;omega)).trans p0
 clear BG
 go_enter Tryz.func61,Tryz.ntmps61
 go_wp2_with fail
 clear hW q0 p0 p1 p2 p3
 generalize W1.alloc (.cells #[.int .i64 6,.int .i64 0,.slice none 0 0,.slice none 0 0] 39)=w4 at R4⊢
 generalize W1.heap.size=No at R4⊢
 clear ST SZ
 go_loopw [13] (fun i wr=>∃(k:Nat) (v:Value) (css:List (List Value)),k≤len∧i= .int .i64 k∧Hid (∀j,j<k→(normF n (f.ks.getD j default) true).isSome=true)∧Hid (Round w No (n+2) F 6 6 fc ta ft tcap ka len kcap k css v wr)) (fun i _=>len - (intOf i).toNat)
 case atStart=>exact⟨0,.slice none 0 0,[],Nat.zero_le _,rfl,fun j hj=>absurd hj (Nat.not_lt_zero j),R4⟩
 case round=>
  clear R4
  obtain⟨k,v,css,hk,rfl,hall,hr⟩:=hrel
  obtain⟨bz,_,_,_,q3,hb⟩:=hr.out.bx
  by_cases hlt:k<len
  ·obtain⟨b,off,c0,c1,c2,c3,rfl,hblt,g0,g1,g2,g3,hf⟩:=HK.out k hlt
   rw[←hb.cell (p:=⟨b,_,none⟩) hblt]at g0 g1 g2 g3
   obtain⟨ck,cc,cta,ctn,ctcap,cka,ckn,ckcap,rfl,rfl,rfl,rfl⟩:=hf.form
   have hih:=Lib.hid (HI.out (f.ks.getD k default) _ _ (HSN.out k hlt) (HKL.out k hlt) ((hf.below hb).mono hb.size))
   obtain⟨hzN,hzo⟩:=hr.out.zs
   clear hf
   cases hn:normF n (f.ks.getD k default) true with
   | none=>
     have hbad:=HBAD.out k hlt hn
     subst hbad
     rw[hn]at hih
     clear HALL HKT HI HSN HKL HK
     go_wp2_with fail
     refine hih.out.mono ?_
     intro e w5 he
     obtain⟨cs5,rfl,hf5,hb5⟩:=he.none
     obtain⟨dk,dc,dta,dtn,dtcap,dka,dkn,dkcap,rfl⟩:=hf5.form
     have hba6:Below w5.heap.size w5 (w5.alloc (.cells #[.int .i64 dk,.int .i64 dc,.slice dta dtn dtcap,.slice dka dkn dkcap] 39)):=(Below.refl _ _).alloc (Nat.le_refl _) _
     have hz5:=hb5.size
     have hb6:Below wr.heap.size wr (w5.alloc (.cells #[.int .i64 dk,.int .i64 dc,.slice dta dtn dtcap,.slice dka dkn dkcap] 39)):=hb5.trans (hba6.mono hz5)
     have F6:=Lib.hid (hr.out.fb.below hb6 (by omega))
     have RT:=Lib.hid (ret_set (m:=2) (f:= .mk 0 0 [] []) (S:=fun _=>False) F6.out (hb.trans (hb6.mono (Nat.le_of_lt bz))) flies_flat (fun b h=>h.elim))
     clear hb5 hba6 hf5 hb6 hih g0 g1 g2 g3 q3
     obtain⟨r0,r1,r2,r3,rf⟩:=F6.out
     go_wp2_with fail
     clear r0 r1 r2 r3 rf
     refine bodyPost_ret (v:= .tuple #[.agg #[.int .i64 0,.int .i64 0,.slice none 0 0,.slice none 0 0],.bool false]) ?_ rfl ⟨_,rfl,RT.out.lies.up (by omega),RT.out.bel⟩
     obtain⟨_,_,e0,e1,e2,e3⟩:=RT.out
     simp[results,Tryz.results61,go_sem,e0,e1,e2,e3]
   | some g=>
     have hg:=HKT.out k g hlt hn
     rw[hn]at hih
     have A2:Hid (∀j,j<k+1→(normF n (f.ks.getD j default) true).isSome=true):=fun j hj=>by
      by_cases e:j=k
      ·subst e;rw[hn];rfl
      ·exact hall.out j (by omega)
     clear HKT HI HSN HKL HK HALL HBAD hn
     go_wp2_with fail
     refine hih.out.mono ?_
     intro e w5 he
     obtain⟨cs5,rfl,hf5,hb5⟩:=he.some
     clear he
     have HF5:=Lib.hid hf5
     obtain⟨dk,dc,dta,dtn,dtcap,dka,dkn,dkcap,rfl⟩:=hf5.form
     have hba6:Below w5.heap.size w5 (w5.alloc (.cells #[.int .i64 dk,.int .i64 dc,.slice dta dtn dtcap,.slice dka dkn dkcap] 39)):=(Below.refl _ _).alloc (Nat.le_refl _) _
     have hz5:=hb5.size
     have hz6:=hba6.size
     have hb6:Below wr.heap.size wr (w5.alloc (.cells #[.int .i64 dk,.int .i64 dc,.slice dta dtn dtcap,.slice dka dkn dkcap] 39)):=hb5.trans (hba6.mono hz5)
     have HB6:=Lib.hid hb6
     have HF6:Hid (FLiesQ (fun b=>wr.heap.size≤b∧b<(w5.alloc (.cells #[.int .i64 dk,.int .i64 dc,.slice dta dtn dtcap,.slice dka dkn dkcap] 39)).heap.size) (w5.alloc (.cells #[.int .i64 dk,.int .i64 dc,.slice dta dtn dtcap,.slice dka dkn dkcap] 39)) (n+2) (F.ks.getD k default) [.int .i64 dk,.int .i64 dc,.slice dta dtn dtcap,.slice dka dkn dkcap]):=by
      rw[hg]
      exact HF5.out.keep (fun b ⟨h1,h2⟩=>⟨by omega,by omega⟩) (fun b o ⟨h1,h2⟩=>hba6.cell (p:=⟨b,o,none⟩) h2)
     obtain⟨t0,t1,t2,t3⟩:=form_cells (heap_alloc_new w5 (.cells #[.int .i64 dk,.int .i64 dc,.slice dta dtn dtcap,.slice dka dkn dkcap] 39))
     have o3:(w5.alloc (.cells #[.int .i64 dk,.int .i64 dc,.slice dta dtn dtcap,.slice dka dkn dkcap] 39)).cell? ⟨No,3,none⟩=some v:=(hb6.cell (p:=⟨No,3,none⟩) hzo).trans hr.out.ob.o3
     have hrw6:ORow w.heap.size css v (w5.alloc (.cells #[.int .i64 dk,.int .i64 dc,.slice dta dtn dtcap,.slice dka dkn dkcap] 39)):=World.ownsRow.kept (row:=none) hr.out.cs.row ⟨hb6.os,hb6.tape,hb6.output,hb6.size,fun q hq _=>hb6.block q hq⟩ (by cases v.ownBlock<;>simp)
     have hN5:w5.heap.size<(w5.alloc (.cells #[.int .i64 dk,.int .i64 dc,.slice dta dtn dtcap,.slice dka dkn dkcap] 39)).heap.size:=by simp
     clear hb5 hba6 hf5 hb6 hih HF5 g0 g1 g2 g3 q3
     generalize hW6:w5.alloc (.cells #[.int .i64 dk,.int .i64 dc,.slice dta dtn dtcap,.slice dka dkn dkcap] 39)=W6 at HB6 HF6 t0 t1 t2 t3 o3 hrw6 hN5 hz6
     generalize hN:w5.heap.size=N5 at t0 t1 t2 t3 hN5 hz5 hz6
     have HRW:Hid (ORow w.heap.size css v (W6.alloc (.cells #[.int .i64 dk,.int .i64 dc,.slice dta dtn dtcap,.slice dka dkn dkcap] 39))):=World.ownsRow.alloc hrw6 _
     have NEWS:=Lib.hid (four_new W6 (.int .i64 dk) (.int .i64 dc) (.slice dta dtn dtcap) (.slice dka dkn dkcap) 39 W6.heap.size rfl)
     have HBZ:Hid (w.heap.size≤(W6.alloc (.cells #[.int .i64 dk,.int .i64 dc,.slice dta dtn dtcap,.slice dka dkn dkcap] 39)).heap.size):=by show _≤_;simp;omega
     have HCL:Hid (css.length≤1048576):=HCLEN.out css (by rw[hr.out.cs.len];exact hk)
     clear hrw6
     go_wp2_with (at_builtin;refine wpList_append_form rfl _ _ rfl w.heap.size v rfl css HRW.out ⟨W6.heap.size,0,none⟩ 1 [.int .i64 dk,.int .i64 dc,.slice dta dtn dtcap,.slice dka dkn dkcap] rfl rfl NEWS.out (four_one _ _ _ _ _ _ _ _) HCL.out HBZ.out ?_)
     intro v8 w8 hrow8 hgrow8 hat8
     clear hW6 hN
     obtain⟨a8,c8,hv8, -⟩:=hrow8.form
     rw[List.length_append,hr.out.cs.len]at hv8
     replace hv8:v8= .slice a8 (k+1) c8:=hv8
     subst hv8
     have R8:=Lib.hid (hr.out.step HB6.out HF6.out hrow8 hgrow8 (by simpa using hat8))
     obtain⟨o38,of8⟩:=hr.out.stored HB6.out hgrow8
     clear hz5 hz6 hN5 o3 t0 t1 t2 t3 hrow8 hgrow8 hat8 HB6 HF6 HRW NEWS HBZ HCL hr hall hg
     go_wp2_with fail
     clear o38 of8
     go_roundw
     case rel=>exact⟨k+1,_,_,by omega,by go_num,A2,R8⟩
     case measure=>simp[intOf];omega
  ·obtain rfl:k=len:=by omega
   have hall':=HALL.out hall.out
   subst hall'
   obtain⟨a9,cap9,rfl,hrt⟩:=hr.out.done HF.out.1 HF.out.2.1 HF.out.2.2.1 HF.out.2.2.2.symm hk20
   have RT:=Lib.hid hrt
   have HRB:=Lib.hid hr.out.rb
   obtain⟨o0,o1,o2,o3,of⟩:=hr.out.ob
   clear hrt hr HALL HBAD HKT HI HSN HKL HK HCLEN
   obtain⟨r0,r1,r2,r3,rf⟩:=HRB.out
   go_wp2_with fail
   clear r0 r1 r2 r3 rf o0 o1 o2 o3 of
   refine bodyPost_ret (v:= .tuple #[.agg #[.int .i64 6,.int .i64 0,.slice none 0 0,.slice a9 k cap9],.bool true]) ?_ rfl ⟨_,rfl,RT.out.lies,RT.out.bel⟩
   obtain⟨_,_,e0,e1,e2,e3⟩:=RT.out
   simp[results,Tryz.results61,go_sem,e0,e1,e2,e3]
theorem rn_k6t (n:Nat)(IH:NIR n)(f:FT)(cs:List Value)(w:World)(hfk:f.kind=6)(hs:∀i,i<f.ks.length→sndF n (f.ks.getD i default)=true)(hlit:litF (n+1) f)(h:FLies w.heap.size w (n+1) f cs):
 Calls Tryz.prog 61 #[.agg cs.toArray,.bool true] w (NormEnd w.heap.size (n+3) (if(f.ks.all fun k=>(normF n k false).isSome)=true then some (kidsT n f false) else none) (.bool true) (.bool false) w):=by
 obtain⟨ta,tcap,ka,kcap,rfl,_,_,hk4,hks⟩:=h
 obtain⟨_,hk20,hklit⟩:=hlit
 have ST:=Lib.hid (args_start w f.kind f.c ta ka f.t.length tcap f.ks.length kcap)
 have SZ:Hid (w.heap.size+2=((w.alloc (.cells #[.int .i64 f.kind,.int .i64 f.c,.slice ta f.t.length tcap,.slice ka f.ks.length kcap] 39)).alloc (.cells #[.int .i64 0,.int .i64 0,.slice none 0 0,.slice none 0 0] 39)).heap.size):=by show _=_;simp
 have HI:Hid (∀(f:FT) (cs:List Value) (W:World),sndF n f=true→litF n f→FLies W.heap.size W n f cs→
  Calls Tryz.prog 61 #[.agg cs.toArray,.bool true] W (NormEnd W.heap.size (n+2) (normF n f false) (.bool true) (.bool false) W)):=fun f cs W h1 h2 h3=>IH f true cs W h1 h2 h3
 have HK:=Lib.hid hks
 have HKL:=Lib.hid hklit
 have HSN:=Lib.hid hs
 have HKT:Hid (∀k g,k<f.ks.length→normF n (f.ks.getD k default) false=some g→(kidsT n f false).ks.getD k default=g):=fun k g h1 h2=>kidsT_get h1 h2
 have HF:Hid ((kidsT n f false).t=[]∧(kidsT n f false).c=0∧(kidsT n f false).kind=5∧(kidsT n f false).ks.length=f.ks.length):=⟨rfl,rfl,by show(if false=true then f.kind else 11 - f.kind)=5;rw[hfk];rfl,kidsT_len n f false⟩
 have HALL:Hid ((∀k,k<f.ks.length→(normF n (f.ks.getD k default) false).isSome=true)→(if(f.ks.all fun k=>(normF n k false).isSome)=true then some (kidsT n f false) else none)=some (kidsT n f false)):=fun h=>if_pos (by
  rw[List.all_eq_true]
  intro g hg
  obtain⟨i,hi,rfl⟩:=List.getElem_of_mem hg
  have:=h i hi
  rw[List.getD_eq_getElem?_getD,List.getElem?_eq_getElem hi]at this
  exact this)
 have HBAD:Hid (∀k,k<f.ks.length→normF n (f.ks.getD k default) false=none→(if(f.ks.all fun k=>(normF n k false).isSome)=true then some (kidsT n f false) else none)=none):=fun k hk h=>if_neg (fun ha=>by
  rw[List.all_eq_true]at ha
  have:=ha _ (List.getElem_mem hk)
  rw[List.getD_eq_getElem?_getD,List.getElem?_eq_getElem hk]at h
  rw[show normF n f.ks[k] false=none from h]at this
  cases this)
 generalize (if(f.ks.all fun k=>(normF n k false).isSome)=true then some (kidsT n f false) else none)=OUT at HALL HBAD⊢
 generalize kidsT n f false=F at HKT HF HALL
 clear IH hks hklit hs
 rw[hfk]at ST SZ⊢
 generalize f.c=fc at ST SZ
 generalize f.t.length=ft at ST SZ
 generalize hl:f.ks.length=len at ST SZ HK HKL HSN HKT HF HALL HBAD hk4 hk20
 have HCLEN:Hid (∀css:List (List Value),css.length≤len→css.length≤1048576):=fun css h=>Nat.le_trans h hk20
 clear hl
 obtain⟨-,p0,p1,p2,p3, -⟩:=ST.out.1
 have BG:=Lib.hid (kids_begin (n:=n+2) (J:=5) HF.out.1 ST.out.1 ST.out.2 SZ.out)
 generalize hW:(w.alloc (.cells #[.int .i64 6,.int .i64 fc,.slice ta ft tcap,.slice ka len kcap] 39)).alloc (.cells #[.int .i64 0,.int .i64 0,.slice none 0 0,.slice none 0 0] 39)=W1 at ST SZ BG p0 p1 p2 p3
 have R4:Hid (Round w W1.heap.size (n+2) F 5 6 fc ta ft tcap ka len kcap 0 [] (.slice none 0 0) (W1.alloc (.cells #[.int .i64 5,.int .i64 0,.slice none 0 0,.slice none 0 0] 39))):=⟨BG.out.1,BG.out.2.1,BG.out.2.2.1,BG.out.2.2.2⟩
 have q0:(W1.alloc (.cells #[.int .i64 6,.int .i64 0,.slice none 0 0,.slice none 0 0] 39)).cell? ⟨w.heap.size,0,none⟩=some (.int .i64 6):=(((Below.refl _ W1).alloc (Nat.le_refl _) _).cell (p:=⟨w.heap.size,0,none⟩) (by show w.heap.size<_;have:=SZ.out;omega)).trans p0
 clear BG
 go_enter Tryz.func61,Tryz.ntmps61
 go_wp2_with fail
 clear hW q0 p0 p1 p2 p3
 generalize W1.alloc (.cells #[.int .i64 5,.int .i64 0,.slice none 0 0,.slice none 0 0] 39)=w4 at R4⊢
 generalize W1.heap.size=No at R4⊢
 clear ST SZ
 go_loopw [13] (fun i wr=>∃(k:Nat) (v:Value) (css:List (List Value)),k≤len∧i= .int .i64 k∧Hid (∀j,j<k→(normF n (f.ks.getD j default) false).isSome=true)∧Hid (Round w No (n+2) F 5 6 fc ta ft tcap ka len kcap k css v wr)) (fun i _=>len - (intOf i).toNat)
 case atStart=>exact⟨0,.slice none 0 0,[],Nat.zero_le _,rfl,fun j hj=>absurd hj (Nat.not_lt_zero j),R4⟩
 case round=>
  clear R4
  obtain⟨k,v,css,hk,rfl,hall,hr⟩:=hrel
  obtain⟨bz,_,_,_,q3,hb⟩:=hr.out.bx
  by_cases hlt:k<len
  ·obtain⟨b,off,c0,c1,c2,c3,rfl,hblt,g0,g1,g2,g3,hf⟩:=HK.out k hlt
   rw[←hb.cell (p:=⟨b,_,none⟩) hblt]at g0 g1 g2 g3
   obtain⟨ck,cc,cta,ctn,ctcap,cka,ckn,ckcap,rfl,rfl,rfl,rfl⟩:=hf.form
   have hih:=Lib.hid (HI.out (f.ks.getD k default) _ _ (HSN.out k hlt) (HKL.out k hlt) ((hf.below hb).mono hb.size))
   obtain⟨hzN,hzo⟩:=hr.out.zs
   clear hf
   cases hn:normF n (f.ks.getD k default) false with
   | none=>
     have hbad:=HBAD.out k hlt hn
     subst hbad
     rw[hn]at hih
     clear HALL HKT HI HSN HKL HK
     go_wp2_with fail
     refine hih.out.mono ?_
     intro e w5 he
     obtain⟨cs5,rfl,hf5,hb5⟩:=he.none
     obtain⟨dk,dc,dta,dtn,dtcap,dka,dkn,dkcap,rfl⟩:=hf5.form
     have hba6:Below w5.heap.size w5 (w5.alloc (.cells #[.int .i64 dk,.int .i64 dc,.slice dta dtn dtcap,.slice dka dkn dkcap] 39)):=(Below.refl _ _).alloc (Nat.le_refl _) _
     have hz5:=hb5.size
     have hb6:Below wr.heap.size wr (w5.alloc (.cells #[.int .i64 dk,.int .i64 dc,.slice dta dtn dtcap,.slice dka dkn dkcap] 39)):=hb5.trans (hba6.mono hz5)
     have F6:=Lib.hid (hr.out.fb.below hb6 (by omega))
     have RT:=Lib.hid (ret_set (m:=2) (f:= .mk 0 0 [] []) (S:=fun _=>False) F6.out (hb.trans (hb6.mono (Nat.le_of_lt bz))) flies_flat (fun b h=>h.elim))
     clear hb5 hba6 hf5 hb6 hih g0 g1 g2 g3 q3
     obtain⟨r0,r1,r2,r3,rf⟩:=F6.out
     go_wp2_with fail
     clear r0 r1 r2 r3 rf
     refine bodyPost_ret (v:= .tuple #[.agg #[.int .i64 0,.int .i64 0,.slice none 0 0,.slice none 0 0],.bool false]) ?_ rfl ⟨_,rfl,RT.out.lies.up (by omega),RT.out.bel⟩
     obtain⟨_,_,e0,e1,e2,e3⟩:=RT.out
     simp[results,Tryz.results61,go_sem,e0,e1,e2,e3]
   | some g=>
     have hg:=HKT.out k g hlt hn
     rw[hn]at hih
     have A2:Hid (∀j,j<k+1→(normF n (f.ks.getD j default) false).isSome=true):=fun j hj=>by
      by_cases e:j=k
      ·subst e;rw[hn];rfl
      ·exact hall.out j (by omega)
     clear HKT HI HSN HKL HK HALL HBAD hn
     go_wp2_with fail
     refine hih.out.mono ?_
     intro e w5 he
     obtain⟨cs5,rfl,hf5,hb5⟩:=he.some
     clear he
     have HF5:=Lib.hid hf5
     obtain⟨dk,dc,dta,dtn,dtcap,dka,dkn,dkcap,rfl⟩:=hf5.form
     have hba6:Below w5.heap.size w5 (w5.alloc (.cells #[.int .i64 dk,.int .i64 dc,.slice dta dtn dtcap,.slice dka dkn dkcap] 39)):=(Below.refl _ _).alloc (Nat.le_refl _) _
     have hz5:=hb5.size
     have hz6:=hba6.size
     have hb6:Below wr.heap.size wr (w5.alloc (.cells #[.int .i64 dk,.int .i64 dc,.slice dta dtn dtcap,.slice dka dkn dkcap] 39)):=hb5.trans (hba6.mono hz5)
     have HB6:=Lib.hid hb6
     have HF6:Hid (FLiesQ (fun b=>wr.heap.size≤b∧b<(w5.alloc (.cells #[.int .i64 dk,.int .i64 dc,.slice dta dtn dtcap,.slice dka dkn dkcap] 39)).heap.size) (w5.alloc (.cells #[.int .i64 dk,.int .i64 dc,.slice dta dtn dtcap,.slice dka dkn dkcap] 39)) (n+2) (F.ks.getD k default) [.int .i64 dk,.int .i64 dc,.slice dta dtn dtcap,.slice dka dkn dkcap]):=by
      rw[hg]
      exact HF5.out.keep (fun b ⟨h1,h2⟩=>⟨by omega,by omega⟩) (fun b o ⟨h1,h2⟩=>hba6.cell (p:=⟨b,o,none⟩) h2)
     obtain⟨t0,t1,t2,t3⟩:=form_cells (heap_alloc_new w5 (.cells #[.int .i64 dk,.int .i64 dc,.slice dta dtn dtcap,.slice dka dkn dkcap] 39))
     have o3:(w5.alloc (.cells #[.int .i64 dk,.int .i64 dc,.slice dta dtn dtcap,.slice dka dkn dkcap] 39)).cell? ⟨No,3,none⟩=some v:=(hb6.cell (p:=⟨No,3,none⟩) hzo).trans hr.out.ob.o3
     have hrw6:ORow w.heap.size css v (w5.alloc (.cells #[.int .i64 dk,.int .i64 dc,.slice dta dtn dtcap,.slice dka dkn dkcap] 39)):=World.ownsRow.kept (row:=none) hr.out.cs.row ⟨hb6.os,hb6.tape,hb6.output,hb6.size,fun q hq _=>hb6.block q hq⟩ (by cases v.ownBlock<;>simp)
     have hN5:w5.heap.size<(w5.alloc (.cells #[.int .i64 dk,.int .i64 dc,.slice dta dtn dtcap,.slice dka dkn dkcap] 39)).heap.size:=by simp
     clear hb5 hba6 hf5 hb6 hih HF5 g0 g1 g2 g3 q3
     generalize hW6:w5.alloc (.cells #[.int .i64 dk,.int .i64 dc,.slice dta dtn dtcap,.slice dka dkn dkcap] 39)=W6 at HB6 HF6 t0 t1 t2 t3 o3 hrw6 hN5 hz6
     generalize hN:w5.heap.size=N5 at t0 t1 t2 t3 hN5 hz5 hz6
     have HRW:Hid (ORow w.heap.size css v (W6.alloc (.cells #[.int .i64 dk,.int .i64 dc,.slice dta dtn dtcap,.slice dka dkn dkcap] 39))):=World.ownsRow.alloc hrw6 _
     have NEWS:=Lib.hid (four_new W6 (.int .i64 dk) (.int .i64 dc) (.slice dta dtn dtcap) (.slice dka dkn dkcap) 39 W6.heap.size rfl)
     have HBZ:Hid (w.heap.size≤(W6.alloc (.cells #[.int .i64 dk,.int .i64 dc,.slice dta dtn dtcap,.slice dka dkn dkcap] 39)).heap.size):=by show _≤_;simp;omega
     have HCL:Hid (css.length≤1048576):=HCLEN.out css (by rw[hr.out.cs.len];exact hk)
     clear hrw6
     go_wp2_with (at_builtin;refine wpList_append_form rfl _ _ rfl w.heap.size v rfl css HRW.out ⟨W6.heap.size,0,none⟩ 1 [.int .i64 dk,.int .i64 dc,.slice dta dtn dtcap,.slice dka dkn dkcap] rfl rfl NEWS.out (four_one _ _ _ _ _ _ _ _) HCL.out HBZ.out ?_)
     intro v8 w8 hrow8 hgrow8 hat8
     clear hW6 hN
     obtain⟨a8,c8,hv8, -⟩:=hrow8.form
     rw[List.length_append,hr.out.cs.len]at hv8
     replace hv8:v8= .slice a8 (k+1) c8:=hv8
     subst hv8
     have R8:=Lib.hid (hr.out.step HB6.out HF6.out hrow8 hgrow8 (by simpa using hat8))
     obtain⟨o38,of8⟩:=hr.out.stored HB6.out hgrow8
     clear hz5 hz6 hN5 o3 t0 t1 t2 t3 hrow8 hgrow8 hat8 HB6 HF6 HRW NEWS HBZ HCL hr hall hg
     go_wp2_with fail
     clear o38 of8
     go_roundw
     case rel=>exact⟨k+1,_,_,by omega,by go_num,A2,R8⟩
     case measure=>simp[intOf];omega
  ·obtain rfl:k=len:=by omega
   have hall':=HALL.out hall.out
   subst hall'
   obtain⟨a9,cap9,rfl,hrt⟩:=hr.out.done HF.out.1 HF.out.2.1 HF.out.2.2.1 HF.out.2.2.2.symm hk20
   have RT:=Lib.hid hrt
   have HRB:=Lib.hid hr.out.rb
   obtain⟨o0,o1,o2,o3,of⟩:=hr.out.ob
   clear hrt hr HALL HBAD HKT HI HSN HKL HK HCLEN
   obtain⟨r0,r1,r2,r3,rf⟩:=HRB.out
   go_wp2_with fail
   clear r0 r1 r2 r3 rf o0 o1 o2 o3 of
   refine bodyPost_ret (v:= .tuple #[.agg #[.int .i64 5,.int .i64 0,.slice none 0 0,.slice a9 k cap9],.bool true]) ?_ rfl ⟨_,rfl,RT.out.lies,RT.out.bel⟩
   obtain⟨_,_,e0,e1,e2,e3⟩:=RT.out
   simp[results,Tryz.results61,go_sem,e0,e1,e2,e3]
end
end Go.Proofs.YtipahfcaplbifaaGreatDoor
