/- Parts of a proof. -/
import Derived.Test.YtcinokljkieijaaGreatDoorQ06
import Derived.Test.YtcinokljkieijaaGreatDoorQ08
import Derived.Deep.MidRow
set_option linter.unusedVariables false
set_option linter.unusedSimpArgs false
set_option linter.unusedSectionVars false
set_option maxHeartbeats 60000000
set_option maxRecDepth 100000
namespace Go.Proofs.YtcinokljkieijaaGreatDoor
section
open Go.RowKit
theorem is_may {C:PC}{s:PS}{ws:List ByteArray}{w:World}{e:Ending}{W:World}(hp:pis C.tk ws s=false)(h:PE Vt (pmay C.tk ws) C s w e W):e= .returned (.string ⟨#[]⟩)∧PSt C s W∧KeptG C.g w W:=by
 obtain⟨v,a1,a2,a3,a4⟩:=h
 have a2:v= .string (pmay C.tk ws s).1:=a2
 rw[pmay_no hp]at a2 a3
 exact⟨by rw[a1,a2],a3,a4⟩
theorem er_prod {n:Nat}{tk:List Tok}{en:Nat}{s:PS}(hp:pis tk [(⟨#[45]⟩:ByteArray)] s=false):pprod tk en (n+1) s=(if pkd tk s=3 then ptimes tk en (pprod tk en n) 1 s else if pkd tk s=1 then pvarE tk en s else pwithin tk en (⟨#[40]⟩:ByteArray) (⟨#[41]⟩:ByteArray) default (pexpr tk (pprod tk en n)) s):=by
 unfold pprod
 rw[hp];rfl
theorem prod_b (n:Nat)(IH:ProdSaid n)(C:PC)(s:PS)(w:World)(h:PSt C s w)(hf:Fu (n+1) s)(hp:pis C.tk [(⟨#[45]⟩:ByteArray)] s=false)(h3:pkd C.tk s=3):
 Calls Tryz.prog 199 #[C.p] w (PE (Vx exX) (pprod C.tk C.en (n+1)) C s w):=by
 have hg:=h.lt
 have hst1:=(h.alloc (.cells #[C.p] 67)).alloc (.cells zEx.toArray 57)
 have e:pprod C.tk C.en (n+1) s=ptimes C.tk C.en (pprod C.tk C.en n) 1 s:=by
  rw[er_prod hp,if_pos h3]
 have HM:=Lib.hid (may1_at C s (⟨#[45]⟩:ByteArray) _ (w.heap.size+1+1) (by simp) hst1 (by decide))
 have HY:Hid (∀e1 W1,PE Vt (pmay C.tk [(⟨#[45]⟩:ByteArray)]) C s ((w.alloc (.cells #[C.p] 67)).alloc (.cells zEx.toArray 57)) e1 W1→e1= .returned (.string ⟨#[]⟩)∧W1.cell? ⟨w.heap.size,0,none⟩=some C.p∧KeptG C.g ((w.alloc (.cells #[C.p] 67)).alloc (.cells zEx.toArray 57)) W1∧PSt C s W1):=fun e1 W1 hq=>by
  obtain⟨a1,a2,a3⟩:=is_may hp hq
  exact⟨a1,p_box a3 hg,a3,a2⟩
 have HK0:=Lib.hid (fun W (hW:PSt C s W)=>kind_any C s W hW)
 rw[h3]at HK0
 have HT:=Lib.hid (fun W (hW:PSt C s W)=>times_any n IH C s 1 W hW (.inl rfl) hf)
 have HE:Hid (∀W1 e2 W2,KeptG C.g ((w.alloc (.cells #[C.p] 67)).alloc (.cells zEx.toArray 57)) W1→PE (Vx exX) (ptimes C.tk C.en (pprod C.tk C.en n) 1) C s W1 e2 W2→∃cs:List Value,e2= .returned (.agg cs.toArray)∧cs.length=4∧(∀u∈cs,u.oneCell'=true)∧W2.there (w.heap.size+1) 0 cs.length∧∀w9,Stored (w.heap.size+1) 0 cs W2 w9→PE (Vx exX) (pprod C.tk C.en (n+1)) C s w (.returned (.agg cs.toArray)) w9):=fun W1 e2 W2 hk hq=>by
  obtain⟨cs,b1,b2,b3,b4,b5⟩:=res_fin (w:=w.alloc (.cells #[C.p] 67)) (z:=zEx) (f:=pprod C.tk C.en (n+1)) (s:=s) (by simp;omega) rfl zEx_ni hk hq e
  rw[show(w.alloc (.cells #[C.p] 67)).heap.size=w.heap.size+1 by simp]at b4 b5
  exact⟨cs,b1,b2,b3,b4,fun w9 hst=>(b5 w9 hst).lowx (alloc_low _ _)⟩
 obtain⟨hx1,hx2⟩:=str_empty0
 have HPB:=Lib.hid (fun W (hk:KeptG C.g ((w.alloc (.cells #[C.p] 67)).alloc (.cells zEx.toArray 57)) W)=>p_box hk hg)
 generalize PE (Vx exX) (pprod C.tk C.en (n+1)) C s w=Q at*
 clear h hf hst1 e hp h3
 unfold PC.p at*
 unfold zEx at*
 go_enter Tryz.func199,Tryz.ntmps199
 go_wp2_with fail
 refine HM.out.mono ?_
 rintro e w1 hq
 obtain⟨rfl,k0,hk,hP⟩:=HY.out _ _ hq
 have HK:=Lib.hid hk
 have HP:=Lib.hid hP
 have HC:=Lib.hid (HK0.out _ hP)
 clear hq HM HY hk hP HK0
 go_wp2_with fail
 refine HC.out.mono ?_
 rintro e w2 ⟨rfl,hb⟩
 have HK2:=Lib.hid (HK.out.trans (KeptG.of_below hb))
 have k2:=HPB.out w2 HK2.out
 have HT2:=Lib.hid (HT.out w2 (HP.out.up hb))
 clear hb HC HK k0 HT HPB HP
 go_wp2_with fail
 refine HT2.out.mono ?_
 rintro e w3 hq
 obtain⟨cs,rfl,hl,h1,ht,hfin⟩:=HE.out _ _ _ HK2.out hq
 have HF:=Lib.hid hfin
 clear hq HT2 HE HK2 hfin k2
 go_wp2_with (refine gateS 57 2 rfl ?_;refine wpList_store_there rfl 57 _ _ rfl (w.heap.size+1) 0 rfl cs rfl (by rw[hl];kernel_rfl) h1 ht ?_;intro w9 hst)
 exact bodyPost_ret (v:= .agg cs.toArray) (results_one rfl _ _ _ _ _ rfl (Tryz.exLoad hst.at' hl)) rfl (HF.out _ hst)
theorem pof_size {C:PC}{s:PS}{w:World}(k:Int)(h:PSt C s w):(pof C.tk C.en k s).1.size≤65536:=by
 unfold pof
 split
 ·show(ptx C.tk s 0).size≤_
  unfold ptx
  split
  ·next h2=>
   have hmem:C.tk.getD (s.nx+0) tok0∈C.tk:=by rw[List.getD_eq_getElem?_getD,List.getElem?_eq_getElem h2.2];exact List.getElem_mem h2.2
   exact(h.small _ hmem).1
  ·show 0≤_;omega
 ·show 0≤_;omega
theorem prod_c (n:Nat)(C:PC)(s:PS)(w:World)(h:PSt C s w)(hp:pis C.tk [(⟨#[45]⟩:ByteArray)] s=false)(h3:pkd C.tk s=1):
 Calls Tryz.prog 199 #[C.p] w (PE (Vx exX) (pprod C.tk C.en (n+1)) C s w):=by
 have hg:=h.lt
 have hst1:=(h.alloc (.cells #[C.p] 67)).alloc (.cells zEx.toArray 57)
 have e:pprod C.tk C.en (n+1) s=pvarE C.tk C.en s:=by
  rw[er_prod hp,if_neg (by rw[h3];decide),if_pos h3]
 have hsz:=pof_size 1 h
 have HM:=Lib.hid (may1_at C s (⟨#[45]⟩:ByteArray) _ (w.heap.size+1+1) (by simp) hst1 (by decide))
 have HY:Hid (∀e1 W1,PE Vt (pmay C.tk [(⟨#[45]⟩:ByteArray)]) C s ((w.alloc (.cells #[C.p] 67)).alloc (.cells zEx.toArray 57)) e1 W1→e1= .returned (.string ⟨#[]⟩)∧W1.cell? ⟨w.heap.size,0,none⟩=some C.p∧KeptG C.g ((w.alloc (.cells #[C.p] 67)).alloc (.cells zEx.toArray 57)) W1∧PSt C s W1):=fun e1 W1 hq=>by
  obtain⟨a1,a2,a3⟩:=is_may hp hq
  exact⟨a1,p_box a3 hg,a3,a2⟩
 have HK0:=Lib.hid (fun W (hW:PSt C s W)=>kind_any C s W hW)
 rw[h3]at HK0
 have HT:=Lib.hid (fun W (hW:PSt C s W)=>pname_any C s W hW)
 have HE:Hid (∀W1 e2 W2,KeptG C.g ((w.alloc (.cells #[C.p] 67)).alloc (.cells zEx.toArray 57)) W1→PE Vt (pof C.tk C.en 1) C s W1 e2 W2→e2= .returned (.string (pof C.tk C.en 1 s).1)∧W2.there (w.heap.size+1) 0 4∧∀w9,Stored (w.heap.size+1) 0 [.int .i64 1,.int .i64 0,.string (pof C.tk C.en 1 s).1,.slice none 0 0] W2 w9→PE (Vx exX) (pprod C.tk C.en (n+1)) C s w (.returned (.agg #[.int .i64 1,.int .i64 0,.string (pof C.tk C.en 1 s).1,.slice none 0 0])) w9):=fun W1 e2 W2 hk ⟨v,a1,a2,a3,a4⟩=>by
  have hk2:=hk.trans a4
  have hs1:(w.alloc (.cells #[C.p] 67)).heap.size=w.heap.size+1:=by simp
  refine⟨by rw[a1,show v= .string (pof C.tk C.en 1 s).1 from a2], ?_,fun w9 hst=> ?_⟩
  ·have:=hk2.there (h:=(w.alloc (.cells #[C.p] 67)).heap.size) (by simp) (by rw[hs1];omega) (there_new (w.alloc (.cells #[C.p] 67)) zEx 57)
   rw[hs1]at this
   exact this
  ·rw[←hs1]at hst
   exact(box_fin (sh:=exX) (z:=zEx) (f:=pprod C.tk C.en (n+1)) (by rw[hs1];omega) hk2 (by rw[e];exact a3) (by
    rw[e]
    exact exE (k:=1) (n:=0) (nm:=(pof C.tk C.en 1 s).1) ⟨by decide,by decide⟩ ⟨by decide,by decide⟩ (by unfold maxLen;omega) (slot_none _ _ _)) hst zEx_ni).lowx (alloc_low _ _)
 obtain⟨hx1,hx2⟩:=str_empty0
 have HPB:=Lib.hid (fun W (hk:KeptG C.g ((w.alloc (.cells #[C.p] 67)).alloc (.cells zEx.toArray 57)) W)=>p_box hk hg)
 generalize PE (Vx exX) (pprod C.tk C.en (n+1)) C s w=Q at*
 generalize (pof C.tk C.en 1 s).1=x at*
 clear h hst1 e hp h3 hsz
 unfold PC.p at*
 unfold zEx at*
 go_enter Tryz.func199,Tryz.ntmps199
 go_wp2_with fail
 refine HM.out.mono ?_
 rintro e w1 hq
 obtain⟨rfl,k0,hk,hP⟩:=HY.out _ _ hq
 have HK:=Lib.hid hk
 have HP:=Lib.hid hP
 have HC:=Lib.hid (HK0.out _ hP)
 clear hq HM HY hk hP
 go_wp2_with fail
 refine HC.out.mono ?_
 rintro e w2 ⟨rfl,hb⟩
 have HK2:=Lib.hid (HK.out.trans (KeptG.of_below hb))
 have k2:=HPB.out w2 HK2.out
 have HP2:=Lib.hid (HP.out.up hb)
 have HC2:=Lib.hid (HK0.out _ HP2.out)
 clear hb HC HK k0 HP HK0
 go_wp2_with fail
 refine HC2.out.mono ?_
 rintro e w3 ⟨rfl,hb⟩
 have HK3:=Lib.hid (HK2.out.trans (KeptG.of_below hb))
 have k3:=HPB.out w3 HK3.out
 have HT2:=Lib.hid (HT.out w3 (HP2.out.up hb))
 clear hb HC2 HK2 k2 HT HPB HP2
 go_wp2_with fail
 refine HT2.out.mono ?_
 rintro e w4 hq
 obtain⟨rfl,ht,hfin⟩:=HE.out _ _ _ HK3.out hq
 have HF:=Lib.hid hfin
 clear hq HT2 HE HK3 hfin k3
 go_wp2_with (refine gateS 57 2 rfl ?_;refine wpList_store_there rfl 57 _ _ rfl (w.heap.size+1) 0 rfl _ rfl (by kernel_rfl) (one4 rfl) ht ?_;intro w9 hst)
 exact bodyPost_ret (v:= .agg #[.int .i64 1,.int .i64 0,.string x,.slice none 0 0]) (results_one rfl _ _ _ _ _ rfl (Tryz.exLoad hst.at' rfl)) rfl (HF.out _ hst)
theorem wi_fin {T:Type}{sh:Pak.Sh T}{f F2:PS→T×PS}{C:PC}{s:PS}{w Wa W':World}{z:List Value}{t:TypeId}{he B:Nat}{e2:Ending}(hp0:C.g<w.heap.size)(hzl:z.length=sh.k)(hz:∀t u,z[1]? ≠some (.iface t u))(hk:KeptG C.g (w.alloc (.cells z.toArray t)) Wa)(hhe:w.heap.size+1≤he)(hB:w.heap.size+1≤B)(h:PW (BX sh B he) F2 C he s Wa e2 W')(e:f s=F2 s):
 ∃cs:List Value,e2= .returned (.tuple #[])∧cs.length=sh.k∧(∀u∈cs,u.oneCell'=true)∧W'.rangeAt he 0 cs∧KeptG C.g (w.alloc (.cells z.toArray t)) W'∧W'.there w.heap.size 0 cs.length∧∀w9,Stored w.heap.size 0 cs W' w9→PE (Vx sh) f C s w (.returned (.agg cs.toArray)) w9:=by
 obtain⟨rfl,h1,h2,cs,b1,b2,b3,b4⟩:=h
 have hlen:=sh.len b4
 have hkk:KeptG C.g (w.alloc (.cells z.toArray t)) W':=h2.kg hk (by simp;omega)
 refine⟨cs,rfl,hlen,sh.one b4,b1,hkk, ?_,fun w9 hst=> ?_⟩
 ·rw[hlen,←hzl]
  exact hkk.there (by simp) (by omega) (there_new w z t)
 ·exact box_fin hp0 hkk (by rw[e];exact h1) (by rw[e];exact sh_lo (inN_s b4) hB) hst hz
theorem zEx_rel (S:Nat→Prop)(W:World):exX.rel S W zEx default:=exE (k:=0) (n:=0) (nm:=⟨#[]⟩) ⟨by decide,by decide⟩ ⟨by decide,by decide⟩ (by decide) (slot_none _ _ _)
theorem prod_d (n:Nat)(IH:ProdSaid n)(C:PC)(s:PS)(w:World)(h:PSt C s w)(hf:Fu (n+1) s)(hp:pis C.tk [(⟨#[45]⟩:ByteArray)] s=false)(h3:¬pkd C.tk s=3)(h1:¬pkd C.tk s=1):
 Calls Tryz.prog 199 #[C.p] w (PE (Vx exX) (pprod C.tk C.en (n+1)) C s w):=by
 have hg:=h.lt
 have hst1:=(h.alloc (.cells #[C.p] 67)).alloc (.cells zEx.toArray 57)
 have e:pprod C.tk C.en (n+1) s=pwithin C.tk C.en (⟨#[40]⟩:ByteArray) (⟨#[41]⟩:ByteArray) default (pexpr C.tk (pprod C.tk C.en n)) s:=by
  rw[er_prod hp,if_neg h3,if_neg h1]
 have HM:=Lib.hid (may1_at C s (⟨#[45]⟩:ByteArray) _ (w.heap.size+1+1) (by simp) hst1 (by decide))
 have HY:Hid (∀e1 W1,PE Vt (pmay C.tk [(⟨#[45]⟩:ByteArray)]) C s ((w.alloc (.cells #[C.p] 67)).alloc (.cells zEx.toArray 57)) e1 W1→e1= .returned (.string ⟨#[]⟩)∧W1.cell? ⟨w.heap.size,0,none⟩=some C.p∧KeptG C.g ((w.alloc (.cells #[C.p] 67)).alloc (.cells zEx.toArray 57)) W1∧PSt C s W1):=fun e1 W1 hq=>by
  obtain⟨a1,a2,a3⟩:=is_may hp hq
  exact⟨a1,p_box a3 hg,a3,a2⟩
 have HK0:=Lib.hid (fun W (hW:PSt C s W)=>kind_any C s W hW)
 have hs1:(w.alloc (.cells #[C.p] 67)).heap.size=w.heap.size+1:=by simp
 have HPB:=Lib.hid (fun W (hk:KeptG C.g ((w.alloc (.cells #[C.p] 67)).alloc (.cells zEx.toArray 57)) W)=>p_box hk hg)
 have HW:Hid (∀W,PSt C s W→KeptG C.g ((w.alloc (.cells #[C.p] 67)).alloc (.cells zEx.toArray 57)) W→Calls Tryz.prog 122 #[C.p,.string (⟨#[40]⟩:ByteArray),.string (⟨#[41]⟩:ByteArray),.func (.func 215) #[] #[.pointer (some ⟨w.heap.size,0,none⟩),.pointer (some ⟨W.heap.size,0,none⟩)]] (W.alloc (.cells zEx.toArray 57)) (PW (BX exX (w.heap.size+2) W.heap.size) (pwithin C.tk C.en (⟨#[40]⟩:ByteArray) (⟨#[41]⟩:ByteArray) default (pexpr C.tk (pprod C.tk C.en n))) C W.heap.size s (W.alloc (.cells zEx.toArray 57)))):=fun W hW hk=>by
  have hsz:w.heap.size+2≤W.heap.size:=by have:=hk.size;simp at this;omega
  have hka:KeptG C.g W (W.alloc (.cells zEx.toArray 57)):=KeptG.alloc _ _ _
  refine within_any C s (⟨#[40]⟩:ByteArray) (⟨#[41]⟩:ByteArray) default (pexpr C.tk (pprod C.tk C.en n)) (BX exX (w.heap.size+2) W.heap.size) 215 W.heap.size _ _ _ (fun _ _=>rfl) (hW.alloc _) (by decide) (by decide) (mv_expr (mv_prod n)) (BX.new (fun S W=>zEx_rel S W) rfl) (fun W1 W2 x _ hx k=>hx.kept k (by omega) (by omega)) (fun W1 hP1 he0 h00 k1=> ?_)
  obtain⟨hfu,hin⟩:=hf.deep (en:=C.en) h.inv h00
  exact prodc_any C _ W1 w.heap.size W.heap.size (w.heap.size+2) default hP1 (fun W3 hW3=>expr_loop n IH C _ W3 hW3 (hfu.mv hin (mv_m1 _ _))) (p_box ((hk.trans hka).trans k1) hg) ((BX.new (fun S W=>zEx_rel S W) rfl).kept k1 (by omega) (by omega)) (by omega) (by omega) (by have:=k1.size;simp at this;omega)
 have HE:Hid (∀W e2 W2,KeptG C.g ((w.alloc (.cells #[C.p] 67)).alloc (.cells zEx.toArray 57)) W→PW (BX exX (w.heap.size+2) W.heap.size) (pwithin C.tk C.en (⟨#[40]⟩:ByteArray) (⟨#[41]⟩:ByteArray) default (pexpr C.tk (pprod C.tk C.en n))) C W.heap.size s (W.alloc (.cells zEx.toArray 57)) e2 W2→∃cs:List Value,e2= .returned (.tuple #[])∧cs.length=4∧(∀u∈cs,u.oneCell'=true)∧W2.rangeAt W.heap.size 0 cs∧W2.there (w.heap.size+1) 0 cs.length∧∀w9,Stored (w.heap.size+1) 0 cs W2 w9→PE (Vx exX) (pprod C.tk C.en (n+1)) C s w (.returned (.agg cs.toArray)) w9):=fun W e2 W2 hk hq=>by
  have hsz:w.heap.size+2≤W.heap.size:=by have:=hk.size;simp at this;omega
  obtain⟨cs,b1,b2,b3,b4,b5,b6,b7⟩:=wi_fin (w:=w.alloc (.cells #[C.p] 67)) (z:=zEx) (f:=pprod C.tk C.en (n+1)) (by rw[hs1];omega) rfl zEx_ni (hk.trans (KeptG.alloc _ _ _)) (by rw[hs1];omega) (by rw[hs1];omega) hq e
  rw[hs1]at b6 b7
  exact⟨cs,b1,b2,b3,b4,b6,fun w9 hst=>(b7 w9 hst).lowx (alloc_low _ _)⟩
 have hx3:(pkd C.tk s == 3)=false:=by simpa using h3
 have hx4:(pkd C.tk s == 1)=false:=by simpa using h1
 obtain⟨hx1,hx2⟩:=str_empty0
 generalize PE (Vx exX) (pprod C.tk C.en (n+1)) C s w=Q at*
 generalize pwithin C.tk C.en (⟨#[40]⟩:ByteArray) (⟨#[41]⟩:ByteArray) default (pexpr C.tk (pprod C.tk C.en n))=FW at*
 generalize pkd C.tk s=kd at*
 clear h hst1 e hp hf
 unfold PC.p at*
 unfold zEx at*
 go_enter Tryz.func199,Tryz.ntmps199
 go_wp2_with fail
 refine HM.out.mono ?_
 rintro e w1 hq
 obtain⟨rfl,k0,hk,hP⟩:=HY.out _ _ hq
 have HK:=Lib.hid hk
 have HP:=Lib.hid hP
 have HC:=Lib.hid (HK0.out _ hP)
 clear hq HM HY hk hP
 go_wp2_with fail
 refine HC.out.mono ?_
 rintro e w2 ⟨rfl,hb⟩
 have HK2:=Lib.hid (HK.out.trans (KeptG.of_below hb))
 have k2:=HPB.out w2 HK2.out
 have HP2:=Lib.hid (HP.out.up hb)
 have HC2:=Lib.hid (HK0.out _ HP2.out)
 clear hb HC HK k0 HP HK0
 go_wp2_with fail
 refine HC2.out.mono ?_
 rintro e w3 ⟨rfl,hb⟩
 have HK3:=Lib.hid (HK2.out.trans (KeptG.of_below hb))
 have k3:=HPB.out w3 HK3.out
 have k3a:=fun o=>HPB.out (w3.alloc o) (HK3.out.trans (KeptG.alloc _ _ _))
 have HT2:=Lib.hid (HW.out w3 (HP2.out.up hb) HK3.out)
 clear hb HC2 HK2 k2 HW HPB HP2
 go_wp2_with fail
 refine HT2.out.mono ?_
 rintro e w4 hq
 obtain⟨cs,rfl,hl,h1,hr,ht,hfin⟩:=HE.out _ _ _ HK3.out hq
 have HF:=Lib.hid hfin
 clear hq HT2 HE HK3 hfin k3 k3a
 go_wp2_with (first | (refine gateL 57 3 rfl ?_;refine wpList_load_mid rfl 57 _ rfl w3.heap.size 0 rfl cs _ hr Tryz.underlying57 rfl (by rw[hl];kernel_rfl) ?_) | (refine gateS 57 2 rfl ?_;refine wpList_store_there rfl 57 _ _ rfl (w.heap.size+1) 0 rfl cs rfl (by rw[hl];kernel_rfl) h1 ht ?_;intro w9 hst))
 exact bodyPost_ret (v:= .agg cs.toArray) (results_one rfl _ _ _ _ _ rfl (Tryz.exLoad hst.at' hl)) rfl (HF.out _ hst)
theorem prod_step (n:Nat)(IH:ProdSaid n):ProdSaid (n+1):=fun C s w h hf=>by
 by_cases hp:pis C.tk [(⟨#[45]⟩:ByteArray)] s=true
 ·exact prod_a n IH C s w h hf hp
 ·have hp:=Bool.eq_false_iff.2 hp
  by_cases h3:pkd C.tk s=3
  ·exact prod_b n IH C s w h hf hp h3
  ·by_cases h1:pkd C.tk s=1
   ·exact prod_c n C s w h hp h1
   ·exact prod_d n IH C s w h hf hp h3 h1
theorem prod_any:∀n,ProdSaid n
 | 0=>fun C s w h hf=>by
   obtain⟨k,hk⟩:=hf.pos h.inv
   cases hk
 | n+1=>prod_step n (prod_any n)
theorem ex_any (C:PC)(s:PS)(w:World)(h:PSt C s w):Calls Tryz.prog 173 #[C.p] w (PE (Vx exX) (pex C.tk C.en) C s w):=
 expr_loop 53 (prod_any 53) C s w h (Fu.top h.inv)
end
section
open Go.RowKit
def spl (old:List Value)(o:Nat)(new:List Value):List Value:=old.take o ++ (new ++ old.drop (o+new.length))
theorem spl_len {old new:List Value}{o:Nat}(h:o+new.length≤old.length):(spl old o new).length=old.length:=by
 unfold spl;simp;omega
theorem spl_get {old new:List Value}{o j:Nat}(h:o+new.length≤old.length):(spl old o new)[j]? =if j<o∨o+new.length≤j then old[j]? else new[j - o]? :=by
 unfold spl
 by_cases h1:j<o
 ·rw[if_pos (.inl h1),List.getElem?_append_left (by simp;omega),List.getElem?_take,if_pos h1]
 ·by_cases h2:o+new.length≤j
  ·rw[if_pos (.inr h2),List.getElem?_append_right (by simp;omega),List.getElem?_append_right (by simp;omega),List.getElem?_drop]
   congr 1
   simp
   omega
  ·rw[if_neg (by omega),List.getElem?_append_right (by simp;omega),List.getElem?_append_left (by simp;omega)]
   congr 1
   simp
   omega
section
variable {T:Type} {sh:Pak.Sh T}
theorem stored_range {he o:Nat}{cs new:List Value}{W W9:World}(h:W.rangeAt he 0 cs)(ho:o+new.length≤cs.length)(hst:Stored he o new W W9):W9.rangeAt he 0 (spl cs o new):=fun j v hv=>by
 rw[spl_get ho]at hv
 rw[Nat.zero_add]
 split at hv
 ·next h1=>
  rw[hst.other j h1]
  have:=h j v hv
  rwa [Nat.zero_add]at this
 ·next h1=>
  have:=hst.at' (j - o) v hv
  rwa [show o+(j - o)=j by omega]at this
theorem LP.upd {C:PC}{w wr W9:World}{M o:Nat}{s:PS}{x x':T}{cs new:List Value}(h:LP sh C w M s x cs wr)(hst:Stored M o new wr W9)(ho:o+new.length≤sh.k)(hni:∃v,cs[1]? =some v∧∀t u,v≠ .iface t u)
 (hr:sh.rel (InN (w.heap.size+1) M W9) W9 cs x→sh.rel (InN (w.heap.size+1) M W9) W9 (spl cs o new) x'):LP sh C w M s x' (spl cs o new) W9:=by
 have h1:=h.gl
 have h2:=h.ml
 have h3:=h.kept.size
 have hl:=h.len
 have hwM:w.heap.size≠M:=by omega
 have hfar:=hst.far
 have hx9:sh.rel (InN (w.heap.size+1) M W9) W9 cs x:=inN_far h.tree hfar
 refine⟨h.ps.far hfar (by omega) (fun t u e=> ?_) h.ps.g5,h1,⟨h2.1,by rw[hfar.size];exact h2.2⟩,h.kept.far hfar (by omega),stored_range h.box (by omega) hst, ?_, ?_,fun t u e=> ?_,hr hx9⟩
 ·obtain⟨v,hc,hv⟩:=hni
  have:=h.box 1 v hc
  rw[Nat.zero_add]at this
  rw[this]at e
  injection e with e
  exact hv _ _ e
 ·intro j hj
  rw[hst.fr]
  refine⟨?_,(h.th j hj).2⟩
  exact(stored_range h.box (by omega) hst).isSome j (by rw[spl_len (by omega)];omega)
 ·intro j hj
  rw[World.cell?_of_block (hfar.block _ hwM),World.frozen?_of_block (hfar.block _ hwM)]
  exact h.res j hj
 ·rw[World.cell?_of_block (hfar.block _ hwM)]at e
  exact h.nz _ _ e
theorem LP.fresh {C:PC}{s:PS}{w:World}{z:List Value}{t:TypeId}{x:T}(hp:PSt C s w)(hz:z.length=sh.k)(hzn:∀t u,z[1]? ≠some (.iface t u))(hx:∀S W,sh.rel S W z x):
 LP sh C w (w.heap.size+1) s x z ((w.alloc (.cells z.toArray t)).alloc (.cells z.toArray t)):=by
 have hg:=hp.lt
 have ha:(w.alloc (.cells z.toArray t)).heap.size=w.heap.size+1:=by simp
 have hb:((w.alloc (.cells z.toArray t)).alloc (.cells z.toArray t)).heap.size=w.heap.size+2:=by simp
 have k2:KeptG C.g (w.alloc (.cells z.toArray t)) ((w.alloc (.cells z.toArray t)).alloc (.cells z.toArray t)):=KeptG.alloc _ _ _
 have hr:=range_new (w.alloc (.cells z.toArray t)) z t
 have ht:=there_new (w.alloc (.cells z.toArray t)) z t
 rw[ha]at hr ht
 rw[hz]at ht
 have ht0:=k2.there (by rw[ha];omega) (by omega) (there_new w z t)
 rw[hz]at ht0
 refine⟨(hp.alloc _).alloc _,hg,⟨Nat.le_refl _,by rw[hb];omega⟩,(KeptG.alloc _ _ _).trans k2,hr,ht,ht0,fun t' u e=> ?_,hx _ _⟩
 rw[k2.cell (by rw[ha];omega) (by omega)]at e
 rw[(cell_of_row (w.alloc (.cells z.toArray t)) w.heap.size 1 _ _ _ (heap_alloc_new w (.cells z.toArray t))),List.getElem?_toArray]at e
 exact hzn _ _ e
theorem LP.cell {C:PC}{w wr:World}{M:Nat}{s:PS}{x:T}{cs:List Value}(h:LP sh C w M s x cs wr){j:Nat}(hj:j<sh.k):(∃v,cs[j]? =some v∧wr.cell? ⟨M,j,none⟩=some v)∧wr.frozen? ⟨M,j,none⟩=false:=by
 have hl:=h.len
 refine⟨⟨cs[j]'(by omega),List.getElem?_eq_getElem (by omega), ?_⟩, ?_⟩
 ·have:=h.box j _ (List.getElem?_eq_getElem (show j<cs.length by omega))
  rwa [Nat.zero_add]at this
 ·have:=(h.th j hj).2
  rwa [Nat.zero_add]at this
end
theorem cn_kind {S:Nat→Prop}{W:World}{cs:List Value}{x:CT}(k:Int)(hk:i64 k)(h:cnX.rel S W cs x):cnX.rel S W (spl cs 0 [.int .i64 k]) (.mk k x.es x.ks):=by
 obtain⟨n,h⟩:=h
 cases n with
 | zero=>exact h.elim
 | succ n=>
   obtain⟨u,v,rfl,h2,h3,h4⟩:=h
   exact⟨n+1,u,v,rfl,hk,h3,h4⟩
theorem cn_es {S:Nat→Prop}{W:World}{cs:List Value}{x:CT}{v:Value}(es:List ET)(hv:Pak.Slot exX S W v es)(h:cnX.rel S W cs x):cnX.rel S W (spl cs 1 [v]) (.mk x.kind es x.ks):=by
 obtain⟨n,h⟩:=h
 cases n with
 | zero=>exact h.elim
 | succ n=>
   obtain⟨u,v2,rfl,h2,h3,h4⟩:=h
   exact cnE h2 hv (slotImp (by rw[condSh_k];rfl) (fun cs x h=>⟨n,h⟩) h4)
theorem zCn_rel (S:Nat→Prop)(W:World):cnX.rel S W zCn default:=cnE (k:=0) ⟨by decide,by decide⟩ (slot_none _ _ _) (slot_none _ _ _)
theorem BX.far {T:Type}{sh:Pak.Sh T}{B he h:Nat}{W W':World}{x:T}(k:BX sh B he W x)(f:Far h W W')(hB:h<B)(hn:he≠h):BX sh B he W' x:=by
 obtain⟨cs,h1,h2,h3,h4⟩:=k
 exact⟨cs,fun j v hv=>(World.cell?_of_block (f.block _ hn)).trans (h1 j v hv),fun j hj=>by rw[World.cell?_of_block (f.block _ hn),World.frozen?_of_block (f.block _ hn)];exact h2 j hj,by rw[f.size];exact h3,
  sh.keep (fun b ⟨a1,a2,a3⟩=>⟨a1,by rw[f.size];exact a2,a3⟩) (fun b o ⟨a1,a2,a3⟩=>World.cell?_of_block (f.block b (by omega))) h4⟩
end
section
open Go.RowKit
theorem sameEs_step (n:Nat)(HS:SameT 72 (exprSh n)):SameL 73 (exprSh n):=fun xs a b c1 c2 w h1 h2 W hW=>by
 have H1:=Lib.hid (h1.below hW hW.size)
 have H2:=Lib.hid (h2.below hW hW.size)
 have hm:=h1.1
 have HSS:=Lib.hid HS
 clear h1 h2 hW HS
 obtain⟨m,hmx⟩:∃m,m=xs.length:=⟨_,rfl⟩
 have HM:=Lib.hid hmx
 rw[←hmx]at hm⊢
 clear hmx
 go_enter Tryz.func73,Tryz.ntmps73
 go_wp2_with fail
 go_loopw [5] (fun i wr=>∃j:Nat,j≤m∧i= .int .i64 j∧Hid (Below W.heap.size W wr)) (fun i _=>m - (intOf i).toNat)
 case atStart=>exact⟨0,Nat.zero_le _,rfl,Below.refl _ _⟩
 case round=>
  obtain⟨j,hj,rfl,hb⟩:=hrel
  obtain⟨wo,rfl⟩:∃wo:World,wo=wr:=⟨_,rfl⟩
  by_cases hlt:j<m
  ·have hlx:j<xs.length:=by rw[←HM.out];exact hlt
   obtain⟨b1,o1,cs,rfl,hb1,hc1,hr1⟩:=(H1.out.below hb.out hb.out.size).2 j hlx
   obtain⟨b2,o2,ds,rfl,hb2,hc2,hr2⟩:=(H2.out.below hb.out hb.out.size).2 j hlx
   rw[exprSh_k n]at hc1 hc2
   have l1:=(exprSh n).len hr1
   have l2:=(exprSh n).len hr2
   rw[exprSh_k n]at l1 l2
   have hji:(0:Int)≤(j:Int)∧(j:Int)<(m:Int):=by omega
   have HB:=Lib.hid hb.out
   have R:=Lib.hid (HSS.out _ wo cs ds hr1 hr2)
   have P1:=Lib.hid (lo_cells hb1 hc1)
   have P2:=Lib.hid (lo_cells hb2 hc2)
   have rn:=fun d os=>R.out.reg d os
   clear hc1 hc2 hr1 hr2 hb
   go_wp2_with fail
   refine wp_region_quiet_below (by kernel_rfl) (by kernel_rfl) ?_
   repeat (first | (go_big_quiet_step (first | with_reducible exact rn _ _)) | (refine wpQuiet_load_c 57 _ rfl ⟨b1,o1+j*4,none⟩ rfl cs _ P1.out rfl Tryz.underlying57 rfl (by rw[l1];kernel_rfl) _ (by simp only[Act.put,List.setIfInBounds_toArray,List.set_cons_succ,List.set_cons_zero];rfl) ?_) | (refine wpQuiet_load_c 57 _ rfl ⟨b2,o2+j*4,none⟩ rfl ds _ P2.out rfl Tryz.underlying57 rfl (by rw[l2];kernel_rfl) _ (by simp only[Act.put,List.setIfInBounds_toArray,List.set_cons_succ,List.set_cons_zero];rfl) ?_))
   refine wpQuiet_nil ?_
   intro w5 hw'
   obtain⟨⟨dq,osq⟩,hw''⟩:=hw'
   have B5:Hid (Below W.heap.size W w5):=Lib.hid (by rw[hw''];exact HB.out.trans ((below_regrown _ dq osq).mono HB.out.size))
   clear hw'' rn P1 P2 R HB
   go_wp2_with fail
   go_roundw
   case rel=>exact⟨j+1,by omega,by go_num,B5⟩
   case measure=>simp[intOf];omega
  ·obtain rfl:j=m:=by omega
   go_wp2_with fail
   go_ret
   exact⟨rfl,hb.out⟩
theorem sameE_step (n:Nat)(HS:SameL 73 (exprSh n)):SameT 72 (exprSh (n+1)):=fun x w cs ds h1 h2 W hW=>by
 obtain⟨v1,rfl,hk1,a1,c1,rfl,hs1⟩:=lo_up h1 hW
 obtain⟨v2,rfl,hk2,a2,c2,rfl,hs2⟩:=lo_up h2 hW
 have hA:Below W.heap.size W ((W.alloc (.cells #[.int .i64 x.kind,.int .i64 x.n,.string x.name,.slice a1 x.ks.length c1] 57)).alloc (.cells #[.int .i64 x.kind,.int .i64 x.n,.string x.name,.slice a2 x.ks.length c2] 57)):=((Below.refl _ _).alloc (Nat.le_refl _) _).alloc (by simp) _
 have HC:=Lib.hid ((HS x.ks a1 a2 c1 c2 W hs1 hs2).at hA)
 have HB:=Lib.hid hA
 clear h1 h2 hW hs1 hs2 hA HS
 generalize x.ks.length=m at*
 generalize x.kind=k at*
 generalize x.n=nn at*
 generalize x.name=nm at*
 go_enter Tryz.func72,Tryz.ntmps72
 go_wp2_with fail
 refine HC.out.mono ?_
 rintro e w3 ⟨rfl,hb3⟩
 have HB3:=Lib.hid (HB.out.trans (hb3.mono HB.out.size))
 clear hb3 HB HC
 go_wp2_with fail
 go_ret
 exact⟨rfl,HB3.out⟩
theorem sameE_all:∀n,SameT 72 (exprSh n)
 | 0=>fun x w cs ds h _=>h.elim
 | n+1=>sameE_step n (sameEs_step n (sameE_all n))
theorem sameEs_all (n:Nat):SameL 73 (exprSh n):=sameEs_step n (sameE_all n)
end
section
open Go.RowKit
theorem boxes_at {w W:World}{cs ds:List Value}{t:TypeId}(hb:Below ((w.alloc (.cells cs.toArray t)).alloc (.cells ds.toArray t)).heap.size ((w.alloc (.cells cs.toArray t)).alloc (.cells ds.toArray t)) W):(∀j v,cs[j]? =some v→W.cell? ⟨w.heap.size,j,none⟩=some v)∧(∀j v,ds[j]? =some v→W.cell? ⟨w.heap.size+1,j,none⟩=some v)∧Below w.heap.size w W:=by
 have n1:=heap_alloc_new w (.cells cs.toArray t)
 have n2:=heap_alloc_new (w.alloc (.cells cs.toArray t)) (.cells ds.toArray t)
 have e1:(w.alloc (.cells cs.toArray t)).heap.size=w.heap.size+1:=by simp
 have e2:((w.alloc (.cells cs.toArray t)).alloc (.cells ds.toArray t)).heap.size=w.heap.size+2:=by simp
 have hA:Below (w.alloc (.cells cs.toArray t)).heap.size (w.alloc (.cells cs.toArray t)) ((w.alloc (.cells cs.toArray t)).alloc (.cells ds.toArray t)):=(Below.refl _ _).alloc (Nat.le_refl _) _
 rw[e1]at n2
 refine⟨fun j v hv=> ?_,fun j v hv=> ?_,(((Below.refl w.heap.size w).alloc (Nat.le_refl _) _).trans (hA.mono (by rw[e1];omega))).trans (hb.mono (by rw[e2];omega))⟩
 ·refine(hb.cell (p:=⟨w.heap.size,j,none⟩) (by rw[e2];show w.heap.size<_;omega)).trans ((hA.cell (p:=⟨w.heap.size,j,none⟩) (by rw[e1];show w.heap.size<_;omega)).trans ((cell_of_row _ _ _ _ _ _ n1).trans ?_))
  rw[List.getElem?_toArray];exact hv
 ·refine(hb.cell (p:=⟨w.heap.size+1,j,none⟩) (by rw[e2];show w.heap.size+1<_;omega)).trans ((cell_of_row _ _ _ _ _ _ n2).trans ?_)
  rw[List.getElem?_toArray];exact hv
theorem sameC_step (n:Nat)(HS:SameT 71 (condSh n)):SameT 71 (condSh (n+1)):=fun x w cs0 ds0 h1 h2 W hW=>by
 obtain⟨u1,v1,rfl,hk1,⟨ae1,ce1,rfl,he1⟩,⟨ak1,ck1,rfl,hs1⟩⟩:=lo_up h1 hW
 obtain⟨u2,v2,rfl,hk2,⟨ae2,ce2,rfl,he2⟩,⟨ak2,ck2,rfl,hs2⟩⟩:=lo_up h2 hW
 have hA:Below W.heap.size W ((W.alloc (.cells #[.int .i64 x.kind,.slice ae1 x.es.length ce1,.slice ak1 x.ks.length ck1] 55)).alloc (.cells #[.int .i64 x.kind,.slice ae2 x.es.length ce2,.slice ak2 x.ks.length ck2] 55)):=((Below.refl _ _).alloc (Nat.le_refl _) _).alloc (by simp) _
 have HC:=Lib.hid ((sameEs_all n x.es ae1 ae2 ce1 ce2 W he1 he2).at hA)
 have HBX:=Lib.hid (fun V=>boxes_at (w:=W) (W:=V) (cs:=[.int .i64 x.kind,.slice ae1 x.es.length ce1,.slice ak1 x.ks.length ck1]) (ds:=[.int .i64 x.kind,.slice ae2 x.es.length ce2,.slice ak2 x.ks.length ck2]) (t:=55))
 have H1:=Lib.hid hs1
 have H2:=Lib.hid hs2
 have hm:=hs1.1
 have HSS:=Lib.hid HS
 obtain⟨m,hmx⟩:∃m,m=x.ks.length:=⟨_,rfl⟩
 have HM:=Lib.hid hmx
 rw[←hmx]at hm
 simp only[←hmx]at HC HBX⊢
 clear h1 h2 hW hs1 hs2 he1 he2 hA HS hmx
 generalize x.es.length=me at*
 generalize x.kind=k at*
 generalize x.ks=xs at*
 go_enter Tryz.func71,Tryz.ntmps71
 go_wp2_with fail
 refine HC.out.mono ?_
 rintro e w3 ⟨rfl,hb3⟩
 have HB3:=Lib.hid hb3
 obtain⟨W2,hW2⟩:∃V,V=((W.alloc (.cells #[.int .i64 k,.slice ae1 me ce1,.slice ak1 m ck1] 55)).alloc (.cells #[.int .i64 k,.slice ae2 me ce2,.slice ak2 m ck2] 55)):=⟨_,rfl⟩
 have HBY:Hid (∀V,Below W2.heap.size W2 V→V.cell? ⟨W.heap.size,2,none⟩=some (.slice ak1 m ck1)∧V.cell? ⟨W.heap.size+1,2,none⟩=some (.slice ak2 m ck2)∧Below W.heap.size W V):=fun V hV=>by
  rw[hW2]at hV
  obtain⟨q1,q2,q3⟩:=HBX.out V hV
  exact⟨q1 2 _ rfl,q2 2 _ rfl,q3⟩
 rw[←hW2]at HB3
 clear hb3 HC HBX hW2
 go_wp2_with fail
 go_loopw [5] (fun i wr=>∃j:Nat,j≤m∧i= .int .i64 j∧Hid (Below W2.heap.size W2 wr)) (fun i _=>m - (intOf i).toNat)
 case atStart=>exact⟨0,Nat.zero_le _,rfl,HB3⟩
 case round=>
  obtain⟨j,hj,rfl,hb⟩:=hrel
  obtain⟨wo,rfl⟩:∃wo:World,wo=wr:=⟨_,rfl⟩
  obtain⟨g1,g2,hbW⟩:=HBY.out wo hb.out
  by_cases hlt:j<m
  ·have hlx:j<xs.length:=by rw[←HM.out];exact hlt
   obtain⟨b1,o1,cs,rfl,hb1,hc1,hr1⟩:=(H1.out.below hbW hbW.size).2 j hlx
   obtain⟨b2,o2,ds,rfl,hb2,hc2,hr2⟩:=(H2.out.below hbW hbW.size).2 j hlx
   rw[condSh_k n]at hc1 hc2
   have l1:=(condSh n).len hr1
   have l2:=(condSh n).len hr2
   rw[condSh_k n]at l1 l2
   have hji:(0:Int)≤(j:Int)∧(j:Int)<(m:Int):=by omega
   have HB:=Lib.hid hb.out
   have R:=Lib.hid (HSS.out _ wo cs ds hr1 hr2)
   have P1:=Lib.hid (lo_cells hb1 hc1)
   have P2:=Lib.hid (lo_cells hb2 hc2)
   have rn:=fun d os=>R.out.reg d os
   have k1:=fun d os=>cell_regrown g1 d os
   have k2:=fun d os=>cell_regrown g2 d os
   clear hc1 hc2 hr1 hr2 hb hbW
   go_wp2_with fail
   refine wp_region_quiet_below (by kernel_rfl) (by kernel_rfl) ?_
   repeat (first | (go_big_quiet_step (first | with_reducible exact rn _ _ | with_reducible exact k1 _ _ | with_reducible exact k2 _ _)) | (refine wpQuiet_load_c 55 _ rfl ⟨b1,o1+j*3,none⟩ rfl cs _ P1.out rfl Tryz.underlying55 rfl (by rw[l1];kernel_rfl) _ (by simp only[Act.put,List.setIfInBounds_toArray,List.set_cons_succ,List.set_cons_zero];rfl) ?_) | (refine wpQuiet_load_c 55 _ rfl ⟨b2,o2+j*3,none⟩ rfl ds _ P2.out rfl Tryz.underlying55 rfl (by rw[l2];kernel_rfl) _ (by simp only[Act.put,List.setIfInBounds_toArray,List.set_cons_succ,List.set_cons_zero];rfl) ?_))
   refine wpQuiet_nil ?_
   intro w5 hw'
   obtain⟨⟨dq,osq⟩,hw''⟩:=hw'
   have B5:Hid (Below W2.heap.size W2 w5):=Lib.hid (by rw[hw''];exact HB.out.trans ((below_regrown _ dq osq).mono HB.out.size))
   clear hw'' rn P1 P2 R HB k1 k2 g1 g2
   go_wp2_with fail
   go_roundw
   case rel=>exact⟨j+1,by omega,by go_num,B5⟩
   case measure=>simp[intOf];omega
  ·obtain rfl:j=m:=by omega
   go_wp2_with fail
   go_ret
   exact⟨rfl,hbW⟩
theorem sameC_all:∀n,SameT 71 (condSh n)
 | 0=>fun x w cs ds h _=>h.elim
 | n+1=>sameC_step n (sameC_all n)
end
section
open Go.RowKit
theorem list3 {l:List Value}(h:l.length=3):∃a b c,l=[a,b,c]:=by
 match l,h with
 | [a,b,c],_=>exact⟨a,b,c,rfl⟩
theorem list4 {l:List Value}(h:l.length=4):∃a b c d,l=[a,b,c,d]:=by
 match l,h with
 | [a,b,c,d],_=>exact⟨a,b,c,d,rfl⟩
theorem sameA_step (n:Nat)(HS:SameT 31 (assnSh n)):SameT 31 (assnSh (n+1)):=fun x w cs0 ds0 h1 h2 W hW=>by
 obtain⟨cc1,ce1,cv1,v1,rfl,hk1,hc1,he1,hv1,⟨ak1,ck1,rfl,hs1⟩⟩:=lo_up h1 hW
 have lc1:=(condSh n).len hc1
 have le1:=(exprSh n).len he1
 have lv1:=(exprSh n).len hv1
 rw[condSh_k]at lc1
 rw[exprSh_k]at le1 lv1
 obtain⟨p10,p11,p12,rfl⟩:=list3 lc1
 obtain⟨q10,q11,q12,q13,rfl⟩:=list4 le1
 obtain⟨r10,r11,r12,r13,rfl⟩:=list4 lv1
 obtain⟨cc2,ce2,cv2,v2,rfl,hk2,hc2,he2,hv2,⟨ak2,ck2,rfl,hs2⟩⟩:=lo_up h2 hW
 have lc2:=(condSh n).len hc2
 have le2:=(exprSh n).len he2
 have lv2:=(exprSh n).len hv2
 rw[condSh_k]at lc2
 rw[exprSh_k]at le2 lv2
 obtain⟨p20,p21,p22,rfl⟩:=list3 lc2
 obtain⟨q20,q21,q22,q23,rfl⟩:=list4 le2
 obtain⟨r20,r21,r22,r23,rfl⟩:=list4 lv2
 have hA:Below W.heap.size W ((W.alloc (.cells #[.int .i64 x.kind,p10,p11,p12,q10,q11,q12,q13,r10,r11,r12,r13,.string x.field,.int .i64 x.n,.slice ak1 x.ks.length ck1] 60)).alloc (.cells #[.int .i64 x.kind,p20,p21,p22,q20,q21,q22,q23,r20,r21,r22,r23,.string x.field,.int .i64 x.n,.slice ak2 x.ks.length ck2] 60)):=((Below.refl _ _).alloc (Nat.le_refl _) _).alloc (by simp) _
 have HVC:=Lib.hid ((sameC_all n x.c W _ _ hc1 hc2))
 have HVE:=Lib.hid ((sameE_all n x.e W _ _ he1 he2))
 have HVV:=Lib.hid ((sameE_all n x.v W _ _ hv1 hv2))
 have HB0:=Lib.hid hA
 have HBX:=Lib.hid (fun V=>boxes_at (w:=W) (W:=V) (cs:=[.int .i64 x.kind,p10,p11,p12,q10,q11,q12,q13,r10,r11,r12,r13,.string x.field,.int .i64 x.n,.slice ak1 x.ks.length ck1]) (ds:=[.int .i64 x.kind,p20,p21,p22,q20,q21,q22,q23,r20,r21,r22,r23,.string x.field,.int .i64 x.n,.slice ak2 x.ks.length ck2]) (t:=60))
 have H1:=Lib.hid hs1
 have H2:=Lib.hid hs2
 have hm:=hs1.1
 have HSS:=Lib.hid HS
 obtain⟨m,hmx⟩:∃m,m=x.ks.length:=⟨_,rfl⟩
 have HM:=Lib.hid hmx
 rw[←hmx]at hm
 have HX:Hid (∀V,Below ((W.alloc (.cells #[.int .i64 x.kind,p10,p11,p12,q10,q11,q12,q13,r10,r11,r12,r13,.string x.field,.int .i64 x.n,.slice ak1 m ck1] 60)).alloc (.cells #[.int .i64 x.kind,p20,p21,p22,q20,q21,q22,q23,r20,r21,r22,r23,.string x.field,.int .i64 x.n,.slice ak2 m ck2] 60)).heap.size ((W.alloc (.cells #[.int .i64 x.kind,p10,p11,p12,q10,q11,q12,q13,r10,r11,r12,r13,.string x.field,.int .i64 x.n,.slice ak1 m ck1] 60)).alloc (.cells #[.int .i64 x.kind,p20,p21,p22,q20,q21,q22,q23,r20,r21,r22,r23,.string x.field,.int .i64 x.n,.slice ak2 m ck2] 60)) V→(∀j v,([.int .i64 x.kind,p10,p11,p12,q10,q11,q12,q13,r10,r11,r12,r13,.string x.field,.int .i64 x.n,.slice ak1 m ck1]:List Value)[j]? =some v→V.cell? ⟨W.heap.size,j,none⟩=some v)∧(∀j v,([.int .i64 x.kind,p20,p21,p22,q20,q21,q22,q23,r20,r21,r22,r23,.string x.field,.int .i64 x.n,.slice ak2 m ck2]:List Value)[j]? =some v→V.cell? ⟨W.heap.size+1,j,none⟩=some v)∧Below W.heap.size W V):=fun V hV=>by
  simp only[hmx]at hV⊢
  exact HBX.out V hV
 have HB1:Hid (Below W.heap.size W ((W.alloc (.cells #[.int .i64 x.kind,p10,p11,p12,q10,q11,q12,q13,r10,r11,r12,r13,.string x.field,.int .i64 x.n,.slice ak1 m ck1] 60)).alloc (.cells #[.int .i64 x.kind,p20,p21,p22,q20,q21,q22,q23,r20,r21,r22,r23,.string x.field,.int .i64 x.n,.slice ak2 m ck2] 60))):=by
  simp only[hmx]
  exact HB0
 show Calls Tryz.prog 31 #[.agg #[.int .i64 x.kind,p10,p11,p12,q10,q11,q12,q13,r10,r11,r12,r13,.string x.field,.int .i64 x.n,.slice ak1 x.ks.length ck1],.agg #[.int .i64 x.kind,p20,p21,p22,q20,q21,q22,q23,r20,r21,r22,r23,.string x.field,.int .i64 x.n,.slice ak2 x.ks.length ck2]] W _
 rw[←hmx]
 clear h1 h2 hW hs1 hs2 hc1 hc2 he1 he2 hv1 hv2 hA HS hmx HBX HB0 lc1 lc2 le1 le2 lv1 lv2 hk1 hk2
 generalize x.kind=k at*
 generalize x.n=nn at*
 generalize x.field=fl at*
 generalize x.ks=xs at*
 generalize x.c=xc at*
 generalize x.e=xe at*
 generalize x.v=xv at*
 clear x
 have HC2:=Lib.hid (HVC.out _ HB1.out)
 go_enter Tryz.func31,Tryz.ntmps31
 go_wp2_with fail
 refine HC2.out.mono ?_
 rintro e w3 ⟨rfl,hb3⟩
 obtain⟨W2,hW2⟩:∃V,V=((W.alloc (.cells #[.int .i64 k,p10,p11,p12,q10,q11,q12,q13,r10,r11,r12,r13,.string fl,.int .i64 nn,.slice ak1 m ck1] 60)).alloc (.cells #[.int .i64 k,p20,p21,p22,q20,q21,q22,q23,r20,r21,r22,r23,.string fl,.int .i64 nn,.slice ak2 m ck2] 60)):=⟨_,rfl⟩
 rw[←hW2]at HB1 hb3 HX
 have HB3:=Lib.hid hb3
 have HE3:=Lib.hid (HVE.out _ (HB1.out.trans (hb3.mono HB1.out.size)))
 obtain⟨z1,z2,z3⟩:=HX.out w3 hb3
 have a4:=z1 4 _ rfl
 have b4:=z2 4 _ rfl
 have a5:=z1 5 _ rfl
 have b5:=z2 5 _ rfl
 have a6:=z1 6 _ rfl
 have b6:=z2 6 _ rfl
 have a7:=z1 7 _ rfl
 have b7:=z2 7 _ rfl
 clear z1 z2 z3
 clear hb3 hW2 HVC HVE HC2
 go_wp2_with fail
 refine HE3.out.mono ?_
 rintro e w4 ⟨rfl,hb4⟩
 have HB4:=Lib.hid (HB3.out.trans (hb4.mono HB3.out.size))
 have HV4:=Lib.hid (HVV.out _ (HX.out w4 HB4.out).2.2)
 clear a4 b4 a5 b5 a6 b6 a7 b7
 obtain⟨z1,z2,z3⟩:=HX.out w4 HB4.out
 have a8:=z1 8 _ rfl
 have b8:=z2 8 _ rfl
 have a9:=z1 9 _ rfl
 have b9:=z2 9 _ rfl
 have a10:=z1 10 _ rfl
 have b10:=z2 10 _ rfl
 have a11:=z1 11 _ rfl
 have b11:=z2 11 _ rfl
 clear z1 z2 z3
 clear hb4 HE3 HB3 HVV
 go_wp2_with fail
 refine HV4.out.mono ?_
 rintro e w5 ⟨rfl,hb5⟩
 have HB5:=Lib.hid (HB4.out.trans (hb5.mono HB4.out.size))
 clear a8 b8 a9 b9 a10 b10 a11 b11
 clear hb5 HV4 HB4
 go_wp2_with fail
 go_loopw [5] (fun i wr=>∃j:Nat,j≤m∧i= .int .i64 j∧Hid (Below W2.heap.size W2 wr)) (fun i _=>m - (intOf i).toNat)
 case atStart=>exact⟨0,Nat.zero_le _,rfl,HB5⟩
 case round=>
  obtain⟨j,hj,rfl,hb⟩:=hrel
  obtain⟨wo,rfl⟩:∃wo:World,wo=wr:=⟨_,rfl⟩
  obtain⟨z1,z2,hbW⟩:=HX.out wo hb.out
  have g1:=z1 14 _ rfl
  have g2:=z2 14 _ rfl
  clear z1 z2
  by_cases hlt:j<m
  ·have hlx:j<xs.length:=by rw[←HM.out];exact hlt
   obtain⟨b1,o1,cs,rfl,hb1,hc1,hr1⟩:=(H1.out.below hbW hbW.size).2 j hlx
   obtain⟨b2,o2,ds,rfl,hb2,hc2,hr2⟩:=(H2.out.below hbW hbW.size).2 j hlx
   rw[assnSh_k n]at hc1 hc2
   have l1:=(assnSh n).len hr1
   have l2:=(assnSh n).len hr2
   rw[assnSh_k n]at l1 l2
   have hji:(0:Int)≤(j:Int)∧(j:Int)<(m:Int):=by omega
   have HB:=Lib.hid hb.out
   have R:=Lib.hid (HSS.out _ wo cs ds hr1 hr2)
   have P1:=Lib.hid (lo_cells hb1 hc1)
   have P2:=Lib.hid (lo_cells hb2 hc2)
   have rn:=fun d os=>R.out.reg d os
   have k1:=fun d os=>cell_regrown g1 d os
   have k2:=fun d os=>cell_regrown g2 d os
   clear hc1 hc2 hr1 hr2 hb hbW
   go_wp2_with fail
   refine wp_region_quiet_below (by kernel_rfl) (by kernel_rfl) ?_
   repeat (first | (go_big_quiet_step (first | with_reducible exact rn _ _ | with_reducible exact k1 _ _ | with_reducible exact k2 _ _)) | (refine wpQuiet_load_c 60 _ rfl ⟨b1,o1+j*15,none⟩ rfl cs _ P1.out rfl Tryz.underlying60 rfl (by rw[l1];kernel_rfl) _ (by simp only[Act.put,List.setIfInBounds_toArray,List.set_cons_succ,List.set_cons_zero];rfl) ?_) | (refine wpQuiet_load_c 60 _ rfl ⟨b2,o2+j*15,none⟩ rfl ds _ P2.out rfl Tryz.underlying60 rfl (by rw[l2];kernel_rfl) _ (by simp only[Act.put,List.setIfInBounds_toArray,List.set_cons_succ,List.set_cons_zero];rfl) ?_))
   refine wpQuiet_nil ?_
   intro w5 hw'
   obtain⟨⟨dq,osq⟩,hw''⟩:=hw'
   have B5:Hid (Below W2.heap.size W2 w5):=Lib.hid (by rw[hw''];exact HB.out.trans ((below_regrown _ dq osq).mono HB.out.size))
   clear hw'' rn P1 P2 R HB k1 k2 g1 g2
   go_wp2_with fail
   go_roundw
   case rel=>exact⟨j+1,by omega,by go_num,B5⟩
   case measure=>simp[intOf];omega
  ·obtain rfl:j=m:=by omega
   go_wp2_with fail
   go_ret
   exact⟨rfl,hbW⟩
theorem sameA_all:∀n,SameT 31 (assnSh n)
 | 0=>fun x w cs ds h _=>h.elim
 | n+1=>sameA_step n (sameA_all n)
end
section
open Go.RowKit
theorem wpList_load_want {P:Program}{ops:Array Oper}{rest:List Oper}{op:Oper}{a:Act}{w:World}{Q:Exit→Act→World→Prop}(hw:Region.wanted op (yielded ops a.tmps)=true)(ty:TypeId)(x:Operand)(ho:op.op= .load ty x)
 (b o:Nat) (hx:a.eval x= .pointer (some ⟨b,o,none⟩)) (cs:List Value) (d:TypeDesc) (hc:w.rangeAt b o cs)
 (hu:P.underlying ty=some d) (hd:d.isRow=true) (hi:(P.info? ty).map (·.size)=some cs.length)
 (h:wpList P ops Q rest (a.put op.dst (.agg cs.toArray)) w):wpList P ops Q (op :: rest) a w:=
 wpList_step fun K hK=>by
  rw[if_pos hw]
  exact wp_load_mid ty x ho b o hx cs d hc hu hd hi (hK _ _ h)
theorem app_at {l r:List Value}{k n:Nat}(h:l.length=n):(l ++ r)[n+k]? =r[k]? :=by
 rw[List.getElem?_append_right (by omega)];congr 1;omega
section
variable {k0 k1 k2 k3 v0 v1 v2 v3 v4:Value} {ce cv cc ca:List Value} (le:ce.length=4) (lv:cv.length=4) (lc:cc.length=3) (la:ca.length=15)
include le lv lc la
theorem st_at4 {i:Nat}{v:Value}(h:ce[i]? =some v):([k0,k1,k2,k3] ++ (ce ++ (cv ++ (cc ++ (ca ++ [v0,v1,v2,v3,v4])))))[4+i]? =some v:=by
 have hi:=(List.getElem?_eq_some_iff.1 h).1
 rw[show 4+i=4+i by omega,app_at (by first | exact rfl | rfl),List.getElem?_append_left hi]
 exact h
theorem st_at8 {i:Nat}{v:Value}(h:cv[i]? =some v):([k0,k1,k2,k3] ++ (ce ++ (cv ++ (cc ++ (ca ++ [v0,v1,v2,v3,v4])))))[8+i]? =some v:=by
 have hi:=(List.getElem?_eq_some_iff.1 h).1
 rw[show 8+i=4+(4+i) by omega,app_at (by first | exact rfl | rfl),app_at (by first | exact le | rfl),List.getElem?_append_left hi]
 exact h
theorem st_at12 {i:Nat}{v:Value}(h:cc[i]? =some v):([k0,k1,k2,k3] ++ (ce ++ (cv ++ (cc ++ (ca ++ [v0,v1,v2,v3,v4])))))[12+i]? =some v:=by
 have hi:=(List.getElem?_eq_some_iff.1 h).1
 rw[show 12+i=4+(4+(4+i)) by omega,app_at (by first | exact rfl | rfl),app_at (by first | exact le | rfl),app_at (by first | exact lv | rfl),List.getElem?_append_left hi]
 exact h
theorem st_at15 {i:Nat}{v:Value}(h:ca[i]? =some v):([k0,k1,k2,k3] ++ (ce ++ (cv ++ (cc ++ (ca ++ [v0,v1,v2,v3,v4])))))[15+i]? =some v:=by
 have hi:=(List.getElem?_eq_some_iff.1 h).1
 rw[show 15+i=4+(4+(4+(3+i))) by omega,app_at (by first | exact rfl | rfl),app_at (by first | exact le | rfl),app_at (by first | exact lv | rfl),app_at (by first | exact lc | rfl),List.getElem?_append_left hi]
 exact h
theorem st_at30:([k0,k1,k2,k3] ++ (ce ++ (cv ++ (cc ++ (ca ++ [v0,v1,v2,v3,v4])))))[30]? =some v0:=by
 rw[show 30=4+(4+(4+(3+(15+0)))) by omega,app_at (by rfl),app_at le,app_at lv,app_at lc,app_at la]
 rfl
theorem st_at31:([k0,k1,k2,k3] ++ (ce ++ (cv ++ (cc ++ (ca ++ [v0,v1,v2,v3,v4])))))[31]? =some v1:=by
 rw[show 31=4+(4+(4+(3+(15+1)))) by omega,app_at (by rfl),app_at le,app_at lv,app_at lc,app_at la]
 rfl
theorem st_at32:([k0,k1,k2,k3] ++ (ce ++ (cv ++ (cc ++ (ca ++ [v0,v1,v2,v3,v4])))))[32]? =some v2:=by
 rw[show 32=4+(4+(4+(3+(15+2)))) by omega,app_at (by rfl),app_at le,app_at lv,app_at lc,app_at la]
 rfl
theorem st_at33:([k0,k1,k2,k3] ++ (ce ++ (cv ++ (cc ++ (ca ++ [v0,v1,v2,v3,v4])))))[33]? =some v3:=by
 rw[show 33=4+(4+(4+(3+(15+3)))) by omega,app_at (by rfl),app_at le,app_at lv,app_at lc,app_at la]
 rfl
theorem st_at34:([k0,k1,k2,k3] ++ (ce ++ (cv ++ (cc ++ (ca ++ [v0,v1,v2,v3,v4])))))[34]? =some v4:=by
 rw[show 34=4+(4+(4+(3+(15+4)))) by omega,app_at (by rfl),app_at le,app_at lv,app_at lc,app_at la]
 rfl
end
theorem sameS_nil (n:Nat)(h0:n=0):SameL 32 (stmtSh n):=fun xs a b c1 c2 w h1 h2 W hW=>by
 have e:xs=[]:=by
  cases xs with
  | nil=>rfl
  | cons x r=>
    obtain⟨_,_,_,_,_,_,hr⟩:=h1.2 0 (by simp)
    subst h0
    exact hr.elim
 subst e
 clear h1 h2 hW
 show Calls _ _ #[.slice a 0 c1,.slice b 0 c2] _ _
 go_enter Tryz.func32,Tryz.ntmps32
 go_wp2_with fail
 go_loopw [5] (fun i wr=>i= .int .i64 0∧Hid (Below W.heap.size W wr)) (fun i _=>0)
 case atStart=>exact⟨rfl,Below.refl _ _⟩
 case round=>
  obtain⟨rfl,hb⟩:=hrel
  go_wp2_with fail
  go_ret
  exact⟨rfl,hb.out⟩
theorem sameS_step (n:Nat)(HS:SameL 32 (stmtSh n)):SameL 32 (stmtSh (n+1)):=fun xs a b c1 c2 w h1 h2 W hW=>by
 have H1:=Lib.hid (h1.below hW hW.size)
 have H2:=Lib.hid (h2.below hW hW.size)
 have hm:=h1.1
 have HSS:=Lib.hid HS
 clear h1 h2 hW HS
 obtain⟨m,hmx⟩:∃m,m=xs.length:=⟨_,rfl⟩
 have HM:=Lib.hid hmx
 rw[←hmx]at hm⊢
 clear hmx
 go_enter Tryz.func32,Tryz.ntmps32
 go_wp2_with fail
 go_loopw [5] (fun i wr=>∃j:Nat,j≤m∧i= .int .i64 j∧Hid (Below W.heap.size W wr)) (fun i _=>m - (intOf i).toNat)
 case atStart=>exact⟨0,Nat.zero_le _,rfl,Below.refl _ _⟩
 case round=>
  obtain⟨j,hj,rfl,hb⟩:=hrel
  obtain⟨wo,rfl⟩:∃wo:World,wo=wr:=⟨_,rfl⟩
  by_cases hlt:j<m
  ·have hlx:j<xs.length:=by rw[←HM.out];exact hlt
   obtain⟨b1,o1,cs,rfl,hb1,hc1,hr1⟩:=(H1.out.below hb.out hb.out.size).2 j hlx
   obtain⟨b2,o2,ds,rfl,hb2,hc2,hr2⟩:=(H2.out.below hb.out hb.out.size).2 j hlx
   rw[stmtSh_k (n+1)]at hc1 hc2
   have l1:=(stmtSh (n+1)).len hr1
   have l2:=(stmtSh (n+1)).len hr2
   rw[stmtSh_k (n+1)]at l1 l2
   have u1:=(stmtSh (n+1)).one hr1
   have u2:=(stmtSh (n+1)).one hr2
   have hji:(0:Int)≤(j:Int)∧(j:Int)<(m:Int):=by omega
   have HB:=Lib.hid hb.out
   have g1:wo.rangeAt b1 (o1+j*35) cs:=hc1
   have g2:(wo.alloc (.cells cs.toArray 65)).rangeAt b2 (o2+j*35) ds:=fun i v h=>(World.cell?_alloc_lt _ _ _ hb2).trans (hc2 i v h)
   have hbs:b1<wo.heap.size:=hb1
   clear hc1 hc2
   generalize hx0:xs[j]=s at hr1 hr2
   obtain⟨ce1,cv1,cc1,ca1,w11,w21,w31,w41,w51,hcs1,hk1,⟨he1,hv1,hc1,ha1⟩,⟨⟨aa1,ka1,rfl,hsa1⟩,⟨ag1,kg1,rfl,hsg1⟩,⟨af1,kf1,rfl,hsf1⟩⟩,⟨ab1,kb1,rfl,hsb1⟩,⟨al1,kl1,rfl,hsl1⟩⟩:=hr1
   have HCS1:=Lib.hid hcs1
   clear hcs1
   have le1:ce1.length=4:=((exprSh n).len he1).trans (exprSh_k n)
   have lv1:cv1.length=4:=((exprSh n).len hv1).trans (exprSh_k n)
   have lc1:cc1.length=3:=((condSh n).len hc1).trans (condSh_k n)
   have la1:ca1.length=15:=((assnSh n).len ha1).trans (assnSh_k n)
   obtain⟨ce2,cv2,cc2,ca2,w12,w22,w32,w42,w52,hcs2,hk2,⟨he2,hv2,hc2,ha2⟩,⟨⟨aa2,ka2,rfl,hsa2⟩,⟨ag2,kg2,rfl,hsg2⟩,⟨af2,kf2,rfl,hsf2⟩⟩,⟨ab2,kb2,rfl,hsb2⟩,⟨al2,kl2,rfl,hsl2⟩⟩:=hr2
   have HCS2:=Lib.hid hcs2
   clear hcs2
   have le2:ce2.length=4:=((exprSh n).len he2).trans (exprSh_k n)
   have lv2:cv2.length=4:=((exprSh n).len hv2).trans (exprSh_k n)
   have lc2:cc2.length=3:=((condSh n).len hc2).trans (condSh_k n)
   have la2:ca2.length=15:=((assnSh n).len ha2).trans (assnSh_k n)
   have HW:=Lib.hid (sameWords_all s.p.fields af1 af2 kf1 kf2 wo hsf1 hsf2)
   have HE:=Lib.hid (sameE_all n s.p.e wo ce1 ce2 he1 he2)
   have HV:=Lib.hid (sameE_all n s.p.v wo cv1 cv2 hv1 hv2)
   have HCc:=Lib.hid (sameC_all n s.p.c wo cc1 cc2 hc1 hc2)
   have HA:=Lib.hid (sameA_all n s.p.a wo ca1 ca2 ha1 ha2)
   have HAr:=Lib.hid (sameEs_all n s.p.args aa1 aa2 ka1 ka2 wo hsa1 hsa2)
   have HG:=Lib.hid (sameEs_all n s.p.ghosts ag1 ag2 kg1 kg2 wo hsg1 hsg2)
   have HBd:=Lib.hid (HSS.out s.body ab1 ab2 kb1 kb2 wo hsb1 hsb2)
   have HEl:=Lib.hid (HSS.out s.els al1 al2 kl1 kl2 wo hsl1 hsl2)
   have HX7:Hid (∀w7,w7=((wo.alloc (.cells cs.toArray 65)).alloc (.cells ds.toArray 65))→∀V,Below w7.heap.size w7 V→(∀j v,cs[j]? =some v→V.cell? ⟨wo.heap.size,j,none⟩=some v)∧(∀j v,ds[j]? =some v→V.cell? ⟨wo.heap.size+1,j,none⟩=some v)∧Below wo.heap.size wo V):=fun w7 e V hV=>by
    subst e
    exact boxes_at hV
   clear hb hb1 hb2 hx0 hlx hk1 hk2 hsa1 hsg1 hsf1 hsb1 hsl1 hsa2 hsg2 hsf2 hsb2 hsl2 he1 hv1 hc1 ha1 he2 hv2 hc2 ha2
   go_wp2_with (first | (refine gateL 65 21 rfl ?_;refine wpList_load_mid rfl 65 _ rfl b1 (o1+j*35) rfl cs _ g1 Tryz.underlying65 rfl (by rw[l1];kernel_rfl) ?_) | (refine gateL 65 25 rfl ?_;refine wpList_load_mid rfl 65 _ rfl b2 (o2+j*35) rfl ds _ g2 Tryz.underlying65 rfl (by rw[l2];kernel_rfl) ?_) | (refine gateS 65 6 rfl ?_;refine wpList_store_fresh (by kernel_rfl) 65 _ _ rfl _ rfl cs rfl (by rw[l1];kernel_rfl) (by rw[l1];rfl) u1 ?_) | (refine gateS 65 7 rfl ?_;generalize hW1:wo.alloc (.cells cs.toArray 65)=W1;have hs1':wo.heap.size+1=W1.heap.size:=(by rw[←hW1];simp);apply wpList_store_fresh (ty:=65) (cs:=ds);(case hw=>kernel_rfl);(case ho=>exact rfl);(case hx=>exact congrArg (fun n=>Value.pointer (some ⟨n,0,none⟩)) hs1');(case hy=>exact rfl);(case hi=>rw[l2];kernel_rfl);(case hc=>rw[l2];rfl);(case h1=>exact u2);clear hs1';subst hW1;obtain⟨w7,hw7⟩:∃x,x=((wo.alloc (.cells cs.toArray 65)).alloc (.cells ds.toArray 65)):=⟨_,rfl⟩;rw[←hw7];have HX:=Lib.hid (HX7.out w7 hw7);clear hw7 HX7;obtain⟨z1,z2,z3⟩:=HX.out w7 (Below.refl _ _);have a0:=z1 0 _ (by rw[HCS1.out];rfl);have b0:=z2 0 _ (by rw[HCS2.out];rfl);have a1:=z1 1 _ (by rw[HCS1.out];rfl);have b1:=z2 1 _ (by rw[HCS2.out];rfl);have a2:=z1 2 _ (by rw[HCS1.out];rfl);have b2:=z2 2 _ (by rw[HCS2.out];rfl);have a3:=z1 3 _ (by rw[HCS1.out];rfl);have b3:=z2 3 _ (by rw[HCS2.out];rfl);have a32:=z1 32 _ (by rw[HCS1.out];exact st_at32 le1 lv1 lc1 la1);have b32:=z2 32 _ (by rw[HCS2.out];exact st_at32 le2 lv2 lc2 la2);clear z1 z2 z3))
   refine(HW.out _ (HX.out w7 (Below.refl _ _)).2.2).mono ?_
   rintro e v0 ⟨rfl,hq⟩
   have HB0:Hid (Below w7.heap.size w7 v0):=hq
   clear hq HW a0 b0 a1 b1 a2 b2 a3 b3 a32 b32
   obtain⟨z1,z2,z3⟩:=HX.out v0 HB0.out
   have a4:v0.rangeAt wo.heap.size 4 ce1:=fun i v h=>z1 _ v (by rw[HCS1.out];exact st_at4 le1 lv1 lc1 la1 h)
   have b4:v0.rangeAt (wo.heap.size+1) 4 ce2:=fun i v h=>z2 _ v (by rw[HCS2.out];exact st_at4 le2 lv2 lc2 la2 h)
   clear z1 z2 z3
   go_wp2_with (first | (refine wpList_load_want (by kernel_rfl) 57 _ rfl wo.heap.size 4 rfl ce1 _ a4 Tryz.underlying57 rfl (by rw[le1];kernel_rfl) ?_) | (refine wpList_load_want (by kernel_rfl) 57 _ rfl (wo.heap.size+1) 4 rfl ce2 _ b4 Tryz.underlying57 rfl (by rw[le2];kernel_rfl) ?_))
   refine(HE.out _ (HX.out v0 HB0.out).2.2).mono ?_
   rintro e v1 ⟨rfl,hq⟩
   have HB1:Hid (Below w7.heap.size w7 v1):=HB0.out.trans (hq.mono HB0.out.size)
   clear hq HE a4 b4
   obtain⟨z1,z2,z3⟩:=HX.out v1 HB1.out
   have a8:v1.rangeAt wo.heap.size 8 cv1:=fun i v h=>z1 _ v (by rw[HCS1.out];exact st_at8 le1 lv1 lc1 la1 h)
   have b8:v1.rangeAt (wo.heap.size+1) 8 cv2:=fun i v h=>z2 _ v (by rw[HCS2.out];exact st_at8 le2 lv2 lc2 la2 h)
   clear z1 z2 z3
   go_wp2_with (first | (refine wpList_load_want (by kernel_rfl) 57 _ rfl wo.heap.size 8 rfl cv1 _ a8 Tryz.underlying57 rfl (by rw[lv1];kernel_rfl) ?_) | (refine wpList_load_want (by kernel_rfl) 57 _ rfl (wo.heap.size+1) 8 rfl cv2 _ b8 Tryz.underlying57 rfl (by rw[lv2];kernel_rfl) ?_))
   refine(HV.out _ (HX.out v1 HB1.out).2.2).mono ?_
   rintro e v2 ⟨rfl,hq⟩
   have HB2:Hid (Below w7.heap.size w7 v2):=HB1.out.trans (hq.mono HB1.out.size)
   clear hq HV a8 b8
   obtain⟨z1,z2,z3⟩:=HX.out v2 HB2.out
   have a12:v2.rangeAt wo.heap.size 12 cc1:=fun i v h=>z1 _ v (by rw[HCS1.out];exact st_at12 le1 lv1 lc1 la1 h)
   have b12:v2.rangeAt (wo.heap.size+1) 12 cc2:=fun i v h=>z2 _ v (by rw[HCS2.out];exact st_at12 le2 lv2 lc2 la2 h)
   clear z1 z2 z3
   go_wp2_with (first | (refine wpList_load_want (by kernel_rfl) 55 _ rfl wo.heap.size 12 rfl cc1 _ a12 Tryz.underlying55 rfl (by rw[lc1];kernel_rfl) ?_) | (refine wpList_load_want (by kernel_rfl) 55 _ rfl (wo.heap.size+1) 12 rfl cc2 _ b12 Tryz.underlying55 rfl (by rw[lc2];kernel_rfl) ?_))
   refine(HCc.out _ (HX.out v2 HB2.out).2.2).mono ?_
   rintro e v3 ⟨rfl,hq⟩
   have HB3:Hid (Below w7.heap.size w7 v3):=HB2.out.trans (hq.mono HB2.out.size)
   clear hq HCc a12 b12
   obtain⟨z1,z2,z3⟩:=HX.out v3 HB3.out
   have a15:v3.rangeAt wo.heap.size 15 ca1:=fun i v h=>z1 _ v (by rw[HCS1.out];exact st_at15 le1 lv1 lc1 la1 h)
   have b15:v3.rangeAt (wo.heap.size+1) 15 ca2:=fun i v h=>z2 _ v (by rw[HCS2.out];exact st_at15 le2 lv2 lc2 la2 h)
   clear z1 z2 z3
   go_wp2_with (first | (refine wpList_load_want (by kernel_rfl) 60 _ rfl wo.heap.size 15 rfl ca1 _ a15 Tryz.underlying60 rfl (by rw[la1];kernel_rfl) ?_) | (refine wpList_load_want (by kernel_rfl) 60 _ rfl (wo.heap.size+1) 15 rfl ca2 _ b15 Tryz.underlying60 rfl (by rw[la2];kernel_rfl) ?_))
   refine(HA.out _ (HX.out v3 HB3.out).2.2).mono ?_
   rintro e v4 ⟨rfl,hq⟩
   have HB4:Hid (Below w7.heap.size w7 v4):=HB3.out.trans (hq.mono HB3.out.size)
   clear hq HA a15 b15
   obtain⟨z1,z2,z3⟩:=HX.out v4 HB4.out
   have a30:=z1 30 _ (by rw[HCS1.out];exact st_at30 le1 lv1 lc1 la1)
   have b30:=z2 30 _ (by rw[HCS2.out];exact st_at30 le2 lv2 lc2 la2)
   clear z1 z2 z3
   go_wp2_with fail
   refine(HAr.out _ (HX.out v4 HB4.out).2.2).mono ?_
   rintro e v5 ⟨rfl,hq⟩
   have HB5:Hid (Below w7.heap.size w7 v5):=HB4.out.trans (hq.mono HB4.out.size)
   clear hq HAr a30 b30
   obtain⟨z1,z2,z3⟩:=HX.out v5 HB5.out
   have a31:=z1 31 _ (by rw[HCS1.out];exact st_at31 le1 lv1 lc1 la1)
   have b31:=z2 31 _ (by rw[HCS2.out];exact st_at31 le2 lv2 lc2 la2)
   clear z1 z2 z3
   go_wp2_with fail
   refine(HG.out _ (HX.out v5 HB5.out).2.2).mono ?_
   rintro e v6 ⟨rfl,hq⟩
   have HB6:Hid (Below w7.heap.size w7 v6):=HB5.out.trans (hq.mono HB5.out.size)
   clear hq HG a31 b31
   obtain⟨z1,z2,z3⟩:=HX.out v6 HB6.out
   have a33:=z1 33 _ (by rw[HCS1.out];exact st_at33 le1 lv1 lc1 la1)
   have b33:=z2 33 _ (by rw[HCS2.out];exact st_at33 le2 lv2 lc2 la2)
   clear z1 z2 z3
   go_wp2_with fail
   refine(HBd.out _ (HX.out v6 HB6.out).2.2).mono ?_
   rintro e v7 ⟨rfl,hq⟩
   have HB7:Hid (Below w7.heap.size w7 v7):=HB6.out.trans (hq.mono HB6.out.size)
   clear hq HBd a33 b33
   obtain⟨z1,z2,z3⟩:=HX.out v7 HB7.out
   have a34:=z1 34 _ (by rw[HCS1.out];exact st_at34 le1 lv1 lc1 la1)
   have b34:=z2 34 _ (by rw[HCS2.out];exact st_at34 le2 lv2 lc2 la2)
   clear z1 z2 z3
   go_wp2_with fail
   refine(HEl.out _ (HX.out v7 HB7.out).2.2).mono ?_
   rintro e v8 ⟨rfl,hq⟩
   have HB8:Hid (Below w7.heap.size w7 v8):=HB7.out.trans (hq.mono HB7.out.size)
   clear hq HEl a34 b34
   have BW:Hid (Below W.heap.size W v8):=HB.out.trans ((HX.out v8 HB8.out).2.2.mono HB.out.size)
   clear HX HB8 g1 g2 HB
   go_wp2_with fail
   go_roundw
   case rel=>first | exact⟨j+1,by omega,by go_num,BW⟩ | ((repeat apply Exists.intro);exact⟨⟨j+1,by omega,by go_num,BW⟩,rfl⟩)
   case measure=>simp[intOf];omega
  ·obtain rfl:j=m:=by omega
   go_wp2_with fail
   go_ret
   exact⟨rfl,hb.out⟩
end
section
theorem sameS_all:∀n,SameL 32 (stmtSh n)
 | 0=>sameS_nil 0 rfl
 | n+1=>sameS_step n (sameS_all n)
end
end Go.Proofs.YtcinokljkieijaaGreatDoor
