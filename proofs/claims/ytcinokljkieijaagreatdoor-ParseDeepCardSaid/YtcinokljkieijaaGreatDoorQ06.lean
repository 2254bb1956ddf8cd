/- Parts of a proof. -/
import Derived.Test.YtcinokljkieijaaGreatDoorQ02
import Derived.Test.YtcinokljkieijaaGreatDoorQ03
import Derived.Test.YtcinokljkieijaaGreatDoorQ04
set_option linter.unusedVariables false
set_option linter.unusedSimpArgs false
set_option maxHeartbeats 60000000
set_option maxRecDepth 100000
namespace Go.Proofs.YtcinokljkieijaaGreatDoor
section
open Go.RowKit
theorem alloc_low (w:World)(o:Obj):Below w.heap.size w (w.alloc o):=(Below.refl _ _).alloc (Nat.le_refl _) _
theorem ws_list (ws:List ByteArray)(w:World)(hx:∀x∈ws,x.size≤maxLen)(hl:ws.length≤100):Ws ws (some ⟨w.heap.size,0,none⟩) ws.length (w.alloc (.cells (ws.map Value.string).toArray 9)):=by
 refine⟨rfl,by omega,fun i hi=>⟨w.heap.size,0,[.string ws[i]],rfl,by show w.heap.size<_;simp,fun j u hu=> ?_,rfl,hx _ (List.getElem_mem hi)⟩⟩
 cases j with
 | succ j=>cases hu
 | zero=>
   cases hu
   refine(cell_of_row _ _ _ _ _ _ (heap_alloc_new w _)).trans ?_
   show(ws.map Value.string).toArray[0+i*1+0]? =_
   rw[List.getElem?_toArray,List.getElem?_map,show 0+i*1+0=i by omega,List.getElem?_eq_getElem hi]
   rfl
theorem PE.low {α:Type}{V:World→World→Value→α→Prop}{f:PS→α×PS}{C:PC}{s:PS}{w w1 w':World}{e:Ending}(h:PE V f C s w1 e w')(hb:Below w.heap.size w w1)(hV:∀v x,V w1 w' v x→V w w' v x):PE V f C s w e w':=by
 obtain⟨v,e,h1,h2,h3⟩:=h
 exact⟨v,e,hV _ _ h1,h2,(KeptG.of_below hb).trans h3⟩
theorem is1_any (C:PC)(s:PS)(x:ByteArray)(w:World)(h:PSt C s w)(hx:x.size≤100):
 Calls Tryz.prog 116 #[C.p,.slice (some ⟨w.heap.size,0,none⟩) 1 1] (w.alloc (.cells #[.string x] 9)) fun e w'=>e= .returned (.bool (pis C.tk [x] s))∧Below w.heap.size w w':=
 (is_any C s [x] _ 1 1 _ (h.alloc _) (ws_list [x] w (fun y hy=>by rw[List.mem_singleton.1 hy];unfold maxLen;omega) (by simp))).mono fun e w' ⟨h1,h2⟩=>⟨h1,(alloc_low _ _).trans (h2.mono (alloc_low _ _).size)⟩
theorem must1_any (C:PC)(s:PS)(x:ByteArray)(w:World)(h:PSt C s w)(hx:x.size≤100):
 Calls Tryz.prog 54 #[C.p,.slice (some ⟨w.heap.size,0,none⟩) 1 1] (w.alloc (.cells #[.string x] 9)) (PE Vt (pmust C.tk C.en [x]) C s w):=
 (must_any C s [x] _ 1 1 _ (h.alloc _) (ws_list [x] w (fun y hy=>by rw[List.mem_singleton.1 hy];unfold maxLen;omega) (by simp))).mono fun e w' h=>h.low (alloc_low _ _) (fun _ _ h=>h)
theorem may1_any (C:PC)(s:PS)(x:ByteArray)(w:World)(h:PSt C s w)(hx:x.size≤100):
 Calls Tryz.prog 120 #[C.p,.slice (some ⟨w.heap.size,0,none⟩) 1 1] (w.alloc (.cells #[.string x] 9)) (PE Vt (pmay C.tk [x]) C s w):=
 (may_any C s [x] _ 1 1 _ (h.alloc _) (ws_list [x] w (fun y hy=>by rw[List.mem_singleton.1 hy];unfold maxLen;omega) (by simp))).mono fun e w' h=>h.low (alloc_low _ _) (fun _ _ h=>h)
theorem may2_any (C:PC)(s:PS)(x y:ByteArray)(w:World)(h:PSt C s w)(hx:x.size≤100)(hy:y.size≤100):
 Calls Tryz.prog 120 #[C.p,.slice (some ⟨w.heap.size,0,none⟩) 2 2] (w.alloc (.cells #[.string x,.string y] 9)) (PE Vt (pmay C.tk [x,y]) C s w):=
 (may_any C s [x,y] _ 2 2 _ (h.alloc _) (ws_list [x,y] w (fun z hz=>by rcases List.mem_cons.1 hz with rfl | hz;· (unfold maxLen;omega)
                                                                       rw[List.mem_singleton.1 hz];unfold maxLen;omega) (by simp))).mono fun e w' h=>h.low (alloc_low _ _) (fun _ _ h=>h)
theorem pname_any (C:PC)(s:PS)(w:World)(h:PSt C s w):
 Calls Tryz.prog 55 #[C.p] w (PE Vt (pof C.tk C.en 1) C s w):=by
 have HC:=Lib.hid (of_any C s 1 w h (by decide))
 have HE:Hid (∀e w',PE Vt (pof C.tk C.en 1) C s w e w'→∃x,e= .returned (.string x)):=fun e w' ⟨v,e1,h1,_⟩=>⟨(pof C.tk C.en 1 s).1,by rw[e1,show v= .string (pof C.tk C.en 1 s).1 from h1]⟩
 generalize PE Vt (pof C.tk C.en 1) C s w=Q at*
 unfold PC.p at*
 clear h
 go_enter Tryz.func55,Tryz.ntmps55
 go_wp2_with fail
 refine HC.out.mono ?_
 rintro e w' hq
 obtain⟨x,rfl⟩:=HE.out e w' hq
 have HQ:=Lib.hid hq
 clear hq HC HE
 go_wp2_with fail
 try go_ret
 exact HQ.out
theorem pnumber_any (C:PC)(s:PS)(w:World)(h:PSt C s w):
 Calls Tryz.prog 198 #[C.p] w (PE Vi (pnum C.tk C.en) C s w):=by
 have HC:=Lib.hid (of_any C s 3 w h (by decide))
 have HA:Hid (∀W,PSt C (pof C.tk C.en 3 s).2 W→Calls Tryz.prog 132 #[.string (pof C.tk C.en 3 s).1] W fun e w'=>∃er,e= .returned (.tuple #[.int .i64 (pval (pof C.tk C.en 3 s).1),er])∧Below W.heap.size W w'):=fun W hW=>by
  by_cases hp:pkd C.tk s=3
  ·obtain⟨h0,hn⟩:=pkd_inv (tk:=C.tk) (s:=s) (by rw[hp];decide)
   have e1:(pof C.tk C.en 3 s).1=(C.tk.getD s.nx tok0).text:=by
    unfold pof;rw[if_pos hp]
    show ptx C.tk s 0=_
    unfold ptx;rw[if_pos ⟨h0,hn⟩];rfl
   have hk:(C.tk.getD s.nx tok0).kind=3:=by
    unfold pkd at hp;rw[if_pos ⟨h0,hn⟩]at hp;exact hp
   have hmem:C.tk.getD s.nx tok0∈C.tk:=by rw[List.getD_eq_getElem?_getD,List.getElem?_eq_getElem hn];exact List.getElem_mem hn
   obtain⟨hs,h3⟩:=h.small _ hmem
   obtain⟨hv,hD,hne⟩:=h3 hk
   rw[e1]
   refine(atoi_any _ W (by omega) hW.laid hD hne).mono ?_
   rintro e w' ⟨x,er,rfl,hb,hor⟩
   rcases hor with ⟨_,rfl,_⟩ | ⟨_,hbig⟩
   ·exact⟨er,rfl,hb⟩
   ·omega
  ·have e1:(pof C.tk C.en 3 s).1=⟨#[]⟩:=by unfold pof;rw[if_neg hp]
   rw[e1]
   obtain⟨t,v,hs⟩:=hW.laid.syn
   refine(Tryz.strconv_Atoi_err ⟨#[]⟩ (by decide) rfl _ W hs (.inr ⟨t,v,rfl⟩)).mono ?_
   rintro e w' ⟨N,rfl,_,_,hb⟩
   exact⟨_,rfl,hb⟩
 have HE:Hid (∀e w',PE Vt (pof C.tk C.en 3) C s w e w'→e= .returned (.string (pof C.tk C.en 3 s).1)∧PSt C (pof C.tk C.en 3 s).2 w'∧∀w2,Below w'.heap.size w' w2→PE Vi (pnum C.tk C.en) C s w (.returned (.int .i64 (pval (pof C.tk C.en 3 s).1))) w2):=fun e w' ⟨v,e1,h1,h2,h3⟩=>⟨by rw[e1,show v= .string (pof C.tk C.en 3 s).1 from h1],h2,fun w2 hb=>⟨_,rfl,rfl,h2.up hb,h3.trans (KeptG.of_below hb)⟩⟩
 generalize PE Vi (pnum C.tk C.en) C s w=Q2 at*
 generalize PE Vt (pof C.tk C.en 3) C s w=Q at*
 generalize pval (pof C.tk C.en 3 s).1=z at*
 generalize (pof C.tk C.en 3 s).1=x at*
 generalize PSt C (pof C.tk C.en 3 s).2=R at*
 unfold PC.p at*
 clear h
 go_enter Tryz.func198,Tryz.ntmps198
 go_wp2_with fail
 refine HC.out.mono ?_
 rintro e w' hq
 obtain⟨rfl,h2,h3⟩:=HE.out e w' hq
 have HA2:=Lib.hid (HA.out w' h2)
 have HQ:=Lib.hid h3
 clear hq HC HE h2 h3 HA
 go_wp2_with fail
 refine HA2.out.mono ?_
 rintro e w2 ⟨er,rfl,hb⟩
 have HQ2:=Lib.hid (HQ.out w2 hb)
 clear HA2 HQ hb
 go_wp2_with fail
 try go_ret
 exact HQ2.out
theorem penter_in {tk:List Tok}{en:Nat}{s:PS}(hi:PIn tk s)(h0:s.er=none):PIn tk (penter tk en s):=by
 have h3:=hi.ok h0
 have h4:=hi.lo
 unfold penter
 by_cases h50:50≤s.ne
 ·rw[if_pos h50]
  have hn:(pfail tk en 4 s).ne=s.ne∧(pfail tk en 4 s).nx=s.nx:=by unfold pfail;rw[if_pos h0];exact⟨rfl,rfl⟩
  exact⟨by show 0≤(pfail tk en 4 s).ne+1;omega,by show(pfail tk en 4 s).ne+1≤51;omega,by show(pfail tk en 4 s).nx≤_;rw[hn.2];exact hi.nx,fun e=>absurd e (pfail_er 4 s)⟩
 ·rw[if_neg h50]
  exact⟨by show 0≤s.ne+1;omega,by show s.ne+1≤51;omega,hi.nx,fun _=>by show s.ne+1≤50;omega⟩
theorem enter_any (C:PC)(s:PS)(w:World)(h:PSt C s w)(h0:s.er=none):
 Calls Tryz.prog 176 #[C.p] w (PU (penter C.tk C.en) C s w):=by
 have c3:=h.c3
 have f3:=h.fr 3
 have hlo:=h.inv.lo
 have hhi:=h.inv.hi
 have hw:IntKind.i64.wrap (s.ne+1)=s.ne+1:=IntWalk.i64_in _ (by omega)
 by_cases h50:50≤s.ne
 ·have hd:decide (s.ne ≥ 50)=true:=decide_eq_true h50
  have hn:(pfail C.tk C.en 4 s).ne=s.ne∧(pfail C.tk C.en 4 s).nx=s.nx:=by unfold pfail;rw[if_pos h0];exact⟨rfl,rfl⟩
  have HF:=Lib.hid (fail_any C s 4 w h h.g5)
  have HE:Hid (∀e W,PU (pfail C.tk C.en 4) C s w e W→e= .returned (.tuple #[])∧W.cell? ⟨C.g,3,none⟩=some (.int .i64 s.ne)∧W.frozen? ⟨C.g,3,none⟩=false∧PU (penter C.tk C.en) C s w (.returned (.tuple #[])) (W.setCell ⟨C.g,3,none⟩ (.int .i64 (s.ne+1)))):=fun e W ⟨e1,h1,h2⟩=>⟨e1,by
   have:=h1.c3
   rw[hn.1]at this
   exact this,h1.fr 3,rfl,by
   have e2:penter C.tk C.en s=pdn (pfail C.tk C.en 4 s):=by unfold penter;rw[if_pos h50]
   have e3:(penter C.tk C.en s).ne=s.ne+1:=by rw[e2];show(pfail C.tk C.en 4 s).ne+1=_;rw[hn.1]
   have:=h1.nest (s':=penter C.tk C.en s) (by rw[e2];exact⟨rfl,rfl⟩) (penter_in h.inv h0) h.g5
   rw[e3]at this
   exact this,h2.trans KeptG.set⟩
  generalize PU (penter C.tk C.en) C s w=Q2 at*
  generalize PU (pfail C.tk C.en 4) C s w=Q at*
  unfold PC.p at*
  clear h
  go_enter Tryz.func176,Tryz.ntmps176
  go_wp2_with fail
  refine HF.out.mono ?_
  rintro e W hq
  obtain⟨rfl,d3,g3,hq2⟩:=HE.out e W hq
  have HQ:=Lib.hid hq2
  clear hq HF HE hq2 c3 f3
  go_wp2_with fail
  try go_end0
  exact HQ.out
 ·have hd:decide (s.ne ≥ 50)=false:=decide_eq_false h50
  have e2:penter C.tk C.en s=pdn s:=by unfold penter;rw[if_neg h50]
  have HE:Hid (PU (penter C.tk C.en) C s w (.returned (.tuple #[])) (w.setCell ⟨C.g,3,none⟩ (.int .i64 (s.ne+1)))):=⟨rfl,by
   have:=h.nest (s':=penter C.tk C.en s) (by rw[e2];exact⟨rfl,rfl⟩) (penter_in h.inv h0) h.g5
   rw[e2]at this⊢
   exact this,KeptG.set⟩
  generalize PU (penter C.tk C.en) C s w=Q2 at*
  unfold PC.p at*
  clear h
  go_enter Tryz.func176,Tryz.ntmps176
  go_wp2_with fail
  try go_end0
  exact HE.out
end
section
open Go.RowKit
def PW {α:Type}(R:World→α→Prop)(f:PS→α×PS)(C:PC)(h:Nat)(s:PS)(w:World)(e:Ending)(w':World):Prop:=
 e= .returned (.tuple #[])∧PSt C (f s).2 w'∧KeptH C.g h w w'∧R w' (f s).1
theorem err_cell {C:PC}{s:PS}{w:World}(h:PSt C s w):(s.er=none∧w.cell? ⟨C.g,4,none⟩=some .nilIface)∨(s.er≠none∧∃b:Nat,w.cell? ⟨C.g,4,none⟩=some (.iface 87 (.pointer (some ⟨b,0,none⟩)))):=by
 obtain⟨v,c4,hv⟩:=h.c4
 rcases hv.is with ⟨h1,rfl⟩ | ⟨h1,b,rfl⟩
 ·exact .inl ⟨h1,c4⟩
 ·exact .inr ⟨h1,b,c4⟩
theorem pup_in {tk:List Tok}{s:PS}(hi:PIn tk s)(h1:1≤s.ne):PIn tk (pup s):=⟨by show 0≤s.ne - 1;omega,by show s.ne - 1≤51;have:=hi.hi;omega,hi.nx,fun e=>by show s.ne - 1≤50;have:=hi.ok e;omega⟩
theorem within_any {α:Type}(C:PC)(s:PS)(o c:ByteArray)(d:α)(f:PS→α×PS)(R:World→α→Prop)(fn h:Nat)(u1 u2:Value)(w:World)
 (eg:∀args w,(callFunc fn args).run Tryz.prog w= .ok (.enter fn args) w) (hP:PSt C s w) (ho:o.size≤100) (hc:c.size≤100)
 (hf:∀s,Mv C.tk s (f s).2) (h0:R w d) (hR:∀W W' x,KeptH C.g h w W→R W x→KeptG C.g W W'→R W' x)
 (hC:∀W,PSt C (pm1 C.tk C.en o (penter C.tk C.en s)) W→(pm1 C.tk C.en o (penter C.tk C.en s)).er=none→s.er=none→KeptG C.g w W→Calls Tryz.prog fn #[u1,u2] W (PW R f C h (pm1 C.tk C.en o (penter C.tk C.en s)) W)):
 Calls Tryz.prog 122 #[C.p,.string o,.string c,.func (.func fn) #[] #[u1,u2]] w (PW R (pwithin C.tk C.en o c d f) C h s w):=by
 have HI:=Lib.hid (is1_any C s o w hP ho)
 have HP:=Lib.hid hP
 by_cases hp:pis C.tk [o] s=true
 ·rw[hp]at HI
  obtain⟨h00,hn⟩:=pis_inv hp
  obtain⟨s2,hs2⟩:∃s2,s2=pm1 C.tk C.en o (penter C.tk C.en s):=⟨_,rfl⟩
  have HN:=Lib.hid (fun W (hb:Below w.heap.size w W)=>enter_any C s W (hP.up hb) h00)
  have HM:=Lib.hid (fun W (hW:PSt C (penter C.tk C.en s) W)=>must1_any C (penter C.tk C.en s) o W hW ho)
  have HMe:Hid (∀W e W',PE Vt (pmust C.tk C.en [o]) C (penter C.tk C.en s) W e W'→(∃x,e= .returned (.string x))∧PSt C s2 W'∧KeptG C.g W W'):=fun W e W' ⟨v,e1,h1,h2,h3⟩=>⟨⟨(pmust C.tk C.en [o] (penter C.tk C.en s)).1,by rw[e1,show v= .string _ from h1]⟩,by rw[hs2];exact h2,h3⟩
  by_cases he:s2.er=none
  ·have e:pwithin C.tk C.en o c d f s=((f s2).1,pup (pm1 C.tk C.en c (f s2).2)):=by
    unfold pwithin
    simp only[hp,if_true]
    rw[←hs2,if_pos he]
   have HCl:=Lib.hid (fun W (hW:PSt C s2 W) (hk:KeptG C.g w W)=>hC W (by rw[←hs2];exact hW) (by rw[←hs2];exact he) h00 hk)
   rw[←hs2]at HCl
   have HM2:=Lib.hid (fun W (hW:PSt C (f s2).2 W)=>must1_any C (f s2).2 c W hW hc)
   have mv1:Mv C.tk (penter C.tk C.en s) (pm1 C.tk C.en c (f s2).2):=by
    have:=(mv_m1 (tk:=C.tk) (en:=C.en) o (penter C.tk C.en s)).trans (by rw[←hs2];exact(hf s2).trans (mv_m1 (en:=C.en) c (f s2).2))
    exact this
   have hne:1≤(pm1 C.tk C.en c (f s2).2).ne:=by
    have h1:=mv1.ne
    have h2:(penter C.tk C.en s).ne=s.ne+1:=by
     unfold penter
     split
     ·show(pfail C.tk C.en 4 s).ne+1=_;unfold pfail;rw[if_pos h00]
     ·rfl
    have:=hP.inv.lo
    omega
   have HE:Hid (∀W1 W2 W3 e3,KeptG C.g w W1→KeptH C.g h W1 W2→R W2 (f s2).1→PE Vt (pmust C.tk C.en [c]) C (f s2).2 W2 e3 W3→(∃x,e3= .returned (.string x))∧W3.cell? ⟨C.g,3,none⟩=some (.int .i64 (pm1 C.tk C.en c (f s2).2).ne)∧W3.frozen? ⟨C.g,3,none⟩=false∧IntKind.i64.wrap ((pm1 C.tk C.en c (f s2).2).ne - 1)=(pm1 C.tk C.en c (f s2).2).ne - 1∧PW R (pwithin C.tk C.en o c d f) C h s w (.returned (.tuple #[])) (W3.setCell ⟨C.g,3,none⟩ (.int .i64 ((pm1 C.tk C.en c (f s2).2).ne - 1)))):=fun W1 W2 W3 e3 k1 k2 r2 ⟨v,e1,h1,h2,h3⟩=>by
    have h2:PSt C (pm1 C.tk C.en c (f s2).2) W3:=h2
    have hhi:=h2.inv.hi
    refine⟨⟨(pmust C.tk C.en [c] (f s2).2).1,by rw[e1,show v= .string _ from h1]⟩,h2.c3,h2.fr 3,IntWalk.i64_in _ (by omega),rfl, ?_, ?_, ?_⟩
    ·rw[e]
     exact h2.nest (s':=pup (pm1 C.tk C.en c (f s2).2)) ⟨rfl,rfl⟩ (pup_in h2.inv hne) h2.g5
    ·exact((k1.kh h).trans k2).trans ((h3.trans KeptG.set).kh h)
    ·rw[e]
     exact hR W2 _ _ ((k1.kh h).trans k2) r2 (h3.trans KeptG.set)
   have ES:Hid (∀W,PSt C s2 W→W.cell? ⟨C.g,4,none⟩=some .nilIface):=fun W hW=>by
    rcases err_cell hW with ⟨_,h⟩ | ⟨h,_⟩
    ·exact h
    ·exact absurd he h
   generalize PW R (pwithin C.tk C.en o c d f) C h s w=Q at*
   clear hP HP hf h0 hR hC mv1 hne
   generalize (pm1 C.tk C.en c (f s2).2).ne=z at*
   unfold PC.p at*
   go_enter Tryz.func122,Tryz.ntmps122
   go_wp2_with fail
   refine HI.out.mono ?_
   rintro e w1 ⟨rfl,hb⟩
   have HB:=Lib.hid hb
   have HN1:=Lib.hid (HN.out w1 hb)
   clear hb HN HI
   go_wp2_with fail
   refine HN1.out.mono ?_
   rintro e w2 ⟨rfl,hp2,hk2⟩
   have HK:=Lib.hid ((KeptG.of_below HB.out).trans hk2)
   have HM1:=Lib.hid (HM.out w2 hp2)
   clear HB hp2 hk2 HN1 HM
   go_wp2_with fail
   refine HM1.out.mono ?_
   rintro e w3 hq
   obtain⟨⟨x,rfl⟩,hp3,hk3⟩:=HMe.out _ _ _ hq
   have HK3:=Lib.hid (HK.out.trans hk3)
   have c4:=ES.out w3 hp3
   have HC3:=Lib.hid (HCl.out w3 hp3 HK3.out)
   clear hq hp3 hk3 HK HM1 HMe ES HCl
   go_wp2_with fail
   refine HC3.out.mono ?_
   rintro e w4 ⟨rfl,hp4,hk4,hr4⟩
   have HX:=Lib.hid (And.intro hk4 hr4)
   have HM4:=Lib.hid (HM2.out w4 hp4)
   clear hp4 hk4 hr4 HC3 HM2 c4
   go_wp2_with fail
   refine HM4.out.mono ?_
   rintro e w5 hq
   obtain⟨⟨x5,rfl⟩,d3,f3,hw,hq5⟩:=HE.out w3 w4 w5 _ HK3.out HX.out.1 HX.out.2 hq
   have HQ:=Lib.hid hq5
   clear hq hq5 HE HX HM4 HK3
   go_wp2_with fail
   try go_end0
   exact HQ.out
  ·have e:pwithin C.tk C.en o c d f s=(d,s2):=by
    unfold pwithin
    simp only[hp,if_true]
    rw[←hs2,if_neg he]
   have HE:Hid (∀W,KeptG C.g w W→PSt C s2 W→(∃b:Nat,W.cell? ⟨C.g,4,none⟩=some (.iface 87 (.pointer (some ⟨b,0,none⟩))))∧PW R (pwithin C.tk C.en o c d f) C h s w (.returned (.tuple #[])) W):=fun W hk hW=>⟨by
    rcases err_cell hW with ⟨h,_⟩ | ⟨_,h⟩
    ·exact absurd h he
    ·exact h,rfl,by rw[e];exact hW,hk.kh h,by rw[e];exact hR w W d ((KeptG.refl _ _).kh h) h0 hk⟩
   generalize PW R (pwithin C.tk C.en o c d f) C h s w=Q at*
   clear hP HP hf h0 hR hC
   unfold PC.p at*
   go_enter Tryz.func122,Tryz.ntmps122
   go_wp2_with fail
   refine HI.out.mono ?_
   rintro e w1 ⟨rfl,hb⟩
   have HB:=Lib.hid hb
   have HN1:=Lib.hid (HN.out w1 hb)
   clear hb HN HI
   go_wp2_with fail
   refine HN1.out.mono ?_
   rintro e w2 ⟨rfl,hp2,hk2⟩
   have HK:=Lib.hid ((KeptG.of_below HB.out).trans hk2)
   have HM1:=Lib.hid (HM.out w2 hp2)
   clear HB hp2 hk2 HN1 HM
   go_wp2_with fail
   refine HM1.out.mono ?_
   rintro e w3 hq
   obtain⟨⟨x,rfl⟩,hp3,hk3⟩:=HMe.out _ _ _ hq
   obtain⟨⟨b,c4⟩,hq3⟩:=HE.out w3 (HK.out.trans hk3) hp3
   have HQ:=Lib.hid hq3
   clear hq hp3 hk3 HK HM1 HMe HE hq3
   go_wp2_with fail
   try go_end0
   exact HQ.out
 ·have hp:=Bool.eq_false_iff.2 hp
  rw[hp]at HI
  have e1:pm1 C.tk C.en o s=pfail C.tk C.en 11 s:=by unfold pm1 pmust;rw[hp];rfl
  have e:pwithin C.tk C.en o c d f s=(d,pfail C.tk C.en 11 s):=by
   unfold pwithin
   simp only[hp,Bool.false_eq_true,if_false]
   rw[e1,if_neg (pfail_er 11 s)]
  have HM:=Lib.hid (fun W (hb:Below w.heap.size w W)=>must1_any C s o W (hP.up hb) ho)
  have HE:Hid (∀W e0 W',Below w.heap.size w W→PE Vt (pmust C.tk C.en [o]) C s W e0 W'→(∃x,e0= .returned (.string x))∧(∃b:Nat,W'.cell? ⟨C.g,4,none⟩=some (.iface 87 (.pointer (some ⟨b,0,none⟩))))∧PW R (pwithin C.tk C.en o c d f) C h s w (.returned (.tuple #[])) W'):=fun W e0 W' hb ⟨v,e2,h1,h2,h3⟩=>by
   have h2:PSt C (pm1 C.tk C.en o s) W':=h2
   rw[e1]at h2
   have hk:=(KeptG.of_below hb).trans h3
   refine⟨⟨(pmust C.tk C.en [o] s).1,by rw[e2,show v= .string _ from h1]⟩, ?_,rfl,by rw[e];exact h2,hk.kh h,by rw[e];exact hR w W' d ((KeptG.refl _ _).kh h) h0 hk⟩
   rcases err_cell h2 with ⟨h,_⟩ | ⟨_,h⟩
   ·exact absurd h (pfail_er 11 s)
   ·exact h
  generalize PW R (pwithin C.tk C.en o c d f) C h s w=Q at*
  clear hP HP hf h0 hR hC
  unfold PC.p at*
  go_enter Tryz.func122,Tryz.ntmps122
  go_wp2_with fail
  refine HI.out.mono ?_
  rintro e w1 ⟨rfl,hb⟩
  have HB:=Lib.hid hb
  have HM1:=Lib.hid (HM.out w1 hb)
  clear hb HM HI
  go_wp2_with fail
  refine HM1.out.mono ?_
  rintro e w2 hq
  obtain⟨⟨x,rfl⟩,⟨b,c4⟩,hq2⟩:=HE.out w1 _ w2 HB.out hq
  have HQ:=Lib.hid hq2
  clear hq HM1 HE HB hq2
  go_wp2_with fail
  try go_end0
  exact HQ.out
end
section
open Go.RowKit
theorem slotImp {T:Type}{sh sh':Pak.Sh T}{S:Nat→Prop}{w:World}{v:Value}{xs:List T}(hk:sh.k=sh'.k)(h:∀cs x,sh.rel S w cs x→sh'.rel S w cs x)(k:Pak.Slot sh S w v xs):Pak.Slot sh' S w v xs:=by
 obtain⟨a,cap,e,h1,h2⟩:=k
 refine⟨a,cap,e,h1,fun i hi=> ?_⟩
 obtain⟨b,off,cs,e,hb,hc,hr⟩:=h2 i hi
 exact⟨b,off,cs,e,hb,by rw[←hk];exact hc,h cs _ hr⟩
theorem exprUp:∀(n:Nat) {S:Nat→Prop} {w:World} {cs:List Value} {e:ET},(exprSh n).rel S w cs e→(exprSh (n+1)).rel S w cs e
 | 0,_,_,_,_,h=>h.elim
 | n+1,S,w,cs,e,⟨v,h1,h2,h3⟩=>⟨v,h1,h2,slotImp (by rw[exprSh_k,exprSh_k]) (fun cs x h=>exprUp n h) h3⟩
theorem condUp:∀(n:Nat) {S:Nat→Prop} {w:World} {cs:List Value} {e:CT},(condSh n).rel S w cs e→(condSh (n+1)).rel S w cs e
 | 0,_,_,_,_,h=>h.elim
 | n+1,S,w,cs,e,⟨u,v,h1,h2,h3,h4⟩=>⟨u,v,h1,h2,slotImp (by rw[exprSh_k,exprSh_k]) (fun cs x h=>exprUp n h) h3,slotImp (by rw[condSh_k,condSh_k]) (fun cs x h=>condUp n h) h4⟩
theorem assnUp:∀(n:Nat) {S:Nat→Prop} {w:World} {cs:List Value} {e:AT},(assnSh n).rel S w cs e→(assnSh (n+1)).rel S w cs e
 | 0,_,_,_,_,h=>h.elim
 | n+1,S,w,cs,e,⟨cc,ce,cv,v,h1,h2,h3,h4,h5,h6⟩=>⟨cc,ce,cv,v,h1,h2,condUp n h3,exprUp n h4,exprUp n h5,slotImp (by rw[assnSh_k,assnSh_k]) (fun cs x h=>assnUp n h) h6⟩
theorem stmtUp:∀(n:Nat) {S:Nat→Prop} {w:World} {cs:List Value} {e:ST},(stmtSh n).rel S w cs e→(stmtSh (n+1)).rel S w cs e
 | 0,_,_,_,_,h=>h.elim
 | n+1,S,w,cs,e,⟨ce,cv,cc,ca,v1,v2,v3,v4,v5,h,h0,⟨h1,h2,h3,h4⟩,⟨h5,h6,h7⟩,h8,h9⟩=>⟨ce,cv,cc,ca,v1,v2,v3,v4,v5,h,h0,⟨exprUp n h1,exprUp n h2,condUp n h3,assnUp n h4⟩,⟨slotImp (by rw[exprSh_k,exprSh_k]) (fun cs x h=>exprUp n h) h5,slotImp (by rw[exprSh_k,exprSh_k]) (fun cs x h=>exprUp n h) h6,h7⟩,slotImp (by rw[stmtSh_k,stmtSh_k]) (fun cs x h=>stmtUp n h) h8,slotImp (by rw[stmtSh_k,stmtSh_k]) (fun cs x h=>stmtUp n h) h9⟩
theorem procUp (n:Nat){S:Nat→Prop}{w:World}{cs:List Value}{e:QT}:(procSh n).rel S w cs e→(procSh (n+1)).rel S w cs e
 | ⟨v1,v2,ca,cb,v3,h,h0,h1,h2,h3,h4,h5⟩=>⟨v1,v2,ca,cb,v3,h,h0,h1,h2,assnUp n h3,assnUp n h4,slotImp (by rw[stmtSh_k,stmtSh_k]) (fun cs x h=>stmtUp n h) h5⟩
section
variable {T:Type}
def anySh (sh:Nat→Pak.Sh T)(k:Nat)(hk:∀n,(sh n).k=k):Pak.Sh T:=
 ⟨k,fun S w cs x=>∃n,(sh n).rel S w cs x,fun⟨n,h⟩=>by rw[(sh n).len h,hk n],fun⟨n,h⟩=>(sh n).one h,fun hS hw ⟨n,h⟩=>⟨n,(sh n).keep hS hw h⟩⟩
def exX:Pak.Sh ET:=anySh exprSh 4 exprSh_k
def cnX:Pak.Sh CT:=anySh condSh 3 condSh_k
def asX:Pak.Sh AT:=anySh assnSh 15 assnSh_k
def stX:Pak.Sh ST:=anySh stmtSh 35 stmtSh_k
def qtX:Pak.Sh QT:=anySh procSh 34 procSh_k
theorem upTo {sh:Nat→Pak.Sh T}(hup:∀n {S:Nat→Prop} {w:World} {cs:List Value} {x:T},(sh n).rel S w cs x→(sh (n+1)).rel S w cs x){S:Nat→Prop}{w:World}{cs:List Value}{x:T}{n:Nat}(h:(sh n).rel S w cs x):∀ {m},n≤m→(sh m).rel S w cs x:=fun {m} hm=>by
 obtain⟨k,rfl⟩:∃k,m=n+k:=⟨m - n,by omega⟩
 clear hm
 induction k with
 | zero=>exact h
 | succ k ih=>exact hup _ ih
theorem all_n (P:Nat→Nat→Prop)(hP:∀i n m,n≤m→P i n→P i m):∀k,(∀i,i<k→∃n,P i n)→∃n,∀i,i<k→P i n
 | 0,_=>⟨0,fun i h=>absurd h (Nat.not_lt_zero i)⟩
 | k+1,h=>by
   obtain⟨n,hn⟩:=all_n P hP k (fun i hi=>h i (Nat.lt_succ_of_lt hi))
   obtain⟨m,hm⟩:=h k (Nat.lt_succ_self k)
   refine⟨n+m,fun i hi=> ?_⟩
   rcases Nat.lt_or_ge i k with h1 | h1
   ·exact hP i n _ (Nat.le_add_right _ _) (hn i h1)
   ·obtain rfl:i=k:=by omega
    exact hP i m _ (Nat.le_add_left _ _) hm
theorem slot_layers {sh:Nat→Pak.Sh T}{k:Nat}(hk:∀n,(sh n).k=k)(hup:∀n {S:Nat→Prop} {w:World} {cs:List Value} {x:T},(sh n).rel S w cs x→(sh (n+1)).rel S w cs x){S:Nat→Prop}{w:World}{v:Value}{xs:List T}(h:Pak.Slot (anySh sh k hk) S w v xs):∃n,∀m,n≤m→Pak.Slot (sh m) S w v xs:=by
 obtain⟨a,cap,e,h1,h2⟩:=h
 obtain⟨n,hn⟩:=all_n (fun i n=>∀hi:i<xs.length,∃b off cs,a=some ⟨b,off,none⟩∧S b∧(∀j u,cs[j]? =some u→w.cell? ⟨b,off+i*k+j,none⟩=some u)∧(sh n).rel S w cs xs[i])
  (fun i n m hnm hP hi=>by
    obtain⟨b,off,cs,e,hb,hc,hr⟩:=hP hi
    exact⟨b,off,cs,e,hb,hc,upTo hup hr hnm⟩) xs.length (fun i hi=>by
    obtain⟨b,off,cs,e,hb,hc,n,hr⟩:=h2 i hi
    exact⟨n,fun _=>⟨b,off,cs,e,hb,hc,hr⟩⟩)
 refine⟨n,fun m hm=>⟨a,cap,e,h1,fun i hi=> ?_⟩⟩
 obtain⟨b,off,cs,e,hb,hc,hr⟩:=hn i hi hi
 exact⟨b,off,cs,e,hb,by rw[hk];exact hc,upTo hup hr hm⟩
end
theorem exE {S:Nat→Prop}{w:World}{k n:Int}{nm:ByteArray}{v:Value}{ks:List ET}(hk:i64 k)(hn:i64 n)(hnm:nm.size≤maxLen)(h:Pak.Slot exX S w v ks):exX.rel S w [.int .i64 k,.int .i64 n,.string nm,v] (.mk k n nm ks):=by
 obtain⟨m,hm⟩:=slot_layers exprSh_k exprUp h
 exact⟨m+1,v,rfl,⟨hk,hn,hnm⟩,hm m (Nat.le_refl _)⟩
theorem cnE {S:Nat→Prop}{w:World}{k:Int}{u v:Value}{es:List ET}{ks:List CT}(hk:i64 k)(h1:Pak.Slot exX S w u es)(h2:Pak.Slot cnX S w v ks):cnX.rel S w [.int .i64 k,u,v] (.mk k es ks):=by
 obtain⟨m,hm⟩:=slot_layers exprSh_k exprUp h1
 obtain⟨p,hp⟩:=slot_layers condSh_k condUp h2
 exact⟨m+p+1,u,v,rfl,hk,hm _ (by omega),hp _ (by omega)⟩
theorem asE {S:Nat→Prop}{w:World}{k n:Int}{cc ce cv:List Value}{c:CT}{e v:ET}{f:ByteArray}{u:Value}{ks:List AT}(hk:i64 k)(hn:i64 n)(hf:f.size≤maxLen)(h1:cnX.rel S w cc c)(h2:exX.rel S w ce e)(h3:exX.rel S w cv v)(h4:Pak.Slot asX S w u ks):
 asX.rel S w ([.int .i64 k] ++ (cc ++ (ce ++ (cv ++ [.string f,.int .i64 n,u])))) (.mk k c e v f n ks):=by
 obtain⟨m1,h1⟩:=h1
 obtain⟨m2,h2⟩:=h2
 obtain⟨m3,h3⟩:=h3
 obtain⟨m4,h4⟩:=slot_layers assnSh_k assnUp h4
 exact⟨m1+m2+m3+m4+1,cc,ce,cv,u,rfl,⟨hk,hn,hf⟩,upTo condUp h1 (by omega),upTo exprUp h2 (by omega),upTo exprUp h3 (by omega),h4 _ (by omega)⟩
def InS (B:Nat)(w:World)(b:Nat):Prop:=B≤b∧b<w.heap.size
theorem sh_hi {T:Type}{sh:Pak.Sh T}{B B':Nat}{w w':World}{cs:List Value}{x:T}(h:sh.rel (InS B w) w cs x)(k:Hi B w w')(hB:B'≤B):sh.rel (InS B' w') w' cs x:=
 sh.keep (fun b ⟨a1,a2⟩=>⟨Nat.le_trans hB a1,Nat.lt_of_lt_of_le a2 k.size⟩) (fun b o ⟨a1,a2⟩=>World.cell?_of_block (k.block b a1 a2)) h
theorem slot_none {T:Type}(sh:Pak.Sh T)(S:Nat→Prop)(w:World):Pak.Slot sh S w (.slice none 0 0) []:=⟨none,0,rfl,Pak.Sits.nil _ _ _ _⟩
theorem slot_one {T:Type}{sh:Pak.Sh T}{S:Nat→Prop}{w:World}{h:Nat}{cs:List Value}{x:T}(hr:w.rangeAt h 0 cs)(hx:sh.rel S w cs x)(hS:S h):Pak.Slot sh S w (.slice (some ⟨h,0,none⟩) 1 1) [x]:=
 ⟨_,_,rfl,by simp,fun i hi=>by
   obtain rfl:i=0:=by simp at hi;exact hi
   exact⟨h,0,cs,rfl,hS,fun j u hu=>by rw[show 0+0*sh.k+j=0+j by omega];exact hr j u hu,hx⟩⟩
theorem slot_two {T:Type}{sh:Pak.Sh T}{S:Nat→Prop}{w:World}{h:Nat}{cs ds:List Value}{x y:T}(hr:w.rangeAt h 0 (cs ++ ds))(hx:sh.rel S w cs x)(hy:sh.rel S w ds y)(hS:S h):Pak.Slot sh S w (.slice (some ⟨h,0,none⟩) 2 2) [x,y]:=
 ⟨_,_,rfl,by simp,fun i hi=>by
   have hl:=sh.len hx
   match i,hi with
   | 0,_=>exact⟨h,0,cs,rfl,hS,fun j u hu=>by
       rw[show 0+0*sh.k+j=0+j by omega]
       exact hr j u (by rw[List.getElem?_append_left (List.getElem?_eq_some_iff.1 hu).1];exact hu),hx⟩
   | 1,_=>exact⟨h,0,ds,rfl,hS,fun j u hu=>by
       rw[show 0+1*sh.k+j=0+(cs.length+j) by rw[hl];omega]
       exact hr (cs.length+j) u (by rw[List.getElem?_append_right (Nat.le_add_right _ _),Nat.add_sub_cancel_left];exact hu),hy⟩⟩
theorem range_new (w:World)(cs:List Value)(t:TypeId):(w.alloc (.cells cs.toArray t)).rangeAt w.heap.size 0 cs:=fun j v hv=>by
 rw[Nat.zero_add]
 refine(cell_of_row _ _ _ _ _ _ (heap_alloc_new w _)).trans ?_
 rw[List.getElem?_toArray];exact hv
theorem there_new (w:World)(cs:List Value)(t:TypeId):(w.alloc (.cells cs.toArray t)).there w.heap.size 0 cs.length:=fun j hj=>by
 refine⟨(range_new w cs t).isSome j hj, ?_⟩
 exact frozen_of_row _ _ _ _ _ (heap_alloc_new w (.cells cs.toArray t))
theorem KeptG.range {g h o:Nat}{a b:World}(k:KeptG g a b)(hl:h<a.heap.size)(hn:h≠g){cs:List Value}(hr:a.rangeAt h o cs):b.rangeAt h o cs:=fun j v hv=>(k.cell hl hn _).trans (hr j v hv)
theorem KeptG.there {g h o n:Nat}{a b:World}(k:KeptG g a b)(hl:h<a.heap.size)(hn:h≠g)(hr:a.there h o n):b.there h o n:=fun j hj=>by
 rw[k.cell hl hn,k.frozen hl hn];exact hr j hj
def Vx {T:Type}(sh:Pak.Sh T)(w w':World)(v:Value)(x:T):Prop:=∃cs,v= .agg cs.toArray∧sh.rel (InS w.heap.size w') w' cs x
theorem box_fin {T:Type}{sh:Pak.Sh T}{f:PS→T×PS}{C:PC}{s:PS}{w wk w9:World}{z:List Value}{t:TypeId}{cs:List Value}(hp0:C.g<w.heap.size)(hk:KeptG C.g (w.alloc (.cells z.toArray t)) wk)(hp:PSt C (f s).2 wk)(hx:sh.rel (InS (w.heap.size+1) wk) wk cs (f s).1)(hst:Stored w.heap.size 0 cs wk w9)(hz:∀t u,z[1]? ≠some (.iface t u)):
 PE (Vx sh) f C s w (.returned (.agg cs.toArray)) w9:=by
 have hl:w.heap.size<(w.alloc (.cells z.toArray t)).heap.size:=by simp
 have hn:w.heap.size≠C.g:=by omega
 refine⟨_,rfl,⟨cs,rfl, ?_⟩,hp.far hst.far hp0 (fun t' u e=> ?_) hp.g5,((KeptG.alloc C.g w _).trans hk).far hst.far (Nat.le_refl _)⟩
 ·exact sh_hi hx (hst.far.hi (Nat.lt_succ_self _)) (Nat.le_succ _)
 ·rw[hk.cell hl hn]at e
  have:=(cell_of_row (w.alloc (.cells z.toArray t)) w.heap.size 1 _ _ _ (heap_alloc_new w (.cells z.toArray t)))
  rw[this,List.getElem?_toArray]at e
  exact hz _ _ e
end
section
open Go.RowKit
theorem ne_lit {x:ByteArray}(l:List UInt8)(h:¬x=⟨l.toArray⟩):(x.toList == l)=false:=by
 have:=nbs_ne h
 rw[Lib.toList_data ⟨l.toArray⟩]at this
 simpa using this
theorem eq_lit {x:ByteArray}(l:List UInt8)(h:x=⟨l.toArray⟩):(x.toList == l)=true:=by
 rw[h,Lib.toList_data];simp
theorem results_one {fn:Func}{a:Tmp}{ty:TypeId}(h:fn.results= #[.cell a ty])(tmps:Array Value)(P:Program)(w:World)(g:Addr)(v:Value)(ha:tmps[a]?.getD undef= .pointer (some g))(hl:(loadVar ty g).run P w= .ok v w):(results fn tmps).run P w= .ok v w:=by
 simp[results,h,ha,asAddr,hl]
def zEx:List Value:=[.int .i64 0,.int .i64 0,.string ⟨#[]⟩,.slice none 0 0]
theorem zEx_ni:∀t u,zEx[1]? ≠some (.iface t u):=fun t u e=>by cases e
theorem one4 {k n:Int}{nm:ByteArray}{v:Value}(hv:v.oneCell'=true):∀u∈([.int .i64 k,.int .i64 n,.string nm,v]:List Value),u.oneCell'=true:=fun u hu=>by
 simp at hu;rcases hu with rfl | rfl | rfl | rfl<;>first | rfl | exact hv
theorem Tryz.exLoad {w:World}{h:Nat}{cs:List Value}(hr:w.rangeAt h 0 cs)(hl:cs.length=4):(loadVar 57 ⟨h,0,none⟩).run Tryz.prog w= .ok (.agg cs.toArray) w:=
 run_loadVar_mid w h 0 _ cs _ hr Tryz.underlying57 rfl (by rw[hl];kernel_rfl)
theorem pnum_le {C:PC}{s:PS}{w:World}(h:PSt C s w):0≤(pnum C.tk C.en s).1∧(pnum C.tk C.en s).1≤1073741824:=by
 unfold pnum pval
 refine⟨by show(0:Int)≤((_:Nat):Int);omega, ?_⟩
 show((valD (pof C.tk C.en 3 s).1.data.toList 0:Nat):Int)≤_
 by_cases hp:pkd C.tk s=3
 ·obtain⟨h0,hn⟩:=pkd_inv (tk:=C.tk) (s:=s) (by rw[hp];decide)
  have e1:(pof C.tk C.en 3 s).1=(C.tk.getD s.nx tok0).text:=by
   unfold pof;rw[if_pos hp]
   show ptx C.tk s 0=_
   unfold ptx;rw[if_pos ⟨h0,hn⟩];rfl
  have hk:(C.tk.getD s.nx tok0).kind=3:=by
   unfold pkd at hp;rw[if_pos ⟨h0,hn⟩]at hp;exact hp
  have hmem:C.tk.getD s.nx tok0∈C.tk:=by rw[List.getD_eq_getElem?_getD,List.getElem?_eq_getElem hn];exact List.getElem_mem hn
  obtain⟨hs,h3⟩:=h.small _ hmem
  obtain⟨hv,_⟩:=h3 hk
  rw[e1];omega
 ·have e1:(pof C.tk C.en 3 s).1=⟨#[]⟩:=by unfold pof;rw[if_neg hp]
  rw[e1]
  show((0:Nat):Int)≤_
  omega
theorem numE_fin {C:PC}{s:PS}{f:PS→ET×PS}{sg:Int}{w wk w9:World}(hsg:sg=1∨sg= -1)(e:f s=pnumE C.tk C.en sg s)(hp0:C.g<w.heap.size)(h0:PSt C s w)(hk:KeptG C.g (w.alloc (.cells zEx.toArray 57)) wk)(hp:PSt C (pnum C.tk C.en s).2 wk)
 (hst:Stored w.heap.size 0 [.int .i64 0,.int .i64 (sg*(pnum C.tk C.en s).1),.string ⟨#[]⟩,.slice none 0 0] wk w9):PE (Vx exX) f C s w (.returned (.agg #[.int .i64 0,.int .i64 (sg*(pnum C.tk C.en s).1),.string ⟨#[]⟩,.slice none 0 0])) w9:=by
 have hb:=pnum_le h0
 refine box_fin (z:=zEx) hp0 hk (by rw[e];exact hp) (by
  rw[e]
  refine exE (k:=0) (n:=sg*(pnum C.tk C.en s).1) (nm:=⟨#[]⟩) ⟨by decide,by decide⟩ ?_ (by decide) (slot_none _ _ _)
  rcases hsg with rfl | rfl
  ·exact⟨by omega,by omega⟩
  ·exact⟨by omega,by omega⟩) hst zEx_ni
theorem times_0 (C:PC)(s:PS)(sg:Int)(f:PS→ET×PS)(w:World)(h:PSt C s w)(hsg:sg=1∨sg= -1)(hno:¬(pkd C.tk s=3∧ptx C.tk s 1=(⟨#[42]⟩:ByteArray))):
 Calls Tryz.prog 214 #[C.p,.int .i64 sg] w (PE (Vx exX) (ptimes C.tk C.en f sg) C s w):=by
 have hg:=h.lt
 have e:ptimes C.tk C.en f sg s=pnumE C.tk C.en sg s:=by unfold ptimes;rw[if_neg hno]
 have HK:=Lib.hid (kind_any C s _ (h.alloc (.cells zEx.toArray 57)))
 have HT:=Lib.hid (fun W (hb:Below (w.alloc (.cells zEx.toArray 57)).heap.size (w.alloc (.cells zEx.toArray 57)) W)=>text_any C s 1 W ((h.alloc _).up hb) (by omega))
 have HN:=Lib.hid (fun W (hb:Below (w.alloc (.cells zEx.toArray 57)).heap.size (w.alloc (.cells zEx.toArray 57)) W)=>pnumber_any C s W ((h.alloc _).up hb))
 have hb:=pnum_le h
 have hw:IntKind.i64.wrap (sg*(pnum C.tk C.en s).1)=sg*(pnum C.tk C.en s).1:=IntWalk.i64_in _ (by rcases hsg with rfl | rfl<;>omega)
 have HE:Hid (∀W e1 W1,Below (w.alloc (.cells zEx.toArray 57)).heap.size (w.alloc (.cells zEx.toArray 57)) W→PE Vi (pnum C.tk C.en) C s W e1 W1→e1= .returned (.int .i64 (pnum C.tk C.en s).1)∧W1.there w.heap.size 0 4∧∀w9,Stored w.heap.size 0 [.int .i64 0,.int .i64 (sg*(pnum C.tk C.en s).1),.string ⟨#[]⟩,.slice none 0 0] W1 w9→PE (Vx exX) (ptimes C.tk C.en f sg) C s w (.returned (.agg #[.int .i64 0,.int .i64 (sg*(pnum C.tk C.en s).1),.string ⟨#[]⟩,.slice none 0 0])) w9):=fun W e1 W1 hb ⟨v,e2,h1,h2,h3⟩=>by
  have hk:=(KeptG.of_below (g:=C.g) hb).trans h3
  exact⟨by rw[e2,show v= .int .i64 _ from h1],hk.there (by simp) (by omega) (there_new w zEx 57),fun w9 hst=>numE_fin hsg e hg h hk h2 hst⟩
 generalize PE (Vx exX) (ptimes C.tk C.en f sg) C s w=Q at*
 generalize (pnum C.tk C.en s).1=z at*
 unfold PC.p at*
 unfold zEx at*
 clear h hb
 by_cases h3:pkd C.tk s=3
 ·have h4:¬ptx C.tk s 1=(⟨#[42]⟩:ByteArray):=fun h=>hno ⟨h3,h⟩
  rw[h3]at HK
  have hx:=ne_lit [42] h4
  generalize ptx C.tk s 1=x at*
  clear hno e h4
  go_enter Tryz.func214,Tryz.ntmps214
  go_wp2_with fail
  refine HK.out.mono ?_
  rintro e w1 ⟨rfl,hb⟩
  have HB:=Lib.hid hb
  have HT1:=Lib.hid (HT.out w1 hb)
  clear hb HK HT
  go_wp2_with fail
  refine HT1.out.mono ?_
  rintro e w2 ⟨rfl,hb⟩
  have HB2:=Lib.hid (HB.out.trans (hb.mono HB.out.size))
  have HN2:=Lib.hid (HN.out w2 HB2.out)
  clear hb HT1 HB HN
  go_wp2_with fail
  refine HN2.out.mono ?_
  rintro e w3 hq
  obtain⟨rfl,ht,hq3⟩:=HE.out w2 _ w3 HB2.out hq
  have HQ:=Lib.hid hq3
  clear hq HN2 HB2 HE hq3
  go_wp2_with (refine gateS 57 4 rfl ?_;refine wpList_store_there rfl 57 _ _ rfl w.heap.size 0 rfl _ rfl (by kernel_rfl) (one4 rfl) ht ?_;intro w9 hst)
  exact bodyPost_ret (v:= .agg #[.int .i64 0,.int .i64 (sg*z),.string ⟨#[]⟩,.slice none 0 0]) (results_one rfl _ _ _ _ _ rfl (Tryz.exLoad hst.at' rfl)) rfl (HQ.out _ hst)
 ·have hx:(pkd C.tk s != 3)=true:=by simpa using h3
  generalize pkd C.tk s=k at*
  clear hno e
  go_enter Tryz.func214,Tryz.ntmps214
  go_wp2_with fail
  refine HK.out.mono ?_
  rintro e w1 ⟨rfl,hb⟩
  have HB:=Lib.hid hb
  have HN2:=Lib.hid (HN.out w1 hb)
  clear hb HK HN HT
  go_wp2_with fail
  refine HN2.out.mono ?_
  rintro e w3 hq
  obtain⟨rfl,ht,hq3⟩:=HE.out w1 _ w3 HB.out hq
  have HQ:=Lib.hid hq3
  clear hq HN2 HB HE hq3
  go_wp2_with (refine gateS 57 4 rfl ?_;refine wpList_store_there rfl 57 _ _ rfl w.heap.size 0 rfl _ rfl (by kernel_rfl) (one4 rfl) ht ?_;intro w9 hst)
  exact bodyPost_ret (v:= .agg #[.int .i64 0,.int .i64 (sg*z),.string ⟨#[]⟩,.slice none 0 0]) (results_one rfl _ _ _ _ _ rfl (Tryz.exLoad hst.at' rfl)) rfl (HQ.out _ hst)
theorem mulE_fin {C:PC}{s s2:PS}{f g:PS→ET×PS}{sg n:Int}{w wl w9:World}{cs:List Value}{h2:Nat}(hn:i64 (sg*n))(e:(f s)=(.mk 4 (sg*n) (⟨#[]⟩:ByteArray) [(g s2).1],pup (g s2).2))(hp0:C.g<w.heap.size)(hk:KeptG C.g (w.alloc (.cells zEx.toArray 57)) wl)(hp:PSt C (pup (g s2).2) wl)
 (hx:exX.rel (InS (w.heap.size+1) wl) wl cs (g s2).1) (hr:wl.rangeAt h2 0 cs) (hh:w.heap.size+1≤h2∧h2<wl.heap.size)
 (hst:Stored w.heap.size 0 [.int .i64 4,.int .i64 (sg*n),.string ⟨#[]⟩,.slice (some ⟨h2,0,none⟩) 1 1] wl w9):PE (Vx exX) f C s w (.returned (.agg #[.int .i64 4,.int .i64 (sg*n),.string ⟨#[]⟩,.slice (some ⟨h2,0,none⟩) 1 1])) w9:=
 box_fin (z:=zEx) hp0 hk (by rw[e];exact hp) (by
  rw[e]
  exact exE (k:=4) (n:=sg*n) (nm:=⟨#[]⟩) ⟨by decide,by decide⟩ hn (by decide) (slot_one hr hx hh)) hst zEx_ni
theorem ex_form {S:Nat→Prop}{w:World}{cs:List Value}{x:ET}(h:exX.rel S w cs x):∃v,cs=[.int .i64 x.kind,.int .i64 x.n,.string x.name,v]∧(i64 x.kind∧i64 x.n∧x.name.size≤maxLen)∧v.oneCell'=true:=by
 obtain⟨n,h⟩:=h
 cases n with
 | zero=>exact h.elim
 | succ n=>
   obtain⟨v,h1,h2,h3⟩:=h
   exact⟨v,h1,h2,h3.one⟩
end
section
open Go.RowKit
def ProdSaid (n:Nat):Prop:=∀(C:PC) (s:PS) (w:World),PSt C s w→Fu n s→Calls Tryz.prog 199 #[C.p] w (PE (Vx exX) (pprod C.tk C.en n) C s w)
theorem PSt.tick {C:PC}{s:PS}{w:World}(h:PSt C s w):w.cell? ⟨C.g,3,none⟩=some (.int .i64 s.ne)∧w.frozen? ⟨C.g,3,none⟩=false∧IntKind.i64.wrap (s.ne - 1)=s.ne - 1:=by
 have h1:=h.inv.lo
 have h2:=h.inv.hi
 exact⟨h.c3,h.fr 3,IntWalk.i64_in _ (by omega)⟩
theorem penter_ne {tk:List Tok}{en:Nat}{s:PS}(h0:s.er=none):(penter tk en s).ne=s.ne+1:=by
 unfold penter
 split
 ·show(pfail tk en 4 s).ne+1=_;unfold pfail;rw[if_pos h0]
 ·rfl
theorem times_1 (n:Nat)(IH:ProdSaid n)(C:PC)(s:PS)(sg:Int)(w:World)(h:PSt C s w)(hsg:sg=1∨sg= -1)(hf:Fu (n+1) s)(h3:pkd C.tk s=3)(h4:ptx C.tk s 1=(⟨#[42]⟩:ByteArray)):
 Calls Tryz.prog 214 #[C.p,.int .i64 sg] w (PE (Vx exX) (ptimes C.tk C.en (pprod C.tk C.en n) sg) C s w):=by
 have hg:=h.lt
 have h0:s.er=none:=(pkd_inv (tk:=C.tk) (s:=s) (by rw[h3];decide)).1
 obtain⟨hfu,hin⟩:=hf.deep (en:=C.en) h.inv h0
 have e:ptimes C.tk C.en (pprod C.tk C.en n) sg s=pmulE C.tk C.en (pprod C.tk C.en n) sg s:=by unfold ptimes;rw[if_pos ⟨h3,h4⟩]
 obtain⟨s1,hs1⟩:∃s1,s1=penter C.tk C.en s:=⟨_,rfl⟩
 obtain⟨s2,hs2⟩:∃s2,s2=(pnum C.tk C.en s1).2:=⟨_,rfl⟩
 obtain⟨s3,hs3⟩:∃s3,s3=pm1 C.tk C.en (⟨#[42]⟩:ByteArray) s2:=⟨_,rfl⟩
 obtain⟨p,hp⟩:∃p,p=pprod C.tk C.en n s3:=⟨_,rfl⟩
 have e2:ptimes C.tk C.en (pprod C.tk C.en n) sg s=(.mk 4 (sg*(pnum C.tk C.en s1).1) (⟨#[]⟩:ByteArray) [p.1],pup p.2):=by
  rw[e,hp,hs3,hs2,hs1];rfl
 have mv13:Mv C.tk s1 s3:=by rw[hs3,hs2];exact(mv_num _).trans (mv_m1 _ _)
 have mv34:Mv C.tk s3 p.2:=by rw[hp];exact mv_prod n s3
 have hne:1≤p.2.ne:=by
  have a1:=mv13.ne
  have a2:=mv34.ne
  have a3:s1.ne=s.ne+1:=by rw[hs1];exact penter_ne h0
  have:=h.inv.lo
  omega
 have hfu3:Fu n s3:=by
  rw[←hs1]at hfu hin
  exact hfu.mv hin mv13
 have HK:=Lib.hid (kind_any C s _ (h.alloc (.cells zEx.toArray 57)))
 have HT:=Lib.hid (fun W (hb:Below (w.alloc (.cells zEx.toArray 57)).heap.size (w.alloc (.cells zEx.toArray 57)) W)=>text_any C s 1 W ((h.alloc _).up hb) (by omega))
 have HEN:=Lib.hid (fun W (hb:Below (w.alloc (.cells zEx.toArray 57)).heap.size (w.alloc (.cells zEx.toArray 57)) W)=>enter_any C s W ((h.alloc _).up hb) h0)
 have HN:=Lib.hid (fun W (hW:PSt C s1 W)=>pnumber_any C s1 W hW)
 have HM:=Lib.hid (fun W (hW:PSt C s2 W)=>must1_any C s2 (⟨#[42]⟩:ByteArray) W hW (by decide))
 have HP:=Lib.hid (fun W (hW:PSt C s3 W)=>IH C s3 W hW hfu3)
 have XN:Hid (∀W e1 W1,PE Vi (pnum C.tk C.en) C s1 W e1 W1→e1= .returned (.int .i64 (pnum C.tk C.en s1).1)∧PSt C s2 W1∧KeptG C.g W W1):=fun W e1 W1 ⟨v,a1,a2,a3,a4⟩=>⟨by rw[a1,show v= .int .i64 _ from a2],by rw[hs2];exact a3,a4⟩
 have XM:Hid (∀W e1 W1,PE Vt (pmust C.tk C.en [(⟨#[42]⟩:ByteArray)]) C s2 W e1 W1→(∃x,e1= .returned (.string x))∧PSt C s3 W1∧KeptG C.g W W1):=fun W e1 W1 ⟨v,a1,a2,a3,a4⟩=>⟨⟨(pmust C.tk C.en [(⟨#[42]⟩:ByteArray)] s2).1,by rw[a1,show v= .string _ from a2]⟩,by rw[hs3];exact a3,a4⟩
 have hZ:∀W,PSt C s1 W→IntKind.i64.wrap (sg*(pnum C.tk C.en s1).1)=sg*(pnum C.tk C.en s1).1∧i64 (sg*(pnum C.tk C.en s1).1):=fun W hW=>by
  have hb:=pnum_le hW
  rcases hsg with rfl | rfl
  ·exact⟨IntWalk.i64_in _ (by omega),by unfold i64;omega⟩
  ·exact⟨IntWalk.i64_in _ (by omega),by unfold i64;omega⟩
 have HZ:=Lib.hid hZ
 have XP:Hid (∀W e1 W1,KeptG C.g (w.alloc (.cells zEx.toArray 57)) W→i64 (sg*(pnum C.tk C.en s1).1)→PE (Vx exX) (pprod C.tk C.en n) C s3 W e1 W1→
  ∃k m nm v,e1= .returned (.agg #[.int .i64 k,.int .i64 m,.string nm,v])∧v.oneCell'=true∧W1.heap.size+1≠C.g∧
   (∀o1 o2,((W1.alloc o1).alloc o2).cell? ⟨C.g,3,none⟩=some (.int .i64 p.2.ne)∧((W1.alloc o1).alloc o2).frozen? ⟨C.g,3,none⟩=false)∧IntKind.i64.wrap (p.2.ne - 1)=p.2.ne - 1∧
   (∀o1 o2 x,(((W1.alloc o1).alloc o2).setCell ⟨C.g,3,none⟩ x).there w.heap.size 0 4)∧
   ∀o2 w9,Stored w.heap.size 0 [.int .i64 4,.int .i64 (sg*(pnum C.tk C.en s1).1),.string ⟨#[]⟩,.slice (some ⟨W1.heap.size,0,none⟩) 1 1] (((W1.alloc (.cells #[.int .i64 k,.int .i64 m,.string nm,v] 57)).alloc o2).setCell ⟨C.g,3,none⟩ (.int .i64 (p.2.ne - 1))) w9→
    PE (Vx exX) (ptimes C.tk C.en (pprod C.tk C.en n) sg) C s w (.returned (.agg #[.int .i64 4,.int .i64 (sg*(pnum C.tk C.en s1).1),.string ⟨#[]⟩,.slice (some ⟨W1.heap.size,0,none⟩) 1 1])) w9):=fun W e1 W1 hk hn ⟨v0,a1,⟨cs,a2,a3⟩,a4,a5⟩=>by
  rw[←hp]at a3 a4
  obtain⟨v,hcs,_,hv⟩:=ex_form a3
  have hk1:=hk.trans a5
  have hsz:w.heap.size+1≤W1.heap.size:=by have:=hk1.size;simp at this;omega
  have hszW:w.heap.size+1≤W.heap.size:=by have:=hk.size;simp at this;omega
  have hAB:∀o1 o2,KeptG C.g W1 ((W1.alloc o1).alloc o2):=fun o1 o2=>(KeptG.alloc _ _ _).trans (KeptG.alloc _ _ _)
  have hst1:∀o1 o2,PSt C p.2 ((W1.alloc o1).alloc o2):=fun o1 o2=>(a4.alloc o1).alloc o2
  refine⟨p.1.kind,p.1.n,p.1.name,v,by rw[a1,a2,hcs],hv,by omega,fun o1 o2=>⟨(hst1 o1 o2).tick.1,(hst1 o1 o2).tick.2.1⟩,a4.tick.2.2,fun o1 o2 x=> ?_,fun o2 w9 hst=> ?_⟩
  ·exact((hk1.trans (hAB o1 o2)).trans KeptG.set).there (by simp) (by omega) (there_new w zEx 57)
  ·have hkl:=(hk1.trans (hAB (.cells #[.int .i64 p.1.kind,.int .i64 p.1.n,.string p.1.name,v] 57) o2)).trans (KeptG.set (g:=C.g) (j:=3) (v:= .int .i64 (p.2.ne - 1)))
   have hkl1:=(hAB (.cells #[.int .i64 p.1.kind,.int .i64 p.1.n,.string p.1.name,v] 57) o2).trans (KeptG.set (g:=C.g) (j:=3) (v:= .int .i64 (p.2.ne - 1)))
   refine mulE_fin (f:=ptimes C.tk C.en (pprod C.tk C.en n) sg) (g:=pprod C.tk C.en n) (s2:=s3) (n:=(pnum C.tk C.en s1).1) (cs:=[.int .i64 p.1.kind,.int .i64 p.1.n,.string p.1.name,v]) hn (by rw[←hp];exact e2) hg hkl ?_ ?_ ?_ ⟨hsz, ?_⟩ hst
   ·rw[←hp]
    exact(hst1 _ _).nest (s':=pup p.2) ⟨rfl,rfl⟩ (pup_in a4.inv hne) a4.g5
   ·rw[←hp]
    have:=sh_hi (B':=w.heap.size+1) a3 (hkl1.hi (B:=W.heap.size) (by omega)) hszW
    rw[hcs]at this
    exact this
   ·have h5:(W1.alloc (.cells #[.int .i64 p.1.kind,.int .i64 p.1.n,.string p.1.name,v] 57)).rangeAt W1.heap.size 0 [.int .i64 p.1.kind,.int .i64 p.1.n,.string p.1.name,v]:=range_new W1 [.int .i64 p.1.kind,.int .i64 p.1.n,.string p.1.name,v] 57
    exact(((KeptG.alloc C.g _ o2).trans KeptG.set).range (by simp) (by omega) h5)
   ·have:=hkl1.size
    have h6:(((W1.alloc (.cells #[.int .i64 p.1.kind,.int .i64 p.1.n,.string p.1.name,v] 57)).alloc o2).setCell ⟨C.g,3,none⟩ (.int .i64 (p.2.ne - 1))).heap.size=W1.heap.size+2:=by simp[World.setCell]
    omega
 rw[h3]at HK
 rw[h4]at HT
 generalize PE (Vx exX) (ptimes C.tk C.en (pprod C.tk C.en n) sg) C s w=Q at*
 clear e2 e mv13 mv34 hne hfu3 hfu hin hZ hp hs3 hs2
 generalize (pnum C.tk C.en s1).1=z at*
 generalize p.2.ne=y at*
 have hs1':=Lib.hid hs1
 clear hs1
 unfold PC.p at*
 unfold zEx at*
 clear h hf h3 h4 h0
 go_enter Tryz.func214,Tryz.ntmps214
 go_wp2_with fail
 refine HK.out.mono ?_
 rintro e w1 ⟨rfl,hb⟩
 have HB:=Lib.hid hb
 have HT1:=Lib.hid (HT.out w1 hb)
 clear hb HK HT
 go_wp2_with fail
 refine HT1.out.mono ?_
 rintro e w2 ⟨rfl,hb⟩
 have HB2:=Lib.hid (HB.out.trans (hb.mono HB.out.size))
 have HEN2:=Lib.hid (HEN.out w2 HB2.out)
 clear hb HT1 HB HEN
 go_wp2_with fail
 refine HEN2.out.mono ?_
 rintro e w3 ⟨rfl,hp3,hk3⟩
 rw[←hs1'.out]at hp3
 have HK3:=Lib.hid ((KeptG.of_below HB2.out).trans hk3)
 have HN3:=Lib.hid (HN.out w3 hp3)
 obtain⟨hzw,hzi⟩:=HZ.out w3 hp3
 have HZI:=Lib.hid hzi
 clear HB2 hp3 hk3 HEN2 HN HZ hzi
 go_wp2_with fail
 refine HN3.out.mono ?_
 rintro e w4 hq
 obtain⟨rfl,hp4,hk4⟩:=XN.out _ _ _ hq
 have HK4:=Lib.hid (HK3.out.trans hk4)
 have HM4:=Lib.hid (HM.out w4 hp4)
 clear hq hp4 hk4 HK3 HN3 HM XN
 go_wp2_with fail
 refine HM4.out.mono ?_
 rintro e w5 hq
 obtain⟨⟨x5,rfl⟩,hp5,hk5⟩:=XM.out _ _ _ hq
 have HK5:=Lib.hid (HK4.out.trans hk5)
 have HP5:=Lib.hid (HP.out w5 hp5)
 clear hq hp5 hk5 HK4 HM4 HP XM
 go_wp2_with fail
 refine HP5.out.mono ?_
 rintro e w6 hq
 obtain⟨k,m,nm,v,rfl,hv,hne6,hc3,hw3,hth,hfin⟩:=XP.out _ _ _ HK5.out HZI.out hq
 have HF:=Lib.hid hfin
 have HTH:=Lib.hid hth
 have c3:=fun o1 o2=>(hc3 o1 o2).1
 have f3:=fun o1 o2=>(hc3 o1 o2).2
 clear hq HP5 HK5 XP hfin hth hc3
 go_wp2_with (refine gateS 57 4 rfl ?_;refine wpList_store_there rfl 57 _ _ rfl w.heap.size 0 rfl _ rfl (by kernel_rfl) (one4 rfl) (HTH.out _ _ _) ?_;intro w9 hst)
 exact bodyPost_ret (v:= .agg #[.int .i64 4,.int .i64 (sg*z),.string ⟨#[]⟩,.slice (some ⟨w6.heap.size,0,none⟩) 1 1]) (results_one rfl _ _ _ _ _ rfl (Tryz.exLoad hst.at' rfl)) rfl (HF.out _ _ hst)
end
section
open Go.RowKit
section
variable {P:Program}
theorem wpList_store_fresh {ops:Array Oper}{rest:List Oper}{o:Oper}{a:Act}{w:World}{Q:Exit→Act→World→Prop}(hw:Region.wanted o (yielded ops a.tmps)=true)(ty:TypeId)(x y:Operand)(ho:o.op= .store ty x y)
 (c:Array Value) (hx:a.eval x= .pointer (some ⟨w.heap.size,0,none⟩)) (cs:List Value) (hy:a.eval y= .agg cs.toArray) (hi:(P.info? ty).map (·.size)=some cs.length) (hc:c.size=cs.length) (h1:∀u∈cs,u.oneCell'=true)
 (h:wpList P ops Q rest (a.put o.dst undef) (w.alloc (.cells cs.toArray ty))):wpList P ops Q (o :: rest) a (w.alloc (.cells c ty)):=
 wpList_step fun K hK=>by
  rw[if_pos hw]
  unfold Oper.wp execOp
  have:=run_storeAt_new (P:=P) w ty c cs.toArray (by simpa using hi) (by simpa using hc) (Array.all_eq_true_iff_forall_mem.2 (fun u hu=>h1 u (by simpa using hu)))
  simp only[ho,hx,hy,Sem.run_bind,this,Result.andThen_ok]
  exact hK _ _ h
end
def InN (B M:Nat)(w:World)(b:Nat):Prop:=B≤b∧b<w.heap.size∧b≠M
section
variable {T:Type} {sh:Pak.Sh T}
theorem inN_kept {B M g:Nat}{w w':World}{cs:List Value}{x:T}(h:sh.rel (InN B M w) w cs x)(k:KeptG g w w')(hg:g<B):sh.rel (InN B M w') w' cs x:=
 sh.keep (fun b ⟨a1,a2,a3⟩=>⟨a1,Nat.lt_of_lt_of_le a2 k.size,a3⟩) (fun b o ⟨a1,a2,a3⟩=>World.cell?_of_block (k.block b a2 (by omega))) h
theorem inN_far {B M:Nat}{w w':World}{cs:List Value}{x:T}(h:sh.rel (InN B M w) w cs x)(k:Far M w w'):sh.rel (InN B M w') w' cs x:=
 sh.keep (fun b ⟨a1,a2,a3⟩=>⟨a1,by rw[k.size];exact a2,a3⟩) (fun b o ⟨a1,a2,a3⟩=>World.cell?_of_block (k.block b a3)) h
theorem inN_of {B B' M:Nat}{w:World}{cs:List Value}{x:T}(h:sh.rel (InS B' w) w cs x)(hB:B≤B')(hM:M<B'∨w.heap.size≤M):sh.rel (InN B M w) w cs x:=
 sh.keep (fun b ⟨a1,a2⟩=>⟨Nat.le_trans hB a1,a2,by omega⟩) (fun b o _=>rfl) h
theorem inN_s {B M:Nat}{w:World}{cs:List Value}{x:T}(h:sh.rel (InN B M w) w cs x):sh.rel (InS B w) w cs x:=
 sh.keep (fun b ⟨a1,a2,_⟩=>⟨a1,a2⟩) (fun b o _=>rfl) h
structure LP (sh:Pak.Sh T)(C:PC)(w:World)(M:Nat)(s:PS)(x:T)(cs:List Value)(wr:World):Prop where
 ps:PSt C s wr
 gl:C.g<w.heap.size
 ml:w.heap.size+1≤M∧M<wr.heap.size
 kept:KeptG C.g w wr
 box:wr.rangeAt M 0 cs
 th:wr.there M 0 sh.k
 res:wr.there w.heap.size 0 sh.k
 nz:∀t u,wr.cell? ⟨w.heap.size,1,none⟩≠some (.iface t u)
 tree:sh.rel (InN (w.heap.size+1) M wr) wr cs x
theorem LP.len {C:PC}{w wr:World}{M:Nat}{s:PS}{x:T}{cs:List Value}(h:LP sh C w M s x cs wr):cs.length=sh.k:=sh.len h.tree
theorem LP.one {C:PC}{w wr:World}{M:Nat}{s:PS}{x:T}{cs:List Value}(h:LP sh C w M s x cs wr):∀u∈cs,u.oneCell'=true:=sh.one h.tree
theorem LP.start {f:PS→T×PS}{C:PC}{s:PS}{w w1:World}{z cs:List Value}{t t2:TypeId}(hg:C.g<w.heap.size)(hz1:z.length=sh.k)(hz:∀t u,z[1]? ≠some (.iface t u))(h2:PSt C (f s).2 w1)(hk:KeptG C.g (w.alloc (.cells z.toArray t)) w1)(hx:sh.rel (InS (w.heap.size+1) w1) w1 cs (f s).1):
 LP sh C w w1.heap.size (f s).2 (f s).1 cs (w1.alloc (.cells cs.toArray t2)):=by
 have hs:w.heap.size+1≤w1.heap.size:=by have:=hk.size;simp at this;omega
 have hk2:KeptG C.g (w.alloc (.cells z.toArray t)) (w1.alloc (.cells cs.toArray t2)):=hk.trans (KeptG.alloc _ _ _)
 refine⟨h2.alloc _,hg,⟨hs,by simp⟩,(KeptG.alloc _ _ _).trans hk2,range_new _ _ _,by have:=there_new w1 cs t2;rwa [sh.len hx]at this,by have:=hk2.there (by simp) (by omega) (there_new w z t);rwa [hz1]at this,fun t' u e=> ?_, ?_⟩
 ·rw[hk2.cell (by simp) (by omega)]at e
  have:=(cell_of_row (w.alloc (.cells z.toArray t)) w.heap.size 1 _ _ _ (heap_alloc_new w (.cells z.toArray t)))
  rw[this,List.getElem?_toArray]at e
  exact hz _ _ e
 ·exact inN_kept (inN_of (M:=w1.heap.size) hx (Nat.le_refl _) (.inr (Nat.le_refl _))) (KeptG.alloc C.g w1 _) (by omega)
theorem LP.step {C:PC}{w wr w':World}{M:Nat}{s s':PS}{x:T}{cs:List Value}(h:LP sh C w M s x cs wr)(k:KeptG C.g wr w')(hp:PSt C s' w'):LP sh C w M s' x cs w':=by
 have h1:=h.gl
 have h2:=h.ml
 have h3:=h.kept.size
 exact⟨hp,h1,⟨h2.1,Nat.lt_of_lt_of_le h2.2 k.size⟩,h.kept.trans k,k.range h2.2 (by omega) h.box,k.there h2.2 (by omega) h.th,k.there (by omega) (by omega) h.res,fun t u e=>h.nz t u (by rw[k.cell (by omega) (by omega)]at e;exact e),inN_kept h.tree k (by omega)⟩
theorem LP.next {C:PC}{w wr Wc W4 W9:World}{M:Nat}{s s1 s4:PS}{x y z:T}{cs cs2 cs':List Value}{t:TypeId}(h:LP sh C w M s x cs wr)(kc:KeptG C.g wr Wc)(k4:KeptG C.g Wc W4)(hp:PSt C s4 W4)(hy:sh.rel (InS Wc.heap.size W4) W4 cs2 y)
 (hst:Stored M 0 cs' (W4.alloc (.cells (cs ++ cs2).toArray t)) W9) (hni:∃v,cs[1]? =some v∧∀t u,v≠ .iface t u) (hl:cs'.length=sh.k) (hmk:∀S W,Pak.Slot sh S W (.slice (some ⟨W4.heap.size,0,none⟩) 2 2) [x,y]→sh.rel S W cs' z):LP sh C w M s4 z cs' W9:=by
 have h1:=h.gl
 have h2:=h.ml
 have h3:=h.kept.size
 have ka:KeptG C.g W4 (W4.alloc (.cells (cs ++ cs2).toArray t)):=KeptG.alloc _ _ _
 have kk:=(kc.trans k4).trans ka
 have hw:w.heap.size<wr.heap.size:=by omega
 have hwM:w.heap.size≠M:=by omega
 have hbox:=kk.range h2.2 (by omega) h.box
 have hsz:(W4.alloc (.cells (cs ++ cs2).toArray t)).heap.size=W4.heap.size+1:=by simp
 have hcs:=kc.size
 have h4s:=k4.size
 have hfar:=hst.far
 have hM9:M<W9.heap.size:=by rw[hfar.size];omega
 refine⟨(hp.alloc _).far hfar (by omega) (fun t' u e=> ?_) hp.g5,h1,⟨h2.1,hM9⟩,(h.kept.trans kk).far hfar (by omega),hst.at', ?_, ?_,fun t' u e=> ?_, ?_⟩
 ·obtain⟨v,hc,hv⟩:=hni
  have:=hbox 1 v hc
  rw[Nat.zero_add]at this
  rw[this]at e
  injection e with e
  exact hv _ _ e
 ·intro j hj
  rw[hst.fr]
  refine⟨?_,((kk.there h2.2 (by omega) h.th) j hj).2⟩
  exact hst.at'.isSome j (by rw[hl];exact hj)
 ·intro j hj
  have:=kk.there (by omega) (by omega) h.res j hj
  rw[World.cell?_of_block (hfar.block _ hwM),World.frozen?_of_block (hfar.block _ hwM)]
  exact this
 ·rw[World.cell?_of_block (hfar.block _ hwM),kk.cell (by omega) (by omega)]at e
  exact h.nz _ _ e
 ·have hx9:sh.rel (InN (w.heap.size+1) M W9) W9 cs x:=inN_far (inN_kept h.tree kk (by omega)) hfar
  have hy9:sh.rel (InN (w.heap.size+1) M W9) W9 cs2 y:=inN_far (inN_kept (inN_of hy (by omega) (.inl (by omega))) ka (by omega)) hfar
  refine hmk _ _ (slot_two (cs:=cs) (ds:=cs2) ?_ hx9 hy9 ⟨by omega,by rw[hfar.size];omega,by omega⟩)
  intro j v hv
  rw[World.cell?_of_block (hfar.block _ (by show W4.heap.size≠M;omega))]
  exact range_new W4 _ t j v hv
theorem LP.fin {F:PS→T×PS}{C:PC}{w wr w9:World}{M:Nat}{s0 s:PS}{x:T}{cs:List Value}(h:LP sh C w M s x cs wr)(hst:Stored w.heap.size 0 cs wr w9)(e:F s0=(x,s)):PE (Vx sh) F C s0 w (.returned (.agg cs.toArray)) w9:=by
 have h1:=h.gl
 refine⟨_,rfl,⟨cs,rfl, ?_⟩, ?_,h.kept.far hst.far (Nat.le_refl _)⟩
 ·rw[e]
  exact sh_hi (inN_s h.tree) (hst.far.hi (Nat.lt_succ_self _)) (Nat.le_succ _)
 ·rw[e]
  exact h.ps.far hst.far h1 h.nz h.ps.g5
end
end
end Go.Proofs.YtcinokljkieijaaGreatDoor
