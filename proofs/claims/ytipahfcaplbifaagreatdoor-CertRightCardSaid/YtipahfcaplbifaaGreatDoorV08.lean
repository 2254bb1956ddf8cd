/- Parts of a proof. -/
import Derived.Test.YtipahfcaplbifaaGreatDoorV01
import Derived.Test.YtipahfcaplbifaaGreatDoorV03
import Derived.Test.YtipahfcaplbifaaGreatDoorV04
import Derived.Test.YtipahfcaplbifaaGreatDoorV05
import Derived.Test.YtipahfcaplbifaaGreatDoorQ23
import Derived.Test.YtipahfcaplbifaaGreatDoorQ35
set_option linter.unusedVariables false
set_option linter.unusedSimpArgs false
set_option maxHeartbeats 60000000
set_option maxRecDepth 100000
namespace Go.Proofs.YtipahfcaplbifaaGreatDoor
section
open Go.RowKit
theorem value_any:∀(n:Nat) (f:FT) (cs:List Value) (a2:Option Addr) (n2 cap2:Nat) (zs:List Int) (w:World),FLies w.heap.size w n f cs→sndF n f=true→zs.length=n2→Nums w.heap.size w a2 zs→
 Calls Tryz.prog 41 #[.agg cs.toArray,.slice a2 n2 cap2] w (ValEnd w.heap.size (vOf zs n f) w)
 | 0,_,_,_,_,_,_,_,h,_,_,_=>h.elim
 | n+1,f,cs,a2,n2,cap2,zs,w,h,hs,hn2,hz=>by
   have IH:=value_any n
   rcases ownF_kind (sndF_split hs).1 with hk | hk | hk | hk | hk | hk
   ·exact value_0 n f cs a2 n2 cap2 zs w IH h hs hn2 hz hk
   ·exact value_1 n f cs a2 n2 cap2 zs w IH h hs hn2 hz hk
   ·exact value_2 n f cs a2 n2 cap2 zs w IH h hs hn2 hz hk
   ·exact value_3 n f cs a2 n2 cap2 zs w IH h hs hn2 hz hk
   ·exact value_4 n f cs a2 n2 cap2 zs w IH h hs hn2 hz hk
   ·exact value_5 n f cs a2 n2 cap2 zs w IH h hs hn2 hz hk
end
section
open Go.RowKit
theorem cc_snd {n:Nat}{f:FT}(h:cc n f=0):sndF n f=true:=by
 unfold cc ccV at h
 cases hb:sndF n f with
 | true=>rfl
 | false=>rw[hb]at h;split at h<;>(try split at h)<;>cases h
def fvN (zs:List Int)(n:Nat)(f:FT):Bool×Int:=if cc n f=0 then(if(vOf zs n f).2=true then((vOf zs n f).1,0) else(false,1)) else(false,cc n f)
theorem fvalue_any (n:Nat)(f:FT)(cs:List Value)(a2:Option Addr)(n2 cap2:Nat)(zs:List Int)(w:World)(h:FLies w.heap.size w n f cs)(hn2:zs.length=n2)(hz:Nums w.heap.size w a2 zs):
 Calls Tryz.prog 17 #[.agg cs.toArray,.slice a2 n2 cap2] w fun e w'=>e= .returned (.tuple #[.bool (fvN zs n f).1,codeV (fvN zs n f).2])∧Below w.heap.size w w':=by
 have FL:=fun W (hb:Below w.heap.size w W)=>(h.below hb).mono hb.size
 cases n with
 | zero=>exact h.elim
 | succ n=>
   obtain⟨ta,tcap,ka,kcap,rfl,_⟩:=h
   have hs:=Lib.hid (fun W hb=>fcheck_any (n+1) f _ W (FL W hb))
   have hv:=Lib.hid (fun(hc:cc (n+1) f=0) W (hb:Below w.heap.size w W)=>value_any (n+1) f _ a2 n2 cap2 zs W (FL W hb) (cc_snd hc) hn2 ((hz.below hb).mono hb.size))
   have T0:=Lib.hid (box_start w f.kind f.c ta ka f.t.length tcap f.ks.length kcap)
   unfold fvN
   clear FL hz hn2
   generalize vOf zs (n+1) f=p at hv
   generalize cc (n+1) f=k at hs hv
   obtain⟨o,u⟩:=p
   generalize f.kind=fk at T0 hs hv
   generalize f.c=fc at T0 hs hv
   generalize f.t.length=ft at T0 hs hv
   generalize f.ks.length=fl at T0 hs hv
   have n1:=fun W=>Tryz.neNil W
   have n2':=fun W=>Tryz.neCode k W
   by_cases hk:k=0
   ·subst hk
    have hv0:=Lib.hid (hv.out rfl)
    simp only[codeV,if_true]at hs
    clear hv n2'
    cases u with
    | true=>
      go_enter Tryz.func17,Tryz.ntmps17
      go_wp2_with fail
      refine(hs.out _ T0.out.bel).mono ?_
      rintro e w1 ⟨rfl,hb1⟩
      have T1:=Lib.hid (T0.out.below hb1 T0.out.lt)
      clear hb1
      obtain⟨l1,p0,p1,p2,p3,_⟩:=T1.out
      go_wp2_with fail
      refine(hv0.out _ T1.out.bel).mono ?_
      rintro e w2 ⟨rfl,hb2⟩
      have T2:=Lib.hid (T1.out.below hb2 T1.out.lt)
      clear hb2 l1 p0 p1 p2 p3
      go_wp2_with fail
      refine bodyPost_ret (v:= .tuple #[.bool o,.nilIface]) ?_ rfl ⟨by simp[codeV],T2.out.bel⟩
      simp[results,Tryz.results17,go_sem]
    | false=>
      go_enter Tryz.func17,Tryz.ntmps17
      go_wp2_with fail
      refine(hs.out _ T0.out.bel).mono ?_
      rintro e w1 ⟨rfl,hb1⟩
      have T1:=Lib.hid (T0.out.below hb1 T0.out.lt)
      clear hb1
      obtain⟨l1,p0,p1,p2,p3,_⟩:=T1.out
      go_wp2_with fail
      refine(hv0.out _ T1.out.bel).mono ?_
      rintro e w2 ⟨rfl,hb2⟩
      have T2:=Lib.hid (T1.out.below hb2 T1.out.lt)
      clear hb2 l1 p0 p1 p2 p3
      go_wp2_with fail
      refine bodyPost_ret (v:= .tuple #[.bool false,.iface 60 (.int .i64 1)]) ?_ rfl ⟨by simp[codeV],T2.out.bel⟩
      simp[results,Tryz.results17,go_sem]
   ·have e3:codeV k= .iface 60 (.int .i64 k):=by unfold codeV;rw[if_neg hk]
    rw[if_neg hk]
    show Calls _ _ _ _ fun e w'=>e= .returned (.tuple #[.bool false,codeV k])∧_
    rw[e3]at hs⊢
    clear hv e3 n1
    go_enter Tryz.func17,Tryz.ntmps17
    go_wp2_with fail
    refine(hs.out _ T0.out.bel).mono ?_
    rintro e w1 ⟨rfl,hb1⟩
    have T1:=Lib.hid (T0.out.below hb1 T0.out.lt)
    clear hb1
    go_wp2_with fail
    refine bodyPost_ret (v:= .tuple #[.bool false,.iface 60 (.int .i64 k)]) ?_ rfl ⟨rfl,T1.out.bel⟩
    simp[results,Tryz.results17,go_sem]
end
section
def valsF (zs:List Int)(n:Nat)(f:FT):List Bool:=(atomsF n f).map (leB zs) ++ (tF zs n f).1
theorem cnf_right (zs:List Int)(n:Nat)(f:FT)(hm:madeF n f=true):(valsF zs n f).length=(makF n f).n∧Prp.valB (makF n f).cl (valsF zs n f)=true∧Prp.valB [[(makF n f).lit]] (valsF zs n f)=(tF zs n f).2:=by
 have hA:∀k (h:k<(atomsF n f).length),(valsF zs n f)[k]? =some (leB zs (atomsF n f)[k]):=fun k h=>by
  unfold valsF
  rw[List.getElem?_append_left (by rw[List.length_map];exact h)]
  simp[h]
 have hv:Agr (valsF zs n f) (atomsF n f).length (tF zs n f).1:=fun i hi=>by
  unfold valsF
  rw[List.getElem?_append_right (by rw[List.length_map];omega),List.length_map,show(atomsF n f).length+i - (atomsF n f).length=i by omega]
 obtain⟨t1,t2,t3,t4⟩:=ts (atomsF n f) zs (valsF zs n f) hA n f (atomsF n f).length [] hm (gat_has n f [] hm) hv
 refine⟨?_, ?_, ?_⟩
 ·show _=(mkF (atomsF n f) n f (atomsF n f).length []).n
  rw[t1]
  unfold valsF
  rw[List.length_append,List.length_map]
 ·refine List.all_eq_true.2 fun c hc=> ?_
  rcases t4 c hc with h | h
  ·cases h
  ·exact h
 ·show Prp.valB [[(mkF (atomsF n f) n f (atomsF n f).length []).lit]] _=_
  unfold Prp.valB
  simp only[List.all_cons,List.all_nil,Bool.and_true,any_one]
  exact t2
theorem vTo_all {zs:List Int}{n:Nat}{b:Bool}{ks:List FT}:∀k,k≤ks.length→(vTo zs n b ks k).2=true→∀i,i<k→(vOf zs n (ks.getD i default)).2=true
 | 0,_,_,i,hi=>absurd hi (Nat.not_lt_zero i)
 | k+1,hk,h,i,hi=>by
   rw[vTo_succ zs n b ks k hk]at h
   have h:((vTo zs n b ks k).2 && (vOf zs n (ks.getD k default)).2)=true:=h
   rw[Bool.and_eq_true]at h
   by_cases e:i=k
   ·subst e;exact h.2
   ·exact vTo_all k (by omega) h.1 i (by omega)
theorem vOf_x {zs:List Int}{n:Nat}{f:FT}(h:f.kind=5∨f.kind=6):vOf zs (n+1) f=vTo zs n (f.kind == 5) f.ks f.ks.length:=by
 rw[vOf,if_neg (by omega),if_neg (by omega),if_neg (by omega),if_neg (by omega)]
 unfold vTo
 rw[List.take_length]
theorem tF_val (zs:List Int):∀(n:Nat) (f:FT),madeF n f=true→(vOf zs n f).2=true→(tF zs n f).2=(vOf zs n f).1
 | 0,f,hm,_=>by cases hm
 | n+1,f,hm,hv=>by
   have hmk:=made_kids hm
   rcases made_kind hm with hk | hk | hk | hk | hk | hk
   ·rw[tF,if_pos hk,vOf,if_pos hk]
   ·rw[tF,if_neg (by omega),if_pos hk,vOf,if_neg (by omega),if_pos hk]
   ·rw[tF_2 hk]
    rw[vOf,if_neg (by omega),if_neg (by omega),if_pos (.inl hk)]at hv⊢
    split at hv
    ·rename_i hn
     rw[if_pos hn]
     unfold leB rvI
     rw[if_pos hn,decide_eq_true hk,Bool.and_true]
     show decide (sAt f.c f.t zs f.t.length≤0)=(decide _ || decide _)
     by_cases h1:sAt f.c f.t zs f.t.length=0
     ·rw[decide_eq_true h1,decide_eq_true (by omega)];rfl
     ·by_cases h2:sAt f.c f.t zs f.t.length<0
      ·rw[decide_eq_false h1,decide_eq_true h2,decide_eq_true (by omega)];rfl
      ·rw[decide_eq_false h1,decide_eq_false h2,decide_eq_false (by omega)];rfl
    ·cases hv
   ·rw[tF_4 hk]
    rw[vOf,if_neg (by omega),if_neg (by omega),if_neg (by omega),if_pos hk]at hv⊢
    have hl:=(made_not hm hk).1
    show(!(tF zs n (f.ks.getD 0 default)).2)= !_
    rw[tF_val zs n _ (hmk 0 (by omega)) hv]
   all_goals
    rw[tF_x (by omega)]
    rw[vOf_x (by omega)]at hv⊢
    have hall:=vTo_all f.ks.length (Nat.le_refl _) hv
   ·simp only[hk,if_true]
    have:∀k,k≤f.ks.length→(tTo zs n f.ks k).2.1=(vTo zs n true f.ks k).1:=fun k=>by
     induction k with
     | zero=>exact fun _=>rfl
     | succ k ih=>
       intro hk2
       rw[tTo_succ zs n f.ks k hk2,vTo_succ zs n true f.ks k hk2]
       show((tTo zs n f.ks k).2.1 && (tF zs n (f.ks.getD k default)).2)=if((vOf zs n (f.ks.getD k default)).1 != true)=true then !true else(vTo zs n true f.ks k).1
       rw[tF_val zs n _ (hmk k hk2) (hall k hk2),ih (by omega)]
       cases (vOf zs n (f.ks.getD k default)).1<;>simp
    exact this _ (Nat.le_refl _)
   ·simp only[hk,show ¬((6:Int)=5) by decide,if_false]
    have:∀k,k≤f.ks.length→(tTo zs n f.ks k).2.2=(vTo zs n false f.ks k).1:=fun k=>by
     induction k with
     | zero=>exact fun _=>rfl
     | succ k ih=>
       intro hk2
       rw[tTo_succ zs n f.ks k hk2,vTo_succ zs n false f.ks k hk2]
       show((tTo zs n f.ks k).2.2 || (tF zs n (f.ks.getD k default)).2)=if((vOf zs n (f.ks.getD k default)).1 != false)=true then !false else(vTo zs n false f.ks k).1
       rw[tF_val zs n _ (hmk k hk2) (hall k hk2),ih (by omega)]
       cases (vOf zs n (f.ks.getD k default)).1<;>simp
    exact this _ (Nat.le_refl _)
theorem lit_of {B:Nat}{w:World}:∀ {n:Nat} {f:FT} {cs:List Value},FLies B w n f cs→sndF n f=true→siz n f≤4096→litF n f
 | 0,_,_,h,_,_=>h.elim
 | n+1,f,cs,h,hs,hz=>by
   obtain⟨ta,tcap,ka,kcap,_,_,_,_,hks⟩:=h
   obtain⟨ho,hk⟩:=sndF_split hs
   have hsz:=sizTo_len n f
   have hpos:∀i,i<f.ks.length→1≤siz n (f.ks.getD i default):=fun i hi=>by
    obtain⟨_,_,_,_,_,_,_,_,_,_,_,_,hf⟩:=hks i hi
    cases n with
    | zero=>exact hf.elim
    | succ n=>exact siz_pos n _
   have hle:∀i,i≤f.ks.length→i≤sizTo n f.ks i:=fun i=>by
    induction i with
    | zero=>exact fun _=>Nat.zero_le _
    | succ i ih=>
      intro hi
      have h1:=ih (by omega)
      have h2:=hpos i hi
      rw[sizTo_succ n f.ks i hi]
      omega
   have hl:=hle f.ks.length (Nat.le_refl _)
   refine⟨?_,by omega,fun i hi=> ?_⟩
   ·rcases ownF_kind ho with h0 | h0 | h0 | h0 | h0 | h0
    ·unfold ownF ownV at ho
     rw[if_pos (.inl h0)]at ho
     simp at ho
     first | omega | simp[ho]
    ·unfold ownF ownV at ho
     rw[if_pos (.inr h0)]at ho
     simp at ho
     first | omega | simp[ho]
    ·have:=(snd_iff.1 (ownF_form ho h0)).2.1
     omega
    ·unfold ownF ownV at ho
     rw[if_neg (by omega),if_neg (by omega),if_pos h0]at ho
     simp at ho
     first | omega | simp[ho]
    ·unfold ownF ownV at ho
     rw[if_neg (by omega),if_neg (by omega),if_neg (by omega),if_pos (.inl h0)]at ho
     simp at ho
     first | omega | simp[ho]
    ·unfold ownF ownV at ho
     rw[if_neg (by omega),if_neg (by omega),if_neg (by omega),if_pos (.inr h0)]at ho
     simp at ho
     first | omega | simp[ho]
   ·obtain⟨_,_,_,_,_,_,_,_,_,_,_,_,hf⟩:=hks i hi
    have h1:=sizTo_succ n f.ks i hi
    have h2:=sizTo_mono n f.ks (i:=i+1) (j:=f.ks.length) hi
    exact lit_of hf (hk i hi) (by omega)
end
section
open Go.RowKit
theorem gat_sound:∀(n:Nat) (f:FT) (am:List (Int×List (Int×Int))),madeF n f=true→(∀x∈am,snd x.1 x.2=true)→∀x∈gatF n f am,snd x.1 x.2=true
 | 0,f,am,hm,_=>by cases hm
 | n+1,f,am,hm,h=>by
   have hk:=made_kids hm
   have hto:∀i,i≤f.ks.length→∀x∈gatTo n f.ks am i,snd x.1 x.2=true:=fun i=>by
    induction i with
    | zero=>exact fun _=>h
    | succ i ih=>
      intro hi
      rw[gatTo_succ n f.ks am i hi]
      exact gat_sound n _ _ (hk i hi) (ih (by omega))
   rw[gatTo_len]
   split
   ·rename_i h2
    unfold addA
    split
    ·intro x hx
     rcases List.mem_append.1 hx with hx | hx
     ·exact hto _ (Nat.le_refl _) x hx
     ·rw[List.mem_singleton]at hx
      subst hx
      exact(made_snd hm h2).1
    ·exact hto _ (Nat.le_refl _)
   ·exact hto _ (Nat.le_refl _)
theorem right_val {zs:List Int}{n:Nat}{f:FT}(hk:nrmK (n+1) f=0)(hv:(fvN zs (n+1) f).2=0)(hm:madeF (n+3) (nrmT (n+1) f)=true):(tF zs (n+3) (nrmT (n+1) f)).2=(fvN zs (n+1) f).1:=by
 obtain⟨hc,g,hg,e⟩:=nrmK_ok hk
 have hs:=(cc_sound hc).2.2
 have hv2:(vOf zs (n+1) f).2=true∧(fvN zs (n+1) f).1=(vOf zs (n+1) f).1:=by
  unfold fvN at hv⊢
  rw[if_pos hc]at hv⊢
  split at hv
  ·rename_i h
   exact⟨h,by rw[if_pos h]⟩
  ·cases hv
 have hval:=normF_val hs hg hv2.1 (n+1) (Nat.le_refl _)
 rw[e]at hm⊢
 rw[tF_val zs (n+3) g hm (by rw[show vOf zs (n+3) g=_ from hval]),hv2.2,show vOf zs (n+3) g=_ from hval]
 rfl
theorem form_of {B:Nat}{w:World}{n:Nat}{f:FT}{cs:List Value}(h:FLies B w n f cs):∃(k c:Int) (a:Option Addr) (m cap:Nat) (ka:Option Addr) (kn kcap:Nat),cs=[.int .i64 k,.int .i64 c,.slice a m cap,.slice ka kn kcap]:=by
 cases n with
 | zero=>exact h.elim
 | succ n=>
   obtain⟨ta,tcap,ka,kcap,rfl,_⟩:=h
   exact⟨_,_,_,_,_,_,_,_,rfl⟩
theorem norm_all (n:Nat)(f:FT)(cs:List Value)(w:World)(h:FLies w.heap.size w n f cs):
 Calls Tryz.prog 30 #[.agg cs.toArray] w (Ans w.heap.size (n+2) (nrmT n f) (codeV (nrmK n f)) w):=by
 by_cases h0:cc n f=0
 ·obtain⟨_,h2,h3⟩:=cc_sound h0
  exact(norm_both n f cs w (lit_of h h3 h2) h).1
 ·have C1:=fun W (hb:Below w.heap.size w W)=>fcheck_any n f _ W ((h.below hb).mono hb.size)
  obtain⟨k,c,a,m,cap,ka,kn,kcap,rfl⟩:=form_of h
  unfold nrmT nrmK
  rw[if_neg h0,if_neg h0]
  have e:codeV (cc n f)= .iface 60 (.int .i64 (cc n f)):=by unfold codeV;rw[if_neg h0]
  rw[e]at C1⊢
  exact(nnorm_bad k c _ a ka m cap kn kcap w C1).mono fun _ _ h=>h.up (by omega)
end
end Go.Proofs.YtipahfcaplbifaaGreatDoor
