/- Parts of a proof. -/
import Derived.Test.YtfinhpfjokpcfaaGreatDoorQ05
import Derived.Test.YtfinhpfjokpcfaaGreatDoorQ08
import Derived.Test.YtfinhpfjokpcfaaGreatDoorQ34
import Derived.Test.YtfinhpfjokpcfaaGreatDoorQ35
import Derived.Test.YtfinhpfjokpcfaaGreatDoorRows
import Derived.BigQuiet
set_option linter.unusedVariables false
set_option linter.unusedSimpArgs false
set_option maxHeartbeats 60000000
set_option maxRecDepth 100000
namespace Go.Proofs.YtfinhpfjokpcfaaGreatDoor
section
open Go.RowKit
theorem box_two {cs ds:List Value}{t u:TypeId}{w W:World}(hb:Below ((w.alloc (.cells cs.toArray t)).alloc (.cells ds.toArray u)).heap.size ((w.alloc (.cells cs.toArray t)).alloc (.cells ds.toArray u)) W):(∀(o:Nat) v,cs[o]? =some v→W.cell? ⟨w.heap.size,o,none⟩=some v)∧(∀(o:Nat) v,ds[o]? =some v→W.cell? ⟨w.heap.size+1,o,none⟩=some v):=by
 have h1:Below (w.alloc (.cells cs.toArray t)).heap.size (w.alloc (.cells cs.toArray t)) ((w.alloc (.cells cs.toArray t)).alloc (.cells ds.toArray u)):=box_low
 refine⟨fun o v hv=>box_at hv (h1.trans (hb.mono h1.size)),fun o v hv=> ?_⟩
 have:=box_at (w:=w.alloc (.cells cs.toArray t)) hv hb
 rwa [show(w.alloc (.cells cs.toArray t)).heap.size=w.heap.size+1 by simp]at this
def sVal (e:ET)(c:CT):ST:= .mk ⟨0,⟨#[]⟩,⟨#[]⟩,⟨#[]⟩,e,zE,c,zA,[],[],[]⟩ [] []
theorem sVal_rel {n:Nat}{S:Nat→Prop}{w:World}{ce cc:List Value}{e:ET}{c:CT}(h:(exprSh (n+2)).rel S w ce e)(h2:(condSh (n+2)).rel S w cc c):(stmtSh (n+3)).rel S w ([.int .i64 0,.string ⟨#[]⟩,.string ⟨#[]⟩,.string ⟨#[]⟩] ++ (ce ++ (zEc ++ (cc ++ (zAc ++ [.slice none 0 0,.slice none 0 0,.slice none 0 0,.slice none 0 0,.slice none 0 0]))))) (sVal e c):=
 ⟨ce,zEc,cc,zAc,_,_,_,_,_,rfl,⟨show(-9223372036854775808≤(0:Int)∧(0:Int)≤9223372036854775807) from⟨by decide,by decide⟩,Nat.zero_le _,Nat.zero_le _,Nat.zero_le _⟩,⟨h,zE_rel (n+1) S w,h2,zA_rel n S w⟩,⟨slot_nil _ _ _,slot_nil _ _ _,slot_nil _ _ _⟩,slot_nil _ _ _,slot_nil _ _ _⟩
theorem exR_code (k:Int)(x:Int×Bool):0≤(exR k x).2∧(exR k x).2≤16:=by
 unfold exR
 split
 ·split<;>simp
 ·simp
theorem coR_code (k:Int)(x:Bool×Bool):0≤(coR k x).2∧(coR k x).2≤16:=by
 unfold coR
 split
 ·split<;>simp
 ·simp
theorem holdsValues_any (hup:UpSaid18)(n:Nat)(e:ET)(ce:List Value)(c:CT)(cc:List Value)(xs:List (ByteArray×Int))(av:Option Addr)(cv m:Nat)(w:World)(hm:xs.length=m)(he:(exprSh (n+2)).rel (Pak.Lo w.heap.size) w ce e)(hc:(condSh (n+2)).rel (Pak.Lo w.heap.size) w cc c)(hx:Pak.Sits varSh (Pak.Lo w.heap.size) w av xs)(hL:Laid w):
 Calls Tryz.prog 3 #[.agg ce.toArray,.agg cc.toArray,.slice av m cv] w fun e w'=>e= .returned (.bool true)∧Below w.heap.size w w':=by
 obtain⟨u3,k3,rfl⟩:=expr_form he
 obtain⟨u1,k1,u2,k2,rfl⟩:=cond_form hc
 have HA:Hid (Below w.heap.size w ((w.alloc (.cells #[.int .i64 e.kind,.int .i64 e.n,.string e.name,.slice u3 e.ks.length k3] 24)).alloc (.cells #[.int .i64 c.kind,.slice u1 c.es.length k1,.slice u2 c.ks.length k2] 27))):=Lib.hid (box_low.alloc (by simp) _)
 have HB0:Hid (Below ((w.alloc (.cells #[.int .i64 e.kind,.int .i64 e.n,.string e.name,.slice u3 e.ks.length k3] 24)).alloc (.cells #[.int .i64 c.kind,.slice u1 c.es.length k1,.slice u2 c.ks.length k2] 27)).heap.size ((w.alloc (.cells #[.int .i64 e.kind,.int .i64 e.n,.string e.name,.slice u3 e.ks.length k3] 24)).alloc (.cells #[.int .i64 c.kind,.slice u1 c.es.length k1,.slice u2 c.ks.length k2] 27)) ((w.alloc (.cells #[.int .i64 e.kind,.int .i64 e.n,.string e.name,.slice u3 e.ks.length k3] 24)).alloc (.cells #[.int .i64 c.kind,.slice u1 c.es.length k1,.slice u2 c.ks.length k2] 27))):=Below.refl _ _
 have HQ:=Lib.hid (fun W (hb:Below ((w.alloc (.cells #[.int .i64 e.kind,.int .i64 e.n,.string e.name,.slice u3 e.ks.length k3] 24)).alloc (.cells #[.int .i64 c.kind,.slice u1 c.es.length k1,.slice u2 c.ks.length k2] 27)).heap.size ((w.alloc (.cells #[.int .i64 e.kind,.int .i64 e.n,.string e.name,.slice u3 e.ks.length k3] 24)).alloc (.cells #[.int .i64 c.kind,.slice u1 c.es.length k1,.slice u2 c.ks.length k2] 27)) W)=>box_two (cs:=[.int .i64 e.kind,.int .i64 e.n,.string e.name,.slice u3 e.ks.length k3]) (ds:=[.int .i64 c.kind,.slice u1 c.es.length k1,.slice u2 c.ks.length k2]) hb)
 have HUP:=Lib.hid (hup ((w.alloc (.cells #[.int .i64 e.kind,.int .i64 e.n,.string e.name,.slice u3 e.ks.length k3] 24)).alloc (.cells #[.int .i64 c.kind,.slice u1 c.es.length k1,.slice u2 c.ks.length k2] 27)) (hL.up HA.out))
 have HSM:=Lib.hid (fun W (hW:Below w.heap.size w W)=>smallS_any (n+3) [sVal e c] (some ⟨W.heap.size,0,none⟩) 1 1 (W.alloc (.cells #[.int .i64 0,.string ⟨#[]⟩,.string ⟨#[]⟩,.string ⟨#[]⟩,.int .i64 e.kind,.int .i64 e.n,.string e.name,.slice u3 e.ks.length k3,.int .i64 0,.int .i64 0,.string ⟨#[]⟩,.slice none 0 0,.int .i64 c.kind,.slice u1 c.es.length k1,.slice u2 c.ks.length k2,.int .i64 0,.int .i64 0,.slice none 0 0,.slice none 0 0,.int .i64 0,.int .i64 0,.string ⟨#[]⟩,.slice none 0 0,.int .i64 0,.int .i64 0,.string ⟨#[]⟩,.slice none 0 0,.string ⟨#[]⟩,.int .i64 0,.slice none 0 0,.slice none 0 0,.slice none 0 0,.slice none 0 0,.slice none 0 0,.slice none 0 0] 37)) rfl (sits_block (heap_alloc_new W _) (by simp) (sVal_rel (rel_low he (hW.alloc hW.size _)) (rel_low hc (hW.alloc hW.size _)))))
 have F1:=Lib.hid (fun W (hW:Below w.heap.size w W)=>hExpr_any n e _ xs av cv W (rel_low he hW) (hx.below hW hW.size) (hL.up hW))
 have F2:=Lib.hid (fun W (hW:Below w.heap.size w W)=>hCond_any n c _ xs av cv W (rel_low hc hW) (hx.below hW hW.size) (hL.up hW))
 have F3:=Lib.hid (fun W (hW:Below w.heap.size w W)=>rExpr_any n e _ xs av cv W (rel_low he hW) (hx.below hW hW.size))
 have F4:=Lib.hid (fun W (hW:Below w.heap.size w W)=>rCond_any n c _ xs av cv W (rel_low hc hW) (hx.below hW hW.size))
 rw[hm]at F1 F2 F3 F4
 have hmm:m≤9223372036854775807:=by rw[←hm];exact hx.1
 have FC:=Lib.hid (exR_code (ekE n e) (valE (fun s=>varOf s xs) (n+2) e))
 have HC:=Lib.hid (coR_code (ckC n c) (truC (fun s=>varOf s xs) (n+2) c))
 clear he hc hx hL hup hm
 generalize exR (ekE n e) (valE (fun s=>varOf s xs) (n+2) e)=ft at*
 generalize coR (ckC n c) (truC (fun s=>varOf s xs) (n+2) c)=hd at*
 obtain⟨fl,fk⟩:=ft
 obtain⟨hl,hk⟩:=hd
 dsimp only at FC HC
 go_enter Tryz.func3,Tryz.ntmps3
 go_wp2_with fail
 refine HUP.out.mono ?_
 rintro r w1 ⟨rfl,hb⟩
 have H1:=Lib.hid (HB0.out.trans hb)
 have W1:=Lib.hid (HA.out.trans (H1.out.mono HA.out.size))
 clear hb HUP
 have q0:=(HQ.out _ H1.out).1 0 _ rfl
 have q1:=(HQ.out _ H1.out).1 1 _ rfl
 have q2:=(HQ.out _ H1.out).1 2 _ rfl
 have q3:=(HQ.out _ H1.out).1 3 _ rfl
 have r0:=(HQ.out _ H1.out).2 0 _ rfl
 have r1:=(HQ.out _ H1.out).2 1 _ rfl
 have r2:=(HQ.out _ H1.out).2 2 _ rfl
 have HS1:=Lib.hid (HSM.out _ W1.out)
 have W1A:=Lib.hid (W1.out.alloc W1.out.size (.cells #[.int .i64 0,.string ⟨#[]⟩,.string ⟨#[]⟩,.string ⟨#[]⟩,.int .i64 e.kind,.int .i64 e.n,.string e.name,.slice u3 e.ks.length k3,.int .i64 0,.int .i64 0,.string ⟨#[]⟩,.slice none 0 0,.int .i64 c.kind,.slice u1 c.es.length k1,.slice u2 c.ks.length k2,.int .i64 0,.int .i64 0,.slice none 0 0,.slice none 0 0,.int .i64 0,.int .i64 0,.string ⟨#[]⟩,.slice none 0 0,.int .i64 0,.int .i64 0,.string ⟨#[]⟩,.slice none 0 0,.string ⟨#[]⟩,.int .i64 0,.slice none 0 0,.slice none 0 0,.slice none 0 0,.slice none 0 0,.slice none 0 0,.slice none 0 0] 37))
 have H1A:=Lib.hid (H1.out.alloc H1.out.size (.cells #[.int .i64 0,.string ⟨#[]⟩,.string ⟨#[]⟩,.string ⟨#[]⟩,.int .i64 e.kind,.int .i64 e.n,.string e.name,.slice u3 e.ks.length k3,.int .i64 0,.int .i64 0,.string ⟨#[]⟩,.slice none 0 0,.int .i64 c.kind,.slice u1 c.es.length k1,.slice u2 c.ks.length k2,.int .i64 0,.int .i64 0,.slice none 0 0,.slice none 0 0,.int .i64 0,.int .i64 0,.string ⟨#[]⟩,.slice none 0 0,.int .i64 0,.int .i64 0,.string ⟨#[]⟩,.slice none 0 0,.string ⟨#[]⟩,.int .i64 0,.slice none 0 0,.slice none 0 0,.slice none 0 0,.slice none 0 0,.slice none 0 0,.slice none 0 0] 37))
 clear HSM
 go_wp2_with fail
 refine HS1.out.mono ?_
 rintro r w2 ⟨b,rfl,hbn,hb⟩
 have H2:=Lib.hid (H1A.out.trans (hb.mono H1A.out.size))
 have W2:=Lib.hid (W1A.out.trans (hb.mono W1A.out.size))
 clear hb hbn HS1 q0 q1 q2 q3 r0 r1 r2
 cases b with
 | false=>
   go_wp2_with fail
   go_ret
   exact⟨rfl,W2.out⟩
 | true=>
 by_cases g1:(200:Int)<(m:Int)
 ·have d1:decide ((m:Int) > 200)=true:=decide_eq_true g1
  have d2:decide ((200:Int)<(m:Int))=true:=decide_eq_true g1
  have d3:200<m:=by omega
  clear g1
  go_wp2_with fail
  go_ret
  exact⟨rfl,W2.out⟩
 have d1:decide ((m:Int) > 200)=false:=decide_eq_false g1
 have d2:decide ((200:Int)<(m:Int))=false:=decide_eq_false g1
 have d3:¬ 200<m:=by omega
 clear g1
 have q0:=(HQ.out _ H2.out).1 0 _ rfl
 have q1:=(HQ.out _ H2.out).1 1 _ rfl
 have q2:=(HQ.out _ H2.out).1 2 _ rfl
 have q3:=(HQ.out _ H2.out).1 3 _ rfl
 have r0:=(HQ.out _ H2.out).2 0 _ rfl
 have r1:=(HQ.out _ H2.out).2 1 _ rfl
 have r2:=(HQ.out _ H2.out).2 2 _ rfl
 go_wp2_with fail
 refine(F1.out _ W2.out).mono ?_
 rintro r w3 ⟨rfl,hb⟩
 have H3:=Lib.hid (H2.out.trans (hb.mono H2.out.size))
 have W3:=Lib.hid (HA.out.trans (H3.out.mono HA.out.size))
 clear hb F1 q0 q1 q2 q3 r0 r1 r2
 have q0:=(HQ.out _ H3.out).1 0 _ rfl
 have q1:=(HQ.out _ H3.out).1 1 _ rfl
 have q2:=(HQ.out _ H3.out).1 2 _ rfl
 have q3:=(HQ.out _ H3.out).1 3 _ rfl
 have r0:=(HQ.out _ H3.out).2 0 _ rfl
 have r1:=(HQ.out _ H3.out).2 1 _ rfl
 have r2:=(HQ.out _ H3.out).2 2 _ rfl
 go_wp2_with fail
 refine(F2.out _ W3.out).mono ?_
 rintro r w4 ⟨rfl,hb⟩
 have H4:=Lib.hid (H3.out.trans (hb.mono H3.out.size))
 have W4:=Lib.hid (HA.out.trans (H4.out.mono HA.out.size))
 clear hb F2 q0 q1 q2 q3 r0 r1 r2
 have q0:=(HQ.out _ H4.out).1 0 _ rfl
 have q1:=(HQ.out _ H4.out).1 1 _ rfl
 have q2:=(HQ.out _ H4.out).1 2 _ rfl
 have q3:=(HQ.out _ H4.out).1 3 _ rfl
 have r0:=(HQ.out _ H4.out).2 0 _ rfl
 have r1:=(HQ.out _ H4.out).2 1 _ rfl
 have r2:=(HQ.out _ H4.out).2 2 _ rfl
 go_wp2_with fail
 refine(F3.out _ W4.out).mono ?_
 rintro r w5 ⟨rfl,hb⟩
 have H5:=Lib.hid (H4.out.trans (hb.mono H4.out.size))
 have W5:=Lib.hid (HA.out.trans (H5.out.mono HA.out.size))
 clear hb F3 q0 q1 q2 q3 r0 r1 r2
 have q0:=(HQ.out _ H5.out).1 0 _ rfl
 have q1:=(HQ.out _ H5.out).1 1 _ rfl
 have q2:=(HQ.out _ H5.out).1 2 _ rfl
 have q3:=(HQ.out _ H5.out).1 3 _ rfl
 have r0:=(HQ.out _ H5.out).2 0 _ rfl
 have r1:=(HQ.out _ H5.out).2 1 _ rfl
 have r2:=(HQ.out _ H5.out).2 2 _ rfl
 go_wp2_with fail
 refine(F4.out _ W5.out).mono ?_
 rintro r w6 ⟨rfl,hb⟩
 have H6:=Lib.hid (H5.out.trans (hb.mono H5.out.size))
 have W6:=Lib.hid (HA.out.trans (H6.out.mono HA.out.size))
 clear hb F4 q0 q1 q2 q3 r0 r1 r2
 go_wp2_with fail
 refine(code_er fk _ FC.out.1 FC.out.2).mono ?_
 rintro r w8 ⟨rfl,hb⟩
 have W8:=Lib.hid (W6.out.trans (hb.mono W6.out.size))
 clear hb
 go_wp2_with fail
 refine(code_er hk _ HC.out.1 HC.out.2).mono ?_
 rintro r w9 ⟨rfl,hb⟩
 have W9:=Lib.hid (W8.out.trans (hb.mono W8.out.size))
 clear hb
 go_wp2_with fail
 go_ret
 exact⟨by simp,W9.out⟩
end
section
open Go.ChangeShapes Go.WideShapes Go.RowKit Go.Deep
section
variable {H:Type} {enc:TypeId×Value→H} {w:World} {base:Nat} {spare:Nat→Bool} {held:Bool}
theorem open_expr {r:Reach}{b0:Nat}{v:Value}{d:DataW H}{p:List MemPlace}(hv:Value.okWide Tryz.prog w r b0 24 v)(h:DataW.Trod enc Tryz.prog w base spare held 24 v d p):
 ∃n ca y,v= .agg ca.toArray∧(exprSh (n+2)).rel (Pak.Lo w.heap.size) w ca y:=by
 obtain⟨cs,rfl,hsz⟩:=okWide_struct Tryz.underlying24 hv
 obtain⟨fuel,hf⟩:=h
 obtain⟨y,hy⟩:=opnE fuel hf
 exact⟨fuel,cs.toList,y,by simp,exprSh_up _ (exprSh_up _ hy)⟩
theorem open_cond {r:Reach}{b0:Nat}{v:Value}{d:DataW H}{p:List MemPlace}(hv:Value.okWide Tryz.prog w r b0 27 v)(h:DataW.Trod enc Tryz.prog w base spare held 27 v d p):
 ∃n ca y,v= .agg ca.toArray∧(condSh (n+2)).rel (Pak.Lo w.heap.size) w ca y:=by
 obtain⟨cs,rfl,hsz⟩:=okWide_struct Tryz.underlying27 hv
 obtain⟨fuel,hf⟩:=h
 obtain⟨y,hy⟩:=opnC fuel hf
 exact⟨fuel,cs.toList,y,by simp,condSh_up _ (condSh_up _ hy)⟩
end
theorem exprSh_add (n:Nat){S:Nat→Prop}{w:World}{cs:List Value}{e:ET}(h:(exprSh n).rel S w cs e):∀k,(exprSh (n+k)).rel S w cs e
 | 0=>h
 | k+1=>exprSh_up _ (exprSh_add n h k)
theorem condSh_add (n:Nat){S:Nat→Prop}{w:World}{cs:List Value}{e:CT}(h:(condSh n).rel S w cs e):∀k,(condSh (n+k)).rel S w cs e
 | 0=>h
 | k+1=>condSh_up _ (condSh_add n h k)
theorem holdsValues_two (hup:UpSaid18)(n k:Nat)(e:ET)(ce:List Value)(c:CT)(cc:List Value)(xs:List (ByteArray×Int))(av:Option Addr)(cv m:Nat)(w:World)(hm:xs.length=m)(he:(exprSh (n+2)).rel (Pak.Lo w.heap.size) w ce e)(hc:(condSh (k+2)).rel (Pak.Lo w.heap.size) w cc c)(hx:Pak.Sits varSh (Pak.Lo w.heap.size) w av xs)(hL:Laid w):
 Calls Tryz.prog 3 #[.agg ce.toArray,.agg cc.toArray,.slice av m cv] w fun e w'=>e= .returned (.bool true)∧Below w.heap.size w w':=
 holdsValues_any hup (n+k) e ce c cc xs av cv m w hm (by have:=exprSh_add _ he k;rwa [show n+2+k=n+k+2 by omega]at this) (by have:=condSh_add _ hc n;rwa [show k+2+n=n+k+2 by omega]at this) hx hL
end
section
open Go.ChangeShapes Go.WideShapes Go.ChangeAt Go.RowKit
theorem holdsValues_lifted (hup:UpSaid18)(os:Os)(started:os.Started)(H:Type)(enc:TypeId×Value→H):
 ReturnsInHanded {} Tryz.checked os 3 .any (fun w args=>(Rows.holdsValuesSpec.pre enc Tryz.prog Tryz.f3 [] false w args∧laidMetH Tryz.prog laidL w)∧sizedMet enc Tryz.prog Tryz.f3 (OpenSpec.ofChange Rows.holdsValuesSpec) false w args)
  (Rows.holdsValuesSpec.post enc Tryz.prog Tryz.f3 false true false false):=by
 refine returnsInHanded_of_change_and (C:=Tryz.checked) (X:=fun w _=>laidMetH Tryz.prog laidL w) (fun _ _ _ hh h=>h.of_heap hh) Tryz.own started (by kernel_rfl) Tryz.func3
  (ChangeSpec.witness_at (enc:=enc) (C:=Tryz.checked) (os:=os) (X:=fun w _=>laidMetH Tryz.prog laidL w) false (laidWorld os) #[.agg #[.int .i64 0,.int .i64 0,.string ⟨#[]⟩,.slice none 0 0],.agg #[.int .i64 0,.slice none 0 0,.slice none 0 0],.slice none 0 0] 8 rfl (by kernel_rfl) (by kernel_rfl) (by kernel_rfl) (by kernel_rfl) (by kernel_rfl) (laidWorld_met os _)) ?_
 intro W base args ds gs before hval0 hW _ _ hL _
 have hval:∀(j:Nat) t v,Tryz.f3.params[j]? =some t→args[j]? =some v→Value.okWide Tryz.prog W .any base t v:=hval0
 have hW':=hW
 obtain⟨p,q,hA0,hV,rfl,hfz,hnd⟩:=hW
 have hA:DataW.TrodAll enc Tryz.prog W 0 (fun _=>true) true Tryz.f3.params.toList args.toList ds p:=hA0
 rw[Tryz.params3]at hA hval
 obtain⟨v0,vs0,d0,ds0,p0,q0,hargs,rfl,rfl,h0,r0⟩:=trodAll_cons hA
 obtain⟨v1,vs1,d1,ds1,p1,q1,rfl,rfl,rfl,h1,r1⟩:=trodAll_cons r0
 obtain⟨v2,vs2,d2,ds2,p2,q2,rfl,rfl,rfl,h2,r2⟩:=trodAll_cons r1
 obtain⟨rfl,rfl,rfl⟩:=trodAll_nil r2
 obtain rfl:args= #[v0,v1,v2]:=by cases args;simp_all
 obtain⟨rfl,rfl⟩:=trodVars_none hV
 have k0:=h0
 have lt0:∀x∈p0,x.block<W.heap.size:=by obtain⟨m,hm⟩:=k0;exact DataW.trod_lt m _ _ _ hm
 have k1:=h1
 have lt1:∀x∈p1,x.block<W.heap.size:=by obtain⟨m,hm⟩:=k1;exact DataW.trod_lt m _ _ _ hm
 have k2:=h2
 have lt2:∀x∈p2,x.block<W.heap.size:=by obtain⟨m,hm⟩:=k2;exact DataW.trod_lt m _ _ _ hm
 obtain⟨n0,ce,ye,rfl,re⟩:=open_expr (hval 0 24 v0 rfl rfl) h0
 obtain⟨n1,cc,yc,rfl,rc⟩:=open_cond (hval 1 27 v1 rfl rfl) h1
 obtain⟨av,mv,cv,xs,rfl,lv,sv⟩:=open_vars (hval 2 28 v2 rfl rfl) h2
 have hg:=handle_of_laid hL
 clear hA0 hval0
 refine(holdsValues_two hup n0 n1 ye ce yc cc xs av cv mv W lv re rc sv hg).mono fun e W' ⟨he,bel⟩=> ?_
 subst he
 exact⟨_,rfl,_,_,_,[],_,[],hW',trodAll_mk1 (shut_bool Tryz.underlying4 _),(trodAll_cons_mk (Below.trod Tryz.laidOut (by kernel_rfl) (of_decide_eq_true (by kernel_rfl)) k0 bel lt0) (trodAll_cons_mk (Below.trod Tryz.laidOut (by kernel_rfl) (of_decide_eq_true (by kernel_rfl)) k1 bel lt1) (trodAll_cons_mk (Below.trod Tryz.laidOut (by kernel_rfl) (of_decide_eq_true (by kernel_rfl)) k2 bel lt2) trodAll_mk0))),rfl,bel.frame _,fun h=>by cases h⟩
theorem holdsValues_over (hup:UpSaid18):Rows.HoldsValuesSaid:=
 OpenClaim.holds_of_wide 3 Tryz.f3 rfl rfl rfl rfl rfl rfl rfl ⟨rfl,rfl,rfl,rfl,rfl⟩ rfl rfl rfl rfl rfl (by kernel_rfl) Tryz.func3 (by kernel_rfl)
  (of_decide_eq_true (by kernel_rfl)) (by unfold Func.isWrapper;first | (rw[if_pos (by decide+kernel)];kernel_rfl) | (rw[if_neg (by decide+kernel)];exact⟨rfl,rfl⟩))
  (fun os started H enc _=>holdsValues_lifted hup os started H enc)
end
section
open Go.RowKit
theorem Tryz.infoVar:(Tryz.prog.info? 64).map (fun i=>(i.zero,i.size,i.bytes))=some (some (.agg #[.string ByteArray.empty,.int .i64 0]),2,24):=by kernel_rfl
theorem Tryz.neVar (s:ByteArray)(v:Int)(w:World):(binOp .neq 64 (.agg #[.string s,.int .i64 v]) (.agg #[.string s,.int .i64 v])).run Tryz.prog w= .ok (.bool false) w:=by
 simp[go_sem]
theorem z_step {B g n cap k:Nat}{w0 w:World}(hb:Below B w0 w)(hB:B≤w.heap.size)(hz:ZRow 62 B g n cap w):Below B w0 (put3 w g k hc0)∧ZRow 62 B g n cap (put3 w g k hc0):=by
 obtain⟨s1,s2⟩:=hz.put k hc0
 exact⟨Below.grown hb s2 hB (fun k e=>by injection e with e;rw[←e];exact hz.lt.1),s1⟩
theorem holdsStays_any (hup:UpSaid18)(n:Nat)(a:AT)(ca:List Value)(xs:List (ByteArray×Int))(av:Option Addr)(cv m:Nat)(hs:List HC)(ah:Option Addr)(ch mh:Nat)(w:World)(hm:xs.length=m)(hmh:hs.length=mh)(h:(assnSh (n+3)).rel (Pak.Lo w.heap.size) w ca a)(hx:Pak.Sits varSh (Pak.Lo w.heap.size) w av xs)(hh:HLies w.heap.size w ah hs)(hL:Laid w):
 Calls Tryz.prog 5 #[.agg ca.toArray,.slice av m cv,.slice ah mh ch] w fun e w'=>e= .returned (.bool true)∧Below w.heap.size w w':=by
 have hlen:=((assnSh (n+3)).len h).trans (assnSh_k _)
 have HA:Hid (Below w.heap.size w (w.alloc (.cells ca.toArray 33))):=box_low
 have HB0:Hid (Below (w.alloc (.cells ca.toArray 33)).heap.size (w.alloc (.cells ca.toArray 33)) (w.alloc (.cells ca.toArray 33))):=Below.refl _ _
 have P0:=Lib.hid (fun W (hb:Below (w.alloc (.cells ca.toArray 33)).heap.size (w.alloc (.cells ca.toArray 33)) W)=>box_part (cs:=ca) (l:=ca) (o:=0) (fun i v h=>by rw[Nat.zero_add];exact h) hb)
 have L0:=Lib.hid hlen
 have HUP:=Lib.hid (hup (w.alloc (.cells ca.toArray 33)) (hL.up HA.out))
 have HSM:=Lib.hid (fun W (hW:Below w.heap.size w W)=>smallA_any (n+3) a ca W (rel_low h hW))
 obtain⟨zS,hz⟩:∃z:Bool,Sound hs↔z=true:=by
  classical
  exact⟨decide (Sound hs),by simp⟩
 have HF:=Lib.hid (fun W (hW:Below w.heap.size w W) ov oc (ho:Pak.Sits varSh (Pak.Lo W.heap.size) W ov xs) hsz=>hFoot_any n a ca xs ov oc W (rel_low h hW) ho (hL.up hW) hsz)
 have HH:=Lib.hid (fun W (hW:Below w.heap.size w W) ov oc (ho:Pak.Sits varSh (Pak.Lo W.heap.size) W ov xs) om occ (hmi:HLies W.heap.size W om hs) hle hsz=>hHolds_any n a ca xs ov oc hs om occ zS W (rel_low h hW) ho hmi hle hz (hL.up hW) hsz)
 have RF:=Lib.hid (fun W (hW:Below w.heap.size w W) hsz=>rFoot_any n a ca xs av cv W (rel_low h hW) (hx.below hW hW.size) hsz)
 rw[hm,hmh]at HH
 rw[hm]at HF RF
 have hmm:m≤9223372036854775807:=by rw[←hm];exact hx.1
 have HMH:=Lib.hid hmh
 have HM:=Lib.hid hm
 have HX:=Lib.hid hx
 have HY:=Lib.hid hh
 clear h hx hh hL hup hlen hz hm hmh
 go_enter Tryz.func5,Tryz.ntmps5
 go_wp2_with fail
 refine HUP.out.mono ?_
 rintro r w1 ⟨rfl,hb⟩
 have H1:=Lib.hid (HB0.out.trans hb)
 have W1:=Lib.hid (HA.out.trans (H1.out.mono HA.out.size))
 clear hb HUP
 go_wp2_with (first | go_skip | (refine wpList_load_w (by kernel_rfl) 33 _ rfl ⟨w.heap.size,0,none⟩ rfl ca _ (P0.out _ H1.out) Tryz.underlying33 rfl (by rw[L0.out];kernel_rfl) ?_))
 refine(HSM.out _ W1.out).mono ?_
 rintro r w2 ⟨b,rfl,hbn,hb⟩
 have H2:=Lib.hid (H1.out.trans (hb.mono H1.out.size))
 have W2:=Lib.hid (HA.out.trans (H2.out.mono HA.out.size))
 have HBN:=Lib.hid hbn
 clear hb hbn HSM
 cases b with
 | false=>
   go_wp2_with fail
   go_ret
   exact⟨rfl,W2.out⟩
 | true=>
 have HND:=Lib.hid (HBN.out rfl)
 clear HBN
 by_cases g1:(200:Int)<(m:Int)
 ·have d1:decide ((m:Int) > 200)=true:=decide_eq_true g1
  have d2:decide ((200:Int)<(m:Int))=true:=decide_eq_true g1
  have d3:200<m:=by omega
  clear g1
  go_wp2_with fail
  go_ret
  exact⟨rfl,W2.out⟩
 have d1:decide ((m:Int) > 200)=false:=decide_eq_false g1
 have d2:decide ((200:Int)<(m:Int))=false:=decide_eq_false g1
 have d3:¬ 200<m:=by omega
 clear g1
 by_cases g2:(200:Int)<(mh:Int)
 ·have d4:decide ((mh:Int) > 200)=true:=decide_eq_true g2
  have d5:decide ((200:Int)<(mh:Int))=true:=decide_eq_true g2
  have d6:200<mh:=by omega
  clear g2
  go_wp2_with fail
  go_ret
  exact⟨rfl,W2.out⟩
 have d4:decide ((mh:Int) > 200)=false:=decide_eq_false g2
 have d5:decide ((200:Int)<(mh:Int))=false:=decide_eq_false g2
 have d6:¬ 200<mh:=by omega
 have HHL:Hid (mh≤1000000):=Lib.hid (by omega)
 clear g2
 have SZ0:=Lib.hid (akA_nd (ρ:=fun s=>varOf s xs) (hs:=[]) HND.out)
 have SZ1:=Lib.hid (akA_nd (ρ:=fun s=>varOf s xs) (hs:=hs) HND.out)
 have FC:=Lib.hid (ftR_code (akA n a) (takA (fun s=>varOf s xs) [] (n+3) a))
 have FL:=Lib.hid (ftR_len SZ0.out)
 have F1:=Lib.hid (fun W hW ov oc ho=>HF.out W hW ov oc ho SZ0.out)
 have F2:=Lib.hid (fun W hW ov oc ho om occ hmi=>HH.out W hW ov oc ho om occ hmi HHL.out SZ1.out)
 have F3:=Lib.hid (fun W hW=>RF.out W hW SZ0.out)
 clear HF HH RF SZ0 SZ1 HHL HND
 generalize ftR (akA n a) (takA (fun s=>varOf s xs) [] (n+3) a)=ft at*
 generalize hdR (akA n a) zS (takA (fun s=>varOf s xs) hs (n+3) a)=hd at*
 obtain⟨fl,fk⟩:=ft
 obtain⟨hl,hk⟩:=hd
 dsimp only at FC FL
 obtain⟨i0,hi,hz0,hz1,hz2⟩:=info_parts Tryz.infoVar
 obtain⟨i1,hi1,hy0,hy1,hy2⟩:=info_parts Tryz.infoCell
 have H2A:=Lib.hid (W2.out.alloc W2.out.size (.cells #[] 64))
 obtain⟨oa,oc,w3,hr1,hb3,ho3,_⟩:=run_copy_sits (P:=Tryz.prog) (sh:=varSh) (w2.alloc (.cells #[] 64)) 28 28 64 i0 _ (show 1≤2 by decide) Tryz.underlying28 hi hz0 hz1 (by rw[hz2];decide) rfl w2.heap.size av m cv xs HM.out (HX.out.below H2A.out H2A.out.size) (by omega)
 have hr1:∀ty,(Builtin.append_ #[28,28] ty #[.slice (some ⟨w2.heap.size,0,none⟩) 0 0,.slice av m cv]).run Tryz.prog (w2.alloc (.cells #[] 64))= .ok (.slice oa m oc) w3:=fun ty=>hr1
 have B3:Hid (Below w.heap.size w w3):=Lib.hid (H2A.out.trans (hb3.mono H2A.out.size))
 have H3:Hid (Below (w.alloc (.cells ca.toArray 33)).heap.size (w.alloc (.cells ca.toArray 33)) w3):=Lib.hid ((H2.out.alloc H2.out.size (.cells #[] 64)).trans (hb3.mono (H2.out.alloc H2.out.size (.cells #[] 64)).size))
 obtain⟨g,c4,w4,hr2,ho4,hb4⟩:=run_copy_h (P:=Tryz.prog) 50 50 67 i1 _ Tryz.underlying50 hi1 hy0 hy1 hy2 rfl w3 ah mh ch hs HMH.out ((HY.out.below B3.out).mono B3.out.size) (by omega)
 have hr2:∀ty,(Builtin.append_ #[50,50] ty #[.slice (some ⟨w3.heap.size,0,none⟩) 0 0,.slice ah mh ch]).run Tryz.prog (w3.alloc (.cells #[] 67))= .ok (.slice (some ⟨g,0,none⟩) mh c4) w4:=fun ty=>hr2
 have B4:Hid (Below w.heap.size w w4):=Lib.hid (B3.out.trans (hb4.mono B3.out.size))
 have H4:Hid (Below (w.alloc (.cells ca.toArray 33)).heap.size (w.alloc (.cells ca.toArray 33)) w4):=Lib.hid (H3.out.trans (hb4.mono H3.out.size))
 have OV:Hid (Pak.Sits varSh (Pak.Lo w4.heap.size) w4 oa xs):=Lib.hid (ho3.below hb4 hb4.size)
 obtain⟨ma,mc,e1,hm1,hm2,hml,_⟩:=own_hlies HMH.out ho4
 injection e1 with e1 _ e3
 subst e1 e3
 have OH:=Lib.hid hml
 have UP:Hid (∀W,Below w4.heap.size w4 W→Below w.heap.size w W∧Below (w.alloc (.cells ca.toArray 33)).heap.size (w.alloc (.cells ca.toArray 33)) W):=Lib.hid (fun W hW=>⟨B4.out.trans (hW.mono B4.out.size),H4.out.trans (hW.mono H4.out.size)⟩)
 clear hb3 ho3 hb4 ho4 hi hz0 hz1 hz2 hi1 hy0 hy1 hy2 i0 i1 hm1 hm2 hml
 have C4:Hid (Below w4.heap.size w4 w4):=Below.refl _ _
 have K1:=Lib.hid (fun W (hW:Below w4.heap.size w4 W)=>F1.out W (UP.out W hW).1 oa oc (OV.out.below hW hW.size))
 have K2:=Lib.hid (fun W (hW:Below w4.heap.size w4 W)=>F2.out W (UP.out W hW).1 oa oc (OV.out.below hW hW.size) (some ⟨g,0,none⟩) c4 ((OH.out.below hW).mono hW.size))
 have K3:=Lib.hid (fun W (hW:Below w4.heap.size w4 W)=>F3.out W (UP.out W hW).1)
 have PP:=Lib.hid (fun W (hW:Below w4.heap.size w4 W)=>P0.out _ (UP.out W hW).2)
 clear F1 F2 F3 P0
 go_wp2_with (first | go_skip | (at_builtin;first | refine Lib.wpList_append_run _ rfl _ _ _ _ rfl _ _ rfl rfl _ _ (hr1 _) ?_ | refine Lib.wpList_append_run _ rfl _ _ _ _ rfl _ _ rfl rfl _ _ (hr2 _) ?_) | (refine wpList_load_w (by kernel_rfl) 33 _ rfl ⟨w.heap.size,0,none⟩ rfl ca _ (PP.out _ C4.out) Tryz.underlying33 rfl (by rw[L0.out];kernel_rfl) ?_))
 clear hr1 hr2 H2A B3 H3
 refine(K1.out _ C4.out).mono ?_
 rintro r w5 ⟨v1,rfl,hs1,hb⟩
 have C5:=Lib.hid hb
 have SR5:=Lib.hid hs1
 clear hb hs1
 go_wp2_with (first | go_skip | (refine wpList_load_w (by kernel_rfl) 33 _ rfl ⟨w.heap.size,0,none⟩ rfl ca _ (PP.out _ C5.out) Tryz.underlying33 rfl (by rw[L0.out];kernel_rfl) ?_))
 refine(K2.out _ C5.out).mono ?_
 rintro r w6 ⟨rfl,hb⟩
 have C6:=Lib.hid (C5.out.trans (hb.mono C5.out.size))
 obtain⟨s1,sc1,rfl,hq1,hq2,hq3,hq4⟩:=own_hlies rfl (own_below SR5.out hb)
 have SR6:=Lib.hid (own_below SR5.out hb)
 have HFN:=Lib.hid FL.out
 have hfl:fl.length≤9223372036854775807:=Nat.le_trans hq1 hq2
 have ZS:Hid (fl.length=0∨∃g1,s1=some ⟨g1,0,none⟩∧ZRow 62 w4.heap.size g1 fl.length sc1 w6):=Lib.hid (by
  by_cases e:fl.length=0
  ·exact .inl e
  ·right
   obtain⟨g1,cap',e1,_⟩:=World.ownsRow.form SR6.out (by omega)
   injection e1 with e1 _ e2
   subst e1 e2
   exact⟨g1,rfl,ZRow.of rfl SR6.out⟩)
 clear hb SR5 hq1 hq2 hq3 hq4 SR6
 generalize hfn:fl.length=nf at*
 go_wp2_with fail
 go_loopw [13] (fun i wr=>∃k:Nat,i= .int .i64 k∧k≤nf∧Hid (Below w4.heap.size w4 wr∧(nf=0∨∃g1,s1=some ⟨g1,0,none⟩∧ZRow 62 w4.heap.size g1 nf sc1 wr))) (fun i _=>nf - (intOf i).toNat)
 case atStart=>exact⟨0,rfl,Nat.zero_le _,C6.out,ZS.out⟩
 case round=>
  obtain⟨k,rfl,hk2,hrel⟩:=hrel
  by_cases hlt:k<nf
  ·have hlti:(k:Int)<(nf:Int):=by omega
   obtain⟨g1,rfl,hzr⟩:=hrel.out.2.resolve_left (by omega)
   obtain⟨x,y,z,e1,e2,e3⟩:=hzr.cells hlt
   have f1:=hzr.frozen
   have HFIN:=Lib.hid (z_step (k:=k) hrel.out.1 hrel.out.1.size hzr)
   clear hrel hzr
   go_wp2_with fail
   go_roundw
   case rel=>exact⟨k+1,by go_num,by omega,HFIN.out.1,.inr ⟨g1,rfl,HFIN.out.2⟩⟩
   case measure=>simp[intOf];omega
  ·have hlti:¬(k:Int)<(nf:Int):=by omega
   have C7:=Lib.hid hrel.out.1
   clear hrel
   go_wp2_with (first | go_skip | (refine wpList_load_w (by kernel_rfl) 33 _ rfl ⟨w.heap.size,0,none⟩ rfl ca _ (PP.out _ C7.out) Tryz.underlying33 rfl (by rw[L0.out];kernel_rfl) ?_))
   refine(K1.out _ C7.out).mono ?_
   rintro r w8 ⟨v8,rfl,hs8,hb⟩
   have C8:=Lib.hid (C7.out.trans (hb.mono C7.out.size))
   have S8:=Lib.hid hs8
   clear hb hs8
   go_wp2_with (first | go_skip | (refine wpList_load_w (by kernel_rfl) 33 _ rfl ⟨w.heap.size,0,none⟩ rfl ca _ (PP.out _ C8.out) Tryz.underlying33 rfl (by rw[L0.out];kernel_rfl) ?_))
   refine(K3.out _ C8.out).mono ?_
   rintro r w9 ⟨v9,rfl,hs9,hb⟩
   have C9:=Lib.hid (C8.out.trans (hb.mono C8.out.size))
   obtain⟨t8,tc8,rfl,_,_,hq8,_⟩:=own_hlies rfl (own_below S8.out hb)
   obtain⟨t9,tc9,rfl,_,_,hq9,_⟩:=own_hlies rfl hs9
   have T8:=Lib.hid hq8
   have T9:=Lib.hid hq9
   clear hb hs9 S8 hq8 hq9 K1 K2 K3
   rw[hfn]
   go_wp2_with fail
   rename_i wz
   obtain⟨w9',hw9⟩:∃w9':World,w9'=w9:=⟨_,rfl⟩
   go_loopw [18] (fun i wr=>∃k:Nat,i= .int .i64 k∧k≤m∧Hid (Below w9.heap.size w9 wr)) (fun i _=>m - (intOf i).toNat)
   case atStart=>exact⟨0,rfl,Nat.zero_le _,Below.refl _ _⟩
   case round=>
    obtain⟨q,rfl,hq,hbq⟩:=hrel
    have CQ:=Lib.hid (C9.out.trans (hbq.out.mono C9.out.size))
    by_cases hlq:q<m
    ·have hlqi:(q:Int)<(m:Int):=by omega
     have hqx:q<xs.length:=by rw[HM.out];exact hlq
     obtain⟨b3,off3,cs3,rfl,hb3,hc3,hr3⟩:=(OV.out.below CQ.out CQ.out.size).2 q hqx
     obtain⟨b4,off4,cs4,rfl,hb4,hc4,hr4⟩:=(HX.out.below (UP.out _ CQ.out).1 (UP.out _ CQ.out).1.size).2 q hqx
     obtain⟨rfl,_⟩:=hr3
     obtain⟨rfl,_⟩:=hr4
     have c1:wr.cell? ⟨b3,off3+q*2,none⟩=some (.string xs[q].1):=hc3 0 _ rfl
     have c2:wr.cell? ⟨b3,off3+q*2+1,none⟩=some (.int .i64 xs[q].2):=hc3 1 _ rfl
     have e1:wr.cell? ⟨b4,off4+q*2,none⟩=some (.string xs[q].1):=hc4 0 _ rfl
     have e2:wr.cell? ⟨b4,off4+q*2+1,none⟩=some (.int .i64 xs[q].2):=hc4 1 _ rfl
     clear hc3 hc4
     generalize xs[q]=xq at c1 c2 e1 e2
     obtain⟨sn,sv⟩:=xq
     have hne:∀W,(binOp .neq 64 (.agg #[.string sn,.int .i64 sv]) (.agg #[.string sn,.int .i64 sv])).run Tryz.prog W= .ok (.bool false) W:=fun W=>Tryz.neVar sn sv W
     dsimp only at c1 c2 e1 e2
     clear CQ
     go_wp2_with fail
     go_quiet (fail)
     go_wp2_with fail
     go_roundw
     case rel=>exact⟨q+1,by go_num,by omega,below_drewN2 hbq.out _⟩
     case measure=>simp[intOf];omega
    ·have hlqi:¬(q:Int)<(m:Int):=by omega
     have HS1:=Lib.hid (fun W (hW:Below w4.heap.size w4 W)=>same_any hs hs (some ⟨g,0,none⟩) mh c4 ah mh ch W HMH.out HMH.out (by omega) (by omega) ((OH.out.below hW).mono hW.size) ((HY.out.below (UP.out W hW).1).mono (UP.out W hW).1.size))
     have HS2:=Lib.hid (fun W (hW:Below w9.heap.size w9 W)=>sames_any fl fl t8 nf tc8 t9 nf tc9 W hfn hfn hfl hfl ((T8.out.below hW).mono hW.size) ((T9.out.below hW).mono hW.size))
     clear hfn
     go_wp2_with fail
     refine(HS1.out _ CQ.out).mono ?_
     rintro r wa ⟨ba,rfl,hba,hb⟩
     obtain rfl:ba=true:=hba.2 (by trivial)
     have CA:=Lib.hid (CQ.out.trans (hb.mono CQ.out.size))
     have DA:=Lib.hid (hbq.out.trans (hb.mono hbq.out.size))
     clear hb hba HS1
     go_wp2_with fail
     refine(HS2.out _ DA.out).mono ?_
     rintro r wb ⟨bb,rfl,hbb,hb⟩
     obtain rfl:bb=true:=hbb.2 (by trivial)
     have CB:=Lib.hid (CA.out.trans (hb.mono CA.out.size))
     clear hb hbb HS2
     go_wp2_with fail
     refine(code_er fk _ FC.out.1 FC.out.2).mono ?_
     rintro r wd ⟨rfl,hb⟩
     have CD:=Lib.hid (CB.out.trans (hb.mono CB.out.size))
     clear hb
     go_wp2_with fail
     refine(code_er fk _ FC.out.1 FC.out.2).mono ?_
     rintro r we ⟨rfl,hb⟩
     have CE:=Lib.hid (CD.out.trans (hb.mono CD.out.size))
     clear hb
     go_wp2_with fail
     go_ret
     exact⟨by simp,(UP.out _ CE.out).1⟩
end
section
open Go.ChangeShapes Go.WideShapes Go.ChangeAt Go.RowKit
theorem holdsStays_lifted (hup:UpSaid18)(os:Os)(started:os.Started)(H:Type)(enc:TypeId×Value→H):
 ReturnsInHanded {} Tryz.checked os 5 .any (fun w args=>(Rows.holdsStaysSpec.pre enc Tryz.prog Tryz.f5 [] false w args∧laidMetH Tryz.prog laidL w)∧sizedMet enc Tryz.prog Tryz.f5 (OpenSpec.ofChange Rows.holdsStaysSpec) false w args)
  (Rows.holdsStaysSpec.post enc Tryz.prog Tryz.f5 false true false false):=by
 refine returnsInHanded_of_change_and (C:=Tryz.checked) (X:=fun w _=>laidMetH Tryz.prog laidL w) (fun _ _ _ hh h=>h.of_heap hh) Tryz.own started (by kernel_rfl) Tryz.func5
  (ChangeSpec.witness_at (enc:=enc) (C:=Tryz.checked) (os:=os) (X:=fun w _=>laidMetH Tryz.prog laidL w) false (laidWorld os) #[.agg #[.int .i64 0,.int .i64 0,.slice none 0 0,.slice none 0 0,.int .i64 0,.int .i64 0,.string ⟨#[]⟩,.slice none 0 0,.int .i64 0,.int .i64 0,.string ⟨#[]⟩,.slice none 0 0,.string ⟨#[]⟩,.int .i64 0,.slice none 0 0],.slice none 0 0,.slice none 0 0] 8 rfl (by kernel_rfl) (by kernel_rfl) (by kernel_rfl) (by kernel_rfl) (by kernel_rfl) (laidWorld_met os _)) ?_
 intro W base args ds gs before hval0 hW _ _ hL _
 have hval:∀(j:Nat) t v,Tryz.f5.params[j]? =some t→args[j]? =some v→Value.okWide Tryz.prog W .any base t v:=hval0
 have hW':=hW
 obtain⟨p,q,hA0,hV,rfl,hfz,hnd⟩:=hW
 have hA:DataW.TrodAll enc Tryz.prog W 0 (fun _=>true) true Tryz.f5.params.toList args.toList ds p:=hA0
 rw[Tryz.params5]at hA hval
 obtain⟨v0,vs0,d0,ds0,p0,q0,hargs,rfl,rfl,h0,r0⟩:=trodAll_cons hA
 obtain⟨v1,vs1,d1,ds1,p1,q1,rfl,rfl,rfl,h1,r1⟩:=trodAll_cons r0
 obtain⟨v2,vs2,d2,ds2,p2,q2,rfl,rfl,rfl,h2,r2⟩:=trodAll_cons r1
 obtain⟨rfl,rfl,rfl⟩:=trodAll_nil r2
 obtain rfl:args= #[v0,v1,v2]:=by cases args;simp_all
 obtain⟨rfl,rfl⟩:=trodVars_none hV
 have k0:=h0
 have lt0:∀x∈p0,x.block<W.heap.size:=by obtain⟨m,hm⟩:=k0;exact DataW.trod_lt m _ _ _ hm
 have k1:=h1
 have lt1:∀x∈p1,x.block<W.heap.size:=by obtain⟨m,hm⟩:=k1;exact DataW.trod_lt m _ _ _ hm
 have k2:=h2
 have lt2:∀x∈p2,x.block<W.heap.size:=by obtain⟨m,hm⟩:=k2;exact DataW.trod_lt m _ _ _ hm
 obtain⟨na,ca,ya,rfl,ra⟩:=open_assn (hval 0 33 v0 rfl rfl) h0
 obtain⟨av,mv,cv,xs,rfl,lv,sv⟩:=open_vars (hval 1 28 v1 rfl rfl) h1
 obtain⟨ah,mh,ch,hs,rfl,lh,sh⟩:=open_cells (hval 2 50 v2 rfl rfl) h2
 have hg:=handle_of_laid hL
 clear hA0 hval0
 refine(holdsStays_any hup na ya ca xs av cv mv hs ah ch mh W lv lh ra sv sh hg).mono fun e W' ⟨he,bel⟩=> ?_
 subst he
 exact⟨_,rfl,_,_,_,[],_,[],hW',trodAll_mk1 (shut_bool Tryz.underlying4 _),(trodAll_cons_mk (Below.trod Tryz.laidOut (by kernel_rfl) (of_decide_eq_true (by kernel_rfl)) k0 bel lt0) (trodAll_cons_mk (Below.trod Tryz.laidOut (by kernel_rfl) (of_decide_eq_true (by kernel_rfl)) k1 bel lt1) (trodAll_cons_mk (Below.trod Tryz.laidOut (by kernel_rfl) (of_decide_eq_true (by kernel_rfl)) k2 bel lt2) trodAll_mk0))),rfl,bel.frame _,fun h=>by cases h⟩
theorem holdsStays_over (hup:UpSaid18):Rows.HoldsStaysSaid:=
 OpenClaim.holds_of_wide 5 Tryz.f5 rfl rfl rfl rfl rfl rfl rfl ⟨rfl,rfl,rfl,rfl,rfl⟩ rfl rfl rfl rfl rfl (by kernel_rfl) Tryz.func5 (by kernel_rfl)
  (of_decide_eq_true (by kernel_rfl)) (by unfold Func.isWrapper;first | (rw[if_pos (by decide+kernel)];kernel_rfl) | (rw[if_neg (by decide+kernel)];exact⟨rfl,rfl⟩))
  (fun os started H enc _=>holdsStays_lifted hup os started H enc)
end
end Go.Proofs.YtfinhpfjokpcfaaGreatDoor
