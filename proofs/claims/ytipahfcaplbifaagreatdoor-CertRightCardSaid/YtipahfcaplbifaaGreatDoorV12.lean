/- Parts of a proof. -/
import Derived.Test.YtipahfcaplbifaaGreatDoorV01
import Derived.Test.YtipahfcaplbifaaGreatDoorV02
import Derived.Test.YtipahfcaplbifaaGreatDoorV03
import Derived.Test.YtipahfcaplbifaaGreatDoorV04
import Derived.Test.YtipahfcaplbifaaGreatDoorV05
import Derived.Test.YtipahfcaplbifaaGreatDoorV06
import Derived.Test.YtipahfcaplbifaaGreatDoorV07
import Derived.Test.YtipahfcaplbifaaGreatDoorV08
import Derived.Test.YtipahfcaplbifaaGreatDoorV09
import Derived.Test.YtipahfcaplbifaaGreatDoorV10
import Derived.Test.YtipahfcaplbifaaGreatDoorV11
import Derived.Test.YtipahfcaplbifaaGreatDoorRows
import Derived.BigQuiet
set_option linter.unusedVariables false
set_option linter.unusedSimpArgs false
set_option maxHeartbeats 60000000
set_option maxRecDepth 100000
namespace Go.Proofs.YtipahfcaplbifaaGreatDoor
section
open Go.ChangeShapes Go.WideShapes Go.ChangeAt Go.RowKit
theorem certRight_lifted (hup:UpSaid10)(hbeg:Prp.BeginSaid)(os:Os)(started:os.Started)(H:Type)(enc:TypeId×Value→H):
 ReturnsInHanded {} Tryz.checked os 5 .any (fun w args=>(Rows.certRightSpec.pre enc Tryz.prog Tryz.f5 [] false w args∧laidMetH Tryz.prog laidL w)∧sizedMet enc Tryz.prog Tryz.f5 (OpenSpec.ofChange Rows.certRightSpec) false w args)
  (Rows.certRightSpec.post enc Tryz.prog Tryz.f5 false true false false):=by
 refine returnsInHanded_of_change_and (C:=Tryz.checked) (X:=fun w _=>laidMetH Tryz.prog laidL w) (fun _ _ _ hh h=>h.of_heap hh) Tryz.own started (by kernel_rfl) Tryz.func5
  (ChangeSpec.witness_at (enc:=enc) (C:=Tryz.checked) (os:=os) (X:=fun w _=>laidMetH Tryz.prog laidL w) false (laidWorld os) #[.agg #[.int .i64 0,.int .i64 0,.slice none 0 0,.slice none 0 0],.agg #[.slice none 0 0,.slice none 0 0],.slice none 0 0] 8 rfl (by kernel_rfl) (by kernel_rfl) (by kernel_rfl) (by kernel_rfl) (by kernel_rfl) (laidWorld_met os _)) ?_
 intro W base args ds gs before hval0 hW _ _ hL _
 have hval:∀(j:Nat) t v,Tryz.f5.params[j]? =some t→args[j]? =some v→Value.okWide Tryz.prog W .any base t v:=hval0
 have hW':=hW
 obtain⟨p,q,hA0,hV,rfl,hfz,hnd⟩:=hW
 have hA:DataW.TrodAll enc Tryz.prog W 0 (fun _=>true) true Tryz.f5.params.toList args.toList ds p:=hA0
 rw[Tryz.params5]at hA hval
 obtain⟨v0,vs0,d0,ds0,p0,q0,hargs,rfl,rfl,h0,r0⟩:=trodAll_cons hA
 obtain⟨v1,vs1,d1,ds1,p1,q1,rfl,rfl,rfl,h1,r1⟩:=trodAll_cons r0
 obtain⟨v2,vs2,d2,ds2,p2,q2,rfl,rfl,rfl,h2,r2⟩:=trodAll_cons r1
 obtain⟨rfl,rfl,rfl⟩:=trodAll_nil r2
 obtain rfl:args= #[v0,v1,v2]:=by cases args;simp_all
 obtain⟨rfl,rfl⟩:=trodVars_none hV
 have k0:=h0
 have lt0:∀x∈p0,x.block<W.heap.size:=by obtain⟨m,hm⟩:=k0;exact DataW.trod_lt m _ _ _ hm
 have k1:=h1
 have lt1:∀x∈p1,x.block<W.heap.size:=by obtain⟨m,hm⟩:=k1;exact DataW.trod_lt m _ _ _ hm
 have k2:=h2
 have lt2:∀x∈p2,x.block<W.heap.size:=by obtain⟨m,hm⟩:=k2;exact DataW.trod_lt m _ _ _ hm
 obtain⟨n,f,cs,rfl,hf0⟩:=open_form (hval 0 39 v0 rfl rfl) h0
 obtain⟨la,ln,lcap,lms,ra,rn,rcap,ss,rfl,eln,l63,ern,r63,hlm,hcl,hlen⟩:=open_cert (hval 1 43 v1 rfl rfl) h1
 obtain⟨a2,n2,cap2,zs,rfl,hl2,hx2,hcap2,hnums2,hwf2⟩:=open_nums (hval 2 23 v2 rfl rfl) h2
 have hm2:n2≤9223372036854775807:=by unfold maxLen at hcap2;omega
 have hg:=handle_of_laid hL
 clear hA0 hval0
 have ht:=tens_of_laid hL
 have hG:GivenK n f cs la ln lms ra rn ss W:=⟨hf0.succ,eln,hlm,ern,hcl,l63,r63,hlen⟩
 refine(certRight_any hup hbeg n f cs la ln lcap lms ra rn rcap ss a2 n2 cap2 zs W hG hl2 hm2 hnums2 ht hg).mono fun e W' ⟨he,bel⟩=> ?_
 subst he
 exact⟨_,rfl,_,_,_,[],_,[],hW',trodAll_mk1 (shut_bool Tryz.underlying4 _),(trodAll_cons_mk (Below.trod Tryz.laidOut (by kernel_rfl) (of_decide_eq_true (by kernel_rfl)) k0 bel lt0) (trodAll_cons_mk (Below.trod Tryz.laidOut (by kernel_rfl) (of_decide_eq_true (by kernel_rfl)) k1 bel lt1) (trodAll_cons_mk (Below.trod Tryz.laidOut (by kernel_rfl) (of_decide_eq_true (by kernel_rfl)) k2 bel lt2) trodAll_mk0))),rfl,bel.frame _,fun h=>by cases h⟩
theorem certRight_over (hup:UpSaid10)(hbeg:Prp.BeginSaid):Rows.CertRightSaid:=
 OpenClaim.holds_of_wide 5 Tryz.f5 rfl rfl rfl rfl rfl rfl rfl ⟨rfl,rfl,rfl,rfl,rfl⟩ rfl rfl rfl rfl rfl (by kernel_rfl) Tryz.func5 (by kernel_rfl)
  (of_decide_eq_true (by kernel_rfl)) (by unfold Func.isWrapper;first | (rw[if_pos (by decide+kernel)];kernel_rfl) | (rw[if_neg (by decide+kernel)];exact⟨rfl,rfl⟩))
  (fun os started H enc _=>certRight_lifted hup hbeg os started H enc)
end
end Go.Proofs.YtipahfcaplbifaaGreatDoor
