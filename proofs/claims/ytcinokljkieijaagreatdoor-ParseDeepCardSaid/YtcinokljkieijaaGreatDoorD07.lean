/- Parts of a proof. -/
import Derived.Test.YtcinokljkieijaaGreatDoorD01
import Derived.Test.YtcinokljkieijaaGreatDoorD02
import Derived.Test.YtcinokljkieijaaGreatDoorD03
import Derived.Test.YtcinokljkieijaaGreatDoorD04
import Derived.Test.YtcinokljkieijaaGreatDoorD05
import Derived.Test.YtcinokljkieijaaGreatDoorD06
import Derived.Test.YtcinokljkieijaaGreatDoorQ18
import Derived.Test.YtcinokljkieijaaGreatDoorRows
import Derived.BigQuiet
set_option linter.unusedVariables false
set_option linter.unusedSimpArgs false
set_option maxHeartbeats 60000000
set_option maxRecDepth 100000
namespace Go.Proofs.YtcinokljkieijaaGreatDoor
section
open Go.RowKit
theorem deep_said:DeepSaid:=fun k n hk hn=>⟨fun h=>by
 match k,hk with
 | 0,_=>exact deep_all (by decide) deep_ok0 n (Nat.zero_le _) (by omega)
 | 1,_=>exact deep_all (by decide) deep_ok1 n (Nat.zero_le _) (by omega)
 | 2,_=>exact deep_all (by decide) deep_ok2 n (Nat.zero_le _) (by omega)
 | 3,_=>exact deep_all (by decide) deep_ok3 n (Nat.zero_le _) (by omega)
 | 4,_=>exact deep_fit4 n h,fun h=>deep_fail k n hk h⟩
theorem parseDeep_any (hup:UpSaid14)(n kd:Int)(w:World)(hk: -9223372036854775808≤kd∧kd≤9223372036854775807)(hL:Laid14 w):
 Calls Tryz.prog 4 #[.int .i64 n,.int .i64 kd] w fun e w'=>e= .returned (.bool true)∧Below w.heap.size w w':=by
 have h1:kd.tmod 5<5:=Int.tmod_lt_of_pos _ (by decide)
 have h2: -5<kd.tmod 5:=Int.lt_tmod_of_pos _ (by decide)
 obtain⟨K,hK,hm⟩:∃K:Nat,K<5∧((K=0∧kd.tmod 5=0∧¬kd.tmod 5<0)∨(K=1∧kd.tmod 5=1∧¬kd.tmod 5<0)∨(K=2∧kd.tmod 5=2∧¬kd.tmod 5<0)∨(K=3∧kd.tmod 5=3∧¬kd.tmod 5<0)∨(K=4∧kd.tmod 5=4∧¬kd.tmod 5<0)∨(K=1∧kd.tmod 5= -1∧kd.tmod 5<0)∨(K=2∧kd.tmod 5= -2∧kd.tmod 5<0)∨(K=3∧kd.tmod 5= -3∧kd.tmod 5<0)∨(K=4∧kd.tmod 5= -4∧kd.tmod 5<0)):=by
  generalize kd.tmod 5=m at*
  rcases(show m=0∨m=1∨m=2∨m=3∨m=4∨m= -1∨m= -2∨m= -3∨m= -4 by omega)with rfl | rfl | rfl | rfl | rfl | rfl | rfl | rfl | rfl
  ·exact⟨0,by decide,by decide⟩
  ·exact⟨1,by decide,by decide⟩
  ·exact⟨2,by decide,by decide⟩
  ·exact⟨3,by decide,by decide⟩
  ·exact⟨4,by decide,by decide⟩
  ·exact⟨1,by decide,by decide⟩
  ·exact⟨2,by decide,by decide⟩
  ·exact⟨3,by decide,by decide⟩
  ·exact⟨4,by decide,by decide⟩
 by_cases h0:n<0∨(¬n<0∧200<n)
 ·exact deep_few hup deep_said n h0 kd hk K hK hm w hL
 ·obtain⟨N,rfl⟩:=Int.eq_ofNat_of_zero_le (show 0≤n by omega)
  exact deep_in hup deep_said N (by omega) kd hk K hK hm w hL
end
section
open Go.ChangeShapes Go.WideShapes Go.ChangeAt Go.RowKit
theorem parseDeep_lifted (hup:UpSaid14)(os:Os)(started:os.Started)(H:Type)(enc:TypeId×Value→H):
 ReturnsInHanded {} Tryz.checked os 4 .any (fun w args=>(Rows.parseDeepSpec.pre enc Tryz.prog Tryz.f4 [] false w args∧laidMetH Tryz.prog laidL w)∧sizedMet enc Tryz.prog Tryz.f4 (OpenSpec.ofChange Rows.parseDeepSpec) false w args)
  (Rows.parseDeepSpec.post enc Tryz.prog Tryz.f4 false true false false):=by
 refine returnsInHanded_of_change_and (C:=Tryz.checked) (X:=fun w _=>laidMetH Tryz.prog laidL w) (fun _ _ _ hh h=>h.of_heap hh) Tryz.own started (by kernel_rfl) Tryz.func4
  (ChangeSpec.witness_at (enc:=enc) (C:=Tryz.checked) (os:=os) (X:=fun w _=>laidMetH Tryz.prog laidL w) false (laidWorld os) #[.int .i64 0,.int .i64 0] 8 rfl (by kernel_rfl) (by kernel_rfl) (by kernel_rfl) (by kernel_rfl) (by kernel_rfl) (laidWorld_met os _)) ?_
 intro W base args ds gs before hval0 hW _ _ hL _
 have hval:∀(j:Nat) t v,Tryz.f4.params[j]? =some t→args[j]? =some v→Value.okWide Tryz.prog W .any base t v:=hval0
 have hW':=hW
 obtain⟨p,q,hA0,hV,rfl,hfz,hnd⟩:=hW
 have hA:DataW.TrodAll enc Tryz.prog W 0 (fun _=>true) true Tryz.f4.params.toList args.toList ds p:=hA0
 rw[Tryz.params4]at hA hval
 obtain⟨v0,vs0,d0,ds0,p0,q0,hargs,rfl,rfl,h0,r0⟩:=trodAll_cons hA
 obtain⟨v1,vs1,d1,ds1,p1,q1,rfl,rfl,rfl,h1,r1⟩:=trodAll_cons r0
 obtain⟨rfl,rfl,rfl⟩:=trodAll_nil r1
 obtain rfl:args= #[v0,v1]:=by cases args;simp_all
 obtain⟨rfl,rfl⟩:=trodVars_none hV
 have k0:=h0
 have lt0:∀x∈p0,x.block<W.heap.size:=by obtain⟨m,hm⟩:=k0;exact DataW.trod_lt m _ _ _ hm
 have k1:=h1
 have lt1:∀x∈p1,x.block<W.heap.size:=by obtain⟨m,hm⟩:=k1;exact DataW.trod_lt m _ _ _ hm
 obtain⟨n,rfl,_,_,wf0⟩:=open_int Tryz.underlying3 (hval 0 3 v0 rfl rfl) h0
 obtain⟨kd,rfl,_,_,wf1⟩:=open_int Tryz.underlying3 (hval 1 3 v1 rfl rfl) h1
 have hg:=handle_of_laid hL
 clear hA0 hval0
 refine(parseDeep_any hup n kd W (bounds_i64 wf1) hg).mono fun e W' ⟨he,bel⟩=> ?_
 subst he
 exact⟨_,rfl,_,_,_,[],_,[],hW',trodAll_mk1 (shut_bool Tryz.underlying4 _),(trodAll_cons_mk (Below.trod Tryz.laidOut (by kernel_rfl) (of_decide_eq_true (by kernel_rfl)) k0 bel lt0) (trodAll_cons_mk (Below.trod Tryz.laidOut (by kernel_rfl) (of_decide_eq_true (by kernel_rfl)) k1 bel lt1) trodAll_mk0)),rfl,bel.frame _,fun h=>by cases h⟩
theorem parseDeep_over (hup:UpSaid14):Rows.ParseDeepSaid:=
 OpenClaim.holds_of_wide 4 Tryz.f4 rfl rfl rfl rfl rfl rfl rfl ⟨rfl,rfl,rfl,rfl,rfl⟩ rfl rfl rfl rfl rfl (by kernel_rfl) Tryz.func4 (by kernel_rfl)
  (of_decide_eq_true (by kernel_rfl)) (by unfold Func.isWrapper;first | (rw[if_pos (by decide+kernel)];kernel_rfl) | (rw[if_neg (by decide+kernel)];exact⟨rfl,rfl⟩))
  (fun os started H enc _=>parseDeep_lifted hup os started H enc)
end
end Go.Proofs.YtcinokljkieijaaGreatDoor
