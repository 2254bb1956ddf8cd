/- Parts of a proof. -/
import Derived.Test.YtfinhpfjokpcfaaDoorQ03
import Derived.Test.YtfinhpfjokpcfaaDoorQ05
import Derived.Test.YtfinhpfjokpcfaaDoorQ06
set_option linter.unusedVariables false
set_option linter.unusedSimpArgs false
set_option maxHeartbeats 60000000
set_option maxRecDepth 100000
namespace Go.Proofs.YtfinhpfjokpcfaaDoor
section
open Go.RowKit
theorem symm_all (B g n cap:Nat)(hn:n≤200):∀d,SymSaid B g n cap d
 | 0=>fun xs a m b W h=>absurd h (Nat.not_lt_zero _)
 | d+1=>fun xs a m b W hd h ham hmb hbn hs1 hs2=>by
   by_cases e1:m=a+1
   ·subst e1
    exact symm_right B g n cap xs a b W h hmb hbn hn hs2
   ·by_cases e2:b=m+1
    ·subst e2
     exact symm_left B g n cap xs a m W h (by omega) (by omega) hn hs1
    ·exact symm_big B g n cap xs a m b W h (by omega) (by omega) hbn hn hs1 hs2 (fun xs' a' m' b' W' hd'=>symm_all B g n cap hn d xs' a' m' b' W' (by omega))
theorem sort_walk (B g n cap:Nat)(xs:List HC)(w:World)(h:RowAt B g n cap xs w)(hn:n≤200):
 Calls Tryd.prog 21 #[.slice (some ⟨g,0,none⟩) n cap,.func (.func 22) #[] #[]] w (SegEnd B g n cap xs 0 n w):=by
 have HS:=Lib.hid (stable_any B g n cap xs w h hn (symm_all B g n cap hn))
 clear h hn
 go_enter Tryd.func21,Tryd.ntmps21
 go_wp2_with fail
 refine HS.out.mono ?_
 rintro e5 w5 ⟨rfl,h5⟩
 have H5:=Lib.hid h5
 clear h5
 go_wp2_with fail
 go_end0
 exact⟨rfl,H5.out⟩
theorem isort_none (w:World):
 Calls Tryd.prog 46 #[.slice none 0 0,.int .i64 0,.int .i64 0,.func (.func 22) #[] #[]] w (fun e w'=>e= .returned (.tuple #[])∧w'=w):=by
 go_enter Tryd.func46,Tryd.ntmps46
 go_wp2_with fail
 go_loopw [8] (fun i wr=>i= .int .i64 1∧wr=w) (fun i _=>0)
 case atStart=>exact⟨rfl,rfl⟩
 case round=>
  obtain⟨rfl,rfl⟩:=hrel
  go_wp2_with fail
  go_end0
  exact⟨rfl,rfl⟩
theorem stable_none (w:World):
 Calls Tryd.prog 33 #[.slice none 0 0,.int .i64 0,.func (.func 22) #[] #[]] w (fun e w'=>e= .returned (.tuple #[])∧w'=w):=by
 have HI:=Lib.hid (isort_none w)
 go_enter Tryd.func33,Tryd.ntmps33
 go_wp2_with fail
 go_loopw [7,8] (fun a b wr=>a= .int .i64 0∧b= .int .i64 20∧wr=w) (fun _ _ _=>0)
 case atStart=>exact⟨rfl,rfl,rfl⟩
 case round=>
  obtain⟨rfl,rfl,rfl⟩:=hrel
  go_wp2_with fail
  refine HI.out.mono ?_
  rintro e5 w5 ⟨rfl,rfl⟩
  go_wp2_with fail
  go_loopw [6] (fun s wr=>s= .int .i64 20∧w5=wr) (fun _ _=>0)
  case atStart=>exact⟨rfl,rfl⟩
  case round=>
   obtain⟨rfl,rfl⟩:=hrel
   go_wp2_with fail
   go_end0
   exact⟨rfl,rfl⟩
theorem sort_none (w:World):
 Calls Tryd.prog 21 #[.slice none 0 0,.func (.func 22) #[] #[]] w (fun e w'=>e= .returned (.tuple #[])∧w'=w):=by
 have HS:=Lib.hid (stable_none w)
 go_enter Tryd.func21,Tryd.ntmps21
 go_wp2_with fail
 refine HS.out.mono ?_
 rintro e5 w5 ⟨rfl,rfl⟩
 go_wp2_with fail
 go_end0
 exact⟨rfl,rfl⟩
theorem sort_said (xs:List HC)(hn:xs.length≤200):SortSaid xs:=fun W B v h hB=>by
 rcases h.2 with ⟨rfl,h0⟩ | ⟨g,cap,cur,rfl,hb,hg,hc1,hc2,hc3,hc4⟩
 ·obtain rfl:xs=[]:=List.eq_nil_of_length_eq_zero h0
  refine(sort_none W).mono ?_
  rintro e w' ⟨rfl,rfl⟩
  exact⟨rfl,[],⟨List.Perm.refl _,fun i j _ hj=>absurd hj (Nat.not_lt_zero j)⟩,SRow.nil _ _,Below.refl _ _⟩
 ·have hra:RowAt B g xs.length cap xs W:=⟨rfl,h,⟨hc1,hc2⟩,hb,(Array.getElem?_eq_some_iff.1 hg).1⟩
  refine(sort_walk B g xs.length cap xs W hra hn).mono ?_
  rintro e w' ⟨rfl,ys,t1,t2,t3,t4⟩
  refine⟨rfl,ys,⟨t2.perm,fun i j hij hj=> ?_⟩, ?_,t4⟩
  ·exact t3 i j (Nat.zero_le _) hij (by rw[t1.len]at hj;exact hj)
  ·have:=t1.row
   unfold SRow
   rw[t1.len]
   exact this
end
end Go.Proofs.YtfinhpfjokpcfaaDoor
