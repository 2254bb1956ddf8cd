/- Parts of a proof. -/
import Derived.Test.YtjbkhdbjdahbiaaGreatDoorV01
import Derived.Test.YtjbkhdbjdahbiaaGreatDoorV02
import Derived.Test.YtjbkhdbjdahbiaaGreatDoorV03
import Derived.Test.YtjbkhdbjdahbiaaGreatDoorV04
import Derived.RegionTactic
import Derived.BigRegion
import Derived.Deep.RegionWith
import Derived.BigQuiet
import Derived.Lib.QuietBelow
import Derived.Deep.QuietTactic
import Derived.Deep.RegionLaw
import Derived.Deep.RegionHeld3
import Derived.Test.YtjbkhdbjdahbiaaGreatDoorQ20
set_option linter.unusedVariables false
set_option linter.unusedSimpArgs false
set_option maxHeartbeats 60000000
set_option maxRecDepth 100000
namespace Go.Proofs.YtjbkhdbjdahbiaaGreatDoor
section
open Go.RowKit
def valL (zs:List Int)(x:LT):Int×Int:=if Lf.snd x.1 x.2=true then(if ∀i,i<x.2.length→Lf.near x.2 zs i=true then(evL zs x,0) else(0,1)) else(0,5)
theorem valL_ok {zs:List Int}{x:LT}(h:(valL zs x).2=0):(valL zs x).1=evL zs x:=by
 unfold valL at h⊢
 split at h
 ·rename_i h1
  rw[if_pos h1]
  split at h
  ·rename_i h2
   rw[if_pos h2]
  ·exact absurd h (by decide)
 ·exact absurd h (by decide)
theorem rval_fn (zs:List Int)(x:LT)(a:Option Addr)(cap:Nat)(a2:Option Addr)(n2 cap2:Nat)(w:World)(hm:x.2.length≤9223372036854775807)(hn2:zs.length=n2)(hm2:n2≤9223372036854775807)(hl:Lf.Lies w.heap.size w a x.2)(hz:Lf.Nums w.heap.size w a2 zs):
 Calls Tryz.prog 20 #[.agg #[.int .i64 x.1,.slice a x.2.length cap],.slice a2 n2 cap2] w fun e w'=>e= .returned (.tuple #[.int .i64 (valL zs x).1,.int .i64 (valL zs x).2])∧Below w.heap.size w w':=by
 unfold valL
 split
 ·rename_i hs
  split
  ·rename_i hn
   refine Lf.rvalue_any x.1 a _ cap x.2 a2 n2 cap2 zs w rfl hn2 hm2 hl hz hs _ _ (.inl ⟨?_,rfl,hn⟩)
   rw[sAt_ev]
   rfl
  ·rename_i hn
   exact Lf.rvalue_any x.1 a _ cap x.2 a2 n2 cap2 zs w rfl hn2 hm2 hl hz hs _ _ (.inr ⟨rfl,rfl,hn⟩)
 ·rename_i hs
  exact Lf.rvalue_form x.1 a _ cap x.2 a2 n2 cap2 w rfl hm hl (by simpa using hs)
end
end Go.Proofs.YtjbkhdbjdahbiaaGreatDoor
