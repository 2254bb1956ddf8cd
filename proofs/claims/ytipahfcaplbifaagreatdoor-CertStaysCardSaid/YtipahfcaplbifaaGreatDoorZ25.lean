/- Parts of a proof. -/
import Derived.Test.YtipahfcaplbifaaGreatDoorZ17
import Derived.Deep.RegionLaw
set_option linter.unusedVariables false
set_option linter.unusedSimpArgs false
set_option maxHeartbeats 60000000
set_option maxRecDepth 100000
namespace Go.Proofs.YtipahfcaplbifaaGreatDoor
section
open Go.RowKit
attribute [local go_sem ↓] Go.wp_at_zero Go.wp_at_succ
def CopyEnd (n:Nat)(f:FT)(w:World)(e:Ending)(w':World):Prop:=∃cs',e= .returned (.agg cs'.toArray)∧FLiesQ (fun b=>w.heap.size≤b∧b<w'.heap.size) w' n f cs'∧Below w.heap.size w w'
theorem copy_any:∀(n:Nat) (f:FT) (cs:List Value) (w:World),FLies w.heap.size w n f cs→litF n f→
 Calls Tryz.prog 19 #[.agg cs.toArray] w (CopyEnd n f w)
 | 0,_,_,_,h,_=>h.elim
 | n+1,f,cs,w,h,hlit=>by
   have IH:=copy_any n
   obtain⟨ta,tcap,ka,kcap,rfl,hlt,ht4,hk4,hks⟩:=h
   obtain⟨ht20,hk20,hklit⟩:=hlit
   have B0:=Lib.hid (box_start w f.kind f.c ta ka f.t.length tcap f.ks.length kcap)
   have HL:=Lib.hid hlt
   have HI:=Lib.hid IH
   have HK:=Lib.hid hks
   have HKL:=Lib.hid hklit
   clear IH hks hlt hklit
   generalize hfk:f.kind=fk at B0
   generalize hfc:f.c=fc at B0
   generalize htl:f.t.length=ft at B0 HL ht4 ht20
   generalize hl:f.ks.length=len at B0 HK hk4 hk20 HKL
   have HTL:=Lib.hid htl
   have HFL:=Lib.hid hl
   have HFK:=Lib.hid hfk
   have HFC:=Lib.hid hfc
   have HCLEN:Hid (∀css:List (List Value),css.length≤len→css.length≤1048576):=fun css h=>Nat.le_trans h hk20
   clear hl htl hfk hfc
   go_enter Tryz.func19,Tryz.ntmps19
   go_wp2_with fail
   have TB1:=Lib.hid (B0.out.below (B:=w.heap.size+1) ((Below.refl _ (w.alloc (.cells #[.int .i64 fk,.int .i64 fc,.slice ta ft tcap,.slice ka len kcap] 39))).alloc (by simp) (.cells #[.int .i64 0,.int .i64 0,.slice none 0 0,.slice none 0 0] 39)) (by omega))
   have H0:Hid (((w.alloc (.cells #[.int .i64 fk,.int .i64 fc,.slice ta ft tcap,.slice ka len kcap] 39)).alloc (.cells #[.int .i64 0,.int .i64 0,.slice none 0 0,.slice none 0 0] 39)).heap.size=w.heap.size+1+1):=by show _=_;simp
   have RB1:Hid (RB ((w.alloc (.cells #[.int .i64 fk,.int .i64 fc,.slice ta ft tcap,.slice ka len kcap] 39)).alloc (.cells #[.int .i64 0,.int .i64 0,.slice none 0 0,.slice none 0 0] 39)) (w.heap.size+1)):=by
    have hb:=heap_alloc_new (w.alloc (.cells #[.int .i64 fk,.int .i64 fc,.slice ta ft tcap,.slice ka len kcap] 39)) (.cells #[.int .i64 0,.int .i64 0,.slice none 0 0,.slice none 0 0] 39)
    rw[show(w.alloc (.cells #[.int .i64 fk,.int .i64 fc,.slice ta ft tcap,.slice ka len kcap] 39)).heap.size=w.heap.size+1 by simp]at hb
    exact⟨by rw[cell_of_row _ _ _ _ _ _ hb];rfl,by rw[cell_of_row _ _ _ _ _ _ hb];rfl,by rw[cell_of_row _ _ _ _ _ _ hb];rfl,by rw[cell_of_row _ _ _ _ _ _ hb];rfl,fun o=>frozen_of_row _ _ _ _ _ hb⟩
   have HBY:Hid (ft*16≤140737488351232):=by show _≤_;omega
   have W1a:Hid (Below ((w.alloc (.cells #[.int .i64 fk,.int .i64 fc,.slice ta ft tcap,.slice ka len kcap] 39)).alloc (.cells #[.int .i64 0,.int .i64 0,.slice none 0 0,.slice none 0 0] 39)).heap.size ((w.alloc (.cells #[.int .i64 fk,.int .i64 fc,.slice ta ft tcap,.slice ka len kcap] 39)).alloc (.cells #[.int .i64 0,.int .i64 0,.slice none 0 0,.slice none 0 0] 39)) (((w.alloc (.cells #[.int .i64 fk,.int .i64 fc,.slice ta ft tcap,.slice ka len kcap] 39)).alloc (.cells #[.int .i64 0,.int .i64 0,.slice none 0 0,.slice none 0 0] 39)).alloc (.cells #[] 92)).drew):=((Below.refl _ _).alloc (Nat.le_refl _) _).drew
   have W1b:Hid (Below ((w.alloc (.cells #[.int .i64 fk,.int .i64 fc,.slice ta ft tcap,.slice ka len kcap] 39)).alloc (.cells #[.int .i64 0,.int .i64 0,.slice none 0 0,.slice none 0 0] 39)).heap.size ((w.alloc (.cells #[.int .i64 fk,.int .i64 fc,.slice ta ft tcap,.slice ka len kcap] 39)).alloc (.cells #[.int .i64 0,.int .i64 0,.slice none 0 0,.slice none 0 0] 39)) ((((w.alloc (.cells #[.int .i64 fk,.int .i64 fc,.slice ta ft tcap,.slice ka len kcap] 39)).alloc (.cells #[.int .i64 0,.int .i64 0,.slice none 0 0,.slice none 0 0] 39)).alloc (.cells #[] 92)).drew.alloc (.cells #[.int .i64 0,.int .i64 0,.slice none 0 0,.slice none 0 0] 39))):=W1a.out.alloc W1a.out.size _
   have W1c:Hid (Below ((w.alloc (.cells #[.int .i64 fk,.int .i64 fc,.slice ta ft tcap,.slice ka len kcap] 39)).alloc (.cells #[.int .i64 0,.int .i64 0,.slice none 0 0,.slice none 0 0] 39)).heap.size ((w.alloc (.cells #[.int .i64 fk,.int .i64 fc,.slice ta ft tcap,.slice ka len kcap] 39)).alloc (.cells #[.int .i64 0,.int .i64 0,.slice none 0 0,.slice none 0 0] 39)) ((((w.alloc (.cells #[.int .i64 fk,.int .i64 fc,.slice ta ft tcap,.slice ka len kcap] 39)).alloc (.cells #[.int .i64 0,.int .i64 0,.slice none 0 0,.slice none 0 0] 39)).alloc (.cells #[.int .i64 0,.int .i64 0,.slice none 0 0,.slice none 0 0] 39)).alloc (.cells #[] 92)).drew):=(((Below.refl _ _).alloc (Nat.le_refl _) _).alloc (by simp) _).drew
   have HR0a:Hid (Row w.heap.size [] (.slice (some ⟨w.heap.size+1+1,0,none⟩) 0 0) (((w.alloc (.cells #[.int .i64 fk,.int .i64 fc,.slice ta ft tcap,.slice ka len kcap] 39)).alloc (.cells #[.int .i64 0,.int .i64 0,.slice none 0 0,.slice none 0 0] 39)).alloc (.cells #[] 92)).drew):=row_fresh w.heap.size _ (w.heap.size+1+1) (by simp) (by omega)
   have HR0b:Hid (Row w.heap.size [] (.slice (some ⟨w.heap.size+1+1,0,none⟩) 0 0) ((((w.alloc (.cells #[.int .i64 fk,.int .i64 fc,.slice ta ft tcap,.slice ka len kcap] 39)).alloc (.cells #[.int .i64 0,.int .i64 0,.slice none 0 0,.slice none 0 0] 39)).alloc (.cells #[] 92)).drew.alloc (.cells #[.int .i64 0,.int .i64 0,.slice none 0 0,.slice none 0 0] 39))):=Row.alloc HR0a.out _
   have HR0c:Hid (Row w.heap.size [] (.slice (some ⟨w.heap.size+1+1+1,0,none⟩) 0 0) ((((w.alloc (.cells #[.int .i64 fk,.int .i64 fc,.slice ta ft tcap,.slice ka len kcap] 39)).alloc (.cells #[.int .i64 0,.int .i64 0,.slice none 0 0,.slice none 0 0] 39)).alloc (.cells #[.int .i64 0,.int .i64 0,.slice none 0 0,.slice none 0 0] 39)).alloc (.cells #[] 92)).drew):=row_fresh w.heap.size _ (w.heap.size+1+1+1) (by simp) (by omega)
   have OUTb:Hid (((((w.alloc (.cells #[.int .i64 fk,.int .i64 fc,.slice ta ft tcap,.slice ka len kcap] 39)).alloc (.cells #[.int .i64 0,.int .i64 0,.slice none 0 0,.slice none 0 0] 39)).alloc (.cells #[] 92)).drew.alloc (.cells #[.int .i64 0,.int .i64 0,.slice none 0 0,.slice none 0 0] 39)).heap[w.heap.size+1+1+1]? =some (.cells #[.int .i64 0,.int .i64 0,.slice none 0 0,.slice none 0 0] 39 (0,0))):=by
    have:=heap_alloc_new (((w.alloc (.cells #[.int .i64 fk,.int .i64 fc,.slice ta ft tcap,.slice ka len kcap] 39)).alloc (.cells #[.int .i64 0,.int .i64 0,.slice none 0 0,.slice none 0 0] 39)).alloc (.cells #[] 92)).drew (.cells #[.int .i64 0,.int .i64 0,.slice none 0 0,.slice none 0 0] 39)
    rw[show(((w.alloc (.cells #[.int .i64 fk,.int .i64 fc,.slice ta ft tcap,.slice ka len kcap] 39)).alloc (.cells #[.int .i64 0,.int .i64 0,.slice none 0 0,.slice none 0 0] 39)).alloc (.cells #[] 92)).drew.heap.size=w.heap.size+1+1+1 by show(World.alloc _ _).heap.size=_;simp]at this
    exact this
   have OUTc:Hid (((((w.alloc (.cells #[.int .i64 fk,.int .i64 fc,.slice ta ft tcap,.slice ka len kcap] 39)).alloc (.cells #[.int .i64 0,.int .i64 0,.slice none 0 0,.slice none 0 0] 39)).alloc (.cells #[.int .i64 0,.int .i64 0,.slice none 0 0,.slice none 0 0] 39)).alloc (.cells #[] 92)).drew.heap[w.heap.size+1+1]? =some (.cells #[.int .i64 0,.int .i64 0,.slice none 0 0,.slice none 0 0] 39 (0,0))):=by
    have:=heap_alloc_new ((w.alloc (.cells #[.int .i64 fk,.int .i64 fc,.slice ta ft tcap,.slice ka len kcap] 39)).alloc (.cells #[.int .i64 0,.int .i64 0,.slice none 0 0,.slice none 0 0] 39)) (.cells #[.int .i64 0,.int .i64 0,.slice none 0 0,.slice none 0 0] 39)
    rw[H0.out]at this
    show(World.alloc _ _).heap[_]? =_
    rw[heap_alloc_old _ _ (by simp)]
    exact this
   have TB2a:=Lib.hid (TB1.out.below W1a.out TB1.out.lt)
   have RB2a:Hid (RB (((w.alloc (.cells #[.int .i64 fk,.int .i64 fc,.slice ta ft tcap,.slice ka len kcap] 39)).alloc (.cells #[.int .i64 0,.int .i64 0,.slice none 0 0,.slice none 0 0] 39)).alloc (.cells #[] 92)).drew (w.heap.size+1)):=RB1.out.keep (fun o=>W1a.out.cell (p:=⟨_,o,none⟩) (by rw[H0.out];exact Nat.lt_succ_self _)) (fun o=>W1a.out.frozen (p:=⟨_,o,none⟩) (by rw[H0.out];exact Nat.lt_succ_self _))
   have HLWa:Hid (Lies w.heap.size (((w.alloc (.cells #[.int .i64 fk,.int .i64 fc,.slice ta ft tcap,.slice ka len kcap] 39)).alloc (.cells #[.int .i64 0,.int .i64 0,.slice none 0 0,.slice none 0 0] 39)).alloc (.cells #[] 92)).drew ta f.t):=HL.out.below TB2a.out.bel
   have HZ2a:Hid (w.heap.size≤(((w.alloc (.cells #[.int .i64 fk,.int .i64 fc,.slice ta ft tcap,.slice ka len kcap] 39)).alloc (.cells #[.int .i64 0,.int .i64 0,.slice none 0 0,.slice none 0 0] 39)).alloc (.cells #[] 92)).drew.heap.size):=TB2a.out.bel.size
   have C2a:=Lib.hid (And.intro TB2a.out.c0 (And.intro TB2a.out.c1 TB2a.out.c2))
   have NEa:Hid (some w.heap.size≠(Value.slice (some ⟨w.heap.size+1+1,0,none⟩) 0 0).ownBlock):=by
    show some w.heap.size≠some (w.heap.size+1+1)
    simp;omega
   have SZa:Hid ((((w.alloc (.cells #[.int .i64 fk,.int .i64 fc,.slice ta ft tcap,.slice ka len kcap] 39)).alloc (.cells #[.int .i64 0,.int .i64 0,.slice none 0 0,.slice none 0 0] 39)).alloc (.cells #[] 92)).drew.heap.size=w.heap.size+3):=by
    show(World.alloc _ _).heap.size=_
    simp
   have TB2b:=Lib.hid (TB1.out.below W1b.out TB1.out.lt)
   have RB2b:Hid (RB ((((w.alloc (.cells #[.int .i64 fk,.int .i64 fc,.slice ta ft tcap,.slice ka len kcap] 39)).alloc (.cells #[.int .i64 0,.int .i64 0,.slice none 0 0,.slice none 0 0] 39)).alloc (.cells #[] 92)).drew.alloc (.cells #[.int .i64 0,.int .i64 0,.slice none 0 0,.slice none 0 0] 39)) (w.heap.size+1)):=RB1.out.keep (fun o=>W1b.out.cell (p:=⟨_,o,none⟩) (by rw[H0.out];exact Nat.lt_succ_self _)) (fun o=>W1b.out.frozen (p:=⟨_,o,none⟩) (by rw[H0.out];exact Nat.lt_succ_self _))
   have HLWb:Hid (Lies w.heap.size ((((w.alloc (.cells #[.int .i64 fk,.int .i64 fc,.slice ta ft tcap,.slice ka len kcap] 39)).alloc (.cells #[.int .i64 0,.int .i64 0,.slice none 0 0,.slice none 0 0] 39)).alloc (.cells #[] 92)).drew.alloc (.cells #[.int .i64 0,.int .i64 0,.slice none 0 0,.slice none 0 0] 39)) ta f.t):=HL.out.below TB2b.out.bel
   have HZ2b:Hid (w.heap.size≤((((w.alloc (.cells #[.int .i64 fk,.int .i64 fc,.slice ta ft tcap,.slice ka len kcap] 39)).alloc (.cells #[.int .i64 0,.int .i64 0,.slice none 0 0,.slice none 0 0] 39)).alloc (.cells #[] 92)).drew.alloc (.cells #[.int .i64 0,.int .i64 0,.slice none 0 0,.slice none 0 0] 39)).heap.size):=TB2b.out.bel.size
   have C2b:=Lib.hid (And.intro TB2b.out.c0 (And.intro TB2b.out.c1 TB2b.out.c2))
   have NEb:Hid (some w.heap.size≠(Value.slice (some ⟨w.heap.size+1+1,0,none⟩) 0 0).ownBlock):=by
    show some w.heap.size≠some (w.heap.size+1+1)
    simp;omega
   have SZb:Hid (((((w.alloc (.cells #[.int .i64 fk,.int .i64 fc,.slice ta ft tcap,.slice ka len kcap] 39)).alloc (.cells #[.int .i64 0,.int .i64 0,.slice none 0 0,.slice none 0 0] 39)).alloc (.cells #[] 92)).drew.alloc (.cells #[.int .i64 0,.int .i64 0,.slice none 0 0,.slice none 0 0] 39)).heap.size=w.heap.size+4):=by
    show(World.alloc _ _).heap.size=_
    simp
   have TB2c:=Lib.hid (TB1.out.below W1c.out TB1.out.lt)
   have RB2c:Hid (RB ((((w.alloc (.cells #[.int .i64 fk,.int .i64 fc,.slice ta ft tcap,.slice ka len kcap] 39)).alloc (.cells #[.int .i64 0,.int .i64 0,.slice none 0 0,.slice none 0 0] 39)).alloc (.cells #[.int .i64 0,.int .i64 0,.slice none 0 0,.slice none 0 0] 39)).alloc (.cells #[] 92)).drew (w.heap.size+1)):=RB1.out.keep (fun o=>W1c.out.cell (p:=⟨_,o,none⟩) (by rw[H0.out];exact Nat.lt_succ_self _)) (fun o=>W1c.out.frozen (p:=⟨_,o,none⟩) (by rw[H0.out];exact Nat.lt_succ_self _))
   have HLWc:Hid (Lies w.heap.size ((((w.alloc (.cells #[.int .i64 fk,.int .i64 fc,.slice ta ft tcap,.slice ka len kcap] 39)).alloc (.cells #[.int .i64 0,.int .i64 0,.slice none 0 0,.slice none 0 0] 39)).alloc (.cells #[.int .i64 0,.int .i64 0,.slice none 0 0,.slice none 0 0] 39)).alloc (.cells #[] 92)).drew ta f.t):=HL.out.below TB2c.out.bel
   have HZ2c:Hid (w.heap.size≤((((w.alloc (.cells #[.int .i64 fk,.int .i64 fc,.slice ta ft tcap,.slice ka len kcap] 39)).alloc (.cells #[.int .i64 0,.int .i64 0,.slice none 0 0,.slice none 0 0] 39)).alloc (.cells #[.int .i64 0,.int .i64 0,.slice none 0 0,.slice none 0 0] 39)).alloc (.cells #[] 92)).drew.heap.size):=TB2c.out.bel.size
   have C2c:=Lib.hid (And.intro TB2c.out.c0 (And.intro TB2c.out.c1 TB2c.out.c2))
   have NEc:Hid (some w.heap.size≠(Value.slice (some ⟨w.heap.size+1+1+1,0,none⟩) 0 0).ownBlock):=by
    show some w.heap.size≠some (w.heap.size+1+1+1)
    simp;omega
   have SZc:Hid (((((w.alloc (.cells #[.int .i64 fk,.int .i64 fc,.slice ta ft tcap,.slice ka len kcap] 39)).alloc (.cells #[.int .i64 0,.int .i64 0,.slice none 0 0,.slice none 0 0] 39)).alloc (.cells #[.int .i64 0,.int .i64 0,.slice none 0 0,.slice none 0 0] 39)).alloc (.cells #[] 92)).drew.heap.size=w.heap.size+4):=by
    show(World.alloc _ _).heap.size=_
    simp
   have NNb:Hid (w.heap.size≠w.heap.size+1+1+1):=by show _≠_;omega
   have NNc:Hid (w.heap.size≠w.heap.size+1+1):=by show _≠_;omega
   go_region_held3 (fun w'=>w'.cell? ⟨w.heap.size,0,none⟩=some (.int .i64 fk)∧w'.cell? ⟨w.heap.size,1,none⟩=some (.int .i64 fc)∧w'.cell? ⟨w.heap.size,2,none⟩=some (.slice ta ft tcap))
    (first
      | with_reducible exact T3.out.1
      | with_reducible exact T3.out.2 _
      | with_reducible exact C2b.out
      | with_reducible exact C2c.out
      | with_reducible exact three_chain T3.out.1 NNb.out _ _ _ _
      | with_reducible exact three_chain T3.out.1 NNc.out _ _ _ _
      | go_keep)
    (first
      | (refine step_append_src (by rfl) _ _ (by rfl) w.heap.size w.heap.size (.slice (some ⟨w.heap.size+1+1,0,none⟩) 0 0) (by rfl) HR0a.out ta ft tcap f.t (by rfl) HLWa.out HTL.out HBY.out HZ2a.out ?_
         intro a3 cap3 w3 hrow3 hgrow3 hat3
         have T3:=Lib.hid (three_grown C2a.out TB2a.out.lt hgrow3 NEa.out))
      | (refine step_append_src (by rfl) _ _ (by rfl) w.heap.size w.heap.size (.slice (some ⟨w.heap.size+1+1,0,none⟩) 0 0) (by rfl) HR0b.out ta ft tcap f.t (by rfl) HLWb.out HTL.out HBY.out HZ2b.out ?_
         intro a3 cap3 w3 hrow3 hgrow3 hat3
         have T3:=Lib.hid (three_grown C2b.out TB2b.out.lt hgrow3 NEb.out)
         have hb3:w3.heap[w.heap.size+1+1+1]? =some (.cells #[.int .i64 0,.int .i64 0,.slice none 0 0,.slice none 0 0] 39 (0,0)):=(hgrow3.block _ (Array.getElem?_eq_some_iff.1 OUTb.out).1 (by show some _≠some _;simp)).trans OUTb.out
         have o30:w3.cell? ⟨w.heap.size+1+1+1,0,none⟩=some (.int .i64 0):=cell_of_row _ _ _ _ _ _ hb3
         have o31:w3.cell? ⟨w.heap.size+1+1+1,1,none⟩=some (.int .i64 0):=cell_of_row _ _ _ _ _ _ hb3
         have o32:w3.cell? ⟨w.heap.size+1+1+1,2,none⟩=some (.slice none 0 0):=cell_of_row _ _ _ _ _ _ hb3
         have o33:w3.cell? ⟨w.heap.size+1+1+1,3,none⟩=some (.slice none 0 0):=cell_of_row _ _ _ _ _ _ hb3
         have of3:∀o,w3.frozen? ⟨w.heap.size+1+1+1,o,none⟩=false:=fun o=>frozen_of_row _ _ _ _ _ hb3)
      | (refine step_append_src (by rfl) _ _ (by rfl) w.heap.size w.heap.size (.slice (some ⟨w.heap.size+1+1+1,0,none⟩) 0 0) (by rfl) HR0c.out ta ft tcap f.t (by rfl) HLWc.out HTL.out HBY.out HZ2c.out ?_
         intro a3 cap3 w3 hrow3 hgrow3 hat3
         have T3:=Lib.hid (three_grown C2c.out TB2c.out.lt hgrow3 NEc.out)
         have hb3:w3.heap[w.heap.size+1+1]? =some (.cells #[.int .i64 0,.int .i64 0,.slice none 0 0,.slice none 0 0] 39 (0,0)):=(hgrow3.block _ (Array.getElem?_eq_some_iff.1 OUTc.out).1 (by show some _≠some _;simp)).trans OUTc.out
         have o30:w3.cell? ⟨w.heap.size+1+1,0,none⟩=some (.int .i64 0):=cell_of_row _ _ _ _ _ _ hb3
         have o31:w3.cell? ⟨w.heap.size+1+1,1,none⟩=some (.int .i64 0):=cell_of_row _ _ _ _ _ _ hb3
         have o32:w3.cell? ⟨w.heap.size+1+1,2,none⟩=some (.slice none 0 0):=cell_of_row _ _ _ _ _ _ hb3
         have o33:w3.cell? ⟨w.heap.size+1+1,3,none⟩=some (.slice none 0 0):=cell_of_row _ _ _ _ _ _ hb3
         have of3:∀o,w3.frozen? ⟨w.heap.size+1+1,o,none⟩=false:=fun o=>frozen_of_row _ _ _ _ _ hb3))
   ·have BG:Hid (Begin w (w3.alloc (.cells #[.int .i64 fk,.int .i64 fc,.slice a3 ft cap3,.slice none 0 0] 39)) n f w3.heap.size fk fc ta ft tcap ka len kcap a3 cap3):=
     begin_a (w2:=(((w.alloc (.cells #[.int .i64 fk,.int .i64 fc,.slice ta ft tcap,.slice ka len kcap] 39)).alloc (.cells #[.int .i64 0,.int .i64 0,.slice none 0 0,.slice none 0 0] 39)).alloc (.cells #[] 92)).drew) (g1:=w.heap.size+1+1) hrow3 hgrow3 hat3 (by omega) (by rw[SZa.out];omega) HZ2a.out TB2a.out RB2a.out
    clear hrow3 hgrow3 hat3 T3 TB1 H0 RB1 HBY W1a W1b W1c HR0a HR0b HR0c OUTb OUTc TB2a RB2a HLWa HZ2a C2a NEa SZa TB2b RB2b HLWb HZ2b C2b NEb SZb TB2c RB2c HLWc HZ2c C2c NEc SZc NNb NNc HL B0
    generalize w3.alloc (.cells #[.int .i64 fk,.int .i64 fc,.slice a3 ft cap3,.slice none 0 0] 39)=w4 at BG⊢
    generalize w3.heap.size=No at BG⊢
    have C4:=Lib.hid BG.out.cs
    have O4:=Lib.hid BG.out.ob
    have R4:=Lib.hid BG.out.rb
    have T4:=Lib.hid BG.out.bx
    clear BG
    go_wp2_with fail
    go_loopw [4] (fun i wr=>∃(k:Nat) (v:Value) (css:List (List Value)),k≤len∧i= .int .i64 k∧Hid (CS w.heap.size No n f a3 k css v wr)∧Hid (OB wr No fk fc a3 ft cap3 v)∧Hid (RB wr (w.heap.size+1))∧Hid (Box w wr w.heap.size fk fc ta ft tcap ka len kcap)) (fun i _=>len - (intOf i).toNat)
    case atStart=>exact⟨0,.slice none 0 0,[],Nat.zero_le _,rfl,C4,O4,R4,T4⟩
    case round=>
     clear C4 O4 R4 T4
     obtain⟨k,v,css,hk,rfl,hcs,hob,hrb,hbx⟩:=hrel
     obtain⟨bz,p0,_,_,q3,hb⟩:=hbx.out
     by_cases hlt:k<len
     ·obtain⟨b,off,c0,c1,c2,c3,rfl,hblt,g0,g1,g2,g3,hf⟩:=HK.out k hlt
      rw[←hb.cell (p:=⟨b,_,none⟩) hblt]at g0 g1 g2 g3
      obtain⟨ck,cc,cta,ctn,ctcap,cka,ckn,ckcap,rfl,rfl,rfl,rfl⟩:=hf.form
      have HIH:=Lib.hid (fun W (hb:Below w.heap.size w W)=>HI.out (f.ks.getD k default) _ W ((hf.below hb).mono hb.size) (HKL.out k hlt))
      have o3:=hob.out.o3
      have FAR:=Lib.hid (fun(v6:Value) (w5 w6:World) (o:Obj) (hb:Below wr.heap.size wr w5) (hg:(w5.alloc o).grownBy w6 v.ownBlock) b p h1 h2=>round_far (No:=No) (v6:=v6) hcs.out.row hb hg b p h1 h2)
      have HLT:=Lib.hid hcs.out.lt
      have HLZ:=Lib.hid hcs.out.ltz
      have HOWN:=Lib.hid hcs.out.own
      have HCL:=Lib.hid hcs.out.len
      have K5:Hid (∀W':World,(∀b' o,b'≤w.heap.size→W'.cell? ⟨b',o,none⟩=wr.cell? ⟨b',o,none⟩)→W'.cell? ⟨w.heap.size,3,none⟩=some (.slice (some ⟨b,off,none⟩) len kcap)∧W'.cell? ⟨b,off+k*4,none⟩=some (.int .i64 ck)∧W'.cell? ⟨b,off+k*4+1,none⟩=some (.int .i64 cc)∧W'.cell? ⟨b,off+k*4+2,none⟩=some (.slice cta ctn ctcap)∧W'.cell? ⟨b,off+k*4+3,none⟩=some (.slice cka ckn ckcap)):=
       fun W' h=>⟨(h _ _ (Nat.le_refl _)).trans q3,(h _ _ (by omega)).trans g0,(h _ _ (by omega)).trans g1,(h _ _ (by omega)).trans g2,(h _ _ (by omega)).trans g3⟩
      have HNR:Hid (∀b',b'≤No→v.ownBlock≠some b'):=fun b' h e=>by have:=HOWN.out b' e;omega
      clear hf
      go_wp2_with fail
      go_region_law (first
       | (refine step_append_form (by rfl) _ _ (by rfl) w.heap.size v (by rfl) css HRW.out ⟨w5.heap.size,0,none⟩ 1 [.int .i64 dk,.int .i64 dc,.slice dta dtn dtcap,.slice dka dkn dkcap] (by rfl) rfl NEWS.out (four_one _ _ _ _ _ _ _ _) (HCLEN.out css (by rw[HCL.out];exact hk)) HBZ.out ?_
          intro v6 w6 hrow6 hgrow6 hat6
          obtain⟨a6,kc6,hv6,hx6⟩:=hrow6.form
          clear hx6
          rw[HL6.out]at hv6
          subst hv6
          have FAR6:=Lib.hid (fun b p h1 h2=>FAR.out (.slice a6 (k+1) kc6) w5 w6 _ HB5.out hgrow6 b p h1 h2)
          have o36:w6.cell? ⟨No,3,none⟩=some v:=(FAR6.out No 3 HLZ.out (HNR.out No (Nat.le_refl _))).1.trans o3
          have of6:∀o,w6.frozen? ⟨No,o,none⟩=false:=fun o=>(FAR6.out No o HLZ.out (HNR.out No (Nat.le_refl _))).2.1.trans (hob.out.fz o))
       | (go_simp
          go_at_call 19
          refine(HIH.out _ hb.drew).mono ?_
          rintro e w5 ⟨cs5,rfl,hfl5,hb5⟩
          obtain⟨dk,dc,dta,dtn,dtcap,dka,dkn,dkcap,rfl⟩:=hfl5.form
          have HB5:Hid (Below wr.heap.size wr w5):=(Below.refl _ wr).drew.trans hb5
          have HF5:=Lib.hid hfl5
          have o35:w5.cell? ⟨No,3,none⟩=some v:=(HB5.out.cell (p:=⟨No,3,none⟩) HLZ.out).trans o3
          have o35a:(w5.alloc (.cells #[.int .i64 dk,.int .i64 dc,.slice dta dtn dtcap,.slice dka dkn dkcap] 39)).cell? ⟨No,3,none⟩=some v:=(((Below.refl _ w5).alloc (Nat.le_refl _) _).cell (p:=⟨No,3,none⟩) (Nat.lt_of_lt_of_le HLZ.out HB5.out.size)).trans o35
          have HRW:Hid (ORow w.heap.size css v (w5.alloc (.cells #[.int .i64 dk,.int .i64 dc,.slice dta dtn dtcap,.slice dka dkn dkcap] 39))):=World.ownsRow.alloc (World.ownsRow.kept (row:=none) hcs.out.row ⟨HB5.out.os,HB5.out.tape,HB5.out.output,HB5.out.size,fun q hq _=>HB5.out.block q hq⟩ (by cases v.ownBlock<;>simp)) _
          have NEWS:=Lib.hid (four_new w5 (.int .i64 dk) (.int .i64 dc) (.slice dta dtn dtcap) (.slice dka dkn dkcap) 39 w5.heap.size rfl)
          have HBZ:Hid (w.heap.size≤(w5.alloc (.cells #[.int .i64 dk,.int .i64 dc,.slice dta dtn dtcap,.slice dka dkn dkcap] 39)).heap.size):=Nat.le_trans (Nat.le_trans (Nat.le_of_lt bz) HB5.out.size) ((Below.refl w5.heap.size w5).alloc (Nat.le_refl _) _).size
          have HL6:Hid ((css ++ [[Value.int .i64 dk,.int .i64 dc,.slice dta dtn dtcap,.slice dka dkn dkcap]]).length=k+1):=by
           show _=_
           rw[List.length_append,HCL.out];rfl
          clear hfl5 hb5))
      all_goals
       have hat7:(Value.slice a6 (k+1) kc6).ownBlock=v.ownBlock∨(Value.slice a6 (k+1) kc6).ownBlock=some (w5.heap.size+1):=by simpa using hat6
       have C7:=Lib.hid (CS.step (x:= .slice a6 (k+1) kc6) hcs.out HB5.out HF5.out hrow6 hgrow6 hat7)
       have O7:Hid (OB (w6.setCell ⟨No,3,none⟩ (.slice a6 (k+1) kc6)) No fk fc a3 ft cap3 (.slice a6 (k+1) kc6)):=(hob.out.keep (fun o=>(FAR6.out No o HLZ.out (HNR.out No (Nat.le_refl _))).1) (fun o=>(FAR6.out No o HLZ.out (HNR.out No (Nat.le_refl _))).2.1)).set (.slice a6 (k+1) kc6)
       have R7:Hid (RB (w6.setCell ⟨No,3,none⟩ (.slice a6 (k+1) kc6)) (w.heap.size+1)):=hrb.out.keep (fun o=>(FAR6.out _ o (by have:=HLT.out;have:=HLZ.out;omega) (HNR.out _ (by have:=HLT.out;omega))).2.2 (by have:=HLT.out;omega)) (fun o=>(World.frozen?_setCell _ _ _ _).trans (FAR6.out _ o (by have:=HLT.out;have:=HLZ.out;omega) (HNR.out _ (by have:=HLT.out;omega))).2.1)
       have T7:Hid (Box w (w6.setCell ⟨No,3,none⟩ (.slice a6 (k+1) kc6)) w.heap.size fk fc ta ft tcap (some ⟨b,off,none⟩) len kcap):=by
        have hcc:∀o,(w6.setCell ⟨No,3,none⟩ (.slice a6 (k+1) kc6)).cell? ⟨w.heap.size,o,none⟩=wr.cell? ⟨w.heap.size,o,none⟩:=fun o=>(FAR6.out _ o bz (HNR.out _ (by have:=HLT.out;omega))).2.2 (by have:=HLT.out;omega)
        have hbw:Below w.heap.size w w6:=((hb.trans (HB5.out.mono (Nat.le_of_lt bz))).alloc (Nat.le_trans (Nat.le_of_lt bz) HB5.out.size) _).grown hgrow6 HBZ.out (fun g hg=>by have:=HOWN.out g hg;have:=HLT.out;omega)
        exact⟨by rw[World.size_setCell];have:=hgrow6.size;have:=HB5.out.size;simp at *; omega,(hcc 0).trans hbx.out.c0,(hcc 1).trans hbx.out.c1,(hcc 2).trans hbx.out.c2,(hcc 3).trans hbx.out.c3,hbw.setCell (p:=⟨No,3,none⟩) (by have:=HLT.out;show _≤No;omega) _⟩
       clear o36 of6 o35 o35a o3 hat6 hat7 hrow6 hgrow6 FAR6 HRW NEWS HBZ HF5 HB5 hcs hob hrb hbx g0 g1 g2 g3 q3 p0
       go_wp2_with fail
       go_roundw
       case rel=>exact⟨k+1,.slice a6 (k+1) kc6,_,by omega,by go_num,C7,O7,R7,T7⟩
       case measure=>simp[intOf];omega
     ·have hk2:k=len:=by omega
      subst hk2
      obtain⟨o0,o1,o2,o3,of3⟩:=hob.out
      obtain⟨r0,r1,r2,r3,rf⟩:=hrb.out
      obtain⟨a9,kcap9,hv9,ha9⟩:=hcs.out.row.form
      rw[hcs.out.len]at hv9
      have D9:Hid (∀w',wr.heap.size≤w'.heap.size→(∀b o,w.heap.size+1<b→w'.cell? ⟨b,o,none⟩=wr.cell? ⟨b,o,none⟩)→FLiesQ (fun b=>w.heap.size≤b∧b<w'.heap.size) w' (n+1) f [.int .i64 fk,.int .i64 fc,.slice a3 ft cap3,v]):=fun w' h1 h2=>by
       have hc9:=hcs.out
       rw[←HFL.out]at hc9
       obtain⟨c9,e9,h9⟩:=CS.done (cap3:=cap3) hc9 (by rw[HTL.out];exact ht4) (by rw[HFL.out];exact hk4) h1 h2 ⟨kcap9,by rw[←ha9,HFL.out];exact hv9⟩
       subst e9
       rw[HFK.out,HFC.out,HTL.out]at h9
       exact h9
      clear hcs hob hrb ha9
      subst hv9
      have hs9:=set4_size wr (w.heap.size+1) (.int .i64 fk) (.int .i64 fc) (.slice a3 ft cap3) (.slice a9 k kcap9)
      obtain⟨e0,e1,e2,e3⟩:=set4_at r0 r1 r2 r3 (.int .i64 fk) (.int .i64 fc) (.slice a3 ft cap3) (.slice a9 k kcap9)
      have E9:=Lib.hid (And.intro e0 (And.intro e1 (And.intro e2 e3)))
      have F9:=Lib.hid (D9.out (set4 wr (w.heap.size+1) (.int .i64 fk) (.int .i64 fc) (.slice a3 ft cap3) (.slice a9 k kcap9)) (by rw[hs9];exact Nat.le_refl _) (fun b o h=>set4_far _ _ _ _ _ _ _ _ (by omega)))
      have B9:=Lib.hid (set4_below hb (Nat.le_succ _) (.int .i64 fk) (.int .i64 fc) (.slice a3 ft cap3) (.slice a9 k kcap9))
      clear e0 e1 e2 e3 hs9 D9
      go_wp2_with fail
      clear r0 r1 r2 r3 rf o0 o1 o2 o3 of3
      refine bodyPost_ret (v:= .agg #[.int .i64 fk,.int .i64 fc,.slice a3 ft cap3,.slice a9 k kcap9]) ?_ rfl ⟨_,rfl,F9.out,B9.out⟩
      obtain⟨e0,e1,e2,e3⟩:=E9.out
      unfold set4 at e0 e1 e2 e3
      simp[results,Tryz.results19,go_sem,e0,e1,e2,e3]
   ·have BG:Hid (Begin w ((((w3.setCell ⟨w.heap.size+1+1+1,0,none⟩ (.int .i64 fk)).setCell ⟨w.heap.size+1+1+1,1,none⟩ (.int .i64 fc)).setCell ⟨w.heap.size+1+1+1,2,none⟩ (.slice a3 ft cap3)).setCell ⟨w.heap.size+1+1+1,3,none⟩ (.slice none 0 0)) n f (w.heap.size+1+1+1) fk fc ta ft tcap ka len kcap a3 cap3):=
     begin_b (w2:=((((w.alloc (.cells #[.int .i64 fk,.int .i64 fc,.slice ta ft tcap,.slice ka len kcap] 39)).alloc (.cells #[.int .i64 0,.int .i64 0,.slice none 0 0,.slice none 0 0] 39)).alloc (.cells #[] 92)).drew.alloc (.cells #[.int .i64 0,.int .i64 0,.slice none 0 0,.slice none 0 0] 39))) (g1:=w.heap.size+1+1) hrow3 hgrow3 hat3 (by omega) (by omega) (by rw[SZb.out];omega) HZ2b.out (by omega) (by rw[SZb.out];omega) TB2b.out RB2b.out o30 o31 o32 o33 of3
    clear hrow3 hgrow3 hat3 T3 o30 o31 o32 o33 of3 hb3 TB1 H0 RB1 HBY W1a W1b W1c HR0a HR0b HR0c OUTb OUTc TB2a RB2a HLWa HZ2a C2a NEa SZa TB2b RB2b HLWb HZ2b C2b NEb SZb TB2c RB2c HLWc HZ2c C2c NEc SZc NNb NNc HL B0
    generalize ((((w3.setCell ⟨w.heap.size+1+1+1,0,none⟩ (.int .i64 fk)).setCell ⟨w.heap.size+1+1+1,1,none⟩ (.int .i64 fc)).setCell ⟨w.heap.size+1+1+1,2,none⟩ (.slice a3 ft cap3)).setCell ⟨w.heap.size+1+1+1,3,none⟩ (.slice none 0 0))=w4 at BG⊢
    generalize w.heap.size+1+1+1=No at BG⊢
    have C4:=Lib.hid BG.out.cs
    have O4:=Lib.hid BG.out.ob
    have R4:=Lib.hid BG.out.rb
    have T4:=Lib.hid BG.out.bx
    clear BG
    go_wp2_with fail
    go_loopw [4] (fun i wr=>∃(k:Nat) (v:Value) (css:List (List Value)),k≤len∧i= .int .i64 k∧Hid (CS w.heap.size No n f a3 k css v wr)∧Hid (OB wr No fk fc a3 ft cap3 v)∧Hid (RB wr (w.heap.size+1))∧Hid (Box w wr w.heap.size fk fc ta ft tcap ka len kcap)) (fun i _=>len - (intOf i).toNat)
    case atStart=>exact⟨0,.slice none 0 0,[],Nat.zero_le _,rfl,C4,O4,R4,T4⟩
    case round=>
     clear C4 O4 R4 T4
     obtain⟨k,v,css,hk,rfl,hcs,hob,hrb,hbx⟩:=hrel
     obtain⟨bz,p0,_,_,q3,hb⟩:=hbx.out
     by_cases hlt:k<len
     ·obtain⟨b,off,c0,c1,c2,c3,rfl,hblt,g0,g1,g2,g3,hf⟩:=HK.out k hlt
      rw[←hb.cell (p:=⟨b,_,none⟩) hblt]at g0 g1 g2 g3
      obtain⟨ck,cc,cta,ctn,ctcap,cka,ckn,ckcap,rfl,rfl,rfl,rfl⟩:=hf.form
      have HIH:=Lib.hid (fun W (hb:Below w.heap.size w W)=>HI.out (f.ks.getD k default) _ W ((hf.below hb).mono hb.size) (HKL.out k hlt))
      have o3:=hob.out.o3
      have FAR:=Lib.hid (fun(v6:Value) (w5 w6:World) (o:Obj) (hb:Below wr.heap.size wr w5) (hg:(w5.alloc o).grownBy w6 v.ownBlock) b p h1 h2=>round_far (No:=No) (v6:=v6) hcs.out.row hb hg b p h1 h2)
      have HLT:=Lib.hid hcs.out.lt
      have HLZ:=Lib.hid hcs.out.ltz
      have HOWN:=Lib.hid hcs.out.own
      have HCL:=Lib.hid hcs.out.len
      have K5:Hid (∀W':World,(∀b' o,b'≤w.heap.size→W'.cell? ⟨b',o,none⟩=wr.cell? ⟨b',o,none⟩)→W'.cell? ⟨w.heap.size,3,none⟩=some (.slice (some ⟨b,off,none⟩) len kcap)∧W'.cell? ⟨b,off+k*4,none⟩=some (.int .i64 ck)∧W'.cell? ⟨b,off+k*4+1,none⟩=some (.int .i64 cc)∧W'.cell? ⟨b,off+k*4+2,none⟩=some (.slice cta ctn ctcap)∧W'.cell? ⟨b,off+k*4+3,none⟩=some (.slice cka ckn ckcap)):=
       fun W' h=>⟨(h _ _ (Nat.le_refl _)).trans q3,(h _ _ (by omega)).trans g0,(h _ _ (by omega)).trans g1,(h _ _ (by omega)).trans g2,(h _ _ (by omega)).trans g3⟩
      have HNR:Hid (∀b',b'≤No→v.ownBlock≠some b'):=fun b' h e=>by have:=HOWN.out b' e;omega
      clear hf
      go_wp2_with fail
      go_region_law (first
       | (refine step_append_form (by rfl) _ _ (by rfl) w.heap.size v (by rfl) css HRW.out ⟨w5.heap.size,0,none⟩ 1 [.int .i64 dk,.int .i64 dc,.slice dta dtn dtcap,.slice dka dkn dkcap] (by rfl) rfl NEWS.out (four_one _ _ _ _ _ _ _ _) (HCLEN.out css (by rw[HCL.out];exact hk)) HBZ.out ?_
          intro v6 w6 hrow6 hgrow6 hat6
          obtain⟨a6,kc6,hv6,hx6⟩:=hrow6.form
          clear hx6
          rw[HL6.out]at hv6
          subst hv6
          have FAR6:=Lib.hid (fun b p h1 h2=>FAR.out (.slice a6 (k+1) kc6) w5 w6 _ HB5.out hgrow6 b p h1 h2)
          have o36:w6.cell? ⟨No,3,none⟩=some v:=(FAR6.out No 3 HLZ.out (HNR.out No (Nat.le_refl _))).1.trans o3
          have of6:∀o,w6.frozen? ⟨No,o,none⟩=false:=fun o=>(FAR6.out No o HLZ.out (HNR.out No (Nat.le_refl _))).2.1.trans (hob.out.fz o))
       | (go_simp
          go_at_call 19
          refine(HIH.out _ hb.drew).mono ?_
          rintro e w5 ⟨cs5,rfl,hfl5,hb5⟩
          obtain⟨dk,dc,dta,dtn,dtcap,dka,dkn,dkcap,rfl⟩:=hfl5.form
          have HB5:Hid (Below wr.heap.size wr w5):=(Below.refl _ wr).drew.trans hb5
          have HF5:=Lib.hid hfl5
          have o35:w5.cell? ⟨No,3,none⟩=some v:=(HB5.out.cell (p:=⟨No,3,none⟩) HLZ.out).trans o3
          have o35a:(w5.alloc (.cells #[.int .i64 dk,.int .i64 dc,.slice dta dtn dtcap,.slice dka dkn dkcap] 39)).cell? ⟨No,3,none⟩=some v:=(((Below.refl _ w5).alloc (Nat.le_refl _) _).cell (p:=⟨No,3,none⟩) (Nat.lt_of_lt_of_le HLZ.out HB5.out.size)).trans o35
          have HRW:Hid (ORow w.heap.size css v (w5.alloc (.cells #[.int .i64 dk,.int .i64 dc,.slice dta dtn dtcap,.slice dka dkn dkcap] 39))):=World.ownsRow.alloc (World.ownsRow.kept (row:=none) hcs.out.row ⟨HB5.out.os,HB5.out.tape,HB5.out.output,HB5.out.size,fun q hq _=>HB5.out.block q hq⟩ (by cases v.ownBlock<;>simp)) _
          have NEWS:=Lib.hid (four_new w5 (.int .i64 dk) (.int .i64 dc) (.slice dta dtn dtcap) (.slice dka dkn dkcap) 39 w5.heap.size rfl)
          have HBZ:Hid (w.heap.size≤(w5.alloc (.cells #[.int .i64 dk,.int .i64 dc,.slice dta dtn dtcap,.slice dka dkn dkcap] 39)).heap.size):=Nat.le_trans (Nat.le_trans (Nat.le_of_lt bz) HB5.out.size) ((Below.refl w5.heap.size w5).alloc (Nat.le_refl _) _).size
          have HL6:Hid ((css ++ [[Value.int .i64 dk,.int .i64 dc,.slice dta dtn dtcap,.slice dka dkn dkcap]]).length=k+1):=by
           show _=_
           rw[List.length_append,HCL.out];rfl
          clear hfl5 hb5))
      all_goals
       have hat7:(Value.slice a6 (k+1) kc6).ownBlock=v.ownBlock∨(Value.slice a6 (k+1) kc6).ownBlock=some (w5.heap.size+1):=by simpa using hat6
       have C7:=Lib.hid (CS.step (x:= .slice a6 (k+1) kc6) hcs.out HB5.out HF5.out hrow6 hgrow6 hat7)
       have O7:Hid (OB (w6.setCell ⟨No,3,none⟩ (.slice a6 (k+1) kc6)) No fk fc a3 ft cap3 (.slice a6 (k+1) kc6)):=(hob.out.keep (fun o=>(FAR6.out No o HLZ.out (HNR.out No (Nat.le_refl _))).1) (fun o=>(FAR6.out No o HLZ.out (HNR.out No (Nat.le_refl _))).2.1)).set (.slice a6 (k+1) kc6)
       have R7:Hid (RB (w6.setCell ⟨No,3,none⟩ (.slice a6 (k+1) kc6)) (w.heap.size+1)):=hrb.out.keep (fun o=>(FAR6.out _ o (by have:=HLT.out;have:=HLZ.out;omega) (HNR.out _ (by have:=HLT.out;omega))).2.2 (by have:=HLT.out;omega)) (fun o=>(World.frozen?_setCell _ _ _ _).trans (FAR6.out _ o (by have:=HLT.out;have:=HLZ.out;omega) (HNR.out _ (by have:=HLT.out;omega))).2.1)
       have T7:Hid (Box w (w6.setCell ⟨No,3,none⟩ (.slice a6 (k+1) kc6)) w.heap.size fk fc ta ft tcap (some ⟨b,off,none⟩) len kcap):=by
        have hcc:∀o,(w6.setCell ⟨No,3,none⟩ (.slice a6 (k+1) kc6)).cell? ⟨w.heap.size,o,none⟩=wr.cell? ⟨w.heap.size,o,none⟩:=fun o=>(FAR6.out _ o bz (HNR.out _ (by have:=HLT.out;omega))).2.2 (by have:=HLT.out;omega)
        have hbw:Below w.heap.size w w6:=((hb.trans (HB5.out.mono (Nat.le_of_lt bz))).alloc (Nat.le_trans (Nat.le_of_lt bz) HB5.out.size) _).grown hgrow6 HBZ.out (fun g hg=>by have:=HOWN.out g hg;have:=HLT.out;omega)
        exact⟨by rw[World.size_setCell];have:=hgrow6.size;have:=HB5.out.size;simp at *; omega,(hcc 0).trans hbx.out.c0,(hcc 1).trans hbx.out.c1,(hcc 2).trans hbx.out.c2,(hcc 3).trans hbx.out.c3,hbw.setCell (p:=⟨No,3,none⟩) (by have:=HLT.out;show _≤No;omega) _⟩
       clear o36 of6 o35 o35a o3 hat6 hat7 hrow6 hgrow6 FAR6 HRW NEWS HBZ HF5 HB5 hcs hob hrb hbx g0 g1 g2 g3 q3 p0
       go_wp2_with fail
       go_roundw
       case rel=>exact⟨k+1,.slice a6 (k+1) kc6,_,by omega,by go_num,C7,O7,R7,T7⟩
       case measure=>simp[intOf];omega
     ·have hk2:k=len:=by omega
      subst hk2
      obtain⟨o0,o1,o2,o3,of3⟩:=hob.out
      obtain⟨r0,r1,r2,r3,rf⟩:=hrb.out
      obtain⟨a9,kcap9,hv9,ha9⟩:=hcs.out.row.form
      rw[hcs.out.len]at hv9
      have D9:Hid (∀w',wr.heap.size≤w'.heap.size→(∀b o,w.heap.size+1<b→w'.cell? ⟨b,o,none⟩=wr.cell? ⟨b,o,none⟩)→FLiesQ (fun b=>w.heap.size≤b∧b<w'.heap.size) w' (n+1) f [.int .i64 fk,.int .i64 fc,.slice a3 ft cap3,v]):=fun w' h1 h2=>by
       have hc9:=hcs.out
       rw[←HFL.out]at hc9
       obtain⟨c9,e9,h9⟩:=CS.done (cap3:=cap3) hc9 (by rw[HTL.out];exact ht4) (by rw[HFL.out];exact hk4) h1 h2 ⟨kcap9,by rw[←ha9,HFL.out];exact hv9⟩
       subst e9
       rw[HFK.out,HFC.out,HTL.out]at h9
       exact h9
      clear hcs hob hrb ha9
      subst hv9
      have hs9:=set4_size wr (w.heap.size+1) (.int .i64 fk) (.int .i64 fc) (.slice a3 ft cap3) (.slice a9 k kcap9)
      obtain⟨e0,e1,e2,e3⟩:=set4_at r0 r1 r2 r3 (.int .i64 fk) (.int .i64 fc) (.slice a3 ft cap3) (.slice a9 k kcap9)
      have E9:=Lib.hid (And.intro e0 (And.intro e1 (And.intro e2 e3)))
      have F9:=Lib.hid (D9.out (set4 wr (w.heap.size+1) (.int .i64 fk) (.int .i64 fc) (.slice a3 ft cap3) (.slice a9 k kcap9)) (by rw[hs9];exact Nat.le_refl _) (fun b o h=>set4_far _ _ _ _ _ _ _ _ (by omega)))
      have B9:=Lib.hid (set4_below hb (Nat.le_succ _) (.int .i64 fk) (.int .i64 fc) (.slice a3 ft cap3) (.slice a9 k kcap9))
      clear e0 e1 e2 e3 hs9 D9
      go_wp2_with fail
      clear r0 r1 r2 r3 rf o0 o1 o2 o3 of3
      refine bodyPost_ret (v:= .agg #[.int .i64 fk,.int .i64 fc,.slice a3 ft cap3,.slice a9 k kcap9]) ?_ rfl ⟨_,rfl,F9.out,B9.out⟩
      obtain⟨e0,e1,e2,e3⟩:=E9.out
      unfold set4 at e0 e1 e2 e3
      simp[results,Tryz.results19,go_sem,e0,e1,e2,e3]
   ·have BG:Hid (Begin w ((((w3.setCell ⟨w.heap.size+1+1,0,none⟩ (.int .i64 fk)).setCell ⟨w.heap.size+1+1,1,none⟩ (.int .i64 fc)).setCell ⟨w.heap.size+1+1,2,none⟩ (.slice a3 ft cap3)).setCell ⟨w.heap.size+1+1,3,none⟩ (.slice none 0 0)) n f (w.heap.size+1+1) fk fc ta ft tcap ka len kcap a3 cap3):=
     begin_b (w2:=((((w.alloc (.cells #[.int .i64 fk,.int .i64 fc,.slice ta ft tcap,.slice ka len kcap] 39)).alloc (.cells #[.int .i64 0,.int .i64 0,.slice none 0 0,.slice none 0 0] 39)).alloc (.cells #[.int .i64 0,.int .i64 0,.slice none 0 0,.slice none 0 0] 39)).alloc (.cells #[] 92)).drew) (g1:=w.heap.size+1+1+1) hrow3 hgrow3 hat3 (by omega) (by omega) (by rw[SZc.out];omega) HZ2c.out (by omega) (by rw[SZc.out];omega) TB2c.out RB2c.out o30 o31 o32 o33 of3
    clear hrow3 hgrow3 hat3 T3 o30 o31 o32 o33 of3 hb3 TB1 H0 RB1 HBY W1a W1b W1c HR0a HR0b HR0c OUTb OUTc TB2a RB2a HLWa HZ2a C2a NEa SZa TB2b RB2b HLWb HZ2b C2b NEb SZb TB2c RB2c HLWc HZ2c C2c NEc SZc NNb NNc HL B0
    generalize ((((w3.setCell ⟨w.heap.size+1+1,0,none⟩ (.int .i64 fk)).setCell ⟨w.heap.size+1+1,1,none⟩ (.int .i64 fc)).setCell ⟨w.heap.size+1+1,2,none⟩ (.slice a3 ft cap3)).setCell ⟨w.heap.size+1+1,3,none⟩ (.slice none 0 0))=w4 at BG⊢
    generalize w.heap.size+1+1=No at BG⊢
    have C4:=Lib.hid BG.out.cs
    have O4:=Lib.hid BG.out.ob
    have R4:=Lib.hid BG.out.rb
    have T4:=Lib.hid BG.out.bx
    clear BG
    go_wp2_with fail
    go_loopw [4] (fun i wr=>∃(k:Nat) (v:Value) (css:List (List Value)),k≤len∧i= .int .i64 k∧Hid (CS w.heap.size No n f a3 k css v wr)∧Hid (OB wr No fk fc a3 ft cap3 v)∧Hid (RB wr (w.heap.size+1))∧Hid (Box w wr w.heap.size fk fc ta ft tcap ka len kcap)) (fun i _=>len - (intOf i).toNat)
    case atStart=>exact⟨0,.slice none 0 0,[],Nat.zero_le _,rfl,C4,O4,R4,T4⟩
    case round=>
     clear C4 O4 R4 T4
     obtain⟨k,v,css,hk,rfl,hcs,hob,hrb,hbx⟩:=hrel
     obtain⟨bz,p0,_,_,q3,hb⟩:=hbx.out
     by_cases hlt:k<len
     ·obtain⟨b,off,c0,c1,c2,c3,rfl,hblt,g0,g1,g2,g3,hf⟩:=HK.out k hlt
      rw[←hb.cell (p:=⟨b,_,none⟩) hblt]at g0 g1 g2 g3
      obtain⟨ck,cc,cta,ctn,ctcap,cka,ckn,ckcap,rfl,rfl,rfl,rfl⟩:=hf.form
      have HIH:=Lib.hid (fun W (hb:Below w.heap.size w W)=>HI.out (f.ks.getD k default) _ W ((hf.below hb).mono hb.size) (HKL.out k hlt))
      have o3:=hob.out.o3
      have FAR:=Lib.hid (fun(v6:Value) (w5 w6:World) (o:Obj) (hb:Below wr.heap.size wr w5) (hg:(w5.alloc o).grownBy w6 v.ownBlock) b p h1 h2=>round_far (No:=No) (v6:=v6) hcs.out.row hb hg b p h1 h2)
      have HLT:=Lib.hid hcs.out.lt
      have HLZ:=Lib.hid hcs.out.ltz
      have HOWN:=Lib.hid hcs.out.own
      have HCL:=Lib.hid hcs.out.len
      have K5:Hid (∀W':World,(∀b' o,b'≤w.heap.size→W'.cell? ⟨b',o,none⟩=wr.cell? ⟨b',o,none⟩)→W'.cell? ⟨w.heap.size,3,none⟩=some (.slice (some ⟨b,off,none⟩) len kcap)∧W'.cell? ⟨b,off+k*4,none⟩=some (.int .i64 ck)∧W'.cell? ⟨b,off+k*4+1,none⟩=some (.int .i64 cc)∧W'.cell? ⟨b,off+k*4+2,none⟩=some (.slice cta ctn ctcap)∧W'.cell? ⟨b,off+k*4+3,none⟩=some (.slice cka ckn ckcap)):=
       fun W' h=>⟨(h _ _ (Nat.le_refl _)).trans q3,(h _ _ (by omega)).trans g0,(h _ _ (by omega)).trans g1,(h _ _ (by omega)).trans g2,(h _ _ (by omega)).trans g3⟩
      have HNR:Hid (∀b',b'≤No→v.ownBlock≠some b'):=fun b' h e=>by have:=HOWN.out b' e;omega
      clear hf
      go_wp2_with fail
      go_region_law (first
       | (refine step_append_form (by rfl) _ _ (by rfl) w.heap.size v (by rfl) css HRW.out ⟨w5.heap.size,0,none⟩ 1 [.int .i64 dk,.int .i64 dc,.slice dta dtn dtcap,.slice dka dkn dkcap] (by rfl) rfl NEWS.out (four_one _ _ _ _ _ _ _ _) (HCLEN.out css (by rw[HCL.out];exact hk)) HBZ.out ?_
          intro v6 w6 hrow6 hgrow6 hat6
          obtain⟨a6,kc6,hv6,hx6⟩:=hrow6.form
          clear hx6
          rw[HL6.out]at hv6
          subst hv6
          have FAR6:=Lib.hid (fun b p h1 h2=>FAR.out (.slice a6 (k+1) kc6) w5 w6 _ HB5.out hgrow6 b p h1 h2)
          have o36:w6.cell? ⟨No,3,none⟩=some v:=(FAR6.out No 3 HLZ.out (HNR.out No (Nat.le_refl _))).1.trans o3
          have of6:∀o,w6.frozen? ⟨No,o,none⟩=false:=fun o=>(FAR6.out No o HLZ.out (HNR.out No (Nat.le_refl _))).2.1.trans (hob.out.fz o))
       | (go_simp
          go_at_call 19
          refine(HIH.out _ hb.drew).mono ?_
          rintro e w5 ⟨cs5,rfl,hfl5,hb5⟩
          obtain⟨dk,dc,dta,dtn,dtcap,dka,dkn,dkcap,rfl⟩:=hfl5.form
          have HB5:Hid (Below wr.heap.size wr w5):=(Below.refl _ wr).drew.trans hb5
          have HF5:=Lib.hid hfl5
          have o35:w5.cell? ⟨No,3,none⟩=some v:=(HB5.out.cell (p:=⟨No,3,none⟩) HLZ.out).trans o3
          have o35a:(w5.alloc (.cells #[.int .i64 dk,.int .i64 dc,.slice dta dtn dtcap,.slice dka dkn dkcap] 39)).cell? ⟨No,3,none⟩=some v:=(((Below.refl _ w5).alloc (Nat.le_refl _) _).cell (p:=⟨No,3,none⟩) (Nat.lt_of_lt_of_le HLZ.out HB5.out.size)).trans o35
          have HRW:Hid (ORow w.heap.size css v (w5.alloc (.cells #[.int .i64 dk,.int .i64 dc,.slice dta dtn dtcap,.slice dka dkn dkcap] 39))):=World.ownsRow.alloc (World.ownsRow.kept (row:=none) hcs.out.row ⟨HB5.out.os,HB5.out.tape,HB5.out.output,HB5.out.size,fun q hq _=>HB5.out.block q hq⟩ (by cases v.ownBlock<;>simp)) _
          have NEWS:=Lib.hid (four_new w5 (.int .i64 dk) (.int .i64 dc) (.slice dta dtn dtcap) (.slice dka dkn dkcap) 39 w5.heap.size rfl)
          have HBZ:Hid (w.heap.size≤(w5.alloc (.cells #[.int .i64 dk,.int .i64 dc,.slice dta dtn dtcap,.slice dka dkn dkcap] 39)).heap.size):=Nat.le_trans (Nat.le_trans (Nat.le_of_lt bz) HB5.out.size) ((Below.refl w5.heap.size w5).alloc (Nat.le_refl _) _).size
          have HL6:Hid ((css ++ [[Value.int .i64 dk,.int .i64 dc,.slice dta dtn dtcap,.slice dka dkn dkcap]]).length=k+1):=by
           show _=_
           rw[List.length_append,HCL.out];rfl
          clear hfl5 hb5))
      all_goals
       have hat7:(Value.slice a6 (k+1) kc6).ownBlock=v.ownBlock∨(Value.slice a6 (k+1) kc6).ownBlock=some (w5.heap.size+1):=by simpa using hat6
       have C7:=Lib.hid (CS.step (x:= .slice a6 (k+1) kc6) hcs.out HB5.out HF5.out hrow6 hgrow6 hat7)
       have O7:Hid (OB (w6.setCell ⟨No,3,none⟩ (.slice a6 (k+1) kc6)) No fk fc a3 ft cap3 (.slice a6 (k+1) kc6)):=(hob.out.keep (fun o=>(FAR6.out No o HLZ.out (HNR.out No (Nat.le_refl _))).1) (fun o=>(FAR6.out No o HLZ.out (HNR.out No (Nat.le_refl _))).2.1)).set (.slice a6 (k+1) kc6)
       have R7:Hid (RB (w6.setCell ⟨No,3,none⟩ (.slice a6 (k+1) kc6)) (w.heap.size+1)):=hrb.out.keep (fun o=>(FAR6.out _ o (by have:=HLT.out;have:=HLZ.out;omega) (HNR.out _ (by have:=HLT.out;omega))).2.2 (by have:=HLT.out;omega)) (fun o=>(World.frozen?_setCell _ _ _ _).trans (FAR6.out _ o (by have:=HLT.out;have:=HLZ.out;omega) (HNR.out _ (by have:=HLT.out;omega))).2.1)
       have T7:Hid (Box w (w6.setCell ⟨No,3,none⟩ (.slice a6 (k+1) kc6)) w.heap.size fk fc ta ft tcap (some ⟨b,off,none⟩) len kcap):=by
        have hcc:∀o,(w6.setCell ⟨No,3,none⟩ (.slice a6 (k+1) kc6)).cell? ⟨w.heap.size,o,none⟩=wr.cell? ⟨w.heap.size,o,none⟩:=fun o=>(FAR6.out _ o bz (HNR.out _ (by have:=HLT.out;omega))).2.2 (by have:=HLT.out;omega)
        have hbw:Below w.heap.size w w6:=((hb.trans (HB5.out.mono (Nat.le_of_lt bz))).alloc (Nat.le_trans (Nat.le_of_lt bz) HB5.out.size) _).grown hgrow6 HBZ.out (fun g hg=>by have:=HOWN.out g hg;have:=HLT.out;omega)
        exact⟨by rw[World.size_setCell];have:=hgrow6.size;have:=HB5.out.size;simp at *; omega,(hcc 0).trans hbx.out.c0,(hcc 1).trans hbx.out.c1,(hcc 2).trans hbx.out.c2,(hcc 3).trans hbx.out.c3,hbw.setCell (p:=⟨No,3,none⟩) (by have:=HLT.out;show _≤No;omega) _⟩
       clear o36 of6 o35 o35a o3 hat6 hat7 hrow6 hgrow6 FAR6 HRW NEWS HBZ HF5 HB5 hcs hob hrb hbx g0 g1 g2 g3 q3 p0
       go_wp2_with fail
       go_roundw
       case rel=>exact⟨k+1,.slice a6 (k+1) kc6,_,by omega,by go_num,C7,O7,R7,T7⟩
       case measure=>simp[intOf];omega
     ·have hk2:k=len:=by omega
      subst hk2
      obtain⟨o0,o1,o2,o3,of3⟩:=hob.out
      obtain⟨r0,r1,r2,r3,rf⟩:=hrb.out
      obtain⟨a9,kcap9,hv9,ha9⟩:=hcs.out.row.form
      rw[hcs.out.len]at hv9
      have D9:Hid (∀w',wr.heap.size≤w'.heap.size→(∀b o,w.heap.size+1<b→w'.cell? ⟨b,o,none⟩=wr.cell? ⟨b,o,none⟩)→FLiesQ (fun b=>w.heap.size≤b∧b<w'.heap.size) w' (n+1) f [.int .i64 fk,.int .i64 fc,.slice a3 ft cap3,v]):=fun w' h1 h2=>by
       have hc9:=hcs.out
       rw[←HFL.out]at hc9
       obtain⟨c9,e9,h9⟩:=CS.done (cap3:=cap3) hc9 (by rw[HTL.out];exact ht4) (by rw[HFL.out];exact hk4) h1 h2 ⟨kcap9,by rw[←ha9,HFL.out];exact hv9⟩
       subst e9
       rw[HFK.out,HFC.out,HTL.out]at h9
       exact h9
      clear hcs hob hrb ha9
      subst hv9
      have hs9:=set4_size wr (w.heap.size+1) (.int .i64 fk) (.int .i64 fc) (.slice a3 ft cap3) (.slice a9 k kcap9)
      obtain⟨e0,e1,e2,e3⟩:=set4_at r0 r1 r2 r3 (.int .i64 fk) (.int .i64 fc) (.slice a3 ft cap3) (.slice a9 k kcap9)
      have E9:=Lib.hid (And.intro e0 (And.intro e1 (And.intro e2 e3)))
      have F9:=Lib.hid (D9.out (set4 wr (w.heap.size+1) (.int .i64 fk) (.int .i64 fc) (.slice a3 ft cap3) (.slice a9 k kcap9)) (by rw[hs9];exact Nat.le_refl _) (fun b o h=>set4_far _ _ _ _ _ _ _ _ (by omega)))
      have B9:=Lib.hid (set4_below hb (Nat.le_succ _) (.int .i64 fk) (.int .i64 fc) (.slice a3 ft cap3) (.slice a9 k kcap9))
      clear e0 e1 e2 e3 hs9 D9
      go_wp2_with fail
      clear r0 r1 r2 r3 rf o0 o1 o2 o3 of3
      refine bodyPost_ret (v:= .agg #[.int .i64 fk,.int .i64 fc,.slice a3 ft cap3,.slice a9 k kcap9]) ?_ rfl ⟨_,rfl,F9.out,B9.out⟩
      obtain⟨e0,e1,e2,e3⟩:=E9.out
      unfold set4 at e0 e1 e2 e3
      simp[results,Tryz.results19,go_sem,e0,e1,e2,e3]
end
end Go.Proofs.YtipahfcaplbifaaGreatDoor
