/- CnfMakes: its walk. CnfStays: what it stands on. norm.up, norm.reduced. -/
import Derived.Test.YtelndcmfddbgiaaDoorCt04
import Derived.Test.YtelndcmfddbgiaaDoorCt07
import Derived.Test.YtelndcmfddbgiaaDoorCt25
set_option linter.unusedVariables false
set_option linter.unusedSimpArgs false
set_option linter.unusedVariables false
set_option linter.unusedSimpArgs false
namespace Go.Proofs.YtelndcmfddbgiaaDoor
set_option maxRecDepth 100000
open Go.RowKit

theorem cnfK_in (n : Nat) (f : FT) : 0 ≤ cnfK n f ∧ cnfK n f ≤ 16 := by unfold cnfK; repeat (first | split | omega)
theorem cnfK_made {n : Nat} {f : FT} (h : cnfK n f = 0) : isF n f = true := by
  unfold cnfK at h
  split at h
  · cases h
  · rename_i hh; simpa using hh
theorem tree_cells (w : World) (x y z : Value) : (w.alloc (.cells #[x, y, z] 33)).cell? ⟨w.heap.size, 0, none⟩ = some x ∧ (w.alloc (.cells #[x, y, z] 33)).cell? ⟨w.heap.size, 1, none⟩ = some y ∧ (w.alloc (.cells #[x, y, z] 33)).cell? ⟨w.heap.size, 2, none⟩ = some z := by
  have hn := heap_alloc_new w (.cells #[x, y, z] 33)
  exact ⟨(cell_of_row _ _ _ _ _ _ hn).trans rfl, (cell_of_row _ _ _ _ _ _ hn).trans rfl, (cell_of_row _ _ _ _ _ _ hn).trans rfl⟩
/-- What Make told, in blocks that lie. -/
theorem CnfOk.lies {n : Nat} {f : FT} {B : Nat} {w : World} {av cv : Value} (h : CnfOk n f B w av cv) (hi : isF n f = true) : ∃ aa ac ca cc, av = .slice aa (atomsF n f).length ac ∧ cv = .slice ca (clsF n f).length cc ∧ LLies w.heap.size w aa (atomsF n f) ∧ Prp.CLies w.heap.size w ca (clsF n f) := by
  obtain ⟨K, Sa, Sc, k1, k2, k3, k4, k5, k6, k7, k8⟩ := h
  obtain ⟨q1, q2, q3, q4⟩ := cls_len hi
  obtain ⟨aa, ac, rfl, hs⟩ := k3.slot (by omega)
  obtain ⟨ca, cc, rfl, ht⟩ := k6.slot (by omega)
  refine ⟨aa, ac, ca, cc, rfl, rfl, llies_of hs (fun b hb => ?_), clies_of ht (fun b hb => ?_)⟩
  · rcases hb with hb | hb
    · exact (k3.ok b hb).1
    · exact (k3.lt b hb).2
  · rcases hb with hb | hb
    · exact (k6.ok b hb).1
    · exact (k6.lt b hb).2
theorem short_atoms {n : Nat} {f : FT} (hi : isF n f = true) : ∀ i, i < (atomsF n f).length → ((atomsF n f).getD i (0, [])).2.length ≤ 9223372036854775807 := fun i hi2 => by
  have := short_gat n f [] (ret_made hi) (fun y hy => by cases hy) _ (List.getElem_mem hi2)
  rw [List.getD_eq_getElem?_getD, List.getElem?_eq_getElem hi2, Option.getD_some]
  exact Nat.le_trans this (by decide)
theorem cls_small {n : Nat} {f : FT} (hi : isF n f = true) : ∀ i, i < (clsF n f).length → ((clsF n f).getD i []).length ≤ 9223372036854775807 := fun i hi2 => by
  have := (cls_len hi).2.2.2 _ (List.getElem_mem hi2)
  rw [List.getD_eq_getElem?_getD, List.getElem?_eq_getElem hi2, Option.getD_some]
  omega
set_option maxHeartbeats 16000000 in
theorem cnfMakes_any (hup : UpSaid9) (n : Nat) (f : FT) (cs : List Value) (w : World) (h : FLies w.heap.size w n f cs) (ht : Tens w.heap.size w) :
    Calls Tryd.prog 3 #[.agg cs.toArray] w fun e w' => e = .returned (.bool true) ∧ Below w.heap.size w w' := by
  obtain ⟨n, rfl⟩ : ∃ m, n = m + 1 := by
    cases n with
    | zero => exact h.elim
    | succ n => exact ⟨n, rfl⟩
  have hh := h
  obtain ⟨ta, tcap, ka, kcap, rfl, _⟩ := h
  have T0 := Lib.hid (box_start w f.kind f.c ta ka f.t.length tcap f.ks.length kcap)
  have FL := Lib.hid (fun W (hb : Below w.heap.size w W) => (hh.below hb).mono hb.size)
  have HUP := Lib.hid (fun W (hb : Below w.heap.size w W) => hup W (ht.up hb hb.size))
  have HSM := Lib.hid (fun W (hb : Below w.heap.size w W) => small_any (n + 1) f _ W (FL.out W hb))
  have HMK := Lib.hid (fun W (hb : Below w.heap.size w W) => make_any (n + 1) f _ W (FL.out W hb) (ht.up hb hb.size))
  have HRM := Lib.hid (fun W (hb : Below w.heap.size w W) => rmake_any (n + 1) f _ W (FL.out W hb))
  have hkin := cnfK_in (n + 1) f
  clear hup ht FL hh
  generalize f.kind = fk at *
  generalize f.c = fc at *
  generalize f.t.length = ft at *
  generalize f.ks.length = fl at *
  go_enter Tryd.func3, Tryd.ntmps3
  go_wp2_with fail
  refine (HUP.out _ T0.out.bel).mono ?_
  rintro e w1 ⟨rfl, hb1⟩
  have T1 := Lib.hid (T0.out.below hb1 T0.out.lt)
  clear hb1 HUP
  obtain ⟨l1, _, p0, p1, p2, p3⟩ := T1.out
  go_wp2_with fail
  refine (HSM.out _ T1.out.bel).mono ?_
  rintro e w2 ⟨b, rfl, hb2⟩
  have T2 := Lib.hid (T1.out.below hb2 T1.out.lt)
  clear hb2 HSM l1 p0 p1 p2 p3
  obtain ⟨l2, _, p0, p1, p2, p3⟩ := T2.out
  cases b with
  | false =>
    go_wp2_with fail
    go_ret
    exact ⟨rfl, T2.out.bel⟩
  | true =>
    have HM2 := Lib.hid (HMK.out _ T2.out.bel)
    clear HMK
    go_wp2_with fail
    refine HM2.out.mono ?_
    rintro e w3 ⟨hbad, hok, hb3⟩
    clear HM2
    by_cases hk : cnfK (n + 1) f = 0
    · obtain ⟨av, cv, rfl, hO⟩ := hok hk
      have hi := cnfK_made hk
      obtain ⟨aa, ac, ca, cc, rfl, rfl, hla, hlc⟩ := hO.lies hi
      obtain ⟨q1, q2, q3, q4⟩ := cls_len hi
      have T3 := Lib.hid (T2.out.below hb3 T2.out.lt)
      clear hbad hok hO hb3 l2 p0 p1 p2 p3
      obtain ⟨N, hN⟩ : ∃ N, N = (makF (n + 1) f).n := ⟨_, rfl⟩
      obtain ⟨an, han⟩ : ∃ an, an = (atomsF (n + 1) f).length := ⟨_, rfl⟩
      obtain ⟨cn, hcn⟩ : ∃ cn, cn = (clsF (n + 1) f).length := ⟨_, rfl⟩
      have HAN := Lib.hid han
      have HCN := Lib.hid hcn
      have HNN := Lib.hid hN
      rw [← hN, ← han, ← hcn]
      clear hN han hcn
      have hA3 : Below w3.heap.size w3 (w3.alloc (.cells #[.int .i64 N, .slice aa an ac, .slice ca cn cc] 33)) := (Below.refl _ _).alloc (Nat.le_refl _) _
      have hc3 := tree_cells w3 (.int .i64 N) (.slice aa an ac) (.slice ca cn cc)
      have T4 := Lib.hid (T3.out.below hA3 T3.out.lt)
      have hz3 : w3.heap.size < (w3.alloc (.cells #[.int .i64 N, .slice aa an ac, .slice ca cn cc] 33)).heap.size := by simp
      have HLA := Lib.hid ((hla.below hA3).mono hA3.size)
      have HLC := Lib.hid ((hlc.below hA3).mono hA3.size)
      have HC3 := Lib.hid hc3
      have HZ3 := Lib.hid hz3
      have HRM4 := Lib.hid (HRM.out _ T4.out.bel)
      have HSH := Lib.hid (short_atoms hi)
      have HCS := Lib.hid (cls_small hi)
      have HQ := Lib.hid (And.intro q1 q3)
      have HK := Lib.hid hk
      clear hA3 hc3 hz3 hla hlc hi q1 q2 q3 q4 hk HRM
      obtain ⟨l4, _, p0, p1, p2, p3⟩ := T4.out
      have T3' := T3.out
      obtain ⟨_, _, r0, r1, r2, r3⟩ := T3'
      go_wp2_with fail
      generalize w3.alloc (.cells #[.int .i64 N, .slice aa an ac, .slice ca cn cc] 33) = W4 at *
      clear r0 r1 r2 r3
      have HX0 := Lib.hid HC3.out.1
      have HX1 := Lib.hid HC3.out.2.1
      have HX2 := Lib.hid HC3.out.2.2
      refine HRM4.out.mono ?_
      rintro e w5 ⟨_, hok, hb5⟩
      obtain ⟨ba, bc, da, dc, rfl, hs1, hs2⟩ := hok HK.out
      rw [← HAN.out, ← HCN.out, ← HNN.out]
      have hA5 : Below w5.heap.size w5 (w5.alloc (.cells #[.int .i64 N, .slice ba an bc, .slice da cn dc] 33)) := (Below.refl _ _).alloc (Nat.le_refl _) _
      have hb6 := hb5.trans (hA5.mono hb5.size)
      have hc6 := tree_cells w5 (.int .i64 N) (.slice ba an bc) (.slice da cn dc)
      have T6 := Lib.hid (T4.out.below hb6 T4.out.lt)
      have x0 := (hb6.cell (p := ⟨w3.heap.size, 0, none⟩) HZ3.out).trans HX0.out
      have x1 := (hb6.cell (p := ⟨w3.heap.size, 1, none⟩) HZ3.out).trans HX1.out
      have x2 := (hb6.cell (p := ⟨w3.heap.size, 2, none⟩) HZ3.out).trans HX2.out
      have HLA6 := Lib.hid ((HLA.out.below hb6).mono hb6.size)
      have HLC6 := Lib.hid ((HLC.out.below hb6).mono hb6.size)
      have HLB6 := Lib.hid (((llies_of hs1 (fun b hb => hb)).below hA5).mono hA5.size)
      have HLD6 := Lib.hid (((clies_of hs2 (fun b hb => hb)).below hA5).mono hA5.size)
      obtain ⟨y0, y1, y2⟩ := hc6
      have HCO := Lib.hid (fun W => Prp.code_any 0 W (by decide))
      rw [show Prp.codeV 0 = .nilIface from rfl] at HCO
      have HSL := Lib.hid (rsames_any aa an ac (atomsF (n + 1) f) ba an bc (atomsF (n + 1) f) _ HAN.out.symm HAN.out.symm (by have := HQ.out.1; have := HAN.out; omega) (by have := HQ.out.1; have := HAN.out; omega) HLA6.out (by rw [HAN.out]; exact HSH.out) HLB6.out (by rw [HAN.out]; exact HSH.out))
      rw [decide_eq_true rfl] at HSL
      have HSC := Lib.hid (fun W (hb : Below (w5.alloc (.cells #[.int .i64 N, .slice ba an bc, .slice da cn dc] 33)).heap.size (w5.alloc (.cells #[.int .i64 N, .slice ba an bc, .slice da cn dc] 33)) W) => sameClauses_any ca da cn cc dc (clsF (n + 1) f) W HCN.out.symm (by have := HQ.out.2; have := HCN.out; omega) ((HLC6.out.below hb).mono hb.size) ((HLD6.out.below hb).mono hb.size) (by rw [HCN.out]; exact HCS.out))
      have hz5 : w5.heap.size < (w5.alloc (.cells #[.int .i64 N, .slice ba an bc, .slice da cn dc] 33)).heap.size := by simp
      have HZ5 := Lib.hid hz5
      have HZ36 : Hid (w3.heap.size < (w5.alloc (.cells #[.int .i64 N, .slice ba an bc, .slice da cn dc] 33)).heap.size) := Lib.hid (Nat.lt_of_lt_of_le HZ3.out hb6.size)
      have e00 : ((N : Int) == (N : Int)) = true := by simp
      have HXY := Lib.hid (And.intro x2 y2)
      clear hok hs1 hs2 hA5 hb6 hb5 HRM4 HX0 HX1 HX2 HLA HLC HLA6 HLC6 HLB6 HLD6 hz5 l4 p0 p1 p2 p3 HC3
      go_wp2_with fail
      generalize w5.alloc (.cells #[.int .i64 N, .slice ba an bc, .slice da cn dc] 33) = W6 at *
      refine (HCO.out _).mono ?_
      rintro e w6 ⟨rfl, rfl⟩
      go_wp2_with fail
      refine HSL.out.mono ?_
      rintro e w7 ⟨rfl, hb7⟩
      have z2 := (hb7.cell (p := ⟨w3.heap.size, 2, none⟩) HZ36.out).trans HXY.out.1
      have u2 := (hb7.cell (p := ⟨w5.heap.size, 2, none⟩) HZ5.out).trans HXY.out.2
      have HC7 := Lib.hid (HSC.out _ hb7)
      have HB7 := Lib.hid (T6.out.bel.trans (hb7.mono T6.out.bel.size))
      clear x0 x1 x2 y0 y1 y2 hb7 HSL HSC
      go_wp2_with fail
      refine HC7.out.mono ?_
      rintro e w8 ⟨rfl, hb8⟩
      have HE := Lib.hid (HB7.out.trans (hb8.mono HB7.out.size))
      clear hb8 HC7
      go_wp2_with fail
      go_ret
      exact ⟨rfl, HE.out⟩
    · have e3 := hbad hk
      subst e3
      have T3 := Lib.hid (T2.out.below hb3 T2.out.lt)
      clear hbad hok hb3 l2 p0 p1 p2 p3
      have hA3 : Below w3.heap.size w3 (w3.alloc (.cells #[.int .i64 0, .slice none 0 0, .slice none 0 0] 33)) := (Below.refl _ _).alloc (Nat.le_refl _) _
      have hc3 := tree_cells w3 (.int .i64 0) (.slice none 0 0) (.slice none 0 0)
      have T4 := Lib.hid (T3.out.below hA3 T3.out.lt)
      have hz3 : w3.heap.size < (w3.alloc (.cells #[.int .i64 0, .slice none 0 0, .slice none 0 0] 33)).heap.size := by simp
      have HC3 := Lib.hid hc3
      have HZ3 := Lib.hid hz3
      have HRM4 := Lib.hid (HRM.out _ T4.out.bel)
      have HK := Lib.hid hk
      have HKI := Lib.hid hkin
      clear hA3 hc3 hz3 HRM
      obtain ⟨l4, _, p0, p1, p2, p3⟩ := T4.out
      have T3' := T3.out
      obtain ⟨_, _, r0, r1, r2, r3⟩ := T3'
      go_wp2_with fail
      generalize w3.alloc (.cells #[.int .i64 0, .slice none 0 0, .slice none 0 0] 33) = W4 at *
      clear r0 r1 r2 r3
      refine HRM4.out.mono ?_
      rintro e w5 ⟨hbad, _, hb5⟩
      have e5 := hbad HK.out
      subst e5
      have hA5 : Below w5.heap.size w5 (w5.alloc (.cells #[.int .i64 0, .slice none 0 0, .slice none 0 0] 33)) := (Below.refl _ _).alloc (Nat.le_refl _) _
      have hb6 := hb5.trans (hA5.mono hb5.size)
      have hc6 := tree_cells w5 (.int .i64 0) (.slice none 0 0) (.slice none 0 0)
      have T6 := Lib.hid (T4.out.below hb6 T4.out.lt)
      have x0 := (hb6.cell (p := ⟨w3.heap.size, 0, none⟩) HZ3.out).trans HC3.out.1
      have x1 := (hb6.cell (p := ⟨w3.heap.size, 1, none⟩) HZ3.out).trans HC3.out.2.1
      have x2 := (hb6.cell (p := ⟨w3.heap.size, 2, none⟩) HZ3.out).trans HC3.out.2.2
      obtain ⟨y0, y1, y2⟩ := hc6
      have HCO := Lib.hid (fun W => Prp.code_any (cnfK (n + 1) f) W HKI.out)
      rw [show Prp.codeV (cnfK (n + 1) f) = .iface 43 (.int .i64 (cnfK (n + 1) f)) from if_neg HK.out] at HCO
      have HSL := Lib.hid (fun W => rsames_any none 0 0 [] none 0 0 [] W rfl rfl (by omega) (by omega) (fun i hi => absurd hi (Nat.not_lt_zero i)) (fun i hi => absurd hi (Nat.not_lt_zero i)) (fun i hi => absurd hi (Nat.not_lt_zero i)) (fun i hi => absurd hi (Nat.not_lt_zero i)))
      rw [decide_eq_true rfl] at HSL
      have HSC := Lib.hid (fun W => sameClauses_any none none 0 0 0 [] W rfl (by omega) (fun i hi => absurd hi (Nat.not_lt_zero i)) (fun i hi => absurd hi (Nat.not_lt_zero i)) (fun i hi => absurd hi (Nat.not_lt_zero i)))
      have hz5 : w5.heap.size < (w5.alloc (.cells #[.int .i64 0, .slice none 0 0, .slice none 0 0] 33)).heap.size := by simp
      have HZ5 := Lib.hid hz5
      have HZ36 : Hid (w3.heap.size < (w5.alloc (.cells #[.int .i64 0, .slice none 0 0, .slice none 0 0] 33)).heap.size) := Lib.hid (Nat.lt_of_lt_of_le HZ3.out hb6.size)
      have HXY := Lib.hid (And.intro x2 y2)
      clear hbad hA5 hb6 hb5 HRM4 hz5 l4 p0 p1 p2 p3 HC3 hkin hk
      generalize cnfK (n + 1) f = kk at *
      have ekk : (kk == kk) = true := by simp
      go_wp2_with fail
      generalize w5.alloc (.cells #[.int .i64 0, .slice none 0 0, .slice none 0 0] 33) = W6 at *
      refine (HCO.out _).mono ?_
      rintro e w6 ⟨rfl, rfl⟩
      go_wp2_with fail
      refine (HSL.out _).mono ?_
      rintro e w7 ⟨rfl, hb7⟩
      have z2 := (hb7.cell (p := ⟨w3.heap.size, 2, none⟩) HZ36.out).trans HXY.out.1
      have u2 := (hb7.cell (p := ⟨w5.heap.size, 2, none⟩) HZ5.out).trans HXY.out.2
      have HB7 := Lib.hid (T6.out.bel.trans (hb7.mono T6.out.bel.size))
      clear x0 x1 x2 y0 y1 y2 hb7 HSL
      go_wp2_with fail
      refine (HSC.out _).mono ?_
      rintro e w8 ⟨rfl, hb8⟩
      have HE := Lib.hid (HB7.out.trans (hb8.mono HB7.out.size))
      clear hb8 HSC
      go_wp2_with fail
      go_ret
      exact ⟨rfl, HE.out⟩
end Go.Proofs.YtelndcmfddbgiaaDoor

set_option linter.unusedVariables false
set_option linter.unusedSimpArgs false
namespace Go.Proofs.YtelndcmfddbgiaaDoor
set_option maxRecDepth 100000
open Go.RowKit

/-- Numbers in blocks of S are overwritten, all else stands. -/
structure Scr (S : Nat → Prop) (w wr : World) : Prop where
  os : wr.os = w.os
  tape : wr.tape = w.tape
  output : wr.output = w.output
  size : w.heap.size ≤ wr.heap.size
  out : ∀ q, q < w.heap.size → ¬ S q → wr.heap[q]? = w.heap[q]?
  int : ∀ b o v, S b → w.cell? ⟨b, o, none⟩ = some (.int .i64 v) → ∃ v', wr.cell? ⟨b, o, none⟩ = some (.int .i64 v')
  nf : ∀ b, S b → ∀ o, wr.frozen? ⟨b, o, none⟩ = false
theorem Scr.refl {S : Nat → Prop} {w : World} (h : ∀ b, S b → ∀ o, w.frozen? ⟨b, o, none⟩ = false) : Scr S w w := ⟨rfl, rfl, rfl, Nat.le_refl _, fun _ _ _ => rfl, fun b o v _ h => ⟨v, h⟩, h⟩
theorem Scr.set {S : Nat → Prop} {w wr : World} (h : Scr S w wr) {b o : Nat} (hb : S b) (y : Int) : Scr S w (wr.setCell ⟨b, o, none⟩ (.int .i64 y)) := by
  refine ⟨h.os, h.tape, h.output, by simpa [World.setCell] using h.size, fun q hq hn => ?_, fun b' o' v hb' hv => ?_, fun b' hb' o' => by rw [World.frozen?_setCell]; exact h.nf b' hb' o'⟩
  · rw [Below.heap_setCell _ _ _ _ (fun e => hn (by rw [e]; exact hb))]
    exact h.out q hq hn
  · obtain ⟨v', hv'⟩ := h.int b' o' v hb' hv
    by_cases e : (⟨b, o, none⟩ : Addr) = ⟨b', o', none⟩
    · rw [← e]
      rw [← e] at hv'
      exact ⟨y, World.cell?_setCell_same _ _ _ hv'⟩
    · exact ⟨v', by rw [World.cell?_setCell_other _ _ _ _ e]; exact hv'⟩
theorem Scr.low {S : Nat → Prop} {w wr : World} (h : Scr S w wr) {B : Nat} (hB : ∀ b, S b → B ≤ b) (hBw : B ≤ w.heap.size) : Below B w wr :=
  ⟨h.os, h.tape, h.output, h.size, fun q hq => h.out q (by omega) (fun hs => by have := hB q hs; omega)⟩
theorem Scr.cell {S : Nat → Prop} {w wr : World} (h : Scr S w wr) {b o : Nat} {u : Value} (hb : b < w.heap.size ∧ ¬ S b) (hc : w.cell? ⟨b, o, none⟩ = some u) : wr.cell? ⟨b, o, none⟩ = some u := (World.cell?_of_block (a := ⟨b, o, none⟩) (h.out b hb.1 hb.2)).trans hc
theorem Scr.below {S : Nat → Prop} {w wr wq : World} (h : Scr S w wr) (hS : ∀ b, S b → b < w.heap.size) (hb : Below wr.heap.size wr wq) : Scr S w wq :=
  ⟨hb.os.trans h.os, hb.tape.trans h.tape, hb.output.trans h.output, Nat.le_trans h.size hb.size, fun q hq hn => (hb.block q (Nat.lt_of_lt_of_le hq h.size)).trans (h.out q hq hn), fun b o v hs hv => by
    obtain ⟨v', hv'⟩ := h.int b o v hs hv
    exact ⟨v', (hb.cell (p := ⟨b, o, none⟩) (Nat.lt_of_lt_of_le (hS b hs) h.size)).trans hv'⟩, fun b hs o => (World.frozen?_of_block (a := ⟨b, o, none⟩) (hb.block b (Nat.lt_of_lt_of_le (hS b hs) h.size))).trans (h.nf b hs o)⟩
/-- Clauses, atoms whose numbers may be overwritten. -/
def WrC (S : Nat → Prop) (w : World) (ca : Option Addr) (cn : Nat) : Prop := ∀ i, i < cn → ∃ b off ta n tcap, ca = some ⟨b, off, none⟩ ∧ (b < w.heap.size ∧ ¬ S b) ∧ w.cell? ⟨b, off + i, none⟩ = some (.slice ta n tcap) ∧ n ≤ 9223372036854775807 ∧ ∀ k, k < n → ∃ b' off', ta = some ⟨b', off', none⟩ ∧ S b' ∧ ∃ v, w.cell? ⟨b', off' + k, none⟩ = some (.int .i64 v)
def WrA (S : Nat → Prop) (w : World) (aa : Option Addr) (an : Nat) : Prop := ∀ i, i < an → ∃ b off ta n tcap, aa = some ⟨b, off, none⟩ ∧ (b < w.heap.size ∧ ¬ S b) ∧ w.cell? ⟨b, off + i * 2 + 1, none⟩ = some (.slice ta n tcap) ∧ n ≤ 9223372036854775807 ∧ ∀ k, k < n → ∃ b' off', ta = some ⟨b', off', none⟩ ∧ S b' ∧ ∃ v, w.cell? ⟨b', off' + k * 2 + 1, none⟩ = some (.int .i64 v)
theorem OwnP.at' {T : Type} {sh : Pak.Sh T} {e : TypeId} {B : Nat} {S : Nat → Prop} {xs : List T} {v : Value} {w : World} (h : OwnP sh e B S xs v w) {a : Option Addr} {n cap : Nat} (hv : v = .slice a n cap) {i : Nat} (hi : i < xs.length) : ∃ g cs, a = some ⟨g, 0, none⟩ ∧ v.ownBlock = some g ∧ (∀ j u, cs[j]? = some u → w.cell? ⟨g, 0 + i * sh.k + j, none⟩ = some u) ∧ sh.rel S w cs xs[i] := by
  obtain ⟨css, h1, h2, h3⟩ := h.row
  have hk : ∀ cs ∈ css, cs.length = sh.k := fun cs hc => by
    obtain ⟨i, hi, rfl⟩ := List.getElem_of_mem hc
    exact sh.len (h3 i (by omega) hi)
  have hc := fun g => World.ownsRow.cells h2 (g := g)
  obtain ⟨_, ⟨rfl, h0⟩ | ⟨g, cap, cur, rfl, _⟩⟩ := h2
  · omega
  · injection hv with hv1 hv2 hv3
    refine ⟨g, css[i]'(by omega), hv1.symm, rfl, fun j u hu => ?_, h3 i hi (by omega)⟩
    have hj : j < sh.k := by
      have := (List.getElem?_eq_some_iff.1 hu).1
      rwa [hk _ (List.getElem_mem _)] at this
    have := hc g rfl (i * sh.k + j) u (by rw [Pak.flatten_get hk i j (by omega) hj]; exact hu)
    rwa [show (⟨g, 0, none⟩ : Addr).add (i * sh.k + j) = ⟨g, 0 + i * sh.k + j, none⟩ by unfold Addr.add; split <;> simp_all] at this
def atomsX (n : Nat) (f : FT) : List (Int × List (Int × Int)) := if cnfK n f = 0 then atomsF n f else []
def clsX (n : Nat) (f : FT) : List (List Int) := if cnfK n f = 0 then clsF n f else []
def nX (n : Nat) (f : FT) : Nat := if cnfK n f = 0 then (makF n f).n else 0
/-- What Make answers, whatever it is: it lies, and its numbers may be overwritten. -/
structure MkL (n : Nat) (f : FT) (B : Nat) (w' : World) (aa : Option Addr) (an ac : Nat) (ca : Option Addr) (cn cc : Nat) (S : Nat → Prop) : Prop where
  eA : (atomsX n f).length = an
  eC : (clsX n f).length = cn
  cl : Prp.CLies w'.heap.size w' ca (clsX n f)
  hS : ∀ b, S b → B ≤ b ∧ b < w'.heap.size
  nf : ∀ b, S b → ∀ o, w'.frozen? ⟨b, o, none⟩ = false
  wc : WrC S w' ca cn
  wa : WrA S w' aa an
  ln : an ≤ 9223372036854775807 ∧ cn ≤ 9223372036854775807
  cs : ∀ j, j < cn → ((clsX n f).getD j []).length ≤ 9223372036854775807
theorem CnfEnd.lies {n : Nat} {f : FT} {w w' : World} {e : Ending} (h : CnfEnd n f w e w') : ∃ aa an ac ca cn cc S, e = .returned (.tuple #[.agg #[.int .i64 (nX n f), .slice aa an ac, .slice ca cn cc], Prp.codeV (cnfK n f)]) ∧ MkL n f w.heap.size w' aa an ac ca cn cc S := by
  obtain ⟨hbad, hok, hb⟩ := h
  by_cases hk : cnfK n f = 0
  · obtain ⟨av, cv, rfl, K, Sa, Sc, k1, k2, k3, k4, k5, k6, k7, k8⟩ := hok hk
    have hi := cnfK_made hk
    obtain ⟨q1, q2, q3, q4⟩ := cls_len hi
    obtain ⟨aa, ac, ea⟩ := k3.form
    obtain ⟨ca, cc, ec⟩ := k6.form
    obtain ⟨ca', cc', ec', hsc⟩ := k6.slot (by omega)
    have e2 : ca = ca' := by rw [ec] at ec'; injection ec'
    subst e2
    have ha : atomsX n f = atomsF n f := if_pos hk
    have hc : clsX n f = clsF n f := if_pos hk
    have hn : nX n f = (makF n f).n := if_pos hk
    refine ⟨aa, (atomsF n f).length, ac, ca, (clsF n f).length, cc, fun b => Sa b ∨ Sc b, by rw [hn, hk, ea, ec]; rfl, by rw [ha], by rw [hc], ?_, fun b hb => ?_, k8, fun i hi2 => ?_, fun i hi2 => ?_, by omega, by rw [hc]; exact cls_small hi⟩
    · rw [hc]
      exact clies_of hsc (fun b hb => by
        rcases hb with hb | hb
        · exact (k6.ok b hb).1
        · exact (k6.lt b hb).2)
    · rcases hb with hb | hb
      · exact ⟨(k4 b hb).1, (k3.ok b hb).1⟩
      · exact ⟨Nat.le_trans k1 (k7 b hb), (k6.ok b hb).1⟩
    · obtain ⟨g, cs, e1, e2, e3, v, rfl, ta, tcap, rfl, hl, hs⟩ := k6.at' ec hi2
      have c0 := e3 0 _ rfl
      rw [show Pak.clauseSh.k = 1 from rfl, Nat.mul_one, Nat.add_zero] at c0
      refine ⟨g, 0, ta, _, tcap, e1, ⟨(k6.lt g e2).2, fun hh => ?_⟩, c0, hl, fun k hk => ?_⟩
      · rcases hh with hh | hh
        · have := (k4 g hh).2; have := (k6.lt g e2).1; omega
        · exact (k6.ok g hh).2 e2
      · obtain ⟨b', off', us, f1, f2, f3, rfl, _⟩ := hs k hk
        have := f3 0 _ rfl
        rw [show Pak.intSh.k = 1 from rfl, Nat.mul_one, Nat.add_zero] at this
        exact ⟨b', off', f1, .inr f2, _, this⟩
    · obtain ⟨g, cs, e1, e2, e3, ta, tcap, rfl, hs⟩ := k3.at' ea hi2
      have c1 := e3 1 _ rfl
      rw [show linSh.k = 2 from rfl] at c1
      have hsl := short_atoms hi i hi2
      rw [List.getD_eq_getElem?_getD, List.getElem?_eq_getElem hi2, Option.getD_some] at hsl
      refine ⟨g, 0, ta, _, tcap, e1, ⟨(k3.lt g e2).2, fun hh => ?_⟩, c1, hsl, fun k hk => ?_⟩
      · rcases hh with hh | hh
        · exact (k3.ok g hh).2 e2
        · have := k7 g hh; have := k5 g e2; omega
      · obtain ⟨b', off', f1, f2, f3, f4⟩ := hs k hk
        exact ⟨b', off', f1, .inl f2, _, f4⟩
  · have ha : atomsX n f = [] := if_neg hk
    have hc : clsX n f = [] := if_neg hk
    have hn : nX n f = 0 := if_neg hk
    refine ⟨none, 0, 0, none, 0, 0, fun _ => False, by rw [hn, hbad hk]; unfold Prp.codeV; rw [if_neg hk]; rfl, by rw [ha]; rfl, by rw [hc]; rfl, by rw [hc]; exact fun i hi => absurd hi (Nat.not_lt_zero i), fun b h => h.elim, fun b h => h.elim, fun i hi => absurd hi (Nat.not_lt_zero i), fun i hi => absurd hi (Nat.not_lt_zero i), by omega, fun j hj => absurd hj (Nat.not_lt_zero j)⟩
theorem RCnfEnd.lies {n : Nat} {f : FT} {w w' : World} {e : Ending} (h : RCnfEnd n f w e w') : ∃ aa ac ca cc, e = .returned (.tuple #[.agg #[.int .i64 (nX n f), .slice aa (atomsX n f).length ac, .slice ca (clsX n f).length cc], .int .i64 (cnfK n f)]) ∧ Prp.CLies w'.heap.size w' ca (clsX n f) := by
  obtain ⟨hbad, hok, hb⟩ := h
  by_cases hk : cnfK n f = 0
  · obtain ⟨aa, ac, ca, cc, rfl, hs1, hs2⟩ := hok hk
    have ha : atomsX n f = atomsF n f := if_pos hk
    have hc : clsX n f = clsF n f := if_pos hk
    have hn : nX n f = (makF n f).n := if_pos hk
    exact ⟨aa, ac, ca, cc, by rw [hn, hk, ha, hc], by rw [hc]; exact clies_of hs2 (fun b hb => hb)⟩
  · have ha : atomsX n f = [] := if_neg hk
    have hc : clsX n f = [] := if_neg hk
    have hn : nX n f = 0 := if_neg hk
    exact ⟨none, 0, none, 0, by rw [hn, hbad hk, ha, hc]; rfl, by rw [hc]; exact fun i hi => absurd hi (Nat.not_lt_zero i)⟩
end Go.Proofs.YtelndcmfddbgiaaDoor

namespace Go.Proofs.YtelndcmfddbgiaaDoor
open Go.RowKit

/-- A number divided by another one above 0, rounded up. -/
def upI (c g : Int) : Int := if 0 < c.tmod g then c.tdiv g + 1 else c.tdiv g

theorem tdiv_in {c g : Int} {B : Nat} (hc : c.natAbs ≤ B) : -(B : Int) ≤ c.tdiv g ∧ c.tdiv g ≤ B := by
  have h : (c.tdiv g).natAbs = c.natAbs / g.natAbs := Int.natAbs_tdiv c g
  have h2 := Nat.div_le_self c.natAbs g.natAbs
  omega
theorem upI_in {c g : Int} {B : Nat} (hc : c.natAbs ≤ B) : -(B : Int) ≤ upI c g ∧ upI c g ≤ B + 1 := by
  have := tdiv_in (g := g) hc
  unfold upI
  split <;> omega

theorem up_any (c g : Int) (w : World) (hg : 1 ≤ g) (hc : -1073741824 ≤ c ∧ c ≤ 1073741824) :
    Calls Tryd.prog 85 #[.int .i64 c, .int .i64 g] w fun e w' => e = .returned (.int .i64 (upI c g)) ∧ w = w' := by
  have hg0 : g ≠ 0 := by omega
  have hb := tdiv_in (c := c) (g := g) (B := 1073741824) (by omega)
  by_cases h : 0 < c.tmod g
  · have e : upI c g = c.tdiv g + 1 := by unfold upI; rw [if_pos h]
    rw [e]
    go_enter Tryd.func85, Tryd.ntmps85
    go_wp2
    go_ret
    exact ⟨rfl, rfl⟩
  · have e : upI c g = c.tdiv g := by unfold upI; rw [if_neg h]
    rw [e]
    go_enter Tryd.func85, Tryd.ntmps85
    go_wp2
    go_ret
    exact ⟨rfl, rfl⟩
end Go.Proofs.YtelndcmfddbgiaaDoor
