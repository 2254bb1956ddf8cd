/- The document's SameClauses, of the same clauses. CnfMakes: its walk. How the arguments of layer 1 read: a list of terms, a form. -/
import Derived.Test.YtelndcmfddbgiaaDoorCr02
import Derived.Test.YtelndcmfddbgiaaDoorCr22
import Derived.Lib.QuietBelow
import Derived.BigQuiet
import Derived.Test.YtelndcmfddbgiaaDoorRows
import Derived.ProofKit
import Derived.OpenShut
import Derived.ChangeOld
import Derived.Deep.Slices
import Derived.Deep.Fields
import Derived.Lib.SmallJoins
set_option linter.unusedVariables false
set_option linter.unusedSimpArgs false
set_option linter.unusedVariables false
set_option linter.unusedSimpArgs false
namespace Go.Proofs.YtelndcmfddbgiaaDoor
set_option maxRecDepth 100000
open Go.RowKit

set_option maxHeartbeats 4000000 in
theorem sameClauses_any (a b : Option Addr) (n capa capb : Nat) (cs : List (List Int)) (w : World) (hn : cs.length = n) (hnm : n ≤ 9223372036854775807) (ha : Prp.CLies w.heap.size w a cs) (hb : Prp.CLies w.heap.size w b cs) (hk : ∀ j, j < n → (cs.getD j []).length ≤ 9223372036854775807) :
    Calls Tryd.prog 13 #[.slice a n capa, .slice b n capb] w fun e w' => e = .returned (.bool true) ∧ Below w.heap.size w w' := by
  have HA := Lib.hid ha
  have HB := Lib.hid hb
  have HN := Lib.hid hn
  have HK := Lib.hid hk
  have hnn : ((n : Int) != (n : Int)) = false := by simp
  clear ha hb hn hk
  go_enter Tryd.func13, Tryd.ntmps13
  go_wp2_with fail
  go_loopw [5] (fun i wr => ∃ k : Nat, i = .int .i64 k ∧ k ≤ n ∧ Hid (Below w.heap.size w wr)) (fun i _ => n - (intOf i).toNat)
  case atStart => exact ⟨0, rfl, Nat.zero_le _, Below.refl _ _⟩
  case round =>
    obtain ⟨k, rfl, hk, hbw⟩ := hrel
    by_cases hlt : k < n
    · have hlti : (k : Int) < (n : Int) := by omega
      obtain ⟨b1, o1, t1, c1, rfl, hl1, x1, n1⟩ := HA.out k (by rw [HN.out]; exact hlt)
      obtain ⟨b2, o2, t2, c2, rfl, hl2, x2, n2⟩ := HB.out k (by rw [HN.out]; exact hlt)
      have hlen := HK.out k hlt
      generalize cs.getD k [] = c at *
      rw [← hbw.out.cell (p := ⟨b1, _, none⟩) hl1] at x1
      rw [← hbw.out.cell (p := ⟨b2, _, none⟩) hl2] at x2
      have HX : Hid (∀ W, Below w.heap.size wr W → W.cell? ⟨b1, o1 + k, none⟩ = some (.slice t1 c.length c1) ∧ W.cell? ⟨b2, o2 + k, none⟩ = some (.slice t2 c.length c2)) := Lib.hid fun W hW => ⟨(hW.cell (p := ⟨b1, _, none⟩) hl1).trans x1, (hW.cell (p := ⟨b2, _, none⟩) hl2).trans x2⟩
      have HN1 := Lib.hid (n1.below hbw.out)
      have HN2 := Lib.hid (n2.below hbw.out)
      have q1 := fun d os => cell_regrown x1 d os
      have q2 := fun d os => cell_regrown x2 d os
      generalize hcl : c.length = cl at *
      have HCL := Lib.hid hcl
      have hcc : ((cl : Int) != (cl : Int)) = false := by simp
      clear n1 n2 hcl x1 x2 hl1 hl2
      go_wp2_with fail
      refine wp_region_quiet_below (by kernel_rfl) (by kernel_rfl) ?_
      repeat (go_big_quiet_step (fail))
      refine wpQuiet_nil ?_
      intro w2 hw'
      obtain ⟨⟨dq, osq⟩, hw''⟩ := hw'
      have HB2 : Hid (Below wr.heap.size wr w2) := Lib.hid (by rw [hw'']; exact below_regrown wr dq osq)
      clear hw'' q1 q2
      have hwz : w.heap.size ≤ wr.heap.size := hbw.out.size
      have HWZ := Lib.hid hwz
      have HBW := hbw
      clear hwz hbw
      go_wp2_with fail
      obtain ⟨wo, hwo⟩ : ∃ wo, wo = wr := ⟨_, rfl⟩
      rw [← hwo] at HX HN1 HN2 HB2 HWZ HBW
      clear hwo
      go_loopw [6] (fun i wr => ∃ l : Nat, i = .int .i64 l ∧ l ≤ cl ∧ Hid (Below w.heap.size wo wr)) (fun i _ => cl - (intOf i).toNat)
      case atStart => exact ⟨0, rfl, Nat.zero_le _, HB2.out.mono HWZ.out⟩
      case round =>
        obtain ⟨l, rfl, hl, hb3⟩ := hrel
        obtain ⟨x1, x2⟩ := HX.out _ hb3.out
        by_cases hlt2 : l < cl
        · have hlti2 : (l : Int) < (cl : Int) := by omega
          obtain ⟨b3, o3, rfl, hl3, y1⟩ := HN1.out l (by rw [HCL.out]; exact hlt2)
          obtain ⟨b4, o4, rfl, hl4, y2⟩ := HN2.out l (by rw [HCL.out]; exact hlt2)
          generalize c.getD l 0 = x at y1 y2
          rw [← hb3.out.cell (p := ⟨b3, _, none⟩) hl3] at y1
          rw [← hb3.out.cell (p := ⟨b4, _, none⟩) hl4] at y2
          have q1 := fun d os => cell_regrown x1 d os
          have q2 := fun d os => cell_regrown x2 d os
          have q3 := fun d os => cell_regrown y1 d os
          have q4 := fun d os => cell_regrown y2 d os
          have hxx : (x != x) = false := by simp
          clear y1 y2 hl3 hl4
          go_wp2_with fail
          refine wp_region_quiet_below (by kernel_rfl) (by kernel_rfl) ?_
          repeat (go_big_quiet_step (fail))
          refine wpQuiet_nil ?_
          intro w4 hw'
          obtain ⟨⟨dq, osq⟩, hw''⟩ := hw'
          have HB4 : Hid (Below w.heap.size wo w4) := Lib.hid (by rw [hw'']; exact hb3.out.trans ((below_regrown _ dq osq).mono (by have := hb3.out.size; have := HWZ.out; omega)))
          clear hw'' q1 q2 q3 q4 x1 x2 hb3
          go_wp2_with fail
          go_roundw
          case rel => exact ⟨l + 1, by go_num, by omega, HB4⟩
          case measure => simp [intOf]; omega
        · have hlti2 : ¬ (l : Int) < (cl : Int) := by omega
          have HBE : Hid (Below w.heap.size w _) := Lib.hid (HBW.out.trans hb3.out)
          clear hb3
          go_wp2_with fail
          clear x1 x2
          go_roundw
          case rel => exact ⟨k + 1, by go_num, by omega, HBE⟩
          case measure => simp [intOf]; omega
    · have hlti : ¬ (k : Int) < (n : Int) := by omega
      go_wp2_with fail
      go_ret
      exact ⟨rfl, hbw.out⟩
end Go.Proofs.YtelndcmfddbgiaaDoor

set_option linter.unusedVariables false
set_option linter.unusedSimpArgs false
namespace Go.Proofs.YtelndcmfddbgiaaDoor
set_option maxRecDepth 100000
open Go.RowKit

theorem cnfK_in (n : Nat) (f : FT) : 0 ≤ cnfK n f ∧ cnfK n f ≤ 16 := by unfold cnfK; repeat (first | split | omega)
theorem cnfK_made {n : Nat} {f : FT} (h : cnfK n f = 0) : isF n f = true := by
  unfold cnfK at h
  split at h
  · cases h
  · rename_i hh; simpa using hh
theorem tree_cells (w : World) (x y z : Value) : (w.alloc (.cells #[x, y, z] 33)).cell? ⟨w.heap.size, 0, none⟩ = some x ∧ (w.alloc (.cells #[x, y, z] 33)).cell? ⟨w.heap.size, 1, none⟩ = some y ∧ (w.alloc (.cells #[x, y, z] 33)).cell? ⟨w.heap.size, 2, none⟩ = some z := by
  have hn := heap_alloc_new w (.cells #[x, y, z] 33)
  exact ⟨(cell_of_row _ _ _ _ _ _ hn).trans rfl, (cell_of_row _ _ _ _ _ _ hn).trans rfl, (cell_of_row _ _ _ _ _ _ hn).trans rfl⟩
/-- What Make told, in blocks that lie. -/
theorem CnfOk.lies {n : Nat} {f : FT} {B : Nat} {w : World} {av cv : Value} (h : CnfOk n f B w av cv) (hi : isF n f = true) : ∃ aa ac ca cc, av = .slice aa (atomsF n f).length ac ∧ cv = .slice ca (clsF n f).length cc ∧ LLies w.heap.size w aa (atomsF n f) ∧ Prp.CLies w.heap.size w ca (clsF n f) := by
  obtain ⟨K, Sa, Sc, k1, k2, k3, k4, k5, k6, k7, k8⟩ := h
  obtain ⟨q1, q2, q3, q4⟩ := cls_len hi
  obtain ⟨aa, ac, rfl, hs⟩ := k3.slot (by omega)
  obtain ⟨ca, cc, rfl, ht⟩ := k6.slot (by omega)
  refine ⟨aa, ac, ca, cc, rfl, rfl, llies_of hs (fun b hb => ?_), clies_of ht (fun b hb => ?_)⟩
  · rcases hb with hb | hb
    · exact (k3.ok b hb).1
    · exact (k3.lt b hb).2
  · rcases hb with hb | hb
    · exact (k6.ok b hb).1
    · exact (k6.lt b hb).2
theorem short_atoms {n : Nat} {f : FT} (hi : isF n f = true) : ∀ i, i < (atomsF n f).length → ((atomsF n f).getD i (0, [])).2.length ≤ 9223372036854775807 := fun i hi2 => by
  have := short_gat n f [] (ret_made hi) (fun y hy => by cases hy) _ (List.getElem_mem hi2)
  rw [List.getD_eq_getElem?_getD, List.getElem?_eq_getElem hi2, Option.getD_some]
  exact Nat.le_trans this (by decide)
theorem cls_small {n : Nat} {f : FT} (hi : isF n f = true) : ∀ i, i < (clsF n f).length → ((clsF n f).getD i []).length ≤ 9223372036854775807 := fun i hi2 => by
  have := (cls_len hi).2.2.2 _ (List.getElem_mem hi2)
  rw [List.getD_eq_getElem?_getD, List.getElem?_eq_getElem hi2, Option.getD_some]
  omega
set_option maxHeartbeats 16000000 in
theorem cnfMakes_any (hup : UpSaid9) (n : Nat) (f : FT) (cs : List Value) (w : World) (h : FLies w.heap.size w n f cs) (ht : Tens w.heap.size w) :
    Calls Tryd.prog 3 #[.agg cs.toArray] w fun e w' => e = .returned (.bool true) ∧ Below w.heap.size w w' := by
  obtain ⟨n, rfl⟩ : ∃ m, n = m + 1 := by
    cases n with
    | zero => exact h.elim
    | succ n => exact ⟨n, rfl⟩
  have hh := h
  obtain ⟨ta, tcap, ka, kcap, rfl, _⟩ := h
  have T0 := Lib.hid (box_start w f.kind f.c ta ka f.t.length tcap f.ks.length kcap)
  have FL := Lib.hid (fun W (hb : Below w.heap.size w W) => (hh.below hb).mono hb.size)
  have HUP := Lib.hid (fun W (hb : Below w.heap.size w W) => hup W (ht.up hb hb.size))
  have HSM := Lib.hid (fun W (hb : Below w.heap.size w W) => small_any (n + 1) f _ W (FL.out W hb))
  have HMK := Lib.hid (fun W (hb : Below w.heap.size w W) => make_any (n + 1) f _ W (FL.out W hb) (ht.up hb hb.size))
  have HRM := Lib.hid (fun W (hb : Below w.heap.size w W) => rmake_any (n + 1) f _ W (FL.out W hb))
  have hkin := cnfK_in (n + 1) f
  clear hup ht FL hh
  generalize f.kind = fk at *
  generalize f.c = fc at *
  generalize f.t.length = ft at *
  generalize f.ks.length = fl at *
  go_enter Tryd.func3, Tryd.ntmps3
  go_wp2_with fail
  refine (HUP.out _ T0.out.bel).mono ?_
  rintro e w1 ⟨rfl, hb1⟩
  have T1 := Lib.hid (T0.out.below hb1 T0.out.lt)
  clear hb1 HUP
  obtain ⟨l1, _, p0, p1, p2, p3⟩ := T1.out
  go_wp2_with fail
  refine (HSM.out _ T1.out.bel).mono ?_
  rintro e w2 ⟨b, rfl, hb2⟩
  have T2 := Lib.hid (T1.out.below hb2 T1.out.lt)
  clear hb2 HSM l1 p0 p1 p2 p3
  obtain ⟨l2, _, p0, p1, p2, p3⟩ := T2.out
  cases b with
  | false =>
    go_wp2_with fail
    go_ret
    exact ⟨rfl, T2.out.bel⟩
  | true =>
    have HM2 := Lib.hid (HMK.out _ T2.out.bel)
    clear HMK
    go_wp2_with fail
    refine HM2.out.mono ?_
    rintro e w3 ⟨hbad, hok, hb3⟩
    clear HM2
    by_cases hk : cnfK (n + 1) f = 0
    · obtain ⟨av, cv, rfl, hO⟩ := hok hk
      have hi := cnfK_made hk
      obtain ⟨aa, ac, ca, cc, rfl, rfl, hla, hlc⟩ := hO.lies hi
      obtain ⟨q1, q2, q3, q4⟩ := cls_len hi
      have T3 := Lib.hid (T2.out.below hb3 T2.out.lt)
      clear hbad hok hO hb3 l2 p0 p1 p2 p3
      obtain ⟨N, hN⟩ : ∃ N, N = (makF (n + 1) f).n := ⟨_, rfl⟩
      obtain ⟨an, han⟩ : ∃ an, an = (atomsF (n + 1) f).length := ⟨_, rfl⟩
      obtain ⟨cn, hcn⟩ : ∃ cn, cn = (clsF (n + 1) f).length := ⟨_, rfl⟩
      have HAN := Lib.hid han
      have HCN := Lib.hid hcn
      have HNN := Lib.hid hN
      rw [← hN, ← han, ← hcn]
      clear hN han hcn
      have hA3 : Below w3.heap.size w3 (w3.alloc (.cells #[.int .i64 N, .slice aa an ac, .slice ca cn cc] 33)) := (Below.refl _ _).alloc (Nat.le_refl _) _
      have hc3 := tree_cells w3 (.int .i64 N) (.slice aa an ac) (.slice ca cn cc)
      have T4 := Lib.hid (T3.out.below hA3 T3.out.lt)
      have hz3 : w3.heap.size < (w3.alloc (.cells #[.int .i64 N, .slice aa an ac, .slice ca cn cc] 33)).heap.size := by simp
      have HLA := Lib.hid ((hla.below hA3).mono hA3.size)
      have HLC := Lib.hid ((hlc.below hA3).mono hA3.size)
      have HC3 := Lib.hid hc3
      have HZ3 := Lib.hid hz3
      have HRM4 := Lib.hid (HRM.out _ T4.out.bel)
      have HSH := Lib.hid (short_atoms hi)
      have HCS := Lib.hid (cls_small hi)
      have HQ := Lib.hid (And.intro q1 q3)
      have HK := Lib.hid hk
      clear hA3 hc3 hz3 hla hlc hi q1 q2 q3 q4 hk HRM
      obtain ⟨l4, _, p0, p1, p2, p3⟩ := T4.out
      have T3' := T3.out
      obtain ⟨_, _, r0, r1, r2, r3⟩ := T3'
      go_wp2_with fail
      generalize w3.alloc (.cells #[.int .i64 N, .slice aa an ac, .slice ca cn cc] 33) = W4 at *
      clear r0 r1 r2 r3
      have HX0 := Lib.hid HC3.out.1
      have HX1 := Lib.hid HC3.out.2.1
      have HX2 := Lib.hid HC3.out.2.2
      refine HRM4.out.mono ?_
      rintro e w5 ⟨_, hok, hb5⟩
      obtain ⟨ba, bc, da, dc, rfl, hs1, hs2⟩ := hok HK.out
      rw [← HAN.out, ← HCN.out, ← HNN.out]
      have hA5 : Below w5.heap.size w5 (w5.alloc (.cells #[.int .i64 N, .slice ba an bc, .slice da cn dc] 33)) := (Below.refl _ _).alloc (Nat.le_refl _) _
      have hb6 := hb5.trans (hA5.mono hb5.size)
      have hc6 := tree_cells w5 (.int .i64 N) (.slice ba an bc) (.slice da cn dc)
      have T6 := Lib.hid (T4.out.below hb6 T4.out.lt)
      have x0 := (hb6.cell (p := ⟨w3.heap.size, 0, none⟩) HZ3.out).trans HX0.out
      have x1 := (hb6.cell (p := ⟨w3.heap.size, 1, none⟩) HZ3.out).trans HX1.out
      have x2 := (hb6.cell (p := ⟨w3.heap.size, 2, none⟩) HZ3.out).trans HX2.out
      have HLA6 := Lib.hid ((HLA.out.below hb6).mono hb6.size)
      have HLC6 := Lib.hid ((HLC.out.below hb6).mono hb6.size)
      have HLB6 := Lib.hid (((llies_of hs1 (fun b hb => hb)).below hA5).mono hA5.size)
      have HLD6 := Lib.hid (((clies_of hs2 (fun b hb => hb)).below hA5).mono hA5.size)
      obtain ⟨y0, y1, y2⟩ := hc6
      have HCO := Lib.hid (fun W => Prp.code_any 0 W (by decide))
      rw [show Prp.codeV 0 = .nilIface from rfl] at HCO
      have HSL := Lib.hid (rsames_any aa an ac (atomsF (n + 1) f) ba an bc (atomsF (n + 1) f) _ HAN.out.symm HAN.out.symm (by have := HQ.out.1; have := HAN.out; omega) (by have := HQ.out.1; have := HAN.out; omega) HLA6.out (by rw [HAN.out]; exact HSH.out) HLB6.out (by rw [HAN.out]; exact HSH.out))
      rw [decide_eq_true rfl] at HSL
      have HSC := Lib.hid (fun W (hb : Below (w5.alloc (.cells #[.int .i64 N, .slice ba an bc, .slice da cn dc] 33)).heap.size (w5.alloc (.cells #[.int .i64 N, .slice ba an bc, .slice da cn dc] 33)) W) => sameClauses_any ca da cn cc dc (clsF (n + 1) f) W HCN.out.symm (by have := HQ.out.2; have := HCN.out; omega) ((HLC6.out.below hb).mono hb.size) ((HLD6.out.below hb).mono hb.size) (by rw [HCN.out]; exact HCS.out))
      have hz5 : w5.heap.size < (w5.alloc (.cells #[.int .i64 N, .slice ba an bc, .slice da cn dc] 33)).heap.size := by simp
      have HZ5 := Lib.hid hz5
      have HZ36 : Hid (w3.heap.size < (w5.alloc (.cells #[.int .i64 N, .slice ba an bc, .slice da cn dc] 33)).heap.size) := Lib.hid (Nat.lt_of_lt_of_le HZ3.out hb6.size)
      have e00 : ((N : Int) == (N : Int)) = true := by simp
      have HXY := Lib.hid (And.intro x2 y2)
      clear hok hs1 hs2 hA5 hb6 hb5 HRM4 HX0 HX1 HX2 HLA HLC HLA6 HLC6 HLB6 HLD6 hz5 l4 p0 p1 p2 p3 HC3
      go_wp2_with fail
      generalize w5.alloc (.cells #[.int .i64 N, .slice ba an bc, .slice da cn dc] 33) = W6 at *
      refine (HCO.out _).mono ?_
      rintro e w6 ⟨rfl, rfl⟩
      go_wp2_with fail
      refine HSL.out.mono ?_
      rintro e w7 ⟨rfl, hb7⟩
      have z2 := (hb7.cell (p := ⟨w3.heap.size, 2, none⟩) HZ36.out).trans HXY.out.1
      have u2 := (hb7.cell (p := ⟨w5.heap.size, 2, none⟩) HZ5.out).trans HXY.out.2
      have HC7 := Lib.hid (HSC.out _ hb7)
      have HB7 := Lib.hid (T6.out.bel.trans (hb7.mono T6.out.bel.size))
      clear x0 x1 x2 y0 y1 y2 hb7 HSL HSC
      go_wp2_with fail
      refine HC7.out.mono ?_
      rintro e w8 ⟨rfl, hb8⟩
      have HE := Lib.hid (HB7.out.trans (hb8.mono HB7.out.size))
      clear hb8 HC7
      go_wp2_with fail
      go_ret
      exact ⟨rfl, HE.out⟩
    · have e3 := hbad hk
      subst e3
      have T3 := Lib.hid (T2.out.below hb3 T2.out.lt)
      clear hbad hok hb3 l2 p0 p1 p2 p3
      have hA3 : Below w3.heap.size w3 (w3.alloc (.cells #[.int .i64 0, .slice none 0 0, .slice none 0 0] 33)) := (Below.refl _ _).alloc (Nat.le_refl _) _
      have hc3 := tree_cells w3 (.int .i64 0) (.slice none 0 0) (.slice none 0 0)
      have T4 := Lib.hid (T3.out.below hA3 T3.out.lt)
      have hz3 : w3.heap.size < (w3.alloc (.cells #[.int .i64 0, .slice none 0 0, .slice none 0 0] 33)).heap.size := by simp
      have HC3 := Lib.hid hc3
      have HZ3 := Lib.hid hz3
      have HRM4 := Lib.hid (HRM.out _ T4.out.bel)
      have HK := Lib.hid hk
      have HKI := Lib.hid hkin
      clear hA3 hc3 hz3 HRM
      obtain ⟨l4, _, p0, p1, p2, p3⟩ := T4.out
      have T3' := T3.out
      obtain ⟨_, _, r0, r1, r2, r3⟩ := T3'
      go_wp2_with fail
      generalize w3.alloc (.cells #[.int .i64 0, .slice none 0 0, .slice none 0 0] 33) = W4 at *
      clear r0 r1 r2 r3
      refine HRM4.out.mono ?_
      rintro e w5 ⟨hbad, _, hb5⟩
      have e5 := hbad HK.out
      subst e5
      have hA5 : Below w5.heap.size w5 (w5.alloc (.cells #[.int .i64 0, .slice none 0 0, .slice none 0 0] 33)) := (Below.refl _ _).alloc (Nat.le_refl _) _
      have hb6 := hb5.trans (hA5.mono hb5.size)
      have hc6 := tree_cells w5 (.int .i64 0) (.slice none 0 0) (.slice none 0 0)
      have T6 := Lib.hid (T4.out.below hb6 T4.out.lt)
      have x0 := (hb6.cell (p := ⟨w3.heap.size, 0, none⟩) HZ3.out).trans HC3.out.1
      have x1 := (hb6.cell (p := ⟨w3.heap.size, 1, none⟩) HZ3.out).trans HC3.out.2.1
      have x2 := (hb6.cell (p := ⟨w3.heap.size, 2, none⟩) HZ3.out).trans HC3.out.2.2
      obtain ⟨y0, y1, y2⟩ := hc6
      have HCO := Lib.hid (fun W => Prp.code_any (cnfK (n + 1) f) W HKI.out)
      rw [show Prp.codeV (cnfK (n + 1) f) = .iface 43 (.int .i64 (cnfK (n + 1) f)) from if_neg HK.out] at HCO
      have HSL := Lib.hid (fun W => rsames_any none 0 0 [] none 0 0 [] W rfl rfl (by omega) (by omega) (fun i hi => absurd hi (Nat.not_lt_zero i)) (fun i hi => absurd hi (Nat.not_lt_zero i)) (fun i hi => absurd hi (Nat.not_lt_zero i)) (fun i hi => absurd hi (Nat.not_lt_zero i)))
      rw [decide_eq_true rfl] at HSL
      have HSC := Lib.hid (fun W => sameClauses_any none none 0 0 0 [] W rfl (by omega) (fun i hi => absurd hi (Nat.not_lt_zero i)) (fun i hi => absurd hi (Nat.not_lt_zero i)) (fun i hi => absurd hi (Nat.not_lt_zero i)))
      have hz5 : w5.heap.size < (w5.alloc (.cells #[.int .i64 0, .slice none 0 0, .slice none 0 0] 33)).heap.size := by simp
      have HZ5 := Lib.hid hz5
      have HZ36 : Hid (w3.heap.size < (w5.alloc (.cells #[.int .i64 0, .slice none 0 0, .slice none 0 0] 33)).heap.size) := Lib.hid (Nat.lt_of_lt_of_le HZ3.out hb6.size)
      have HXY := Lib.hid (And.intro x2 y2)
      clear hbad hA5 hb6 hb5 HRM4 hz5 l4 p0 p1 p2 p3 HC3 hkin hk
      generalize cnfK (n + 1) f = kk at *
      have ekk : (kk == kk) = true := by simp
      go_wp2_with fail
      generalize w5.alloc (.cells #[.int .i64 0, .slice none 0 0, .slice none 0 0] 33) = W6 at *
      refine (HCO.out _).mono ?_
      rintro e w6 ⟨rfl, rfl⟩
      go_wp2_with fail
      refine (HSL.out _).mono ?_
      rintro e w7 ⟨rfl, hb7⟩
      have z2 := (hb7.cell (p := ⟨w3.heap.size, 2, none⟩) HZ36.out).trans HXY.out.1
      have u2 := (hb7.cell (p := ⟨w5.heap.size, 2, none⟩) HZ5.out).trans HXY.out.2
      have HB7 := Lib.hid (T6.out.bel.trans (hb7.mono T6.out.bel.size))
      clear x0 x1 x2 y0 y1 y2 hb7 HSL
      go_wp2_with fail
      refine (HSC.out _).mono ?_
      rintro e w8 ⟨rfl, hb8⟩
      have HE := Lib.hid (HB7.out.trans (hb8.mono HB7.out.size))
      clear hb8 HSC
      go_wp2_with fail
      go_ret
      exact ⟨rfl, HE.out⟩
end Go.Proofs.YtelndcmfddbgiaaDoor

namespace Go.Proofs.YtelndcmfddbgiaaDoor
open Go.ChangeShapes Go.WideShapes Go.RowKit Go.Deep

section
variable {H : Type} {enc : TypeId × Value → H} {P : Program} {w : World} {base : Nat} {spare : Nat → Bool} {held : Bool}
/-- A slice of structs of one-cell fields. -/
theorem open_slice_fields {t e : TypeId} {fs : Array Field} {fuel : Nat} {cs : List Value} {x : DataW H × List MemPlace} (ht : P.underlying t = some (.slice e)) (he : P.underlying e = some (.struct fs))
    (hone : oneCellFields P fs = true) (hC : P.cellsOf e = fs.size) (h : DataW.trod enc P w base spare held fuel t cs = some x) :
    (cs = [.slice none 0 0] ∧ x = (.nil, [])) ∨
    ∃ (a : Addr) (len cap m : Nat), cs = [.slice (some a) len cap] ∧ len ≤ cap ∧ cap ≤ maxLen ∧ len ≤ m ∧
      ∀ i, i < m → ∃ (n : Nat),
        ∀ (j : Nat) (f : Field), fs[j]? = some f → ∃ (v : Value) (y : DataW H × List MemPlace), w.cell? (a.add (i * fs.size + j)) = some v ∧ DataW.trod enc P w base spare held n f.type [v] = some y := by
  rcases open_slice ht h with h0 | ⟨a, len, cap, m, n, D, Pl, hcs, _, hl, hm, hmm, _, hi⟩
  · exact .inl h0
  · refine .inr ⟨a, len, cap, m, hcs, hl, hm, by rw [hmm]; split <;> omega, fun i him => ?_⟩
    obtain ⟨cs', hc, ht'⟩ := hi i him
    rw [hC] at hc
    obtain ⟨ys, n', _, _, _, hyl, hf⟩ := DataW.trod_struct he ht'
    obtain ⟨_, hcl, hat⟩ := World.cells?_some hc
    refine ⟨n', fun j f hj => ?_⟩
    obtain ⟨ho, hk⟩ := hone_of hone j f hj
    have hjl : j < fs.size := (Array.getElem?_eq_some_iff.1 hj).1
    have hcell := hat j hjl
    have hv : cs'[j]? = some (cs'[j]'(by omega)) := List.getElem?_eq_getElem (by omega)
    have h1 := hf j f hj
    rw [ho, hk] at h1
    have hone' : (cs'.drop j).take 1 = [cs'[j]'(by omega)] := by
      rw [List.drop_eq_getElem_cons (by omega)]
      rfl
    rw [hone'] at h1
    have hys : ys[j]? = some (ys[j]'(by omega)) := List.getElem?_eq_getElem (by omega)
    refine ⟨_, _, ?_, h1.trans hys⟩
    rw [← Go.Deep.add_add, hcell, hv]
end

/-- A list of terms that came in. -/
def Came (w : World) (a : Option Addr) (n cap : Nat) (l : List (Int × Int)) : Prop :=
  l.length = n ∧ n ≤ cap ∧ cap ≤ maxLen ∧ (a = none → n = 0 ∧ cap = 0) ∧ Lies w.heap.size w a l ∧ ∀ m ∈ l, (Lit.int .i64 m.1).wf = true ∧ (Lit.int .i64 m.2).wf = true

theorem list_of (n : Nat) (p : Nat → Int × Int → Prop) (h : ∀ i, i < n → ∃ m, p i m) : ∃ l : List (Int × Int), l.length = n ∧ ∀ i, i < n → p i (l.getD i (0, 0)) := by
  induction n with
  | zero => exact ⟨[], rfl, fun i hi => absurd hi (Nat.not_lt_zero i)⟩
  | succ n ih =>
    obtain ⟨l, hl, hp⟩ := ih (fun i hi => h i (by omega))
    obtain ⟨m, hm⟩ := h n (by omega)
    refine ⟨l ++ [m], by simp [hl], fun i hi => ?_⟩
    by_cases e : i = n
    · subst e
      rw [List.getD_eq_getElem?_getD, List.getElem?_append_right (by omega), hl]
      simpa using hm
    · have := hp i (by omega)
      rw [List.getD_eq_getElem?_getD] at this ⊢
      rwa [List.getElem?_append_left (by omega)]

section
variable {H : Type} {enc : TypeId × Value → H} {w : World} {base : Nat} {spare : Nat → Bool} {held : Bool}
theorem open_monos {fuel : Nat} {v : Value} {x : DataW H × List MemPlace} (h : DataW.trod enc Tryd.prog w base spare held fuel 22 [v] = some x) : ∃ a n cap l, v = .slice a n cap ∧ Came w a n cap l := by
  rcases open_slice_fields Tryd.underlying22 Tryd.underlying57 (by kernel_rfl) (by kernel_rfl) h with ⟨hcs, _⟩ | ⟨a, len, cap, m, hcs, hl, hm, hlm, hi⟩
  · injection hcs with hv
    exact ⟨none, 0, 0, [], hv, rfl, Nat.le_refl _, Nat.zero_le _, fun _ => ⟨rfl, rfl⟩, fun i hi => absurd hi (Nat.not_lt_zero i), fun m hm => by cases hm⟩
  · injection hcs with hv
    have hp : ∀ i, i < len → ∃ m : Int × Int, w.cell? (a.add (i * 2)) = some (.int .i64 m.1) ∧ w.cell? (a.add (i * 2 + 1)) = some (.int .i64 m.2) ∧ (Lit.int .i64 m.1).wf = true ∧ (Lit.int .i64 m.2).wf = true := by
      intro i hil
      obtain ⟨n, hf⟩ := hi i (by omega)
      obtain ⟨v0, y0, c0, t0⟩ := hf 0 _ rfl
      obtain ⟨v1, y1, c1, t1⟩ := hf 1 _ rfl
      obtain ⟨x0, e0, _, w0⟩ := DataW.trod_int Tryd.underlying3 t0
      obtain ⟨x1, e1, _, w1⟩ := DataW.trod_int Tryd.underlying3 t1
      injection e0 with e0
      injection e1 with e1
      subst e0 e1
      exact ⟨(x0, x1), c0, c1, w0, w1⟩
    obtain ⟨l, hll, hlp⟩ := list_of len _ hp
    refine ⟨some a, len, cap, l, hv, hll, hl, hm, (fun e => by cases e), fun i hi => ?_, fun m hm => ?_⟩
    · obtain ⟨c0, c1, _, _⟩ := hlp i (by omega)
      obtain ⟨b, off, spot⟩ := a
      have hs : spot = none := by
        have := World.cell?_spot c1
        by_cases h0 : spot = none
        · exact h0
        · have c00 := (hlp 0 (by omega)).1
          simpa [Addr.add] using World.cell?_spot c00
      subst hs
      refine ⟨b, off, rfl, ?_, ?_, ?_⟩
      · have := block_lt_of_cell c1
        simpa [Addr.add] using this
      · rw [Go.WideShapes.add_plain] at c0; exact c0
      · rw [Go.WideShapes.add_plain] at c1; exact c1
    · obtain ⟨i, hi, rfl⟩ := List.getElem_of_mem hm
      have := hlp i (by omega)
      rw [List.getD_eq_getElem?_getD, List.getElem?_eq_getElem hi] at this
      exact this.2.2

set_option maxRecDepth 100000 in
/-- Numbers that came in. -/
theorem open_nums {r : Reach} {b0 : Nat} {v : Value} {d : DataW H} {p : List MemPlace} (hv : Value.okWide Tryd.prog w r b0 45 v) (h : DataW.Trod enc Tryd.prog w base spare held 45 v d p) :
    ∃ (a : Option Addr) (n cap : Nat) (zs : List Int), v = .slice a n cap ∧ zs.length = n ∧ n ≤ cap ∧ cap ≤ maxLen ∧ (∀ i, i < zs.length → ∃ b off, a = some ⟨b, off, none⟩ ∧ b < w.heap.size ∧ w.cell? ⟨b, off + i, none⟩ = some (.int .i64 (zs.getD i 0))) ∧ ∀ m ∈ zs, (Lit.int .i64 m).wf = true := by
  obtain ⟨a, len, cap, rfl⟩ := okWide_slice Tryd.underlying45 hv
  obtain ⟨fuel, hf⟩ := h
  rcases open_ints Tryd.underlying45 Tryd.underlying3 (by kernel_rfl) hf with ⟨hcs, _⟩ | ⟨x, l, c, zs, hcs, _, hl, hm, hz, _, hcell, hwz⟩
  · simp [Value.cells] at hcs
    obtain ⟨rfl, rfl, rfl⟩ := hcs
    exact ⟨none, 0, 0, [], rfl, rfl, Nat.le_refl _, Nat.zero_le _, fun i hi => absurd hi (Nat.not_lt_zero i), fun m hm => by cases hm⟩
  · simp [Value.cells] at hcs
    obtain ⟨rfl, rfl, rfl⟩ := hcs
    have hz' : len ≤ zs.length := by rw [hz]; split <;> omega
    clear hz
    refine ⟨some x, len, cap, zs.take len, rfl, by simp; omega, hl, hm, fun i hi => ?_, fun m hm => hwz m (List.mem_of_mem_take hm)⟩
    have hi' : i < len := by rw [List.length_take] at hi; omega
    obtain ⟨b, off, rfl, hc⟩ := ints_at hcell (by omega)
    have h1 := hc i (by omega)
    refine ⟨b, off, rfl, by simpa using block_lt_of_cell h1, ?_⟩
    rw [h1]
    simp [List.getD_eq_getElem?_getD, hi']
set_option maxRecDepth 100000 in
/-- A form that came in. -/
theorem open_lin {r : Reach} {b0 : Nat} {v : Value} {d : DataW H} {p : List MemPlace} (hv : Value.okWide Tryd.prog w r b0 24 v) (h : DataW.Trod enc Tryd.prog w base spare held 24 v d p) :
    ∃ c a n cap l, v = .agg #[.int .i64 c, .slice a n cap] ∧ Came w a n cap l ∧ (Lit.int .i64 c).wf = true := by
  obtain ⟨v0, v1, y0, y1, n, rfl, _, _, h0, h1⟩ := Joins.open_agg2 Tryd.underlying24 (by kernel_rfl) (by kernel_rfl) hv h
  obtain ⟨x0, e0, _, w0⟩ := DataW.trod_int Tryd.underlying3 h0
  injection e0 with e0
  subst e0
  obtain ⟨a, n, cap, l, rfl, hc⟩ := open_monos h1
  exact ⟨x0, a, n, cap, l, rfl, hc, w0⟩
end
end Go.Proofs.YtelndcmfddbgiaaDoor
