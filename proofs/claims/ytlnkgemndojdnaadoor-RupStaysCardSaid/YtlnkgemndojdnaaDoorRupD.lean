/- rup.Check: its walk. -/
import Derived.Test.YtlnkgemndojdnaaDoorRupC
set_option linter.unusedVariables false
set_option linter.unusedSimpArgs false
namespace Go.Proofs.YtlnkgemndojdnaaDoor
set_option maxRecDepth 100000
open Go.RowKit

def RupEnd (n : Int) (cs ss : List (List Int)) (w : World) (e : Ending) (w' : World) : Prop :=
  ∃ er x at', e = .returned er ∧ RupIs n cs ss x at' ∧ ErrIs w.heap.size x at' er w' ∧ Below w.heap.size w w'
theorem spotErr {B : Nat} (at' : Nat) (W : World) (h : B ≤ W.heap.size) : ErrIs B 9 at' (.iface 41 (.pointer (some ⟨W.heap.size, 0, none⟩))) (W.alloc (.cells #[.int .i64 at', .iface 36 (.int .i64 9)] 43)) := by
  have hn := heap_alloc_new W (.cells #[.int .i64 at', .iface 36 (.int .i64 9)] 43)
  refine ⟨fun h => by omega, fun _ => ⟨W.heap.size, rfl, h, by simp, (cell_of_row _ _ _ _ _ _ hn).trans rfl, (cell_of_row _ _ _ _ _ _ hn).trans rfl⟩⟩
set_option maxHeartbeats 4000000 in
theorem rup_any (hbeg : BeginSaid) (n : Int) (a : Option Addr) (m cap : Nat) (cs : List (List Int)) (a2 : Option Addr) (m2 cap2 : Nat) (ss : List (List Int)) (w : World) (h1 : GivenC w a m cs) (h2 : GivenC w a2 m2 ss) (hf : Few cs ss) :
    Calls Tryd.prog 9 #[.int .i64 n, .slice a m cap, .slice a2 m2 cap2] w (RupEnd n cs ss w) := by
  have hm1 := h1.hm
  have hm2 := h2.hm
  have hm3 : m ≤ 200 := by have := hf.l1; omega
  have hm4 : m2 ≤ 100 := by have := hf.l2; omega
  have big : ∀ (l : List (List Int)) (k : Nat), (∀ c, c ∈ l → c.length ≤ 100) → l.length = k → k ≤ 16384 → ∀ j, j < k → (l.getD j []).length ≤ 4611686018427387904 := fun l k hl hk _ j hj => by
    have := hl _ (getD_memC (cs := l) (i := j) (by omega)); omega
  have HCK := Lib.hid (check_any n a m cap cs w h1.hm h1.hmm h1.hl (big cs m hf.k1 hm1))
  have n1 := fun t v W => Tryd.neIface t v W
  have n2 := fun W => Tryd.neNil W
  by_cases c1 : chkK n cs = 0
  · rw [c1, codeV_zero] at HCK
    obtain ⟨n0, rfl, hn, _, _, _⟩ := chkK_zero c1
    have HCA := Lib.hid (fun (W : World) (b : Option Addr) (cap5 : Nat) (hl : CLies W.heap.size W b (cs ++ ss)) => check_any n0 b (m + m2) cap5 (cs ++ ss) W (by rw [List.length_append]; omega) (by omega) hl (big _ _ hf.k (by rw [List.length_append]; omega)))
    have H1 := Lib.hid h1
    have H2 := Lib.hid h2
    have HCO := Lib.hid (fun (W : World) (g : Nat) (hb : Below w.heap.size w W) => concat_any g a m cap cs a2 m2 cap2 ss W hm1 hm2 (by omega) (by omega) ((h1.hl.below hb).mono hb.size) ((h2.hl.below hb).mono hb.size))
    have HF := Lib.hid hf
    by_cases c2 : chkK n0 (cs ++ ss) = 0
    · rw [c2, codeV_zero] at HCA
      have HIN : Hid (∀ j, j < m2 → ∀ x, x ∈ ss.getD j [] → inR n0 x) := fun j hj x hx => by
        obtain ⟨n3, e3, _, _, _, h5⟩ := chkK_zero c2
        obtain rfl : n0 = n3 := by omega
        exact h5 _ (List.mem_append_right _ (getD_memC (by omega))) x hx
      have HFO := Lib.hid (fun (W : World) (b : Option Addr) (cap5 : Nat) (hl : CLies W.heap.size W b (cs ++ ss)) (j : Nat) (hj : j < m2) (ta : Option Addr) (tcap : Nat) (hn5 : Nums W.heap.size W ta (ss.getD j [])) =>
        rfol_any hbeg n0 ((cs ++ ss).take (cs.length + j)) (ss.getD j []) (chkK_take hf.l hf.k c2 _) (HIN.out j hj) b (m + j) cap5 ta (ss.getD j []).length tcap W (by rw [List.length_take, List.length_append]; omega) rfl (by have := hf.k2 _ (getD_memC (cs := ss) (i := j) (by omega)); omega) (hl.take _) hn5)
      have HC1 := Lib.hid c1
      have HC2 := Lib.hid c2
      have HM1 := Lib.hid hm1
      have HM2 := Lib.hid hm2
      clear c1 c2 h1 h2 hf big hm1 hm2 HIN
      go_enter Tryd.func9, Tryd.ntmps9
      go_wp2_with fail
      refine HCK.out.mono ?_
      rintro e w1 ⟨rfl, hb1⟩
      have B1 : Hid (Below w.heap.size w (w1.alloc (.cells #[.slice a m cap, .slice a2 m2 cap2] 22))) := hb1.alloc hb1.size _
      clear hb1 HCK
      go_wp2_with fail
      refine (HCO.out _ w1.heap.size B1.out (by simp) (by simp) (by simp)).mono ?_
      rintro e w2 ⟨b, cap5, rfl, hc1, hc2, hcl, hb2⟩
      have B2 := Lib.hid (B1.out.trans (hb2.mono B1.out.size))
      have HCL := Lib.hid hcl
      clear hb2 hcl B1 HCO
      go_wp2_with fail
      refine (HCA.out _ _ _ HCL.out).mono ?_
      rintro e w3 ⟨rfl, hb3⟩
      have HCL3 := Lib.hid ((HCL.out.below hb3).mono hb3.size)
      have B3 := Lib.hid (B2.out.trans (hb3.mono B2.out.size))
      clear hb3 HCL B2 HCA
      go_wp2_with fail
      go_loopw [32] (fun i wr => ∃ j : Nat, j ≤ m2 ∧ i = .int .i64 j ∧ Hid (∀ k, k < j → OkAt cs ss k) ∧ Hid (Below w3.heap.size w3 wr)) (fun i _ => m2 - (intOf i).toNat)
      case atStart => exact ⟨0, Nat.zero_le _, rfl, fun k hk => absurd hk (Nat.not_lt_zero k), Below.refl _ _⟩
      case round =>
        obtain ⟨j, hj, rfl, hok, hbr⟩ := hrel
        obtain ⟨wo, rfl⟩ : ∃ wo : World, wo = wr := ⟨_, rfl⟩
        have BR := Lib.hid (B3.out.trans (hbr.out.mono B3.out.size))
        have HCR := Lib.hid ((HCL3.out.below hbr.out).mono hbr.out.size)
        by_cases hlt : j < m2
        · have hlti : (j : Int) < (m2 : Int) := by omega
          obtain ⟨b3, off3, ta, tcap, rfl, hb3l, d1, dn⟩ := H2.out.hl j (by rw [HM2.out]; exact hlt)
          have d1 := (BR.out.cell (p := ⟨b3, off3 + j, none⟩) hb3l).trans d1
          have HDN := Lib.hid ((dn.below BR.out).mono BR.out.size)
          obtain ⟨b5, off5, _, _, rfl, _⟩ := HCR.out 0 (by rw [List.length_append, HM1.out, HM2.out]; omega)
          have hwa : IntKind.i64.wrap ((m : Int) + (j : Int)) = ((m + j : Nat) : Int) := by rw [← Int.natCast_add]; exact IntWalk.i64_in _ (by omega)
          have hs1 : ¬ (((m + j : Nat) : Int) < 0) := by omega
          have hs2 : m + j ≤ cap5 := by omega
          have HFJ := Lib.hid (HFO.out wo _ cap5 HCR.out j hlt ta tcap HDN.out)
          have HOK : Hid (Conf ((cs ++ ss).take (cs.length + j)) (negs (ss.getD j [])) ↔ OkAt cs ss j) := Iff.rfl
          clear dn HDN HFO
          generalize (ss.getD j []).length = lj at d1 HFJ
          go_wp2_with fail
          refine HFJ.out.mono ?_
          rintro e w4 ⟨bb, rfl, hiff, hb4⟩
          have B4 := Lib.hid (BR.out.trans (hb4.mono BR.out.size))
          have hb4 := Lib.hid (hbr.out.trans (hb4.mono hbr.out.size))
          cases bb with
          | false =>
            have HNO : Hid (¬ OkAt cs ss j) := fun h => by have := hiff.2 (HOK.out.2 h); cases this
            have HE : Hid (RupEnd n0 cs ss w (.returned (.iface 41 (.pointer (some ⟨w4.heap.size, 0, none⟩)))) (w4.alloc (.cells #[.int .i64 j, .iface 36 (.int .i64 9)] 43))) :=
              ⟨_, _, _, rfl, .step j HC1.out HC2.out (by rw [HM2.out]; exact hlt) hok.out HNO.out, spotErr j w4 B4.out.size, B4.out.alloc B4.out.size _⟩
            clear hiff HNO HFJ HOK
            go_wp2_with fail
            go_ret
            exact HE.out
          | true =>
            have HOK2 : Hid (∀ k, k < j + 1 → OkAt cs ss k) := fun k hk => by
              by_cases e : k = j
              · subst e; exact HOK.out.1 (hiff.1 rfl)
              · exact hok.out k (by omega)
            clear hiff HFJ HOK
            go_wp2_with fail
            go_roundw
            case rel => exact ⟨j + 1, by omega, by go_num, HOK2, hb4⟩
            case measure => simp [intOf]; omega
        · obtain rfl : j = m2 := by omega
          have HOK : Hid (∀ k, k < ss.length → OkAt cs ss k) := fun k hk => hok.out k (by rw [HM2.out] at hk; exact hk)
          clear hok HFO H2
          go_wp2_with fail
          go_loopw [55] (fun i wr => ∃ k : Nat, k ≤ m + j ∧ i = .int .i64 k ∧ Hid (∀ q, q < k → ((cs ++ ss).getD q []).length ≠ 0) ∧ Hid (Below wo.heap.size wo wr)) (fun i _ => m + j - (intOf i).toNat)
          case atStart => exact ⟨0, Nat.zero_le _, rfl, fun k hk => absurd hk (Nat.not_lt_zero k), Below.refl _ _⟩
          case round =>
            obtain ⟨k, hk, rfl, hno, hbq⟩ := hrel
            have HLA : Hid ((cs ++ ss).length = m + j) := by show _ = _; rw [List.length_append, HM1.out, HM2.out]
            have BQ := Lib.hid (BR.out.trans (hbq.out.mono BR.out.size))
            by_cases hlt2 : k < m + j
            · have hlti : (k : Int) < ((m + j : Nat) : Int) := by omega
              have hlti2 : (k : Int) < (m : Int) + (j : Int) := by omega
              obtain ⟨b3, off3, ta, tcap, rfl, hb3l, d1, _⟩ := HCR.out k (by rw [HLA.out]; exact hlt2)
              have d1 := (hbq.out.cell (p := ⟨b3, off3 + k, none⟩) hb3l).trans d1
              by_cases hz : ((cs ++ ss).getD k []).length = 0
              · have HE : Hid (∀ W, Below w.heap.size w W → RupEnd n0 cs ss w (.returned .nilIface) W) := fun W hb => ⟨_, 0, _, rfl, .yes HC1.out HC2.out HOK.out (nil_mem (by rw [HLA.out]; exact hlt2) hz), codeErr _ _ _, hb⟩
                rw [hz] at d1
                clear hz
                go_wp2_with fail
                go_ret
                exact HE.out _ BQ.out
              · have hno2 : Hid (∀ q, q < k + 1 → ((cs ++ ss).getD q []).length ≠ 0) := fun q hq => by
                  by_cases e : q = k
                  · subst e; exact hz
                  · exact hno.out q (by omega)
                generalize ((cs ++ ss).getD k []).length = lk at d1 hz
                have hzi : ((lk : Int) == 0) = false := by simp; omega
                have hzn : ¬ (lk = 0) := hz
                clear hz
                go_wp2_with fail
                go_roundw
                case rel => exact ⟨k + 1, by omega, by go_num, hno2, hbq⟩
                case measure => simp [intOf]; omega
            · obtain rfl : k = m + j := by omega
              have HE : Hid (∀ W, Below w.heap.size w W → RupEnd n0 cs ss w (.returned (.iface 36 (.int .i64 8))) W) := fun W hb => ⟨_, 8, _, rfl, .opn HC1.out HC2.out HOK.out (nil_not (by rw [HLA.out]; exact hno.out)), codeErr _ _ _, hb⟩
              go_wp2_with fail
              go_ret
              exact HE.out _ BQ.out
    · have HR : Hid (∀ W, Below w.heap.size w W → RupEnd n0 cs ss w (.returned (codeV (chkK n0 (cs ++ ss)))) W) := fun W hb => ⟨_, _, _, rfl, .two c1 c2, codeErr _ _ _, hb⟩
      rw [codeV_ne c2] at HCA HR
      clear c1 c2 h1 h2 hf big hm1 hm2 hbeg
      go_enter Tryd.func9, Tryd.ntmps9
      go_wp2_with fail
      refine HCK.out.mono ?_
      rintro e w1 ⟨rfl, hb1⟩
      have B1 : Hid (Below w.heap.size w (w1.alloc (.cells #[.slice a m cap, .slice a2 m2 cap2] 22))) := hb1.alloc hb1.size _
      clear hb1 HCK
      go_wp2_with fail
      refine (HCO.out _ w1.heap.size B1.out (by simp) (by simp) (by simp)).mono ?_
      rintro e w2 ⟨b, cap5, rfl, hc1, hc2, hcl, hb2⟩
      have B2 := Lib.hid (B1.out.trans (hb2.mono B1.out.size))
      have HCL := Lib.hid hcl
      clear hb2 hcl B1 HCO
      go_wp2_with fail
      refine (HCA.out _ _ _ HCL.out).mono ?_
      rintro e w3 ⟨rfl, hb3⟩
      have B3 := Lib.hid (B2.out.trans (hb3.mono B2.out.size))
      clear hb3 HCL B2 HCA
      go_wp2_with fail
      go_ret
      exact HR.out _ B3.out
  · have HR : Hid (∀ W, Below w.heap.size w W → RupEnd n cs ss w (.returned (codeV (chkK n cs))) W) := fun W hb => ⟨_, _, _, rfl, .one c1, codeErr _ _ _, hb⟩
    rw [codeV_ne c1] at HCK HR
    clear h1 h2 hf big hbeg
    go_enter Tryd.func9, Tryd.ntmps9
    go_wp2_with fail
    refine HCK.out.mono ?_
    rintro e w1 ⟨rfl, hb1⟩
    go_wp2_with fail
    go_ret
    exact HR.out _ hb1
end Go.Proofs.YtlnkgemndojdnaaDoor
