/- RupRight: its walk. -/
import Derived.Test.YtlnkgemndojdnaaDoorRupG
import Derived.Test.YtlnkgemndojdnaaDoorPrpW
set_option linter.unusedVariables false
set_option linter.unusedSimpArgs false
namespace Go.Proofs.YtlnkgemndojdnaaDoor
set_option maxRecDepth 100000
open Go.RowKit

theorem RupIs.zero {n : Int} {cs ss : List (List Int)} {x at' : Int} (h : RupIs n cs ss x at') (hx : x = 0) : chkK n cs = 0 ∧ chkK n (cs ++ ss) = 0 ∧ (∀ j, j < ss.length → OkAt cs ss j) ∧ [] ∈ cs ++ ss ∧ at' = -1 := by
  cases h with
  | one h => exact absurd hx h
  | two _ h => exact absurd hx h
  | step => cases hx
  | opn => cases hx
  | yes h1 h2 h3 h4 => exact ⟨h1, h2, h3, h4, rfl⟩
theorem litV_other {vs : List Bool} {n : Nat} {x : Int} (hr : inR n x) (hn : n ≤ vs.length) (h : litV vs x = false) : litV vs (-x) = true := by
  unfold inR at hr
  unfold litV at h ⊢
  by_cases hp : 0 < x
  · rw [if_pos hp] at h
    rw [if_neg (by omega)]
    rw [decide_eq_true (show x ≤ (vs.length : Int) by omega), Bool.true_and] at h
    rw [decide_eq_true (show -x < 0 ∧ -(vs.length : Int) ≤ -x by omega), show (-(-x) - 1) = x - 1 by omega, h]; rfl
  · rw [if_neg hp] at h
    rw [if_pos (by omega)]
    rw [decide_eq_true (show x < 0 ∧ -(vs.length : Int) ≤ x by omega), Bool.true_and] at h
    rw [decide_eq_true (show -x ≤ (vs.length : Int) by omega), Bool.true_and]
    simpa using h
/-- Clauses that are refuted have no values. -/
theorem rup_none {n : Nat} {cs ss : List (List Int)} {x at' : Int} (h : RupIs n cs ss x at') (hx : x = 0) {vs : List Bool} (hv : n ≤ vs.length) : valB cs vs = false := by
  obtain ⟨_, h2, h3, h4, _⟩ := h.zero hx
  obtain ⟨n1, e1, _, _, _, h5⟩ := chkK_zero h2
  obtain rfl : n = n1 := by omega
  cases hb : valB cs vs with
  | false => rfl
  | true =>
    have hc : ∀ c, c ∈ cs → ∃ l, l ∈ c ∧ litV vs l = true := fun c hc => List.any_eq_true.1 (List.all_eq_true.1 hb c hc)
    have key : ∀ i, i ≤ ss.length → ∀ c, c ∈ (cs ++ ss).take (cs.length + i) → ∃ l, l ∈ c ∧ litV vs l = true := by
      intro i
      induction i with
      | zero => intro _ c hm; rw [Nat.add_zero, List.take_left] at hm; exact hc c hm
      | succ i ih =>
        intro hi c hm
        have e : (cs ++ ss).take (cs.length + (i + 1)) = (cs ++ ss).take (cs.length + i) ++ [ss.getD i []] := by
          rw [← Nat.add_assoc, take_snocG _ _ (by rw [List.length_append]; omega), getD_app (by omega)]
        rw [e] at hm
        rcases List.mem_append.1 hm with h | h
        · exact ih (by omega) c h
        · obtain rfl : c = ss.getD i [] := by simpa using h
          have hmem : ss.getD i [] ∈ cs ++ ss := List.mem_append_right _ (getD_memC (by omega))
          cases ha : anyV vs (ss.getD i []) with
          | true => exact List.any_eq_true.1 ha
          | false =>
            refine absurd (h3 i (by omega)) (Conf.not (v := fun l => litV vs l = true) (fun l h => litV_neg h) (ih (by omega)) (fun l hl => ?_))
            obtain ⟨y, hy, rfl⟩ := List.mem_map.1 hl
            refine litV_other (h5 _ hmem y hy) hv ?_
            have := List.any_eq_false.1 ha y hy
            simpa using this
    obtain ⟨l, hl, _⟩ := key ss.length (Nat.le_refl _) [] (by rw [← List.length_append, List.take_length]; exact h4)
    cases hl
set_option maxHeartbeats 2000000 in
theorem rupRight_any (hup : UpSaid7) (hbeg : BeginSaid) (n : Int) (a : Option Addr) (m cap : Nat) (cs : List (List Int)) (a2 : Option Addr) (m2 cap2 : Nat) (ss : List (List Int)) (a3 : Option Addr) (k3 cap3 : Nat) (vs : List Bool) (w : World) (h1 : GivenC w a m cs) (h2 : GivenC w a2 m2 ss) (hk3 : vs.length = k3) (hkm3 : k3 ≤ 9223372036854775807) (hv : Bools w.heap.size w a3 vs) (hg : Laid0 w) :
    Calls Tryd.prog 4 #[.int .i64 n, .slice a m cap, .slice a2 m2 cap2, .slice a3 k3 cap3] w fun e w' => e = .returned (.bool true) ∧ Below w.heap.size w w' := by
  have HUP := Lib.hid (hup w hg)
  have H1 := Lib.hid h1
  have H2 := Lib.hid h2
  have HLI := Lib.hid (fun W (g1 : GivenC W a m cs) (g2 : GivenC W a2 m2 ss) => easy_any n a m cap cs a2 m2 cap2 ss W g1 g2)
  have HRU := Lib.hid (fun W (g1 : GivenC W a m cs) (g2 : GivenC W a2 m2 ss) (hf : Easy n cs ss) => rup_any hbeg n a m cap cs a2 m2 cap2 ss W g1 g2 hf.few)
  have HPV := Lib.hid (fun W (g : GivenC W a m cs) (hb : Below w.heap.size w W) => pvalue_any a m cap cs a3 k3 cap3 vs W g.hm g.hmm g.hl g.hlen hk3 hkm3 ((hv.below hb).mono hb.size))
  have n1 := fun t v W => Tryd.neIface t v W
  have n2 := fun W => Tryd.neNil W
  have HK3 := Lib.hid hk3
  clear hup hbeg h1 h2 hg hk3 hv
  go_enter Tryd.func4, Tryd.ntmps4
  go_wp2_with fail
  refine HUP.out.mono ?_
  rintro e w1 ⟨rfl, hb1⟩
  have B1 := Lib.hid hb1
  clear hb1 HUP
  go_wp2_with fail
  refine (HLI.out _ (H1.out.below B1.out) (H2.out.below B1.out)).mono ?_
  rintro e w2 ⟨b, rfl, rfl, hlt⟩
  cases b with
  | false =>
    clear hlt
    go_wp2_with fail
    go_ret
    exact ⟨rfl, B1.out⟩
  | true =>
    have HE := Lib.hid (hlt rfl)
    clear hlt HLI
    by_cases hkn : (k3 : Int) < n
    · go_wp2_with fail
      go_ret
      exact ⟨rfl, B1.out⟩
    · go_wp2_with fail
      refine (HRU.out _ (H1.out.below B1.out) (H2.out.below B1.out) HE.out).mono ?_
      rintro e w3 ⟨er, x, at', rfl, hr, he, hb3⟩
      have B3 := Lib.hid (B1.out.trans (hb3.mono B1.out.size))
      have HR := Lib.hid hr
      have HV := Lib.hid (HPV.out w3 (H1.out.below B3.out) B3.out)
      have hcase : (∃ t v, er = .iface t v) ∨ (er = .nilIface ∧ valB cs vs = false) := by
        by_cases h0 : at' < 0
        · have e1 := he.1 h0
          by_cases hx : x = 0
          · obtain ⟨hc0, _⟩ := hr.zero hx
            obtain ⟨n0, rfl, _⟩ := chkK_zero hc0
            exact .inr ⟨by rw [e1, hx]; rfl, rup_none hr hx (by rw [HK3.out]; omega)⟩
          · exact .inl ⟨_, _, by rw [e1]; exact codeV_ne hx⟩
        · obtain ⟨g, e1, _⟩ := he.2 (by omega)
          exact .inl ⟨_, _, e1⟩
      clear hr he hb3 HRU HPV HR
      rcases hcase with ⟨t, v, rfl⟩ | ⟨rfl, hvf⟩
      · clear HV
        go_wp2_with fail
        go_ret
        exact ⟨rfl, B3.out⟩
      · rw [hvf] at HV
        clear hvf
        go_wp2_with fail
        refine HV.out.mono ?_
        rintro e w4 ⟨rfl, hb4⟩
        have B4 := Lib.hid (B3.out.trans (hb4.mono B3.out.size))
        clear hb4 HV
        go_wp2_with fail
        go_ret
        exact ⟨rfl, B4.out⟩
end Go.Proofs.YtlnkgemndojdnaaDoor
