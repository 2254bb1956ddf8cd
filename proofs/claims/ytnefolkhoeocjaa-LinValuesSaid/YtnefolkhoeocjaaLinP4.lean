/- LinValues, for all forms and values: lin.Value tells the value, or what is amiss, as the document does; lin.Same tells whether two are the same; no condition. -/
import Derived.Test.YtnefolkhoeocjaaLinP1
import Derived.Test.YtnefolkhoeocjaaLinQ4
namespace Go.Proofs.Ytnefolkhoeocjaa
open Go.ChangeShapes Go.WideShapes Go.ChangeAt Go.RowKit

set_option maxRecDepth 100000 in
theorem linValues_lifted (hup : UpSaid) (os : Os) (started : os.Started) (H : Type) (enc : TypeId × Value → H) :
    ReturnsInHanded {} Try.checked os 6 .any (Rows.linValuesSpec.pre6 enc Try.prog Try.f6 Rows.linValuesRow.domain false) (Rows.linValuesSpec.post enc Try.prog Try.f6 false true false false) := by
  refine returnsInHanded_of_change (C := Try.checked) Try.own started (by kernel_rfl) Try.func6
    (ChangeSpec.witness6 (enc := enc) (C := Try.checked) false ⟨#[], #[.agg #[.int .i64 0, .slice none 0 0], .agg #[.int .i64 0, .slice none 0 0], .slice none 0 0], []⟩ 8 (by kernel_rfl) (by kernel_rfl) (by kernel_rfl) (by kernel_rfl)) ?_
  intro W base args ds gs before hval0 hW hcnd _
  have hval : ∀ (j : Nat) t v, Try.f6.params[j]? = some t → args[j]? = some v → Value.okWide Try.prog W .any base t v := hval0
  have hW' := hW
  obtain ⟨p, q, hA0, hV, rfl, hfz, hnd⟩ := hW
  have hA : DataW.TrodAll enc Try.prog W 0 (fun _ => true) true Try.f6.params.toList args.toList ds p := hA0
  rw [Try.params6] at hA hval
  obtain ⟨v0, vs0, d0, ds0, p0, q0, hargs, rfl, rfl, h0, r0⟩ := trodAll_cons hA
  obtain ⟨v1, vs1, d1, ds1, p1, q1, rfl, rfl, rfl, h1, r1⟩ := trodAll_cons r0
  obtain ⟨v2, vs2, d2, ds2, p2, q2, rfl, rfl, rfl, h2, r2⟩ := trodAll_cons r1
  obtain ⟨rfl, rfl, rfl⟩ := trodAll_nil r2
  obtain rfl : args = #[v0, v1, v2] := by cases args; simp_all
  obtain ⟨rfl, rfl⟩ := trodVars_none hV
  have k0 := h0
  have lt0 : ∀ x ∈ p0, x.block < W.heap.size := by obtain ⟨m, hm⟩ := k0; exact DataW.trod_lt m _ _ _ hm
  have k1 := h1
  have lt1 : ∀ x ∈ p1, x.block < W.heap.size := by obtain ⟨m, hm⟩ := k1; exact DataW.trod_lt m _ _ _ hm
  have k2 := h2
  have lt2 : ∀ x ∈ p2, x.block < W.heap.size := by obtain ⟨m, hm⟩ := k2; exact DataW.trod_lt m _ _ _ hm
  obtain ⟨c, a, na, capa, l, rfl, ⟨hl0, hn0, hc0, hnil0, hlies0, hwf0⟩, hwc0⟩ := open_lin (hval 0 24 v0 rfl rfl) h0
  have hm0 : na ≤ 9223372036854775807 := by unfold maxLen at hc0; omega
  obtain ⟨d, b, nb, capb, o, rfl, ⟨hl1, hn1, hc1, hnil1, hlies1, hwf1⟩, hwc1⟩ := open_lin (hval 1 24 v1 rfl rfl) h1
  have hm1 : nb ≤ 9223372036854775807 := by unfold maxLen at hc1; omega
  obtain ⟨a2, n2, cap2, zs, rfl, hl2, hn2, hc2, hnums2, hwf2⟩ := open_nums (hval 2 42 v2 rfl rfl) h2
  have hm2 : n2 ≤ 9223372036854775807 := by unfold maxLen at hc2; omega
  clear hA0 hval0
  refine (linValues_any hup c d a b na nb capa capb l o a2 n2 cap2 zs W hl0 hl1 hm0 hm1 hl2 hm2 hlies0 hlies1 hnums2).mono fun e W' ⟨he, bel⟩ => ?_
  subst he
  exact ⟨_, rfl, _, _, _, [], _, [], hW', trodAll_mk1 (shut_bool Try.underlying4 _), (trodAll_cons_mk (Below.trod Try.laidOut (by kernel_rfl) (of_decide_eq_true (by kernel_rfl)) k0 bel lt0) (trodAll_cons_mk (Below.trod Try.laidOut (by kernel_rfl) (of_decide_eq_true (by kernel_rfl)) k1 bel lt1) (trodAll_cons_mk (Below.trod Try.laidOut (by kernel_rfl) (of_decide_eq_true (by kernel_rfl)) k2 bel lt2) trodAll_mk0))), rfl, bel.frame _, fun h => by cases h⟩

theorem linValues_over (hup : UpSaid) : Rows.LinValuesSaid :=
  OpenClaim.holds_of_wide 6 Try.f6 rfl rfl rfl rfl rfl rfl rfl ⟨rfl, rfl, rfl, rfl, rfl⟩ rfl rfl rfl rfl rfl (by kernel_rfl) Try.func6 (by kernel_rfl)
    (of_decide_eq_true (by kernel_rfl)) (by unfold Func.isWrapper; first | (rw [if_pos (by decide +kernel)]; kernel_rfl) | (rw [if_neg (by decide +kernel)]; exact ⟨rfl, rfl⟩))
    (fun os started H enc _ => linValues_lifted hup os started H enc)
end Go.Proofs.Ytnefolkhoeocjaa
