/- The walk of NormTwice. The frame of NormTwice. -/
import Derived.Test.YtknagcednppokaaNr02
import Derived.Test.YtknagcednppokaaNr30
set_option linter.unusedVariables false
set_option linter.unusedSimpArgs false
namespace Go.Proofs.Ytknagcednppokaa
open Go.RowKit

theorem nrmT_twice {n : Nat} {f : FT} (hl : litF (n + 1) f) (h : nrmK (n + 3) (nrmT (n + 1) f) = 0) : nrmT (n + 3) (nrmT (n + 1) f) = nrmT (n + 1) f := by
  have hn := nrmT_nf hl
  generalize nrmT (n + 1) f = g at h hn ⊢
  unfold nrmK at h
  unfold nrmT
  split at h
  · rename_i h0
    rw [if_pos h0]
    cases ho : normF (n + 3) g true with
    | none => rw [ho] at h; cases h
    | some g' => exact nF_twice hn ho
  · contradiction

set_option maxRecDepth 100000 in
set_option maxHeartbeats 4000000 in
theorem normTwice_any (hup : UpSaid3) (n : Nat) (f : FT) (cs : List Value) (w : World) (h : FLies w.heap.size w n f cs) :
    Calls Try.prog 7 #[.agg cs.toArray] w fun e w' => e = .returned (.bool true) ∧ Below w.heap.size w w' := by
  have FL := fun W (hb : Below w.heap.size w W) => (h.below hb).mono hb.size
  cases n with
  | zero => exact h.elim
  | succ n =>
    obtain ⟨ta, tcap, ka, kcap, rfl, _⟩ := h
    have hsm := Lib.hid (fun W hb => lit_any (n + 1) f _ 800 60 W (by omega) (by omega) (by omega) (by omega) (FL W hb))
    have hnb := Lib.hid (fun (hl : litF (n + 1) f) W hb => (norm_both (n + 1) f _ W hl (FL W hb)).1)
    have hnc := Lib.hid (fun (hl : litF (n + 1) f) cs W hf => (norm_both (n + 3) (nrmT (n + 1) f) cs W (nF_lit (nrmT_nf hl)) hf).1)
    have HEQ : Hid (litF (n + 1) f → nrmK (n + 3) (nrmT (n + 1) f) = 0 → nrmT (n + 3) (nrmT (n + 1) f) = nrmT (n + 1) f) := fun hl h => nrmT_twice hl h
    have T0 := Lib.hid (box_start w f.kind f.c ta ka f.t.length tcap f.ks.length kcap)
    have n0 := fun W => Try.neNil W
    have n3 := fun k W => Try.neCode k W
    have HX1 : Hid (codeV (nrmK (n + 1) f) = .nilIface ∨ ∃ k : Int, codeV (nrmK (n + 1) f) = .iface 53 (.int .i64 k)) := by
      unfold codeV
      split
      · exact .inl rfl
      · exact .inr ⟨_, rfl⟩
    have HX2 : Hid ((nrmK (n + 3) (nrmT (n + 1) f) = 0 ∧ codeV (nrmK (n + 3) (nrmT (n + 1) f)) = .nilIface) ∨ ∃ k : Int, codeV (nrmK (n + 3) (nrmT (n + 1) f)) = .iface 53 (.int .i64 k)) := by
      unfold codeV
      split
      · exact .inl ⟨by assumption, rfl⟩
      · exact .inr ⟨_, rfl⟩
    clear FL
    generalize litF (n + 1) f = L at hsm hnb hnc HEQ
    generalize codeV (nrmK (n + 1) f) = x1 at hnb HX1
    generalize codeV (nrmK (n + 3) (nrmT (n + 1) f)) = x2 at hnc HX2
    generalize nrmK (n + 3) (nrmT (n + 1) f) = K2 at HEQ HX2
    generalize nrmT (n + 3) (nrmT (n + 1) f) = g2 at hnc HEQ
    generalize nrmT (n + 1) f = g at hnb hnc HEQ
    generalize f.kind = fk at T0 hsm hnb
    generalize f.c = fc at T0 hsm hnb
    generalize f.t.length = ft at T0 hsm hnb
    generalize f.ks.length = fl at T0 hsm hnb
    go_enter Try.func7, Try.ntmps7
    go_wp2_with fail
    refine (hup _).mono ?_
    rintro e w1 ⟨rfl, hb1⟩
    have T1 := Lib.hid (T0.out.below hb1 T0.out.lt)
    clear hb1
    obtain ⟨l1, p0, p1, p2, p3, _⟩ := T1.out
    go_wp2_with fail
    refine (hsm.out _ T1.out.bel).mono ?_
    rintro e w2 ⟨v, rfl, hv1, hv2, hL, hb2⟩
    have T2 := Lib.hid (T1.out.below hb2 T1.out.lt)
    clear hb2 l1 p0 p1 p2 p3
    by_cases hv : v < 0
    · clear hL
      go_wp2_with fail
      go_ret
      exact ⟨rfl, T2.out.bel⟩
    · have HL := Lib.hid (hL (by omega))
      clear hL
      obtain ⟨l2, p0, p1, p2, p3, -⟩ := T2.out
      go_wp2_with fail
      refine (hnb.out HL.out _ T2.out.bel).mono ?_
      rintro e w3 ⟨cs3, rfl, hfS3, hb3⟩
      have HF3 := Lib.hid (hfS3.lies (B := w3.heap.size) (fun b h => h.2))
      obtain ⟨xk, xc, xa, xn, xp, xb, xm, xq, rfl⟩ := hfS3.form
      have hz3 := hb3.size
      have hba : Below w3.heap.size w3 (w3.alloc (.cells #[.int .i64 xk, .int .i64 xc, .slice xa xn xp, .slice xb xm xq] 28)) := (Below.refl _ _).alloc (Nat.le_refl _) _
      have hb4 : Below w2.heap.size w2 (w3.alloc (.cells #[.int .i64 xk, .int .i64 xc, .slice xa xn xp, .slice xb xm xq] 28)) := hb3.trans (hba.mono hz3)
      have B4 := Lib.hid (T2.out.bel.trans (hb4.mono (Nat.le_of_lt l2)))
      have HN4 := Lib.hid (heap_alloc_new w3 (.cells #[.int .i64 xk, .int .i64 xc, .slice xa xn xp, .slice xb xm xq] 28))
      have HF4 := Lib.hid ((HF3.out.below hba).mono hba.size)
      clear hb3 hba hb4 hfS3 p0 p1 p2 p3 HF3
      obtain ⟨t0, t1, t2, t3⟩ := form_cells HN4.out
      have Z4 := lt_of_some HN4.out
      go_wp2_with fail
      clear t0 t1 t2 t3 l2
      generalize w3.alloc (.cells #[.int .i64 xk, .int .i64 xc, .slice xa xn xp, .slice xb xm xq] 28) = w4 at B4 HN4 HF4 Z4 ⊢
      generalize w3.heap.size = M3 at HN4 Z4 hz3 ⊢
      refine (hnc.out HL.out _ _ HF4.out).mono ?_
      rintro e w5 ⟨cs5, rfl, hfS5, hb5⟩
      have HF5 := Lib.hid (hfS5.lies (B := w5.heap.size) (fun b h => h.2))
      obtain ⟨yk, yc, ya, yn, yp, yb, ym, yq, rfl⟩ := hfS5.form
      have hz5 := hb5.size
      have hbb : Below w5.heap.size w5 (w5.alloc (.cells #[.int .i64 yk, .int .i64 yc, .slice ya yn yp, .slice yb ym yq] 28)) := (Below.refl _ _).alloc (Nat.le_refl _) _
      have hb6 : Below w4.heap.size w4 (w5.alloc (.cells #[.int .i64 yk, .int .i64 yc, .slice ya yn yp, .slice yb ym yq] 28)) := hb5.trans (hbb.mono hz5)
      have B6 := Lib.hid (B4.out.trans (hb6.mono B4.out.size))
      obtain ⟨t0, t1, t2, t3⟩ := form_cells ((hb6.block _ Z4).trans HN4.out)
      obtain ⟨v0, v1, v2, v3⟩ := form_cells (heap_alloc_new w5 (.cells #[.int .i64 yk, .int .i64 yc, .slice ya yn yp, .slice yb ym yq] 28))
      have HFN6 := Lib.hid ((HF4.out.below hb6).mono hb6.size)
      have HFM6 := Lib.hid ((HF5.out.below hbb).mono hbb.size)
      clear hb5 hbb hb6 hfS5 HF5 HF4 hz5
      rcases HX1.out with rfl | ⟨k1, rfl⟩
      · rcases HX2.out with ⟨hk2, rfl⟩ | ⟨k2, rfl⟩
        · obtain rfl := HEQ.out HL.out hk2
          have HS := Lib.hid (same2_any (n + 3 + 2) g2 _ _ _ HFN6.out.succ.succ HFM6.out)
          go_wp2_with fail
          refine HS.out.mono ?_
          rintro e w7 ⟨rfl, hb7⟩
          have B7 := Lib.hid (B6.out.trans (hb7.mono B6.out.size))
          clear hb7 t0 t1 t2 t3 v0 v1 v2 v3
          go_wp2_with fail
          go_ret
          exact ⟨rfl, B7.out⟩
        · clear t0 t1 t2 t3 v0 v1 v2 v3
          go_wp2_with fail
          go_ret
          exact ⟨rfl, B6.out⟩
      · clear t0 t1 t2 t3 v0 v1 v2 v3
        go_wp2_with fail
        go_ret
        exact ⟨rfl, B6.out⟩
end Go.Proofs.Ytknagcednppokaa

namespace Go.Proofs.Ytknagcednppokaa
open Go.ChangeShapes Go.WideShapes Go.ChangeAt Go.RowKit

set_option maxRecDepth 100000 in
theorem normTwice_lifted (hup : UpSaid3) (os : Os) (started : os.Started) (H : Type) (enc : TypeId × Value → H) :
    ReturnsInHanded {} Try.checked os 7 .any (Rows.normTwiceSpec.pre6 enc Try.prog Try.f7 Rows.normTwiceRow.domain false) (Rows.normTwiceSpec.post enc Try.prog Try.f7 false true false false) := by
  refine returnsInHanded_of_change (C := Try.checked) Try.own started (by kernel_rfl) Try.func7
    (ChangeSpec.witness6 (enc := enc) (C := Try.checked) false ⟨#[], #[.agg #[.int .i64 0, .int .i64 0, .slice none 0 0, .slice none 0 0]], []⟩ 8 (by kernel_rfl) (by kernel_rfl) (by kernel_rfl) (by kernel_rfl)) ?_
  intro W base args ds gs before hval0 hW hcnd _
  have hval : ∀ (j : Nat) t v, Try.f7.params[j]? = some t → args[j]? = some v → Value.okWide Try.prog W .any base t v := hval0
  have hW' := hW
  obtain ⟨p, q, hA0, hV, rfl, hfz, hnd⟩ := hW
  have hA : DataW.TrodAll enc Try.prog W 0 (fun _ => true) true Try.f7.params.toList args.toList ds p := hA0
  rw [Try.params7] at hA hval
  obtain ⟨v0, vs0, d0, ds0, p0, q0, hargs, rfl, rfl, h0, r0⟩ := trodAll_cons hA
  obtain ⟨rfl, rfl, rfl⟩ := trodAll_nil r0
  obtain rfl : args = #[v0] := by cases args; simp_all
  obtain ⟨rfl, rfl⟩ := trodVars_none hV
  have k0 := h0
  have lt0 : ∀ x ∈ p0, x.block < W.heap.size := by obtain ⟨m, hm⟩ := k0; exact DataW.trod_lt m _ _ _ hm
  obtain ⟨n, f, cs, rfl, hf0⟩ := open_form (hval 0 28 v0 rfl rfl) h0
  clear hA0 hval0
  refine (normTwice_any hup n f cs W hf0).mono fun e W' ⟨he, bel⟩ => ?_
  subst he
  exact ⟨_, rfl, _, _, _, [], _, [], hW', trodAll_mk1 (shut_bool Try.underlying4 _), (trodAll_cons_mk (Below.trod Try.laidOut (by kernel_rfl) (of_decide_eq_true (by kernel_rfl)) k0 bel lt0) trodAll_mk0), rfl, bel.frame _, fun h => by cases h⟩

theorem normTwice_over (hup : UpSaid3) : Rows.NormTwiceSaid :=
  OpenClaim.holds_of_wide 7 Try.f7 rfl rfl rfl rfl rfl rfl rfl ⟨rfl, rfl, rfl, rfl, rfl⟩ rfl rfl rfl rfl rfl (by kernel_rfl) Try.func7 (by kernel_rfl)
    (of_decide_eq_true (by kernel_rfl)) (by unfold Func.isWrapper; first | (rw [if_pos (by decide +kernel)]; kernel_rfl) | (rw [if_neg (by decide +kernel)]; exact ⟨rfl, rfl⟩))
    (fun os started H enc _ => normTwice_lifted hup os started H enc)
end Go.Proofs.Ytknagcednppokaa
