/- The walk of NormStays. The frame of NormStays. -/
import Derived.Test.YtknagcednppokaaNr02
import Derived.Test.YtknagcednppokaaNr29
import Derived.Test.YtknagcednppokaaNr36
set_option linter.unusedVariables false
set_option linter.unusedSimpArgs false
namespace Go.Proofs.Ytknagcednppokaa
open Go.RowKit

set_option maxRecDepth 100000 in
set_option maxHeartbeats 4000000 in
theorem normStays_any (hup : UpSaid3) (n : Nat) (f : FT) (cs : List Value) (w : World) (h : FLies w.heap.size w n f cs) :
    Calls Try.prog 8 #[.agg cs.toArray] w fun e w' => e = .returned (.bool true) ∧ Below w.heap.size w w' := by
  have FL := fun W (hb : Below w.heap.size w W) => (h.below hb).mono hb.size
  cases n with
  | zero => exact h.elim
  | succ n =>
    obtain ⟨ta, tcap, ka, kcap, rfl, _⟩ := h
    have hsm := Lib.hid (fun W hb => nsmallL_any (n + 1) f _ W (FL W hb))
    have hcp := Lib.hid (fun (hl : litF (n + 1) f) W hb => copy_any (n + 1) f _ W (FL W hb) hl)
    have hnb := Lib.hid (fun (hl : litF (n + 1) f) cs W hf => (norm_both (n + 1) f cs W hl hf).1)
    have hni := Lib.hid (fun cs W hf => nis_any (n + 1) f cs W hf)
    have hso := Lib.hid (fun csa W hb hf => same2_any (n + 1) f csa _ W hf (FL W hb))
    have T0 := Lib.hid (box_start w f.kind f.c ta ka f.t.length tcap f.ks.length kcap)
    have HCD : Hid (∀ W, Calls Try.prog 13 #[codeV (nrmK (n + 1) f)] W fun e w' => e = .returned (.int .i64 (nrmK (n + 1) f)) ∧ W = w') := fun W => by
      have hk := nrmK_in (n + 1) f
      unfold codeV
      by_cases h0 : nrmK (n + 1) f = 0
      · rw [if_pos h0, h0]; exact code_nil W
      · rw [if_neg h0]; exact code_k _ W (by omega) (by omega)
    clear FL
    generalize litF (n + 1) f = L at hsm hcp hnb
    generalize hx : codeV (nrmK (n + 1) f) = x at hnb HCD
    clear hx
    generalize nrmK (n + 1) f = K at hnb HCD
    generalize nrmT (n + 1) f = g at hnb
    generalize isF (n + 1) f = bi at hni
    generalize f.kind = fk at T0 hsm hcp hso
    generalize f.c = fc at T0 hsm hcp hso
    generalize f.t.length = ft at T0 hsm hcp hso
    generalize f.ks.length = fl at T0 hsm hcp hso
    go_enter Try.func8, Try.ntmps8
    go_wp2_with fail
    refine (hup _).mono ?_
    rintro e w1 ⟨rfl, hb1⟩
    have T1 := Lib.hid (T0.out.below hb1 T0.out.lt)
    clear hb1
    obtain ⟨l1, p0, p1, p2, p3, _⟩ := T1.out
    go_wp2_with fail
    refine (hsm.out _ T1.out.bel).mono ?_
    rintro e w2 ⟨b, rfl, hL, hb2⟩
    have T2 := Lib.hid (T1.out.below hb2 T1.out.lt)
    clear hb2 l1 p0 p1 p2 p3
    cases b
    · clear hL
      go_wp2_with fail
      go_ret
      exact ⟨rfl, T2.out.bel⟩
    · have HL := Lib.hid (hL rfl)
      clear hL
      obtain ⟨l2, p0, p1, p2, p3, -⟩ := T2.out
      go_wp2_with fail
      refine (hcp.out HL.out _ T2.out.bel).mono ?_
      rintro e w3 ⟨cs3, rfl, hfS3, hb3⟩
      have HF3 := Lib.hid (hfS3.lies (B := w3.heap.size) (fun b h => h.2))
      obtain ⟨ok, oc, oa, on, op, ob, om, oq, rfl⟩ := hfS3.form
      have hz3 := hb3.size
      have hba : Below w3.heap.size w3 (w3.alloc (.cells #[.int .i64 ok, .int .i64 oc, .slice oa on op, .slice ob om oq] 28)) := (Below.refl _ _).alloc (Nat.le_refl _) _
      have hb4 : Below w2.heap.size w2 (w3.alloc (.cells #[.int .i64 ok, .int .i64 oc, .slice oa on op, .slice ob om oq] 28)) := hb3.trans (hba.mono hz3)
      have T4 := Lib.hid (T2.out.below hb4 l2)
      have HN4 := Lib.hid (heap_alloc_new w3 (.cells #[.int .i64 ok, .int .i64 oc, .slice oa on op, .slice ob om oq] 28))
      have HF4 := Lib.hid ((HF3.out.below hba).mono hba.size)
      clear hb3 hba hb4 hfS3 p0 p1 p2 p3 HF3
      obtain ⟨t0, t1, t2, t3⟩ := form_cells HN4.out
      have Z4 := lt_of_some HN4.out
      go_wp2_with fail
      clear t0 t1 t2 t3 l2
      generalize w3.alloc (.cells #[.int .i64 ok, .int .i64 oc, .slice oa on op, .slice ob om oq] 28) = w4 at T4 HN4 HF4 Z4 ⊢
      generalize w3.heap.size = M3 at HN4 Z4 hz3 ⊢
      refine (hnb.out HL.out _ _ HF4.out).mono ?_
      rintro e w5 ⟨cs5, rfl, hfS5, hb5⟩
      have HF5 := Lib.hid (hfS5.lies (B := w5.heap.size) (fun b h => h.2))
      obtain ⟨xk, xc, xa, xn, xp, xb, xm, xq, rfl⟩ := hfS5.form
      have hz5 := hb5.size
      have hbb : Below w5.heap.size w5 (w5.alloc (.cells #[.int .i64 xk, .int .i64 xc, .slice xa xn xp, .slice xb xm xq] 28)) := (Below.refl _ _).alloc (Nat.le_refl _) _
      have hb6 : Below w4.heap.size w4 (w5.alloc (.cells #[.int .i64 xk, .int .i64 xc, .slice xa xn xp, .slice xb xm xq] 28)) := hb5.trans (hbb.mono hz5)
      have T6 := Lib.hid (T4.out.below hb6 T4.out.lt)
      have HO6 := Lib.hid ((hb6.block _ Z4).trans HN4.out)
      have HN6 := Lib.hid (heap_alloc_new w5 (.cells #[.int .i64 xk, .int .i64 xc, .slice xa xn xp, .slice xb xm xq] 28))
      have HFO6 := Lib.hid ((HF4.out.below hb6).mono hb6.size)
      have HFN6 := Lib.hid ((HF5.out.below hbb).mono hbb.size)
      clear hb5 hbb hb6 hfS5 HF5 HF4 HN4 T4 hz5
      obtain ⟨t0, t1, t2, t3⟩ := form_cells HO6.out
      go_wp2_with fail
      clear t0 t1 t2 t3 Z4
      have Z6 := lt_of_some HN6.out
      have Y6 := lt_of_some HO6.out
      generalize w5.alloc (.cells #[.int .i64 xk, .int .i64 xc, .slice xa xn xp, .slice xb xm xq] 28) = w6 at T6 HO6 HN6 HFO6 HFN6 Z6 Y6 ⊢
      generalize w5.heap.size = M5 at HN6 Z6 ⊢
      refine (hni.out _ _ HFO6.out).mono ?_
      rintro e w7 ⟨rfl, hb7⟩
      have T7 := Lib.hid (T6.out.below hb7 T6.out.lt)
      have HO7 := Lib.hid ((hb7.block _ Y6).trans HO6.out)
      have HN7 := Lib.hid ((hb7.block _ Z6).trans HN6.out)
      have HFO7 := Lib.hid ((HFO6.out.below hb7).mono hb7.size)
      have HFN7 := Lib.hid ((HFN6.out.below hb7).mono hb7.size)
      have Z7 := lt_of_some HN7.out
      have Y7 := lt_of_some HO7.out
      clear hb7 T6 HO6 HN6 HFO6 HFN6 Z6 Y6
      obtain ⟨t0, t1, t2, t3⟩ := form_cells HO7.out
      go_wp2_with fail
      clear t0 t1 t2 t3
      refine (hnb.out HL.out _ _ HFO7.out).mono ?_
      rintro e w8 ⟨cs8, rfl, hfS8, hb8⟩
      have HF8 := Lib.hid (hfS8.lies (B := w8.heap.size) (fun b h => h.2))
      obtain ⟨yk, yc, ya, yn, yp, yb, ym, yq, rfl⟩ := hfS8.form
      have hz8 := hb8.size
      have hbb : Below w8.heap.size w8 (w8.alloc (.cells #[.int .i64 yk, .int .i64 yc, .slice ya yn yp, .slice yb ym yq] 28)) := (Below.refl _ _).alloc (Nat.le_refl _) _
      have hb9 : Below w7.heap.size w7 (w8.alloc (.cells #[.int .i64 yk, .int .i64 yc, .slice ya yn yp, .slice yb ym yq] 28)) := hb8.trans (hbb.mono hz8)
      have T9 := Lib.hid (T7.out.below hb9 T7.out.lt)
      have HO9 := Lib.hid ((hb9.block _ Y7).trans HO7.out)
      have HN9 := Lib.hid ((hb9.block _ Z7).trans HN7.out)
      have HM9 := Lib.hid (heap_alloc_new w8 (.cells #[.int .i64 yk, .int .i64 yc, .slice ya yn yp, .slice yb ym yq] 28))
      have HFO9 := Lib.hid ((HFO7.out.below hb9).mono hb9.size)
      have HFN9 := Lib.hid ((HFN7.out.below hb9).mono hb9.size)
      have HFM9 := Lib.hid ((HF8.out.below hbb).mono hbb.size)
      clear hb8 hbb hb9 hfS8 HF8 T7 HO7 HN7 HFO7 HFN7 Z7 Y7 hz8
      obtain ⟨_, q0, q1, q2, q3, _⟩ := T9.out
      obtain ⟨t0, t1, t2, t3⟩ := form_cells HO9.out
      go_wp2_with fail
      clear q0 q1 q2 q3 t0 t1 t2 t3
      have X9 := lt_of_some HN9.out
      have Y9 := lt_of_some HM9.out
      generalize w8.alloc (.cells #[.int .i64 yk, .int .i64 yc, .slice ya yn yp, .slice yb ym yq] 28) = w9 at T9 HO9 HN9 HM9 HFO9 HFN9 HFM9 X9 Y9 ⊢
      generalize w8.heap.size = M8 at HM9 Y9 ⊢
      refine (hso.out _ _ T9.out.bel HFO9.out).mono ?_
      rintro e w10 ⟨rfl, hb10⟩
      have T10 := Lib.hid (T9.out.below hb10 T9.out.lt)
      have HS10 := Lib.hid (same2_any (n + 1 + 2) g _ _ _ ((HFN9.out.below hb10).mono hb10.size) ((HFM9.out.below hb10).mono hb10.size))
      obtain ⟨t0, t1, t2, t3⟩ := form_cells ((hb10.block _ X9).trans HN9.out)
      obtain ⟨v0, v1, v2, v3⟩ := form_cells ((hb10.block _ Y9).trans HM9.out)
      clear hb10 T9 HO9 HN9 HM9 HFO9 HFN9 HFM9 X9 Y9
      go_wp2_with fail
      clear t0 t1 t2 t3 v0 v1 v2 v3
      refine HS10.out.mono ?_
      rintro e w11 ⟨rfl, hb11⟩
      have B11 := Lib.hid (T10.out.bel.trans (hb11.mono (Nat.le_of_lt T10.out.lt)))
      clear hb11
      go_wp2_with fail
      refine (HCD.out _).mono ?_
      rintro e w12 ⟨rfl, rfl⟩
      go_wp2_with fail
      refine (HCD.out _).mono ?_
      rintro e w13 ⟨rfl, rfl⟩
      go_wp2_with fail
      go_ret
      exact ⟨by simp, B11.out⟩
end Go.Proofs.Ytknagcednppokaa

namespace Go.Proofs.Ytknagcednppokaa
open Go.ChangeShapes Go.WideShapes Go.ChangeAt Go.RowKit

set_option maxRecDepth 100000 in
theorem normStays_lifted (hup : UpSaid3) (os : Os) (started : os.Started) (H : Type) (enc : TypeId × Value → H) :
    ReturnsInHanded {} Try.checked os 8 .any (Rows.normStaysSpec.pre6 enc Try.prog Try.f8 Rows.normStaysRow.domain false) (Rows.normStaysSpec.post enc Try.prog Try.f8 false true false false) := by
  refine returnsInHanded_of_change (C := Try.checked) Try.own started (by kernel_rfl) Try.func8
    (ChangeSpec.witness6 (enc := enc) (C := Try.checked) false ⟨#[], #[.agg #[.int .i64 0, .int .i64 0, .slice none 0 0, .slice none 0 0]], []⟩ 8 (by kernel_rfl) (by kernel_rfl) (by kernel_rfl) (by kernel_rfl)) ?_
  intro W base args ds gs before hval0 hW hcnd _
  have hval : ∀ (j : Nat) t v, Try.f8.params[j]? = some t → args[j]? = some v → Value.okWide Try.prog W .any base t v := hval0
  have hW' := hW
  obtain ⟨p, q, hA0, hV, rfl, hfz, hnd⟩ := hW
  have hA : DataW.TrodAll enc Try.prog W 0 (fun _ => true) true Try.f8.params.toList args.toList ds p := hA0
  rw [Try.params8] at hA hval
  obtain ⟨v0, vs0, d0, ds0, p0, q0, hargs, rfl, rfl, h0, r0⟩ := trodAll_cons hA
  obtain ⟨rfl, rfl, rfl⟩ := trodAll_nil r0
  obtain rfl : args = #[v0] := by cases args; simp_all
  obtain ⟨rfl, rfl⟩ := trodVars_none hV
  have k0 := h0
  have lt0 : ∀ x ∈ p0, x.block < W.heap.size := by obtain ⟨m, hm⟩ := k0; exact DataW.trod_lt m _ _ _ hm
  obtain ⟨n, f, cs, rfl, hf0⟩ := open_form (hval 0 28 v0 rfl rfl) h0
  clear hA0 hval0
  refine (normStays_any hup n f cs W hf0).mono fun e W' ⟨he, bel⟩ => ?_
  subst he
  exact ⟨_, rfl, _, _, _, [], _, [], hW', trodAll_mk1 (shut_bool Try.underlying4 _), (trodAll_cons_mk (Below.trod Try.laidOut (by kernel_rfl) (of_decide_eq_true (by kernel_rfl)) k0 bel lt0) trodAll_mk0), rfl, bel.frame _, fun h => by cases h⟩

theorem normStays_over (hup : UpSaid3) : Rows.NormStaysSaid :=
  OpenClaim.holds_of_wide 8 Try.f8 rfl rfl rfl rfl rfl rfl rfl ⟨rfl, rfl, rfl, rfl, rfl⟩ rfl rfl rfl rfl rfl (by kernel_rfl) Try.func8 (by kernel_rfl)
    (of_decide_eq_true (by kernel_rfl)) (by unfold Func.isWrapper; first | (rw [if_pos (by decide +kernel)]; kernel_rfl) | (rw [if_neg (by decide +kernel)]; exact ⟨rfl, rfl⟩))
    (fun os started H enc _ => normStays_lifted hup os started H enc)
end Go.Proofs.Ytknagcednppokaa
