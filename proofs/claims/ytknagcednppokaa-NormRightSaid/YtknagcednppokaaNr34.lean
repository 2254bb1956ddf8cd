/- The document's Is, kind by kind. The document's Is. The walk of NormRight. The frame of NormRight. -/
import Derived.Test.YtknagcednppokaaNr02
import Derived.Test.YtknagcednppokaaNr32
import Derived.Test.YtknagcednppokaaNr33
set_option linter.unusedVariables false
set_option linter.unusedSimpArgs false
namespace Go.Proofs.Ytknagcednppokaa
open Go.RowKit

set_option maxRecDepth 100000 in
set_option maxHeartbeats 1600000 in
theorem is_6 (n : Nat) (f : FT) (cs : List Value) (a2 : Option Addr) (n2 cap2 : Nat) (zs : List Int) (w : World) (IH : ∀ (f : FT) (cs : List Value) (a2 : Option Addr) (n2 cap2 : Nat) (zs : List Int) (w : World), FLies w.heap.size w n f cs → sndF n f = true → (vOf zs n f).2 = true → zs.length = n2 → n2 ≤ 9223372036854775807 → Nums w.heap.size w a2 zs → Calls Try.prog 20 #[.agg cs.toArray, .slice a2 n2 cap2] w fun e w' => e = .returned (.bool (vOf zs n f).1) ∧ Below w.heap.size w w')
    (h : FLies w.heap.size w (n + 1) f cs) (hs : sndF (n + 1) f = true) (hv : (vOf zs (n + 1) f).2 = true) (hn2 : zs.length = n2) (hm2 : n2 ≤ 9223372036854775807) (hz : Nums w.heap.size w a2 zs) (hk : f.kind = 6) :
    Calls Try.prog 20 #[.agg cs.toArray, .slice a2 n2 cap2] w fun e w' => e = .returned (.bool (vOf zs (n + 1) f).1) ∧ Below w.heap.size w w' := by
  obtain ⟨hown, hkids⟩ := sndF_split hs
  obtain ⟨ta, tcap, ka, kcap, rfl, hlt, ht4, hk4, hks⟩ := h
  have B0 := Lib.hid (box_start w f.kind f.c ta ka f.t.length tcap f.ks.length kcap)
  rw [vOf_6 hk] at hv ⊢
  have HNE := Lib.hid ((vTo_near f.ks.length (Nat.le_refl _)).1 hv)
  have HA := Lib.hid (vTo_and zs n f.ks)
  have HO := Lib.hid (vTo_or zs n f.ks)
  have HI := Lib.hid IH
  have HK := Lib.hid hks
  have HS := Lib.hid hkids
  have HZ := Lib.hid hz
  have HN2 := Lib.hid hn2
  have S0 : Hid (true = (vTo zs n true f.ks 0).1 ∧ false = (vTo zs n false f.ks 0).1) := ⟨rfl, rfl⟩
  generalize hr : (vTo zs n false f.ks f.ks.length).1 = r
  have HR := Lib.hid hr
  rw [hk] at B0 ⊢
  clear IH hks hkids hlt hown hs hz hv hn2 hk hr ht4
  generalize f.c = fc at B0
  generalize f.t.length = ft at B0
  generalize hl : f.ks.length = len at B0 HK hk4 HA HO HR HS HNE
  clear hl
  go_enter Try.func20, Try.ntmps20
  go_wp2_with fail
  go_loopw [10, 11, 12] (fun s4 s5 i wr => ∃ (k : Nat) (o u : Bool), k ≤ len ∧ i = .int .i64 k ∧ s4 = .bool o ∧ s5 = .bool u ∧ Hid (o = (vTo zs n true f.ks k).1 ∧ u = (vTo zs n false f.ks k).1) ∧ Hid (Box w wr w.heap.size 6 fc ta ft tcap ka len kcap)) (fun _ _ i _ => len - (intOf i).toNat)
  case atStart => exact ⟨0, true, false, Nat.zero_le _, rfl, rfl, rfl, S0, B0⟩
  case round =>
    obtain ⟨k, o, u, hk, rfl, rfl, rfl, hou, hbx⟩ := hrel
    obtain ⟨bz, q0, _, _, q3, hb⟩ := hbx.out
    by_cases hlt : k < len
    · obtain ⟨b, off, c0, c1, c2, c3, rfl, hblt, g0, g1, g2, g3, hf⟩ := HK.out k hlt
      rw [← hb.cell (p := ⟨b, _, none⟩) hblt] at g0 g1 g2 g3
      obtain ⟨ck, cc, cta, ctn, ctcap, cka, ckn, ckcap, rfl, rfl, rfl, rfl⟩ := hf.form
      have hih := HI.out (f.ks.getD k default) _ a2 n2 cap2 zs _ ((hf.below hb).mono hb.size) (HS.out k hlt) (HNE.out k hlt) HN2.out hm2 ((HZ.out.below hb).mono hb.size)
      have ha := HA.out k hlt
      have ho := HO.out k hlt
      rw [← hou.out.1] at ha
      rw [← hou.out.2] at ho
      generalize (vOf zs n (f.ks.getD k default)).1 = v at hih ha ho
      have HX := Lib.hid (And.intro ha ho)
      clear hf ha ho hou
      go_wp2_with fail
      refine hih.mono ?_
      rintro e w1 ⟨rfl, hb1⟩
      have HB1 := Lib.hid (hbx.out.below hb1 bz)
      clear g0 g1 g2 g3 hih hb1 hb hbx q0 q3
      cases o <;> cases u <;> cases v
      all_goals
        go_wp2_with fail
        go_roundw
        case rel => exact ⟨k + 1, _, _, by omega, by go_num, rfl, rfl, ⟨HX.out.1.symm, HX.out.2.symm⟩, HB1⟩
        case measure => simp [intOf]; omega
    · have hr : r = u := by
        obtain rfl : k = len := by omega
        rw [← HR.out]; exact hou.out.2.symm
      subst hr
      clear hou
      go_wp2_with fail
      go_ret
      exact ⟨rfl, hb⟩
end Go.Proofs.Ytknagcednppokaa

namespace Go.Proofs.Ytknagcednppokaa
open Go.RowKit
theorem is_any : ∀ (n : Nat) (f : FT) (cs : List Value) (a2 : Option Addr) (n2 cap2 : Nat) (zs : List Int) (w : World), FLies w.heap.size w n f cs → sndF n f = true → (vOf zs n f).2 = true → zs.length = n2 → n2 ≤ 9223372036854775807 → Nums w.heap.size w a2 zs →
    Calls Try.prog 20 #[.agg cs.toArray, .slice a2 n2 cap2] w fun e w' => e = .returned (.bool (vOf zs n f).1) ∧ Below w.heap.size w w'
  | 0, _, _, _, _, _, _, _, h, _, _, _, _, _ => h.elim
  | n + 1, f, cs, a2, n2, cap2, zs, w, h, hs, hv, hn2, hm2, hz => by
    have IH := is_any n
    rcases ownF_kind (sndF_split hs).1 with hk | hk | hk | hk | hk | hk
    · exact is_0 n f cs a2 n2 cap2 zs w IH h hs hv hn2 hm2 hz hk
    · exact is_1 n f cs a2 n2 cap2 zs w IH h hs hv hn2 hm2 hz hk
    · rcases hk with hk | hk
      · exact is_2 n f cs a2 n2 cap2 zs w IH h hs hv hn2 hm2 hz hk
      · exact is_3 n f cs a2 n2 cap2 zs w IH h hs hv hn2 hm2 hz hk
    · exact is_4 n f cs a2 n2 cap2 zs w IH h hs hv hn2 hm2 hz hk
    · exact is_5 n f cs a2 n2 cap2 zs w IH h hs hv hn2 hm2 hz hk
    · exact is_6 n f cs a2 n2 cap2 zs w IH h hs hv hn2 hm2 hz hk
end Go.Proofs.Ytknagcednppokaa

namespace Go.Proofs.Ytknagcednppokaa
open Go.RowKit

/-- The boxes of a formula and of a form. -/
structure FL2 (w W : World) (k c : Int) (ta : Option Addr) (tn tcap : Nat) (ka : Option Addr) (kn kcap : Nat) (lc : Int) (la : Option Addr) (ln lcap : Nat) : Prop where
  bx : Box w W w.heap.size k c ta tn tcap ka kn kcap
  z : w.heap.size + 1 < W.heap.size
  l0 : W.cell? ⟨w.heap.size + 1, 0, none⟩ = some (.int .i64 lc)
  l1 : W.cell? ⟨w.heap.size + 1, 1, none⟩ = some (.slice la ln lcap)
theorem FL2.below {w W W' : World} {B : Nat} {k c : Int} {ta : Option Addr} {tn tcap : Nat} {ka : Option Addr} {kn kcap : Nat} {lc : Int} {la : Option Addr} {ln lcap : Nat} (h : FL2 w W k c ta tn tcap ka kn kcap lc la ln lcap) (hb : Below B W W') (hB : w.heap.size + 1 < B) : FL2 w W' k c ta tn tcap ka kn kcap lc la ln lcap :=
  ⟨h.bx.below hb (by omega), Nat.lt_of_lt_of_le h.z hb.size, (hb.cell (p := ⟨w.heap.size + 1, 0, none⟩) hB).trans h.l0, (hb.cell (p := ⟨w.heap.size + 1, 1, none⟩) hB).trans h.l1⟩
theorem fl2_start (w : World) (k c : Int) (ta ka : Option Addr) (tn tcap kn kcap : Nat) (lc : Int) (la : Option Addr) (ln lcap : Nat) :
    FL2 w ((w.alloc (.cells #[.int .i64 k, .int .i64 c, .slice ta tn tcap, .slice ka kn kcap] 28)).alloc (.cells #[.int .i64 lc, .slice la ln lcap] 24)) k c ta tn tcap ka kn kcap lc la ln lcap := by
  have hz : (w.alloc (.cells #[.int .i64 k, .int .i64 c, .slice ta tn tcap, .slice ka kn kcap] 28)).heap.size = w.heap.size + 1 := by simp
  have hn := heap_alloc_new (w.alloc (.cells #[.int .i64 k, .int .i64 c, .slice ta tn tcap, .slice ka kn kcap] 28)) (.cells #[.int .i64 lc, .slice la ln lcap] 24)
  rw [hz] at hn
  exact ⟨(box_start w k c ta ka tn tcap kn kcap).below ((Below.refl _ _).alloc (Nat.le_refl _) _) (by rw [hz]; omega), lt_of_some hn, (cell_of_row _ _ _ _ _ _ hn).trans rfl, (cell_of_row _ _ _ _ _ _ hn).trans rfl⟩

/-- The formula's half: three ways. -/
theorem right_ways {n : Nat} {f : FT} {zs : List Int} {a2 : Option Addr} {n2 cap2 : Nat} {w : World} (hl : litF (n + 1) f) (hn2 : zs.length = n2) (hm2 : n2 ≤ 9223372036854775807) (hz : Nums w.heap.size w a2 zs) :
    (codeV (nrmK (n + 1) f) = .nilIface ∧ codeV (fvN zs (n + 1) f).2 = .nilIface ∧ isF (n + 3) (nrmT (n + 1) f) = true ∧
      ∀ cs W, Below w.heap.size w W → FLies W.heap.size W (n + 3) (nrmT (n + 1) f) cs → Calls Try.prog 20 #[.agg cs.toArray, .slice a2 n2 cap2] W fun e w' => e = .returned (.bool (fvN zs (n + 1) f).1) ∧ Below W.heap.size W w') ∨
    (codeV (nrmK (n + 1) f) = .nilIface ∧ isF (n + 3) (nrmT (n + 1) f) = true ∧ ∃ k : Int, codeV (fvN zs (n + 1) f).2 = .iface 53 (.int .i64 k)) ∨
    (∃ k : Int, codeV (nrmK (n + 1) f) = .iface 53 (.int .i64 k)) := by
  by_cases h0 : nrmK (n + 1) f = 0
  · have hx : codeV (nrmK (n + 1) f) = .nilIface := by unfold codeV; rw [if_pos h0]
    have hi := nrmT_isF hl h0
    by_cases h1 : (fvN zs (n + 1) f).2 = 0
    · refine .inl ⟨hx, by unfold codeV; rw [if_pos h1], hi, fun cs W hb hf => ?_⟩
      obtain ⟨hc, g, hg, e⟩ := nrmK_ok h0
      have hs := (cc_sound hc).2.2
      have hv : (vOf zs (n + 1) f).2 = true ∧ (fvN zs (n + 1) f).1 = (vOf zs (n + 1) f).1 := by
        unfold fvN at h1 ⊢
        rw [if_pos hc] at h1 ⊢
        split at h1
        · rename_i hv
          exact ⟨hv, by rw [if_pos hv]⟩
        · cases h1
      have hval := normF_val hs hg hv.1 (n + 1) (Nat.le_refl _)
      have hnf := nrmT_nf hl
      rw [e] at hf hnf
      have := is_any (n + 3) g cs a2 n2 cap2 zs W hf (nF_snd hnf) (by rw [hval]) hn2 hm2 ((hz.below hb).mono hb.size)
      rw [show vOf zs (n + 3) g = _ from hval] at this
      rw [hv.2]
      exact this
    · exact .inr (.inl ⟨hx, hi, _, by unfold codeV; rw [if_neg h1]⟩)
  · exact .inr (.inr ⟨_, by unfold codeV; rw [if_neg h0]⟩)

/-- The form's half. -/
theorem lit_ways (c : Int) (l : List (Int × Int)) (a : Option Addr) (n cap : Nat) (zs : List Int) (a2 : Option Addr) (n2 cap2 : Nat) (w : World) (hn : l.length = n) (hm : n ≤ 9223372036854775807) (hl : Lies w.heap.size w a l) (hn2 : zs.length = n2) (hm2 : n2 ≤ 9223372036854775807) (hz : Nums w.heap.size w a2 zs) :
    ∃ (x bad : Int), (∀ W, Below w.heap.size w W → Calls Try.prog 21 #[.agg #[.int .i64 c, .slice a n cap], .slice a2 n2 cap2] W fun e w' => e = .returned (.tuple #[.int .i64 x, .int .i64 bad]) ∧ Below W.heap.size W w') ∧
    ((∃ k : Int, codeV (litK c l) = .iface 53 (.int .i64 k)) ∨ (codeV (litK c l) = .nilIface ∧ bad = 1) ∨
      (codeV (litK c l) = .nilIface ∧ bad = 0 ∧ (∀ cs W, FLies W.heap.size W 2 (litT c l) cs → Calls Try.prog 17 #[.agg cs.toArray] W fun e w' => e = .returned (.bool true) ∧ Below W.heap.size W w') ∧
        ∀ cs W, Below w.heap.size w W → FLies W.heap.size W 2 (litT c l) cs → Calls Try.prog 20 #[.agg cs.toArray, .slice a2 n2 cap2] W fun e w' => e = .returned (.bool (decide (x ≤ 0))) ∧ Below W.heap.size W w')) := by
  have hL := fun W (hb : Below w.heap.size w W) => (hl.below hb).mono hb.size
  have hZ := fun W (hb : Below w.heap.size w W) => (hz.below hb).mono hb.size
  subst hn
  by_cases hs : snd c l = true
  · by_cases hnear : ∀ i, i < l.length → near l zs i = true
    · refine ⟨sAt c l zs l.length, 0, fun W hb => rvalue_any c a _ cap l a2 n2 cap2 zs W rfl hn2 hm2 (hL W hb) (hZ W hb) hs _ _ (.inl ⟨rfl, rfl, hnear⟩), ?_⟩
      rcases litK_sound hs with hk | hk
      · have hc := litT_can hk
        refine .inr (.inr ⟨by unfold codeV; rw [if_pos hk], rfl, fun cs W hf => ?_, fun cs W hb hf => ?_⟩)
        · have := nis_any 2 _ cs W hf
          have hd := can_dep hc 2
          unfold isF at this
          rw [can_made (n := 0) hc, decide_eq_true (show dep 2 (litT c l) ≤ 128 by omega), decide_eq_true (show siz 2 (litT c l) ≤ 20480 by omega)] at this
          exact this
        · have hv := lit_val (N := 0) hk hnear
          have := is_any 2 _ cs a2 n2 cap2 zs W hf (can_snd hc 0) (by rw [show (2 : Nat) = 0 + 2 from rfl, hv]) hn2 hm2 (hZ W hb)
          rw [show vOf zs 2 (litT c l) = _ from hv] at this
          exact this
      · exact .inl ⟨_, by unfold codeV; rw [if_neg (by rw [hk]; decide)]⟩
    · refine ⟨0, 1, fun W hb => rvalue_any c a _ cap l a2 n2 cap2 zs W rfl hn2 hm2 (hL W hb) (hZ W hb) hs _ _ (.inr ⟨rfl, rfl, hnear⟩), ?_⟩
      rcases litK_sound hs with hk | hk
      · exact .inr (.inl ⟨by unfold codeV; rw [if_pos hk], rfl⟩)
      · exact .inl ⟨_, by unfold codeV; rw [if_neg (by rw [hk]; decide)]⟩
  · have hk : litK c l = 5 := by unfold litK; rw [if_neg hs]
    refine ⟨0, 5, fun W hb => rvalue_form c a _ cap l a2 n2 cap2 W rfl hm (hL W hb) (by simpa using hs), .inl ⟨_, by unfold codeV; rw [if_neg (by rw [hk]; decide)]⟩⟩

set_option maxRecDepth 100000 in
set_option maxHeartbeats 8000000 in
theorem normRight_any (hup : UpSaid3) (n : Nat) (f : FT) (cs : List Value) (lc : Int) (la : Option Addr) (ln lcap : Nat) (l : List (Int × Int)) (a2 : Option Addr) (n2 cap2 : Nat) (zs : List Int) (w : World) (h : FLies w.heap.size w n f cs)
    (hln : l.length = ln) (hlm : ln ≤ 9223372036854775807) (hll : Lies w.heap.size w la l) (hn2 : zs.length = n2) (hm2 : n2 ≤ 9223372036854775807) (hz : Nums w.heap.size w a2 zs) :
    Calls Try.prog 6 #[.agg cs.toArray, .agg #[.int .i64 lc, .slice la ln lcap], .slice a2 n2 cap2] w fun e w' => e = .returned (.bool true) ∧ Below w.heap.size w w' := by
  have FL := fun W (hb : Below w.heap.size w W) => (h.below hb).mono hb.size
  cases n with
  | zero => exact h.elim
  | succ n =>
    obtain ⟨ta, tcap, ka, kcap, rfl, _⟩ := h
    have hsm := Lib.hid (fun W hb => nsmallL_any (n + 1) f _ W (FL W hb))
    have hnb := Lib.hid (fun (hl : litF (n + 1) f) W hb => (norm_both (n + 1) f _ W hl (FL W hb)).1)
    have hfv := Lib.hid (fun W hb => fvalue_any (n + 1) f _ a2 n2 cap2 zs W (FL W hb) hn2 ((hz.below hb).mono hb.size))
    have hni := Lib.hid (fun cs W hf => nis_any (n + 3) (nrmT (n + 1) f) cs W hf)
    have HW := Lib.hid (fun (hl : litF (n + 1) f) => right_ways (cap2 := cap2) hl hn2 hm2 hz)
    have HLT := Lib.hid (fun W hb => (lit_both lc la ln lcap l W hln hlm ((hll.below hb).mono hb.size)).1)
    obtain ⟨x, bad, hrv, hw2⟩ := lit_ways lc l la ln lcap zs a2 n2 cap2 w hln hlm hll hn2 hm2 hz
    have HRV := Lib.hid hrv
    have HW2 := Lib.hid hw2
    have T0 := Lib.hid (fl2_start w f.kind f.c ta ka f.t.length tcap f.ks.length kcap lc la ln lcap)
    have n0 := fun W => Try.neNil W
    have n3 := fun k W => Try.neCode k W
    have n1 := fun W => Try.eqNil W
    have n4 := fun k W => Try.eqIfaceNil k W
    clear FL hrv hw2 hll hln hz hn2
    generalize litF (n + 1) f = L at hsm hnb HW
    generalize codeV (nrmK (n + 1) f) = x1 at hnb HW
    generalize isF (n + 3) (nrmT (n + 1) f) = bi at hni HW
    generalize nrmT (n + 1) f = g at hnb hni HW
    generalize codeV (fvN zs (n + 1) f).2 = gx at hfv HW
    generalize (fvN zs (n + 1) f).1 = v at hfv HW
    generalize codeV (litK lc l) = y1 at HLT HW2
    generalize litT lc l = tl at HLT HW2
    generalize f.kind = fk at T0 hsm hnb hfv
    generalize f.c = fc at T0 hsm hnb hfv
    generalize f.t.length = ft at T0 hsm hnb hfv
    generalize f.ks.length = fl at T0 hsm hnb hfv
    generalize hWW : (w.alloc (.cells #[.int .i64 fk, .int .i64 fc, .slice ta ft tcap, .slice ka fl kcap] 28)).alloc (.cells #[.int .i64 lc, .slice la ln lcap] 24) = w0 at T0
    go_enter Try.func6, Try.ntmps6
    go_wp2_with fail
    clear hWW
    refine (hup _).mono ?_
    rintro e w1 ⟨rfl, hb1⟩
    have T1 := Lib.hid (T0.out.below hb1 T0.out.z)
    clear hb1
    obtain ⟨-, p0, p1, p2, p3, -⟩ := T1.out.bx
    go_wp2_with fail
    refine (hsm.out _ T1.out.bx.bel).mono ?_
    rintro e w2 ⟨b, rfl, hL, hb2⟩
    have T2 := Lib.hid (T1.out.below hb2 T1.out.z)
    clear hb2 p0 p1 p2 p3
    cases b
    · clear hL
      go_wp2_with fail
      go_ret
      exact ⟨rfl, T2.out.bx.bel⟩
    · have HL := Lib.hid (hL rfl)
      clear hL
      obtain ⟨-, p0, p1, p2, p3, -⟩ := T2.out.bx
      go_wp2_with fail
      refine (hnb.out HL.out _ T2.out.bx.bel).mono ?_
      rintro e w3 ⟨cs3, rfl, hfS3, hb3⟩
      have HF3 := Lib.hid (hfS3.lies (B := w3.heap.size) (fun b h => h.2))
      obtain ⟨xk, xc, xa, xn, xp, xb, xm, xq, rfl⟩ := hfS3.form
      have hz3 := hb3.size
      have hba : Below w3.heap.size w3 (w3.alloc (.cells #[.int .i64 xk, .int .i64 xc, .slice xa xn xp, .slice xb xm xq] 28)) := (Below.refl _ _).alloc (Nat.le_refl _) _
      have hb4 : Below w2.heap.size w2 (w3.alloc (.cells #[.int .i64 xk, .int .i64 xc, .slice xa xn xp, .slice xb xm xq] 28)) := hb3.trans (hba.mono hz3)
      have T4 := Lib.hid (T2.out.below hb4 T2.out.z)
      have HN4 := Lib.hid (heap_alloc_new w3 (.cells #[.int .i64 xk, .int .i64 xc, .slice xa xn xp, .slice xb xm xq] 28))
      have HF4 := Lib.hid ((HF3.out.below hba).mono hba.size)
      clear hb3 hba hb4 hfS3 p0 p1 p2 p3 HF3 hz3
      obtain ⟨-, p0, p1, p2, p3, -⟩ := T4.out.bx
      go_wp2_with fail
      clear p0 p1 p2 p3
      have Z4 := lt_of_some HN4.out
      generalize w3.alloc (.cells #[.int .i64 xk, .int .i64 xc, .slice xa xn xp, .slice xb xm xq] 28) = w4 at T4 HN4 HF4 Z4 ⊢
      generalize w3.heap.size = M3 at HN4 Z4 ⊢
      refine (hfv.out _ T4.out.bx.bel).mono ?_
      rintro e w5 ⟨rfl, hb5⟩
      have T5 := Lib.hid (T4.out.below hb5 T4.out.z)
      have HN5 := Lib.hid ((hb5.block _ Z4).trans HN4.out)
      have HF5 := Lib.hid ((HF4.out.below hb5).mono hb5.size)
      have Z5 := lt_of_some HN5.out
      clear hb5 T4 HN4 HF4 Z4
      obtain ⟨t0, t1, t2, t3⟩ := form_cells HN5.out
      have key : Hid (∀ W : World, FL2 w W fk fc ta ft tcap ka fl kcap lc la ln lcap → W.cell? ⟨w.heap.size + 1, 0, none⟩ = some (.int .i64 lc) ∧ W.cell? ⟨w.heap.size + 1, 1, none⟩ = some (.slice la ln lcap)) := fun W h => ⟨h.l0, h.l1⟩
      rcases HW.out HL.out with ⟨rfl, rfl, rfl, hri⟩ | ⟨rfl, rfl, k, rfl⟩ | ⟨k, rfl⟩
      · have HRI := Lib.hid hri
        clear hri
        go_wp2_with fail
        refine (hni.out _ _ HF5.out).mono ?_
        rintro e w6 ⟨rfl, hb6⟩
        have T6 := Lib.hid (T5.out.below hb6 T5.out.z)
        have HN6 := Lib.hid ((hb6.block _ Z5).trans HN5.out)
        have HF6 := Lib.hid ((HF5.out.below hb6).mono hb6.size)
        clear hb6 T5 HN5 HF5 Z5 t0 t1 t2 t3
        obtain ⟨t0, t1, t2, t3⟩ := form_cells HN6.out
        go_wp2_with fail
        refine (HRI.out _ _ T6.out.bx.bel HF6.out).mono ?_
        rintro e wA ⟨rfl, hb7⟩
        have TA := Lib.hid (T6.out.below hb7 T6.out.z)
        clear hb7 T6 HN6 HF6 t0 t1 t2 t3 HRI
        obtain ⟨s0, s1⟩ := key.out _ TA.out
        have hvv : (v != v) = false := by simp
        go_wp2_with fail
        refine (HLT.out _ TA.out.bx.bel).mono ?_
        rintro e w8 ⟨cs8, rfl, hfS8, hb8⟩
        have HF8 := Lib.hid (hfS8.lies (B := w8.heap.size) (fun b h => h.2))
        obtain ⟨yk, yc, ya, yn, yp, yb, ym, yq, rfl⟩ := hfS8.form
        have hz8 := hb8.size
        have hbb : Below w8.heap.size w8 (w8.alloc (.cells #[.int .i64 yk, .int .i64 yc, .slice ya yn yp, .slice yb ym yq] 28)) := (Below.refl _ _).alloc (Nat.le_refl _) _
        have hb9 := hb8.trans (hbb.mono hz8)
        have T9 := Lib.hid (TA.out.below hb9 TA.out.z)
        have HN9 := Lib.hid (heap_alloc_new w8 (.cells #[.int .i64 yk, .int .i64 yc, .slice ya yn yp, .slice yb ym yq] 28))
        have HF9 := Lib.hid ((HF8.out.below hbb).mono hbb.size)
        clear hb8 hbb hb9 hfS8 HF8 TA s0 s1 hz8
        obtain ⟨s0, s1⟩ := key.out _ T9.out
        go_wp2_with fail
        have Z9 := lt_of_some HN9.out
        generalize w8.alloc (.cells #[.int .i64 yk, .int .i64 yc, .slice ya yn yp, .slice yb ym yq] 28) = w9 at T9 HN9 HF9 Z9 s0 s1 ⊢
        generalize w8.heap.size = M8 at HN9 Z9 ⊢
        refine (HRV.out _ T9.out.bx.bel).mono ?_
        rintro e w10 ⟨rfl, hb10⟩
        have T10 := Lib.hid (T9.out.below hb10 T9.out.z)
        have HN10 := Lib.hid ((hb10.block _ Z9).trans HN9.out)
        have HF10 := Lib.hid ((HF9.out.below hb10).mono hb10.size)
        have Z10 := lt_of_some HN10.out
        clear hb10 T9 HN9 HF9 Z9 s0 s1
        obtain ⟨t0, t1, t2, t3⟩ := form_cells HN10.out
        rcases HW2.out with ⟨k2, rfl⟩ | ⟨rfl, rfl⟩ | ⟨rfl, rfl, hq1, hq2⟩
        · clear t0 t1 t2 t3
          go_wp2_with fail
          go_ret
          exact ⟨rfl, T10.out.bx.bel⟩
        · clear t0 t1 t2 t3
          go_wp2_with fail
          go_ret
          exact ⟨rfl, T10.out.bx.bel⟩
        · have HQ1 := Lib.hid hq1
          have HQ2 := Lib.hid hq2
          clear hq1 hq2
          go_wp2_with fail
          refine (HQ1.out _ _ HF10.out).mono ?_
          rintro e w11 ⟨rfl, hb11⟩
          have T11 := Lib.hid (T10.out.below hb11 T10.out.z)
          have HF11 := Lib.hid ((HF10.out.below hb11).mono hb11.size)
          clear t0 t1 t2 t3
          obtain ⟨t0, t1, t2, t3⟩ := form_cells ((hb11.block _ Z10).trans HN10.out)
          clear hb11 T10 HN10 HF10 Z10
          go_wp2_with fail
          refine (HQ2.out _ _ T11.out.bx.bel HF11.out).mono ?_
          rintro e w12 ⟨rfl, hb12⟩
          have T12 := Lib.hid (T11.out.below hb12 T11.out.z)
          clear hb12 t0 t1 t2 t3
          go_wp2_with fail
          go_ret
          exact ⟨by simp, T12.out.bx.bel⟩
      · go_wp2_with fail
        refine (hni.out _ _ HF5.out).mono ?_
        rintro e wA ⟨rfl, hb6⟩
        have TA := Lib.hid (T5.out.below hb6 T5.out.z)
        clear hb6 T5 HN5 HF5 Z5 t0 t1 t2 t3
        obtain ⟨s0, s1⟩ := key.out _ TA.out
        go_wp2_with fail
        refine (HLT.out _ TA.out.bx.bel).mono ?_
        rintro e w8 ⟨cs8, rfl, hfS8, hb8⟩
        have HF8 := Lib.hid (hfS8.lies (B := w8.heap.size) (fun b h => h.2))
        obtain ⟨yk, yc, ya, yn, yp, yb, ym, yq, rfl⟩ := hfS8.form
        have hz8 := hb8.size
        have hbb : Below w8.heap.size w8 (w8.alloc (.cells #[.int .i64 yk, .int .i64 yc, .slice ya yn yp, .slice yb ym yq] 28)) := (Below.refl _ _).alloc (Nat.le_refl _) _
        have hb9 := hb8.trans (hbb.mono hz8)
        have T9 := Lib.hid (TA.out.below hb9 TA.out.z)
        have HN9 := Lib.hid (heap_alloc_new w8 (.cells #[.int .i64 yk, .int .i64 yc, .slice ya yn yp, .slice yb ym yq] 28))
        have HF9 := Lib.hid ((HF8.out.below hbb).mono hbb.size)
        clear hb8 hbb hb9 hfS8 HF8 TA s0 s1 hz8
        obtain ⟨s0, s1⟩ := key.out _ T9.out
        go_wp2_with fail
        have Z9 := lt_of_some HN9.out
        generalize w8.alloc (.cells #[.int .i64 yk, .int .i64 yc, .slice ya yn yp, .slice yb ym yq] 28) = w9 at T9 HN9 HF9 Z9 s0 s1 ⊢
        generalize w8.heap.size = M8 at HN9 Z9 ⊢
        refine (HRV.out _ T9.out.bx.bel).mono ?_
        rintro e w10 ⟨rfl, hb10⟩
        have T10 := Lib.hid (T9.out.below hb10 T9.out.z)
        have HN10 := Lib.hid ((hb10.block _ Z9).trans HN9.out)
        have HF10 := Lib.hid ((HF9.out.below hb10).mono hb10.size)
        have Z10 := lt_of_some HN10.out
        clear hb10 T9 HN9 HF9 Z9 s0 s1
        obtain ⟨t0, t1, t2, t3⟩ := form_cells HN10.out
        rcases HW2.out with ⟨k2, rfl⟩ | ⟨rfl, rfl⟩ | ⟨rfl, rfl, hq1, hq2⟩
        · clear t0 t1 t2 t3
          go_wp2_with fail
          go_ret
          exact ⟨rfl, T10.out.bx.bel⟩
        · clear t0 t1 t2 t3
          go_wp2_with fail
          go_ret
          exact ⟨rfl, T10.out.bx.bel⟩
        · have HQ1 := Lib.hid hq1
          have HQ2 := Lib.hid hq2
          clear hq1 hq2
          go_wp2_with fail
          refine (HQ1.out _ _ HF10.out).mono ?_
          rintro e w11 ⟨rfl, hb11⟩
          have T11 := Lib.hid (T10.out.below hb11 T10.out.z)
          have HF11 := Lib.hid ((HF10.out.below hb11).mono hb11.size)
          clear t0 t1 t2 t3
          obtain ⟨t0, t1, t2, t3⟩ := form_cells ((hb11.block _ Z10).trans HN10.out)
          clear hb11 T10 HN10 HF10 Z10
          go_wp2_with fail
          refine (HQ2.out _ _ T11.out.bx.bel HF11.out).mono ?_
          rintro e w12 ⟨rfl, hb12⟩
          have T12 := Lib.hid (T11.out.below hb12 T11.out.z)
          clear hb12 t0 t1 t2 t3
          go_wp2_with fail
          go_ret
          exact ⟨by simp, T12.out.bx.bel⟩
      · have TA := Lib.hid T5.out
        clear T5 HN5 HF5 Z5 t0 t1 t2 t3
        obtain ⟨s0, s1⟩ := key.out _ TA.out
        go_wp2_with fail
        refine (HLT.out _ TA.out.bx.bel).mono ?_
        rintro e w8 ⟨cs8, rfl, hfS8, hb8⟩
        have HF8 := Lib.hid (hfS8.lies (B := w8.heap.size) (fun b h => h.2))
        obtain ⟨yk, yc, ya, yn, yp, yb, ym, yq, rfl⟩ := hfS8.form
        have hz8 := hb8.size
        have hbb : Below w8.heap.size w8 (w8.alloc (.cells #[.int .i64 yk, .int .i64 yc, .slice ya yn yp, .slice yb ym yq] 28)) := (Below.refl _ _).alloc (Nat.le_refl _) _
        have hb9 := hb8.trans (hbb.mono hz8)
        have T9 := Lib.hid (TA.out.below hb9 TA.out.z)
        have HN9 := Lib.hid (heap_alloc_new w8 (.cells #[.int .i64 yk, .int .i64 yc, .slice ya yn yp, .slice yb ym yq] 28))
        have HF9 := Lib.hid ((HF8.out.below hbb).mono hbb.size)
        clear hb8 hbb hb9 hfS8 HF8 TA s0 s1 hz8
        obtain ⟨s0, s1⟩ := key.out _ T9.out
        go_wp2_with fail
        have Z9 := lt_of_some HN9.out
        generalize w8.alloc (.cells #[.int .i64 yk, .int .i64 yc, .slice ya yn yp, .slice yb ym yq] 28) = w9 at T9 HN9 HF9 Z9 s0 s1 ⊢
        generalize w8.heap.size = M8 at HN9 Z9 ⊢
        refine (HRV.out _ T9.out.bx.bel).mono ?_
        rintro e w10 ⟨rfl, hb10⟩
        have T10 := Lib.hid (T9.out.below hb10 T9.out.z)
        have HN10 := Lib.hid ((hb10.block _ Z9).trans HN9.out)
        have HF10 := Lib.hid ((HF9.out.below hb10).mono hb10.size)
        have Z10 := lt_of_some HN10.out
        clear hb10 T9 HN9 HF9 Z9 s0 s1
        obtain ⟨t0, t1, t2, t3⟩ := form_cells HN10.out
        rcases HW2.out with ⟨k2, rfl⟩ | ⟨rfl, rfl⟩ | ⟨rfl, rfl, hq1, hq2⟩
        · clear t0 t1 t2 t3
          go_wp2_with fail
          go_ret
          exact ⟨rfl, T10.out.bx.bel⟩
        · clear t0 t1 t2 t3
          go_wp2_with fail
          go_ret
          exact ⟨rfl, T10.out.bx.bel⟩
        · have HQ1 := Lib.hid hq1
          have HQ2 := Lib.hid hq2
          clear hq1 hq2
          go_wp2_with fail
          refine (HQ1.out _ _ HF10.out).mono ?_
          rintro e w11 ⟨rfl, hb11⟩
          have T11 := Lib.hid (T10.out.below hb11 T10.out.z)
          have HF11 := Lib.hid ((HF10.out.below hb11).mono hb11.size)
          clear t0 t1 t2 t3
          obtain ⟨t0, t1, t2, t3⟩ := form_cells ((hb11.block _ Z10).trans HN10.out)
          clear hb11 T10 HN10 HF10 Z10
          go_wp2_with fail
          refine (HQ2.out _ _ T11.out.bx.bel HF11.out).mono ?_
          rintro e w12 ⟨rfl, hb12⟩
          have T12 := Lib.hid (T11.out.below hb12 T11.out.z)
          clear hb12 t0 t1 t2 t3
          go_wp2_with fail
          go_ret
          exact ⟨by simp, T12.out.bx.bel⟩
end Go.Proofs.Ytknagcednppokaa

namespace Go.Proofs.Ytknagcednppokaa
open Go.ChangeShapes Go.WideShapes Go.ChangeAt Go.RowKit

set_option maxRecDepth 100000 in
theorem normRight_lifted (hup : UpSaid3) (os : Os) (started : os.Started) (H : Type) (enc : TypeId × Value → H) :
    ReturnsInHanded {} Try.checked os 6 .any (Rows.normRightSpec.pre6 enc Try.prog Try.f6 Rows.normRightRow.domain false) (Rows.normRightSpec.post enc Try.prog Try.f6 false true false false) := by
  refine returnsInHanded_of_change (C := Try.checked) Try.own started (by kernel_rfl) Try.func6
    (ChangeSpec.witness6 (enc := enc) (C := Try.checked) false ⟨#[], #[.agg #[.int .i64 0, .int .i64 0, .slice none 0 0, .slice none 0 0], .agg #[.int .i64 0, .slice none 0 0], .slice none 0 0], []⟩ 8 (by kernel_rfl) (by kernel_rfl) (by kernel_rfl) (by kernel_rfl)) ?_
  intro W base args ds gs before hval0 hW hcnd _
  have hval : ∀ (j : Nat) t v, Try.f6.params[j]? = some t → args[j]? = some v → Value.okWide Try.prog W .any base t v := hval0
  have hW' := hW
  obtain ⟨p, q, hA0, hV, rfl, hfz, hnd⟩ := hW
  have hA : DataW.TrodAll enc Try.prog W 0 (fun _ => true) true Try.f6.params.toList args.toList ds p := hA0
  rw [Try.params6] at hA hval
  obtain ⟨v0, vs0, d0, ds0, p0, q0, hargs, rfl, rfl, h0, r0⟩ := trodAll_cons hA
  obtain ⟨v1, vs1, d1, ds1, p1, q1, rfl, rfl, rfl, h1, r1⟩ := trodAll_cons r0
  obtain ⟨v2, vs2, d2, ds2, p2, q2, rfl, rfl, rfl, h2, r2⟩ := trodAll_cons r1
  obtain ⟨rfl, rfl, rfl⟩ := trodAll_nil r2
  obtain rfl : args = #[v0, v1, v2] := by cases args; simp_all
  obtain ⟨rfl, rfl⟩ := trodVars_none hV
  have k0 := h0
  have lt0 : ∀ x ∈ p0, x.block < W.heap.size := by obtain ⟨m, hm⟩ := k0; exact DataW.trod_lt m _ _ _ hm
  have k1 := h1
  have lt1 : ∀ x ∈ p1, x.block < W.heap.size := by obtain ⟨m, hm⟩ := k1; exact DataW.trod_lt m _ _ _ hm
  have k2 := h2
  have lt2 : ∀ x ∈ p2, x.block < W.heap.size := by obtain ⟨m, hm⟩ := k2; exact DataW.trod_lt m _ _ _ hm
  obtain ⟨n, f, cs, rfl, hf0⟩ := open_form (hval 0 28 v0 rfl rfl) h0
  obtain ⟨lc, la, ln, lcap, l, rfl, ⟨hl1, hn1, hc1, hnil1, hlies1, hwf1⟩, hwc1⟩ := open_lin (hval 1 24 v1 rfl rfl) h1
  have hm1 : ln ≤ 9223372036854775807 := by unfold maxLen at hc1; omega
  obtain ⟨a2, n2, cap2, zs, rfl, hl2, hn2, hc2, hnums2, hwf2⟩ := open_nums (hval 2 41 v2 rfl rfl) h2
  have hm2 : n2 ≤ 9223372036854775807 := by unfold maxLen at hc2; omega
  clear hA0 hval0
  refine (normRight_any hup n f cs lc la ln lcap l a2 n2 cap2 zs W hf0 hl1 hm1 hlies1 hl2 hm2 hnums2).mono fun e W' ⟨he, bel⟩ => ?_
  subst he
  exact ⟨_, rfl, _, _, _, [], _, [], hW', trodAll_mk1 (shut_bool Try.underlying4 _), (trodAll_cons_mk (Below.trod Try.laidOut (by kernel_rfl) (of_decide_eq_true (by kernel_rfl)) k0 bel lt0) (trodAll_cons_mk (Below.trod Try.laidOut (by kernel_rfl) (of_decide_eq_true (by kernel_rfl)) k1 bel lt1) (trodAll_cons_mk (Below.trod Try.laidOut (by kernel_rfl) (of_decide_eq_true (by kernel_rfl)) k2 bel lt2) trodAll_mk0))), rfl, bel.frame _, fun h => by cases h⟩

theorem normRight_over (hup : UpSaid3) : Rows.NormRightSaid :=
  OpenClaim.holds_of_wide 6 Try.f6 rfl rfl rfl rfl rfl rfl rfl ⟨rfl, rfl, rfl, rfl, rfl⟩ rfl rfl rfl rfl rfl (by kernel_rfl) Try.func6 (by kernel_rfl)
    (of_decide_eq_true (by kernel_rfl)) (by unfold Func.isWrapper; first | (rw [if_pos (by decide +kernel)]; kernel_rfl) | (rw [if_neg (by decide +kernel)]; exact ⟨rfl, rfl⟩))
    (fun os started H enc _ => normRight_lifted hup os started H enc)
end Go.Proofs.Ytknagcednppokaa
