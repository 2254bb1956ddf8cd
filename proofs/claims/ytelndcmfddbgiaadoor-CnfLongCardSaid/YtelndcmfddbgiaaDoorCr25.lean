/- CnfLong: its walk. The frame of CnfLong. CnfStays: what it stands on. Formulas in blocks of a kind. -/
import Derived.Test.YtelndcmfddbgiaaDoorCr06
import Derived.Test.YtelndcmfddbgiaaDoorCr23
import Derived.Test.YtelndcmfddbgiaaDoorCr24
import Derived.Laws.MakeOwn
import Derived.Test.YtelndcmfddbgiaaDoorRows
import Derived.BigQuiet
set_option linter.unusedVariables false
set_option linter.unusedSimpArgs false
set_option linter.unusedVariables false
set_option linter.unusedSimpArgs false
namespace Go.Proofs.YtelndcmfddbgiaaDoor
set_option maxRecDepth 100000
open Go.RowKit

set_option maxHeartbeats 4000000 in
theorem long_go (hup : UpSaid9) (z : Int) (n : Nat) (w : World) (hn : n ≤ 10000) (hz : ((0 ≤ z ∧ z ≤ 10000) ∧ z = n) ∨ (z < 0 ∧ n = 3) ∨ ((0 ≤ z ∧ 10000 < z) ∧ n = 3)) (ht : Tens w.heap.size w) :
    Calls Tryd.prog 4 #[.int .i64 z] w fun e w' => e = .returned (.bool true) ∧ Below w.heap.size w w' := by
  obtain ⟨i0, hi, hz0, hz1, hz2⟩ := Pak.info_parts Tryd.infoForm
  have HUP := Lib.hid (hup w ht)
  have HMK := Lib.hid (fun cap g W B (hb : Below w.heap.size w W) hB h => make_any 2 (wideG n) _ W (wide_lies B n cap g W hB hn h) (ht.up hb hb.size))
  have en := fun W => Tryd.eqNilNil W
  have eo := fun W => Prp.Tryd.eqCode 2 2 W
  have hk := wide_k hn
  have HCL := Lib.hid (wide_cls_len n)
  have HNN : Hid ((makF 2 (wideG n)).n = n + 1) := Lib.hid (by rw [wide_mk])
  clear hup ht
  by_cases h4 : 8191 < n
  · rw [if_pos h4] at hk
    have HK := Lib.hid hk
    clear hk
    rcases hz with ⟨hz, rfl⟩ | ⟨_, rfl⟩ | ⟨_, rfl⟩
    · have hw1 : IntKind.i64.wrap ((n : Int) + 1) = (n : Int) + 1 := IntWalk.i64_in _ (by omega)
      have hlt1 : (8192 : Int) < (n : Int) + 1 := by omega
      go_enter Tryd.func4, Tryd.ntmps4
      go_wp2_with fail
      refine HUP.out.mono ?_
      rintro e w1 ⟨rfl, hb1⟩
      have T1 := Lib.hid hb1
      clear hb1
      go_wp2_with (at_make; refine wpList_make_full _ rfl _ _ 25 rfl w1.heap.size 27 i0 (.agg #[.int .i64 0, .int .i64 0, .slice none 0 0, .slice none 0 0]) 4 Tryd.underlying25 hi hz0 hz1 .i64 .i64 _ _ n rfl rfl rfl rfl (by rw [hz2]; omega) (by unfold maxLen; omega) (Nat.le_refl _) ?_)
      intro w2 hown hgrow
      have T2 := Lib.hid (T1.out.grown hgrow T1.out.size (fun k hk => by cases hk))
      go_wp2_with fail
      refine (HMK.out _ _ w2 _ T2.out (Nat.le_refl _) hown).mono ?_
      rintro e w3 ⟨hbad, _, hb3⟩
      have e3 := hbad (by rw [HK.out]; decide)
      rw [HK.out] at e3
      subst e3
      have HE := Lib.hid (T2.out.trans ((hb3.trans ((Below.refl w3.heap.size w3).alloc (Nat.le_refl _) (.cells #[.int .i64 0, .slice none 0 0, .slice none 0 0] 33) |>.mono hb3.size)).mono T2.out.size))
      obtain ⟨x0, x1, x2⟩ := tree_cells w3 (.int .i64 0) (.slice none 0 0) (.slice none 0 0)
      clear hbad hb3 HMK hown hgrow
      go_wp2_with fail
      go_ret
      exact ⟨rfl, HE.out⟩
    · exact absurd h4 (by decide)
    · exact absurd h4 (by decide)
  · rw [if_neg h4] at hk
    have HK := Lib.hid hk
    clear hk
    have hw1 : IntKind.i64.wrap ((n : Int) + 1) = (n : Int) + 1 := IntWalk.i64_in _ (by omega)
    have hw2 : IntKind.i64.wrap (2 * (n : Int)) = 2 * (n : Int) := IntWalk.i64_in _ (by omega)
    have hw3 : IntKind.i64.wrap (2 * (n : Int) + 2) = 2 * (n : Int) + 2 := IntWalk.i64_in _ (by omega)
    have hlt1 : ¬ (8192 : Int) < (n : Int) + 1 := by omega
    have e1 : (((n : Int) + 1) == ((n : Int) + 1)) = true := by simp
    have e2 : ((2 * (n : Int) + 2) == (2 * (n : Int) + 2)) = true := by simp
    have HX : Hid (∀ w1 : World, Below w.heap.size w w1 → ∀ w3 : World, ∀ e, CnfEnd 2 (wideG n) w1 e w3 → ∃ aa an ac ca cc, e = .returned (.tuple #[.agg #[.int .i64 ((n : Int) + 1), .slice aa an ac, .slice ca (2 * n + 2) cc], .nilIface]) ∧ Below w1.heap.size w1 w3) := Lib.hid fun w1 _ w3 e hE => by
      obtain ⟨_, hok, hb⟩ := hE
      obtain ⟨av, cv, rfl, hO⟩ := hok HK.out
      obtain ⟨aa, ac, ca, cc, rfl, rfl, _, _⟩ := hO.lies (cnfK_made HK.out)
      exact ⟨aa, _, ac, ca, cc, by rw [HCL.out, HNN.out]; rfl, hb⟩
    rcases hz with ⟨hz, rfl⟩ | ⟨hz, rfl⟩ | ⟨hz, rfl⟩
    · go_enter Tryd.func4, Tryd.ntmps4
      go_wp2_with fail
      refine HUP.out.mono ?_
      rintro e w1 ⟨rfl, hb1⟩
      have T1 := Lib.hid hb1
      clear hb1
      go_wp2_with (at_make; refine wpList_make_full _ rfl _ _ 25 rfl w1.heap.size 27 i0 (.agg #[.int .i64 0, .int .i64 0, .slice none 0 0, .slice none 0 0]) 4 Tryd.underlying25 hi hz0 hz1 .i64 .i64 _ _ n rfl rfl rfl rfl (by rw [hz2]; omega) (by unfold maxLen; omega) (Nat.le_refl _) ?_)
      intro w2 hown hgrow
      have T2 := Lib.hid (T1.out.grown hgrow T1.out.size (fun k hk => by cases hk))
      go_wp2_with fail
      refine (HMK.out _ _ w2 _ T2.out (Nat.le_refl _) hown).mono ?_
      intro e w3 hE
      obtain ⟨aa, an, ac, ca, cc, rfl, hb3⟩ := HX.out w2 T2.out w3 e hE
      have HE := Lib.hid (fun o => T2.out.trans ((hb3.trans ((Below.refl w3.heap.size w3).alloc (Nat.le_refl _) o |>.mono hb3.size)).mono T2.out.size))
      clear hE hb3 HMK hown hgrow HX
      obtain ⟨x0, x1, x2⟩ := tree_cells w3 (.int .i64 ((n : Int) + 1)) (.slice aa an ac) (.slice ca (2 * n + 2) cc)
      go_wp2_with fail
      go_ret
      exact ⟨rfl, HE.out _⟩
    · go_enter Tryd.func4, Tryd.ntmps4
      go_wp2_with fail
      refine HUP.out.mono ?_
      rintro e w1 ⟨rfl, hb1⟩
      have T1 := Lib.hid hb1
      clear hb1
      go_wp2_with (at_make; refine wpList_make_full _ rfl _ _ 25 rfl w1.heap.size 27 i0 (.agg #[.int .i64 0, .int .i64 0, .slice none 0 0, .slice none 0 0]) 4 Tryd.underlying25 hi hz0 hz1 .i64 .i64 _ _ 3 rfl rfl rfl rfl (by rw [hz2]; omega) (by unfold maxLen; omega) (Nat.le_refl _) ?_)
      intro w2 hown hgrow
      have T2 := Lib.hid (T1.out.grown hgrow T1.out.size (fun k hk => by cases hk))
      go_wp2_with fail
      refine (HMK.out _ _ w2 _ T2.out (Nat.le_refl _) hown).mono ?_
      intro e w3 hE
      obtain ⟨aa, an, ac, ca, cc, rfl, hb3⟩ := HX.out w2 T2.out w3 e hE
      have HE := Lib.hid (fun o => T2.out.trans ((hb3.trans ((Below.refl w3.heap.size w3).alloc (Nat.le_refl _) o |>.mono hb3.size)).mono T2.out.size))
      clear hw1 hw2 hw3 e1 e2 hlt1
      clear hE hb3 HMK hown hgrow HX
      obtain ⟨x0, x1, x2⟩ := tree_cells w3 (.int .i64 4) (.slice aa an ac) (.slice ca 8 cc)
      go_wp2_with fail
      go_ret
      exact ⟨rfl, HE.out _⟩
    · go_enter Tryd.func4, Tryd.ntmps4
      go_wp2_with fail
      refine HUP.out.mono ?_
      rintro e w1 ⟨rfl, hb1⟩
      have T1 := Lib.hid hb1
      clear hb1
      go_wp2_with (at_make; refine wpList_make_full _ rfl _ _ 25 rfl w1.heap.size 27 i0 (.agg #[.int .i64 0, .int .i64 0, .slice none 0 0, .slice none 0 0]) 4 Tryd.underlying25 hi hz0 hz1 .i64 .i64 _ _ 3 rfl rfl rfl rfl (by rw [hz2]; omega) (by unfold maxLen; omega) (Nat.le_refl _) ?_)
      intro w2 hown hgrow
      have T2 := Lib.hid (T1.out.grown hgrow T1.out.size (fun k hk => by cases hk))
      go_wp2_with fail
      refine (HMK.out _ _ w2 _ T2.out (Nat.le_refl _) hown).mono ?_
      intro e w3 hE
      obtain ⟨aa, an, ac, ca, cc, rfl, hb3⟩ := HX.out w2 T2.out w3 e hE
      have HE := Lib.hid (fun o => T2.out.trans ((hb3.trans ((Below.refl w3.heap.size w3).alloc (Nat.le_refl _) o |>.mono hb3.size)).mono T2.out.size))
      clear hw1 hw2 hw3 e1 e2 hlt1
      clear hE hb3 HMK hown hgrow HX
      obtain ⟨x0, x1, x2⟩ := tree_cells w3 (.int .i64 4) (.slice aa an ac) (.slice ca 8 cc)
      go_wp2_with fail
      go_ret
      exact ⟨rfl, HE.out _⟩
theorem cnfLong_any (hup : UpSaid9) (z : Int) (w : World) (ht : Tens w.heap.size w) :
    Calls Tryd.prog 4 #[.int .i64 z] w fun e w' => e = .returned (.bool true) ∧ Below w.heap.size w w' := by
  by_cases h1 : z < 0
  · exact long_go hup z 3 w (by decide) (.inr (.inl ⟨h1, rfl⟩)) ht
  · by_cases h2 : 10000 < z
    · exact long_go hup z 3 w (by decide) (.inr (.inr ⟨⟨by omega, h2⟩, rfl⟩)) ht
    · exact long_go hup z z.toNat w (by omega) (.inl ⟨⟨by omega, by omega⟩, by omega⟩) ht
end Go.Proofs.YtelndcmfddbgiaaDoor

set_option linter.unusedVariables false
set_option linter.unusedSimpArgs false
namespace Go.Proofs.YtelndcmfddbgiaaDoor
open Go.ChangeShapes Go.WideShapes Go.ChangeAt Go.RowKit

set_option maxRecDepth 100000 in
theorem cnfLong_lifted (hup : UpSaid9) (os : Os) (started : os.Started) (H : Type) (enc : TypeId × Value → H) :
    ReturnsInHanded {} Tryd.checked os 4 .any (fun w args => (Rows.cnfLongSpec.pre enc Tryd.prog Tryd.f4 [] false w args ∧ laidMetH Tryd.prog laidL w) ∧ sizedMet enc Tryd.prog Tryd.f4 (OpenSpec.ofChange Rows.cnfLongSpec) false w args)
      (Rows.cnfLongSpec.post enc Tryd.prog Tryd.f4 false true false false) := by
  refine returnsInHanded_of_change_and (C := Tryd.checked) (X := fun w _ => laidMetH Tryd.prog laidL w) (fun _ _ _ hh h => h.of_heap hh) Tryd.own started (by kernel_rfl) Tryd.func4
    (ChangeSpec.witness_at (enc := enc) (C := Tryd.checked) (os := os) (X := fun w _ => laidMetH Tryd.prog laidL w) false (laidWorld os) #[.int .i64 0] 8 rfl (by kernel_rfl) (by kernel_rfl) (by kernel_rfl) (by kernel_rfl) (by kernel_rfl) (laidWorld_met os _)) ?_
  intro W base args ds gs before hval0 hW _ _ hL _
  have hval : ∀ (j : Nat) t v, Tryd.f4.params[j]? = some t → args[j]? = some v → Value.okWide Tryd.prog W .any base t v := hval0
  have hW' := hW
  obtain ⟨p, q, hA0, hV, rfl, hfz, hnd⟩ := hW
  have hA : DataW.TrodAll enc Tryd.prog W 0 (fun _ => true) true Tryd.f4.params.toList args.toList ds p := hA0
  rw [Tryd.params4] at hA hval
  obtain ⟨v0, vs0, d0, ds0, p0, q0, hargs, rfl, rfl, h0, r0⟩ := trodAll_cons hA
  obtain ⟨rfl, rfl, rfl⟩ := trodAll_nil r0
  obtain rfl : args = #[v0] := by cases args; simp_all
  obtain ⟨rfl, rfl⟩ := trodVars_none hV
  have k0 := h0
  have lt0 : ∀ x ∈ p0, x.block < W.heap.size := by obtain ⟨m, hm⟩ := k0; exact DataW.trod_lt m _ _ _ hm
  obtain ⟨n, rfl, _, _, wf0⟩ := open_int Tryd.underlying3 (hval 0 3 v0 rfl rfl) h0
  have hg := tens_of_laid hL
  clear hA0 hval0
  refine (cnfLong_any hup n W hg).mono fun e W' ⟨he, bel⟩ => ?_
  subst he
  exact ⟨_, rfl, _, _, _, [], _, [], hW', trodAll_mk1 (shut_bool Tryd.underlying4 _), (trodAll_cons_mk (Below.trod Tryd.laidOut (by kernel_rfl) (of_decide_eq_true (by kernel_rfl)) k0 bel lt0) trodAll_mk0), rfl, bel.frame _, fun h => by cases h⟩

theorem cnfLong_over (hup : UpSaid9) : Rows.CnfLongSaid :=
  OpenClaim.holds_of_wide 4 Tryd.f4 rfl rfl rfl rfl rfl rfl rfl ⟨rfl, rfl, rfl, rfl, rfl⟩ rfl rfl rfl rfl rfl (by kernel_rfl) Tryd.func4 (by kernel_rfl)
    (of_decide_eq_true (by kernel_rfl)) (by unfold Func.isWrapper; first | (rw [if_pos (by decide +kernel)]; kernel_rfl) | (rw [if_neg (by decide +kernel)]; exact ⟨rfl, rfl⟩))
    (fun os started H enc _ => cnfLong_lifted hup os started H enc)
end Go.Proofs.YtelndcmfddbgiaaDoor

set_option linter.unusedVariables false
set_option linter.unusedSimpArgs false
namespace Go.Proofs.YtelndcmfddbgiaaDoor
set_option maxRecDepth 100000
open Go.RowKit

/-- Numbers in blocks of S are overwritten, all else stands. -/
structure Scr (S : Nat → Prop) (w wr : World) : Prop where
  os : wr.os = w.os
  tape : wr.tape = w.tape
  output : wr.output = w.output
  size : w.heap.size ≤ wr.heap.size
  out : ∀ q, q < w.heap.size → ¬ S q → wr.heap[q]? = w.heap[q]?
  int : ∀ b o v, S b → w.cell? ⟨b, o, none⟩ = some (.int .i64 v) → ∃ v', wr.cell? ⟨b, o, none⟩ = some (.int .i64 v')
  nf : ∀ b, S b → ∀ o, wr.frozen? ⟨b, o, none⟩ = false
theorem Scr.refl {S : Nat → Prop} {w : World} (h : ∀ b, S b → ∀ o, w.frozen? ⟨b, o, none⟩ = false) : Scr S w w := ⟨rfl, rfl, rfl, Nat.le_refl _, fun _ _ _ => rfl, fun b o v _ h => ⟨v, h⟩, h⟩
theorem Scr.set {S : Nat → Prop} {w wr : World} (h : Scr S w wr) {b o : Nat} (hb : S b) (y : Int) : Scr S w (wr.setCell ⟨b, o, none⟩ (.int .i64 y)) := by
  refine ⟨h.os, h.tape, h.output, by simpa [World.setCell] using h.size, fun q hq hn => ?_, fun b' o' v hb' hv => ?_, fun b' hb' o' => by rw [World.frozen?_setCell]; exact h.nf b' hb' o'⟩
  · rw [Below.heap_setCell _ _ _ _ (fun e => hn (by rw [e]; exact hb))]
    exact h.out q hq hn
  · obtain ⟨v', hv'⟩ := h.int b' o' v hb' hv
    by_cases e : (⟨b, o, none⟩ : Addr) = ⟨b', o', none⟩
    · rw [← e]
      rw [← e] at hv'
      exact ⟨y, World.cell?_setCell_same _ _ _ hv'⟩
    · exact ⟨v', by rw [World.cell?_setCell_other _ _ _ _ e]; exact hv'⟩
theorem Scr.low {S : Nat → Prop} {w wr : World} (h : Scr S w wr) {B : Nat} (hB : ∀ b, S b → B ≤ b) (hBw : B ≤ w.heap.size) : Below B w wr :=
  ⟨h.os, h.tape, h.output, h.size, fun q hq => h.out q (by omega) (fun hs => by have := hB q hs; omega)⟩
theorem Scr.cell {S : Nat → Prop} {w wr : World} (h : Scr S w wr) {b o : Nat} {u : Value} (hb : b < w.heap.size ∧ ¬ S b) (hc : w.cell? ⟨b, o, none⟩ = some u) : wr.cell? ⟨b, o, none⟩ = some u := (World.cell?_of_block (a := ⟨b, o, none⟩) (h.out b hb.1 hb.2)).trans hc
theorem Scr.below {S : Nat → Prop} {w wr wq : World} (h : Scr S w wr) (hS : ∀ b, S b → b < w.heap.size) (hb : Below wr.heap.size wr wq) : Scr S w wq :=
  ⟨hb.os.trans h.os, hb.tape.trans h.tape, hb.output.trans h.output, Nat.le_trans h.size hb.size, fun q hq hn => (hb.block q (Nat.lt_of_lt_of_le hq h.size)).trans (h.out q hq hn), fun b o v hs hv => by
    obtain ⟨v', hv'⟩ := h.int b o v hs hv
    exact ⟨v', (hb.cell (p := ⟨b, o, none⟩) (Nat.lt_of_lt_of_le (hS b hs) h.size)).trans hv'⟩, fun b hs o => (World.frozen?_of_block (a := ⟨b, o, none⟩) (hb.block b (Nat.lt_of_lt_of_le (hS b hs) h.size))).trans (h.nf b hs o)⟩
/-- Clauses, atoms whose numbers may be overwritten. -/
def WrC (S : Nat → Prop) (w : World) (ca : Option Addr) (cn : Nat) : Prop := ∀ i, i < cn → ∃ b off ta n tcap, ca = some ⟨b, off, none⟩ ∧ (b < w.heap.size ∧ ¬ S b) ∧ w.cell? ⟨b, off + i, none⟩ = some (.slice ta n tcap) ∧ n ≤ 9223372036854775807 ∧ ∀ k, k < n → ∃ b' off', ta = some ⟨b', off', none⟩ ∧ S b' ∧ ∃ v, w.cell? ⟨b', off' + k, none⟩ = some (.int .i64 v)
def WrA (S : Nat → Prop) (w : World) (aa : Option Addr) (an : Nat) : Prop := ∀ i, i < an → ∃ b off ta n tcap, aa = some ⟨b, off, none⟩ ∧ (b < w.heap.size ∧ ¬ S b) ∧ w.cell? ⟨b, off + i * 2 + 1, none⟩ = some (.slice ta n tcap) ∧ n ≤ 9223372036854775807 ∧ ∀ k, k < n → ∃ b' off', ta = some ⟨b', off', none⟩ ∧ S b' ∧ ∃ v, w.cell? ⟨b', off' + k * 2 + 1, none⟩ = some (.int .i64 v)
theorem OwnP.at' {T : Type} {sh : Pak.Sh T} {e : TypeId} {B : Nat} {S : Nat → Prop} {xs : List T} {v : Value} {w : World} (h : OwnP sh e B S xs v w) {a : Option Addr} {n cap : Nat} (hv : v = .slice a n cap) {i : Nat} (hi : i < xs.length) : ∃ g cs, a = some ⟨g, 0, none⟩ ∧ v.ownBlock = some g ∧ (∀ j u, cs[j]? = some u → w.cell? ⟨g, 0 + i * sh.k + j, none⟩ = some u) ∧ sh.rel S w cs xs[i] := by
  obtain ⟨css, h1, h2, h3⟩ := h.row
  have hk : ∀ cs ∈ css, cs.length = sh.k := fun cs hc => by
    obtain ⟨i, hi, rfl⟩ := List.getElem_of_mem hc
    exact sh.len (h3 i (by omega) hi)
  have hc := fun g => World.ownsRow.cells h2 (g := g)
  obtain ⟨_, ⟨rfl, h0⟩ | ⟨g, cap, cur, rfl, _⟩⟩ := h2
  · omega
  · injection hv with hv1 hv2 hv3
    refine ⟨g, css[i]'(by omega), hv1.symm, rfl, fun j u hu => ?_, h3 i hi (by omega)⟩
    have hj : j < sh.k := by
      have := (List.getElem?_eq_some_iff.1 hu).1
      rwa [hk _ (List.getElem_mem _)] at this
    have := hc g rfl (i * sh.k + j) u (by rw [Pak.flatten_get hk i j (by omega) hj]; exact hu)
    rwa [show (⟨g, 0, none⟩ : Addr).add (i * sh.k + j) = ⟨g, 0 + i * sh.k + j, none⟩ by unfold Addr.add; split <;> simp_all] at this
def atomsX (n : Nat) (f : FT) : List (Int × List (Int × Int)) := if cnfK n f = 0 then atomsF n f else []
def clsX (n : Nat) (f : FT) : List (List Int) := if cnfK n f = 0 then clsF n f else []
def nX (n : Nat) (f : FT) : Nat := if cnfK n f = 0 then (makF n f).n else 0
/-- What Make answers, whatever it is: it lies, and its numbers may be overwritten. -/
structure MkL (n : Nat) (f : FT) (B : Nat) (w' : World) (aa : Option Addr) (an ac : Nat) (ca : Option Addr) (cn cc : Nat) (S : Nat → Prop) : Prop where
  eA : (atomsX n f).length = an
  eC : (clsX n f).length = cn
  cl : Prp.CLies w'.heap.size w' ca (clsX n f)
  hS : ∀ b, S b → B ≤ b ∧ b < w'.heap.size
  nf : ∀ b, S b → ∀ o, w'.frozen? ⟨b, o, none⟩ = false
  wc : WrC S w' ca cn
  wa : WrA S w' aa an
  ln : an ≤ 9223372036854775807 ∧ cn ≤ 9223372036854775807
  cs : ∀ j, j < cn → ((clsX n f).getD j []).length ≤ 9223372036854775807
theorem CnfEnd.lies {n : Nat} {f : FT} {w w' : World} {e : Ending} (h : CnfEnd n f w e w') : ∃ aa an ac ca cn cc S, e = .returned (.tuple #[.agg #[.int .i64 (nX n f), .slice aa an ac, .slice ca cn cc], Prp.codeV (cnfK n f)]) ∧ MkL n f w.heap.size w' aa an ac ca cn cc S := by
  obtain ⟨hbad, hok, hb⟩ := h
  by_cases hk : cnfK n f = 0
  · obtain ⟨av, cv, rfl, K, Sa, Sc, k1, k2, k3, k4, k5, k6, k7, k8⟩ := hok hk
    have hi := cnfK_made hk
    obtain ⟨q1, q2, q3, q4⟩ := cls_len hi
    obtain ⟨aa, ac, ea⟩ := k3.form
    obtain ⟨ca, cc, ec⟩ := k6.form
    obtain ⟨ca', cc', ec', hsc⟩ := k6.slot (by omega)
    have e2 : ca = ca' := by rw [ec] at ec'; injection ec'
    subst e2
    have ha : atomsX n f = atomsF n f := if_pos hk
    have hc : clsX n f = clsF n f := if_pos hk
    have hn : nX n f = (makF n f).n := if_pos hk
    refine ⟨aa, (atomsF n f).length, ac, ca, (clsF n f).length, cc, fun b => Sa b ∨ Sc b, by rw [hn, hk, ea, ec]; rfl, by rw [ha], by rw [hc], ?_, fun b hb => ?_, k8, fun i hi2 => ?_, fun i hi2 => ?_, by omega, by rw [hc]; exact cls_small hi⟩
    · rw [hc]
      exact clies_of hsc (fun b hb => by
        rcases hb with hb | hb
        · exact (k6.ok b hb).1
        · exact (k6.lt b hb).2)
    · rcases hb with hb | hb
      · exact ⟨(k4 b hb).1, (k3.ok b hb).1⟩
      · exact ⟨Nat.le_trans k1 (k7 b hb), (k6.ok b hb).1⟩
    · obtain ⟨g, cs, e1, e2, e3, v, rfl, ta, tcap, rfl, hl, hs⟩ := k6.at' ec hi2
      have c0 := e3 0 _ rfl
      rw [show Pak.clauseSh.k = 1 from rfl, Nat.mul_one, Nat.add_zero] at c0
      refine ⟨g, 0, ta, _, tcap, e1, ⟨(k6.lt g e2).2, fun hh => ?_⟩, c0, hl, fun k hk => ?_⟩
      · rcases hh with hh | hh
        · have := (k4 g hh).2; have := (k6.lt g e2).1; omega
        · exact (k6.ok g hh).2 e2
      · obtain ⟨b', off', us, f1, f2, f3, rfl, _⟩ := hs k hk
        have := f3 0 _ rfl
        rw [show Pak.intSh.k = 1 from rfl, Nat.mul_one, Nat.add_zero] at this
        exact ⟨b', off', f1, .inr f2, _, this⟩
    · obtain ⟨g, cs, e1, e2, e3, ta, tcap, rfl, hs⟩ := k3.at' ea hi2
      have c1 := e3 1 _ rfl
      rw [show linSh.k = 2 from rfl] at c1
      have hsl := short_atoms hi i hi2
      rw [List.getD_eq_getElem?_getD, List.getElem?_eq_getElem hi2, Option.getD_some] at hsl
      refine ⟨g, 0, ta, _, tcap, e1, ⟨(k3.lt g e2).2, fun hh => ?_⟩, c1, hsl, fun k hk => ?_⟩
      · rcases hh with hh | hh
        · exact (k3.ok g hh).2 e2
        · have := k7 g hh; have := k5 g e2; omega
      · obtain ⟨b', off', f1, f2, f3, f4⟩ := hs k hk
        exact ⟨b', off', f1, .inl f2, _, f4⟩
  · have ha : atomsX n f = [] := if_neg hk
    have hc : clsX n f = [] := if_neg hk
    have hn : nX n f = 0 := if_neg hk
    refine ⟨none, 0, 0, none, 0, 0, fun _ => False, by rw [hn, hbad hk]; unfold Prp.codeV; rw [if_neg hk]; rfl, by rw [ha]; rfl, by rw [hc]; rfl, by rw [hc]; exact fun i hi => absurd hi (Nat.not_lt_zero i), fun b h => h.elim, fun b h => h.elim, fun i hi => absurd hi (Nat.not_lt_zero i), fun i hi => absurd hi (Nat.not_lt_zero i), by omega, fun j hj => absurd hj (Nat.not_lt_zero j)⟩
theorem RCnfEnd.lies {n : Nat} {f : FT} {w w' : World} {e : Ending} (h : RCnfEnd n f w e w') : ∃ aa ac ca cc, e = .returned (.tuple #[.agg #[.int .i64 (nX n f), .slice aa (atomsX n f).length ac, .slice ca (clsX n f).length cc], .int .i64 (cnfK n f)]) ∧ Prp.CLies w'.heap.size w' ca (clsX n f) := by
  obtain ⟨hbad, hok, hb⟩ := h
  by_cases hk : cnfK n f = 0
  · obtain ⟨aa, ac, ca, cc, rfl, hs1, hs2⟩ := hok hk
    have ha : atomsX n f = atomsF n f := if_pos hk
    have hc : clsX n f = clsF n f := if_pos hk
    have hn : nX n f = (makF n f).n := if_pos hk
    exact ⟨aa, ac, ca, cc, by rw [hn, hk, ha, hc], by rw [hc]; exact clies_of hs2 (fun b hb => hb)⟩
  · have ha : atomsX n f = [] := if_neg hk
    have hc : clsX n f = [] := if_neg hk
    have hn : nX n f = 0 := if_neg hk
    exact ⟨none, 0, none, 0, by rw [hn, hbad hk, ha, hc]; rfl, by rw [hc]; exact fun i hi => absurd hi (Nat.not_lt_zero i)⟩
end Go.Proofs.YtelndcmfddbgiaaDoor

namespace Go.Proofs.YtelndcmfddbgiaaDoor
open Go.RowKit

def LiesQ (S : Nat → Prop) (w : World) (a : Option Addr) (l : List (Int × Int)) : Prop :=
  ∀ i, i < l.length → ∃ b off, a = some ⟨b, off, none⟩ ∧ S b ∧ w.cell? ⟨b, off + i * 2, none⟩ = some (.int .i64 (l.getD i (0, 0)).1) ∧ w.cell? ⟨b, off + i * 2 + 1, none⟩ = some (.int .i64 (l.getD i (0, 0)).2)
/-- A formula lies in memory, in blocks of a kind. -/
def FLiesQ (S : Nat → Prop) (w : World) : Nat → FT → List Value → Prop
  | 0, _, _ => False
  | n + 1, f, cs => ∃ (ta : Option Addr) (tcap : Nat) (ka : Option Addr) (kcap : Nat), cs = [.int .i64 f.kind, .int .i64 f.c, .slice ta f.t.length tcap, .slice ka f.ks.length kcap] ∧
      LiesQ S w ta f.t ∧ f.t.length ≤ 9223372036854775807 ∧ f.ks.length ≤ 9223372036854775807 ∧
      ∀ i, i < f.ks.length → ∃ b off c0 c1 c2 c3, ka = some ⟨b, off, none⟩ ∧ S b ∧ w.cell? ⟨b, off + i * 4, none⟩ = some c0 ∧ w.cell? ⟨b, off + i * 4 + 1, none⟩ = some c1 ∧ w.cell? ⟨b, off + i * 4 + 2, none⟩ = some c2 ∧ w.cell? ⟨b, off + i * 4 + 3, none⟩ = some c3 ∧
        FLiesQ S w n (f.ks.getD i default) [c0, c1, c2, c3]
theorem LiesQ.lies {S : Nat → Prop} {w : World} {B : Nat} {a : Option Addr} {l : List (Int × Int)} (hS : ∀ b, S b → b < B) (h : LiesQ S w a l) : Lies B w a l := fun i hi => by
  obtain ⟨b, off, e, hb, r⟩ := h i hi
  exact ⟨b, off, e, hS b hb, r⟩
theorem FLiesQ.lies {S : Nat → Prop} {w : World} {B : Nat} (hS : ∀ b, S b → b < B) : ∀ {n : Nat} {f : FT} {cs : List Value}, FLiesQ S w n f cs → FLies B w n f cs
  | 0, _, _, h => h
  | n + 1, f, cs, ⟨ta, tcap, ka, kcap, h1, h2, h3, h4, h5⟩ => ⟨ta, tcap, ka, kcap, h1, h2.lies hS, h3, h4, fun i hi => by
    obtain ⟨b, off, c0, c1, c2, c3, e, hb, g0, g1, g2, g3, hf⟩ := h5 i hi
    exact ⟨b, off, c0, c1, c2, c3, e, hS b hb, g0, g1, g2, g3, hf.lies hS⟩⟩
theorem LiesQ.keep {S S' : Nat → Prop} {w w' : World} {a : Option Addr} {l : List (Int × Int)} (hS : ∀ b, S b → S' b) (hk : ∀ b o, S b → w'.cell? ⟨b, o, none⟩ = w.cell? ⟨b, o, none⟩) (h : LiesQ S w a l) : LiesQ S' w' a l := fun i hi => by
  obtain ⟨b, off, e, hb, r1, r2⟩ := h i hi
  exact ⟨b, off, e, hS b hb, (hk _ _ hb).trans r1, (hk _ _ hb).trans r2⟩
theorem FLiesQ.keep {S S' : Nat → Prop} {w w' : World} (hS : ∀ b, S b → S' b) (hk : ∀ b o, S b → w'.cell? ⟨b, o, none⟩ = w.cell? ⟨b, o, none⟩) : ∀ {n : Nat} {f : FT} {cs : List Value}, FLiesQ S w n f cs → FLiesQ S' w' n f cs
  | 0, _, _, h => h
  | n + 1, f, cs, ⟨ta, tcap, ka, kcap, h1, h2, h3, h4, h5⟩ => ⟨ta, tcap, ka, kcap, h1, h2.keep hS hk, h3, h4, fun i hi => by
    obtain ⟨b, off, c0, c1, c2, c3, e, hb, g0, g1, g2, g3, hf⟩ := h5 i hi
    exact ⟨b, off, c0, c1, c2, c3, e, hS b hb, (hk _ _ hb).trans g0, (hk _ _ hb).trans g1, (hk _ _ hb).trans g2, (hk _ _ hb).trans g3, hf.keep hS hk⟩⟩
theorem FLiesQ.four {S : Nat → Prop} {w : World} : ∀ {n : Nat} {f : FT} {cs : List Value}, FLiesQ S w n f cs → ∃ c0 c1 c2 c3, cs = [c0, c1, c2, c3]
  | 0, _, _, h => h.elim
  | _ + 1, _, _, ⟨_, _, _, _, h1, _⟩ => ⟨_, _, _, _, h1⟩

/-- Cells, four by four. -/
theorem flat4_len : ∀ (css : List (List Value)), (∀ c ∈ css, c.length = 4) → css.flatten.length = css.length * 4
  | [], _ => rfl
  | c :: r, h => by
    have h1 := h c (by simp)
    have h2 := flat4_len r (fun x hx => h x (by simp [hx]))
    simp only [List.flatten_cons, List.length_append, List.length_cons, h1, h2]
    omega
theorem flat4_get : ∀ (css : List (List Value)), (∀ c ∈ css, c.length = 4) → ∀ i j, i < css.length → j < 4 → css.flatten[i * 4 + j]? = (css.getD i [])[j]?
  | [], _, i, _, hi, _ => absurd hi (Nat.not_lt_zero i)
  | c :: r, h, 0, j, _, hj => by
    have h1 := h c (by simp)
    rw [List.flatten_cons, Nat.zero_mul, Nat.zero_add, List.getElem?_append_left (by omega)]
    rfl
  | c :: r, h, i + 1, j, hi, hj => by
    have h1 := h c (by simp)
    rw [List.flatten_cons, List.getElem?_append_right (by omega), show (i + 1) * 4 + j - c.length = i * 4 + j by omega, flat4_get r (fun x hx => h x (by simp [hx])) i j (by simpa using hi) hj]
    rfl
end Go.Proofs.YtelndcmfddbgiaaDoor
