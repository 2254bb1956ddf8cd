/- How a witness reads that comes in. -/
import Derived.Test.YtgaipfkblfommaaPakA
import Derived.Test.YtgaipfkblfommaaRows
import Derived.ProofKit
import Derived.OpenShut
import Derived.ChangeOld
import Derived.Deep.Slices
import Derived.Deep.Fields
import Derived.Lib.SmallJoins
set_option linter.unusedVariables false
set_option linter.unusedSimpArgs false
namespace Go.Proofs.Ytgaipfkblfommaa
set_option maxRecDepth 100000
open Go.ChangeShapes Go.WideShapes Go.RowKit Go.Deep

theorem list_ofC {α : Type} (n : Nat) (p : Nat → α → Prop) (h : ∀ i, i < n → ∃ m, p i m) : ∃ l : List α, l.length = n ∧ ∀ i (hi : i < l.length), p i l[i] := by
  induction n with
  | zero => exact ⟨[], rfl, fun i hi => absurd hi (Nat.not_lt_zero i)⟩
  | succ n ih =>
    obtain ⟨l, hl, hp⟩ := ih (fun i hi => h i (by omega))
    obtain ⟨m, hm⟩ := h n (by omega)
    refine ⟨l ++ [m], by simp [hl], fun i hi => ?_⟩
    by_cases e : i < l.length
    · rw [List.getElem_append_left e]; exact hp i e
    · have e2 : i = l.length := by simp at hi; omega
      subst e2
      simp only [List.getElem_concat_length]
      rw [hl]; exact hm
section
variable {H : Type} {enc : TypeId × Value → H} {w : World} {base : Nat} {spare : Nat → Bool} {held : Bool}
variable (enc w base spare held) in
def Opn {T : Type} (sh : Sh T) (e : TypeId) : Prop := ∀ {fuel : Nat} {cs : List Value} {x : DataW H × List MemPlace}, DataW.trod enc Try.prog w base spare held fuel e cs = some x → ∃ y : T, sh.rel (Lo w.heap.size) w cs y
theorem open_row {T : Type} {sh : Sh T} {t e : TypeId} (ht : Try.prog.underlying t = some (.slice e)) (hk : Try.prog.cellsOf e = sh.k) (hpos : 0 < sh.k) (ho : Opn enc w base spare held sh e) {fuel : Nat} {cs : List Value} {x : DataW H × List MemPlace} (h : DataW.trod enc Try.prog w base spare held fuel t cs = some x) :
    ∃ a cap xs, cs = [.slice a xs.length cap] ∧ Sits sh (Lo w.heap.size) w a xs ∧ xs.length ≤ cap ∧ cap ≤ maxLen ∧ (a = none → cap = 0) := by
  rcases open_slice ht h with ⟨h0, _⟩ | ⟨a, len, cap, m, n, D, Pl, hcs, _, hl, hm, hmm, _, hi⟩
  · exact ⟨none, 0, [], h0, Sits.nil _ _ _ _, Nat.le_refl _, Nat.zero_le _, fun _ => rfl⟩
  · have hlm : len ≤ m := by rw [hmm]; split <;> omega
    have hp : ∀ i, i < len → ∃ y : T, ∃ cs', (∀ j u, cs'[j]? = some u → w.cell? (a.add (i * sh.k + j)) = some u) ∧ sh.rel (Lo w.heap.size) w cs' y := fun i hil => by
      obtain ⟨cs', hc, ht'⟩ := hi i (by omega)
      obtain ⟨y, hy⟩ := ho ht'
      rw [hk] at hc
      obtain ⟨_, hcl, hat⟩ := World.cells?_some hc
      refine ⟨y, cs', fun j u hu => ?_, hy⟩
      obtain ⟨hj, rfl⟩ := List.getElem?_eq_some_iff.1 hu
      have := hat j (by omega)
      rw [← Go.Deep.add_add]
      simpa [List.getElem?_eq_getElem hj] using this
    obtain ⟨l, hll, hlp⟩ := list_ofC len _ hp
    obtain ⟨b, off, sp⟩ := a
    have h63 : maxLen = 9223372036854775807 := rfl
    refine ⟨some ⟨b, off, sp⟩, cap, l, by rw [hll]; exact hcs, ⟨by omega, fun i hil => ?_⟩, by omega, hm, fun e => by cases e⟩
    obtain ⟨cs', h1, h2⟩ := hlp i hil
    have hlen := sh.len h2
    have hc0 := h1 0 _ (List.getElem?_eq_getElem (by omega))
    have hsp : sp = none := by
      obtain ⟨cs0, h10, h20⟩ := hlp 0 (by omega)
      have hc00 := h10 0 _ (List.getElem?_eq_getElem (by have := sh.len h20; omega))
      have := World.cell?_spot hc00
      simpa [Addr.add] using this
    subst hsp
    rw [Go.WideShapes.add_plain] at hc0
    refine ⟨b, off, cs', rfl, by simpa using block_lt_of_cell hc0, fun j u hu => ?_, h2⟩
    have := h1 j u hu
    rw [Go.WideShapes.add_plain] at this
    rwa [Nat.add_assoc]
theorem i64_of {x : Int} (h : (Lit.int .i64 x).wf = true) : i64 x := by
  have h2 := h
  unfold Lit.wf at h2
  rw [Bool.and_eq_true, decide_eq_true_eq, decide_eq_true_eq] at h2
  exact h2
theorem opn_int : Opn enc w base spare held intSh 3 := fun h => by
  obtain ⟨z, rfl, _, hw⟩ := DataW.trod_int Try.underlying3 h
  exact ⟨z, rfl, i64_of hw⟩
theorem two_fields {t : TypeId} {f0 f1 : Field} {fuel : Nat} {cs : List Value} {x : DataW H × List MemPlace} (ht : Try.prog.underlying t = some (.struct #[f0, f1])) (hk : Try.prog.cellsOf t = 2) (h0 : f0.offset = 0 ∧ Try.prog.cellsOf f0.type = 1) (h1 : f1.offset = 1 ∧ Try.prog.cellsOf f1.type = 1)
    (h : DataW.trod enc Try.prog w base spare held fuel t cs = some x) : ∃ c0 c1 y0 y1 n, cs = [c0, c1] ∧ DataW.trod enc Try.prog w base spare held n f0.type [c0] = some y0 ∧ DataW.trod enc Try.prog w base spare held n f1.type [c1] = some y1 := by
  obtain ⟨ys, n, _, _, hl, hyl, hf⟩ := DataW.trod_struct ht h
  rw [hk] at hl
  match cs, hl with
  | [c0, c1], _ =>
    have a0 : DataW.trod enc Try.prog w base spare held n f0.type (([c0, c1].drop f0.offset).take (Try.prog.cellsOf f0.type)) = ys[0]? := hf 0 _ rfl
    have a1 : DataW.trod enc Try.prog w base spare held n f1.type (([c0, c1].drop f1.offset).take (Try.prog.cellsOf f1.type)) = ys[1]? := hf 1 _ rfl
    have hy : ys.length = 2 := hyl
    rw [List.getElem?_eq_getElem (by omega)] at a0 a1
    rw [h0.1, h0.2] at a0
    rw [h1.1, h1.2] at a1
    exact ⟨c0, c1, _, _, n, rfl, a0, a1⟩
theorem opn_part : Opn enc w base spare held partSh 99 := fun h => by
  obtain ⟨c0, c1, y0, y1, n, rfl, h0, h1⟩ := two_fields Try.underlying99 (by kernel_rfl) ⟨rfl, by kernel_rfl⟩ ⟨rfl, by kernel_rfl⟩ h
  obtain ⟨z0, e0, _, w0⟩ := DataW.trod_int Try.underlying3 h0
  obtain ⟨z1, e1, _, w1⟩ := DataW.trod_int Try.underlying3 h1
  injection e0 with e0
  injection e1 with e1
  subst e0 e1
  exact ⟨⟨z0, z1⟩, rfl, i64_of w0, i64_of w1⟩
theorem opn_slot {T : Type} {sh : Sh T} {t e : TypeId} (ht : Try.prog.underlying t = some (.slice e)) (hk : Try.prog.cellsOf e = sh.k) (hpos : 0 < sh.k) (ho : Opn enc w base spare held sh e) {fuel : Nat} {c : Value} {x : DataW H × List MemPlace} (h : DataW.trod enc Try.prog w base spare held fuel t [c] = some x) : ∃ xs, Slot sh (Lo w.heap.size) w c xs := by
  obtain ⟨a, cap, xs, e, hs, _⟩ := open_row ht hk hpos ho h
  injection e with e
  exact ⟨xs, a, cap, e, hs⟩
theorem opn_step : Opn enc w base spare held stepSh 80 := fun h => by
  obtain ⟨c0, c1, y0, y1, n, rfl, h0, h1⟩ := two_fields Try.underlying80 (by kernel_rfl) ⟨rfl, by kernel_rfl⟩ ⟨rfl, by kernel_rfl⟩ h
  obtain ⟨xs, hs⟩ := opn_slot (sh := partSh) Try.underlying78 (by kernel_rfl) (by decide) opn_part h0
  obtain ⟨z1, e1, _, w1⟩ := DataW.trod_int Try.underlying3 h1
  injection e1 with e1
  subst e1
  exact ⟨⟨xs, z1⟩, _, rfl, i64_of w1, hs⟩
theorem opn_clause : Opn enc w base spare held clauseSh 74 := fun h => by
  obtain ⟨a, cap, xs, rfl, hs, _⟩ := open_row (sh := intSh) Try.underlying74 (by kernel_rfl) (by decide) opn_int h
  exact ⟨xs, _, rfl, a, cap, rfl, hs⟩
theorem opn_lem : Opn enc w base spare held lemSh 77 := fun h => by
  obtain ⟨c0, c1, y0, y1, n, rfl, h0, h1⟩ := two_fields Try.underlying77 (by kernel_rfl) ⟨rfl, by kernel_rfl⟩ ⟨rfl, by kernel_rfl⟩ h
  obtain ⟨xs, hs⟩ := opn_slot (sh := intSh) Try.underlying74 (by kernel_rfl) (by decide) opn_int h0
  obtain ⟨ys, hs2⟩ := opn_slot (sh := stepSh) Try.underlying75 (by kernel_rfl) (by decide) opn_step h1
  exact ⟨⟨xs, ys⟩, _, _, rfl, hs, hs2⟩
theorem opn_reply : Opn enc w base spare held replySh 50 := fun {fuel cs x} h => by
  obtain ⟨ys, n, _, _, hl, hyl, hf⟩ := DataW.trod_struct Try.underlying50 h
  rw [show Try.prog.cellsOf 50 = 3 by kernel_rfl] at hl
  match cs, hl with
  | [c0, c1, c2], _ =>
    have a0 : DataW.trod enc Try.prog w base spare held n 4 (([c0, c1, c2].drop 0).take (Try.prog.cellsOf 4)) = ys[0]? := hf 0 _ rfl
    have a1 : DataW.trod enc Try.prog w base spare held n 48 (([c0, c1, c2].drop 1).take (Try.prog.cellsOf 48)) = ys[1]? := hf 1 _ rfl
    have hy : ys.length = 2 := hyl
    rw [List.getElem?_eq_getElem (by omega)] at a0 a1
    rw [show Try.prog.cellsOf 4 = 1 by kernel_rfl] at a0
    rw [show Try.prog.cellsOf 48 = 2 by kernel_rfl] at a1
    have a0 : DataW.trod enc Try.prog w base spare held n 4 [c0] = some _ := a0
    have a1 : DataW.trod enc Try.prog w base spare held n 48 [c1, c2] = some _ := a1
    obtain ⟨z0, e0, _⟩ := DataW.trod_bool Try.underlying4 a0
    injection e0 with e0
    subst e0
    obtain ⟨d0, d1, y0, y1, n2, e, h0, h1⟩ := two_fields Try.underlying48 (by kernel_rfl) ⟨rfl, by kernel_rfl⟩ ⟨rfl, by kernel_rfl⟩ a1
    injection e with e1 e2
    injection e2 with e2
    subst e1 e2
    obtain ⟨xs, hs⟩ := opn_slot (sh := lemSh) Try.underlying45 (by kernel_rfl) (by decide) opn_lem h0
    obtain ⟨ys, hs2⟩ := opn_slot (sh := clauseSh) Try.underlying46 (by kernel_rfl) (by decide) opn_clause h1
    exact ⟨⟨z0, xs, ys⟩, _, _, rfl, hs, hs2⟩
theorem opn_rec : Opn enc w base spare held recSh 37 := fun h => by
  obtain ⟨c0, c1, y0, y1, n, rfl, h0, h1⟩ := two_fields Try.underlying37 (by kernel_rfl) ⟨rfl, by kernel_rfl⟩ ⟨rfl, by kernel_rfl⟩ h
  obtain ⟨s, e0, _⟩ := DataW.trod_string Try.underlying9 h0
  injection e0 with e0
  subst e0
  obtain ⟨ys, hs2⟩ := opn_slot (sh := replySh) Try.underlying35 (by kernel_rfl) (by decide) opn_reply h1
  exact ⟨⟨s, ys⟩, _, rfl, hs2⟩
/-- A witness that came in. -/
theorem open_wit {r : Reach} {b0 : Nat} {v : Value} {d : DataW H} {p : List MemPlace} (hv : Value.okWide Try.prog w r b0 24 v) (h : DataW.Trod enc Try.prog w base spare held 24 v d p) :
    ∃ a n cap xs, v = .agg #[.slice a n cap] ∧ xs.length = n ∧ Sits recSh (Lo w.heap.size) w a xs := by
  obtain ⟨cs, rfl, hsz⟩ := okWide_struct Try.underlying24 hv
  obtain ⟨fuel, hf⟩ := h
  obtain ⟨ys, n, _, _, hl, hyl, hf⟩ := DataW.trod_struct Try.underlying24 hf
  rw [show Try.prog.cellsOf 24 = 1 by kernel_rfl] at hsz
  obtain ⟨l⟩ := cs
  match l, hsz with
  | [c0], _ =>
    have a0 : DataW.trod enc Try.prog w base spare held n 22 (([c0].drop 0).take (Try.prog.cellsOf 22)) = ys[0]? := hf 0 _ rfl
    have hy : ys.length = 1 := hyl
    rw [List.getElem?_eq_getElem (by omega)] at a0
    rw [show Try.prog.cellsOf 22 = 1 by kernel_rfl] at a0
    have a0 : DataW.trod enc Try.prog w base spare held n 22 [c0] = some _ := a0
    obtain ⟨xs, a, cap, rfl, hs⟩ := opn_slot (sh := recSh) Try.underlying22 (by kernel_rfl) (by decide) opn_rec a0
    exact ⟨a, _, cap, xs, rfl, rfl, hs⟩
end
theorem Try.own : ownKnob Try.prog.godebug = none := by kernel_rfl
theorem Try.laidOut : laidOutB Try.prog = true := by kernel_rfl
end Go.Proofs.Ytgaipfkblfommaa
