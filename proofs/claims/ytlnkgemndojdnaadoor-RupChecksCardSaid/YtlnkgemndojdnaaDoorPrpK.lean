/- The follower's begin, without memory. -/
import Derived.Test.YtlnkgemndojdnaaDoorPrpI
set_option linter.unusedVariables false
set_option linter.unusedSimpArgs false
namespace Go.Proofs.YtlnkgemndojdnaaDoor
set_option maxRecDepth 100000
open Go.RowKit

theorem lt_of_some {W : World} {b : Nat} {o : Obj} (h : W.heap[b]? = some o) : b < W.heap.size := (Array.getElem?_eq_some_iff.1 h).1
/-- Lists of watches, nothing being known yet. -/
structure Lst (n : Nat) (Is : Nat → Prop) (Wd H T : Nat → Int) (L : Int → List Nat) : Prop where
  chain : ∀ l, inR n l → Ch T (H (place l)) (L l)
  mem : ∀ l, inR n l → ∀ w, w ∈ L l ↔ (Is w ∧ Wd w = l)
  nd : ∀ l, inR n l → (L l).Nodup
theorem Lst.nil {n : Nat} {Wd H T : Nat → Int} (hH : ∀ i, i < 2 * n + 2 → H i = -1) : Lst n (fun _ => False) Wd H T (fun _ => []) :=
  ⟨fun l hl => hH _ (place_lt hl), fun _ _ _ => ⟨(fun h => by cases h), fun h => h.1.elim⟩, fun _ _ => List.nodup_nil⟩
theorem Lst.congr {n : Nat} {Is Is' : Nat → Prop} {Wd H T : Nat → Int} {L : Int → List Nat} (h : Lst n Is Wd H T L) (he : ∀ w, Is w ↔ Is' w) : Lst n Is' Wd H T L :=
  ⟨h.chain, fun l hl w => (h.mem l hl w).trans (by rw [he]), h.nd⟩
theorem Lst.add {n : Nat} {Is : Nat → Prop} {Wd H T : Nat → Int} {L : Int → List Nat} (h : Lst n Is Wd H T L) {x : Nat} {l0 : Int} (hx : ¬ Is x) (hl0 : inR n l0) : ∃ L', Lst n (fun w => Is w ∨ w = x) (upd Wd x l0) (upd H (place l0) x) (upd T x (H (place l0))) L' := by
  have hno : ∀ l, inR n l → x ∉ L l := fun l hl hm => hx ((h.mem l hl x).1 hm).1
  refine ⟨fun l => if l = l0 then x :: L l0 else L l, fun l hl => ?_, fun l hl w => ?_, fun l hl => ?_⟩
  · by_cases e : l = l0
    · subst e
      rw [if_pos rfl, upd_same]
      refine ⟨rfl, ?_⟩
      rw [upd_same]
      exact (h.chain l hl).upd (hno l hl)
    · rw [if_neg e, upd_ne (fun e2 => e (place_inj hl hl0 e2))]
      exact (h.chain l hl).upd (hno l hl)
  · by_cases e : l = l0
    · subst e
      rw [if_pos rfl, List.mem_cons]
      constructor
      · rintro (rfl | hy)
        · exact ⟨.inr rfl, upd_same⟩
        · obtain ⟨a, b⟩ := (h.mem l hl w).1 hy
          refine ⟨.inl a, ?_⟩
          rw [upd_ne (fun e => hx (by rw [← e]; exact a))]; exact b
      · rintro ⟨a, b⟩
        by_cases e : w = x
        · exact .inl e
        · rw [upd_ne e] at b
          exact .inr ((h.mem l hl w).2 ⟨a.resolve_right e, b⟩)
    · rw [if_neg e]
      constructor
      · intro hy
        obtain ⟨a, b⟩ := (h.mem l hl w).1 hy
        refine ⟨.inl a, ?_⟩
        rw [upd_ne (fun e => hx (by rw [← e]; exact a))]; exact b
      · rintro ⟨a, b⟩
        by_cases e2 : w = x
        · subst e2; rw [upd_same] at b; exact absurd b.symm e
        · rw [upd_ne e2] at b
          exact (h.mem l hl w).2 ⟨a.resolve_right e2, b⟩
  · by_cases e : l = l0
    · subst e
      rw [if_pos rfl]
      exact List.nodup_cons.2 ⟨hno l hl, h.nd l hl⟩
    · rw [if_neg e]; exact h.nd l hl
/-- Behind the first j clauses. -/
def isJ (cs : List (List Int)) (j w : Nat) : Prop := w / 2 < j ∧ isW cs w
structure Beg (n : Nat) (cs : List (List Int)) (j : Nat) (Wd H T S : Nat → Int) (L : Int → List Nat) : Prop where
  lst : Lst n (isJ cs j) Wd H T L
  two : ∀ i c, i < j → cs[i]? = some c → act c → Wd (2 * i) ∈ c ∧ Wd (2 * i + 1) ∈ c ∧ Wd (2 * i) ≠ Wd (2 * i + 1) ∧ 0 ≤ S i ∧ S i ≤ c.length ∧ ∀ k, k < (S i).toNat → c.getD k 0 = Wd (2 * i) ∨ c.getD k 0 = Wd (2 * i + 1)
  one : ∀ i c, i < j → cs[i]? = some c → ¬ act c → S i = c.length + 1
theorem Beg.nil {n : Nat} {cs : List (List Int)} {Wd H T S : Nat → Int} (hH : ∀ i, i < 2 * n + 2 → H i = -1) : Beg n cs 0 Wd H T S (fun _ => []) :=
  ⟨(Lst.nil hH).congr (fun w => ⟨fun h => h.elim, fun h => by have := h.1; omega⟩), fun i _ hi => absurd hi (Nat.not_lt_zero _), fun i _ hi => absurd hi (Nat.not_lt_zero _)⟩
/-- The first k literals are the same. -/
def sameTo (c : List Int) (k : Nat) : Prop := ∀ i, i < k → c.getD i 0 = c.headD 0
theorem not_act_of {c : List Int} (h : sameTo c c.length) : ¬ act c := by
  rintro ⟨x, hx, hne⟩
  obtain ⟨i, hi, rfl⟩ := List.getElem_of_mem hx
  have := h i hi
  rw [List.getD_eq_getElem?_getD, List.getElem?_eq_getElem hi] at this
  exact hne this
theorem act_of {c : List Int} {k : Nat} (hk : k < c.length) (h : c.getD k 0 ≠ c.headD 0) : act c :=
  ⟨c.getD k 0, by rw [List.getD_eq_getElem?_getD, List.getElem?_eq_getElem hk]; exact List.getElem_mem hk, h⟩
/-- A clause whose literals are all the same. -/
theorem Beg.flat {n : Nat} {cs : List (List Int)} {j : Nat} {Wd H T S : Nat → Int} {L : Int → List Nat} (h : Beg n cs j Wd H T S L) {c : List Int} (hc : cs[j]? = some c) (hs : sameTo c c.length) : Beg n cs (j + 1) Wd H T (upd S j (c.length + 1 : Nat)) L := by
  have hna := not_act_of hs
  refine ⟨h.lst.congr (fun w => ⟨fun ⟨a, b⟩ => ⟨by omega, b⟩, fun ⟨a, b⟩ => ⟨?_, b⟩⟩), fun i d hi hd ha => ?_, fun i d hi hd ha => ?_⟩
  · by_cases e : w / 2 = j
    · obtain ⟨d, hd, ha⟩ := b
      rw [e, hc] at hd
      obtain rfl := Option.some.inj hd
      exact absurd ha hna
    · omega
  · by_cases e : i = j
    · subst e
      obtain rfl := Option.some.inj (hc.symm.trans hd)
      exact absurd ha hna
    · rw [upd_ne e]; exact h.two i d (by omega) hd ha
  · by_cases e : i = j
    · subst e
      obtain rfl := Option.some.inj (hc.symm.trans hd)
      rw [upd_same]; omega
    · rw [upd_ne e]; exact h.one i d (by omega) hd ha
/-- A clause of two literals that differ: both are watched. -/
theorem Beg.pair {n : Nat} {cs : List (List Int)} {ls : List Int} (hs : Sane n cs ls) {j : Nat} {Wd H T S : Nat → Int} {L : Int → List Nat} (h : Beg n cs j Wd H T S L) {c : List Int} {k : Nat} (hc : cs[j]? = some c) (hk : k < c.length) (hsm : sameTo c k) (hne : c.getD k 0 ≠ c.headD 0) :
    ∃ L', Beg n cs (j + 1) (upd (upd Wd (2 * j) (c.headD 0)) (2 * j + 1) (c.getD k 0)) (upd (upd H (place (c.headD 0)) (2 * j : Nat)) (place (c.getD k 0)) (2 * j + 1 : Nat)) (upd (upd T (2 * j) (H (place (c.headD 0)))) (2 * j + 1) (upd H (place (c.headD 0)) (2 * j : Nat) (place (c.getD k 0)))) (upd S j (k + 1 : Nat)) L' := by
  have hact := act_of hk hne
  have hcm : c ∈ cs := List.mem_of_getElem? hc
  have hkm : c.getD k 0 ∈ c := by rw [List.getD_eq_getElem?_getD, List.getElem?_eq_getElem hk]; exact List.getElem_mem hk
  have h0m : c.headD 0 ∈ c := by
    cases c with
    | nil => exact absurd hk (Nat.not_lt_zero _)
    | cons y r => exact List.mem_cons_self
  obtain ⟨L1, h1⟩ := h.lst.add (x := 2 * j) (fun hi => by have := hi.1; omega) (hs.hc c hcm _ h0m)
  obtain ⟨L2, h2⟩ := h1.add (x := 2 * j + 1) (fun hi => hi.elim (fun hi => by have := hi.1; omega) (fun e => by omega)) (hs.hc c hcm _ hkm)
  refine ⟨L2, h2.congr (fun w => ⟨?_, fun ⟨a, b⟩ => ?_⟩), fun i d hi hd ha => ?_, fun i d hi hd ha => ?_⟩
  · rintro ((⟨a, b⟩ | rfl) | rfl)
    · exact ⟨by omega, b⟩
    · exact ⟨by omega, c, by rw [show 2 * j / 2 = j by omega]; exact hc, hact⟩
    · exact ⟨by omega, c, by rw [show (2 * j + 1) / 2 = j by omega]; exact hc, hact⟩
  · by_cases e : w = 2 * j
    · exact .inl (.inr e)
    · by_cases e2 : w = 2 * j + 1
      · exact .inr e2
      · exact .inl (.inl ⟨by omega, b⟩)
  · by_cases e : i = j
    · subst e
      obtain rfl := Option.some.inj (hc.symm.trans hd)
      rw [upd_same, upd_same, upd_ne (show 2 * i ≠ 2 * i + 1 by omega), upd_same]
      refine ⟨h0m, hkm, fun e => hne e.symm, by omega, by omega, fun q hq => ?_⟩
      by_cases eq : q = k
      · subst eq; exact .inr rfl
      · exact .inl (hsm q (by omega))
    · rw [upd_ne e, upd_ne (show 2 * i ≠ 2 * j + 1 by omega), upd_ne (show 2 * i ≠ 2 * j by omega), upd_ne (show 2 * i + 1 ≠ 2 * j + 1 by omega), upd_ne (show 2 * i + 1 ≠ 2 * j by omega)]
      exact h.two i d (by omega) hd ha
  · by_cases e : i = j
    · subst e
      obtain rfl := Option.some.inj (hc.symm.trans hd)
      exact absurd hact ha
    · rw [upd_ne e]; exact h.one i d (by omega) hd ha
theorem va_zero (l : Int) : va (fun _ => 0) l = 0 := by unfold va; split <;> rfl
theorem zeros_le (A : Nat → Int) : ∀ n, zeros A n ≤ n
  | 0 => Nat.le_refl _
  | n + 1 => by have := zeros_le A n; unfold zeros; split <;> omega
theorem Beg.st {B n : Nat} {cs : List (List Int)} {ls : List Int} {p : FolS} {w : World} {Wd H T S : Nat → Int} {L : Int → List Nat} (h : Beg n cs cs.length Wd H T S L) (hf : Fol B n cs.length p w (fun _ => 0) Wd H T S []) (hc : CLies B w p.ca cs) : St B n cs ls p w (fun _ => 0) Wd H T S [] L [] := by
  have hnd : ∀ l, ¬ dead (fun _ => 0) [] l := fun l hd => by have := hd.1; rw [va_zero] at this; omega
  refine ⟨hf, ⟨fun _ => .inr (.inl rfl), rfl, fun l _ hv => by rw [va_zero] at hv; omega, (fun l hl => by cases hl), List.nodup_nil⟩, ⟨fun i c hi ha => ?_, fun l hl _ => h.lst.chain l hl, fun l hl _ w => (h.lst.mem l hl w).trans ⟨fun ⟨a, b⟩ => ⟨a.2, b⟩, fun ⟨a, b⟩ => ⟨⟨?_, a⟩, b⟩⟩, fun l hl _ => h.lst.nd l hl, fun w _ hd => absurd hd (hnd _)⟩, ?_, hc⟩
  · obtain ⟨h1, h2, h3, h4, h5, h6⟩ := h.two i c (List.getElem?_eq_some_iff.1 hi).1 hi ha
    exact ⟨h1, h2, h3, h4, h5, fun k hk => (h6 k hk).elim .inl (fun e => .inr (.inl e))⟩
  · obtain ⟨c, hc, _⟩ := a
    exact (List.getElem?_eq_some_iff.1 hc).1
  · have := zeros_le (fun _ => 0) n; simp only [List.length_nil]; omega
theorem Beg.ones {n : Nat} {cs : List (List Int)} {Wd H T S : Nat → Int} {L : Int → List Nat} (h : Beg n cs cs.length Wd H T S L) : ∀ i c, cs[i]? = some c → ¬ act c → S i = c.length + 1 := fun i c hi ha => h.one i c (List.getElem?_eq_some_iff.1 hi).1 hi ha
/-- What was made is a follower. -/
theorem Begun.fol {w wr : World} {a : Option Addr} {m cap n F I W H T S : Nat} (h : Begun w wr a m cap n F I W H T S) : Fol w.heap.size n m ⟨F, I, W, H, T, S, a, cap, F, .slice a m cap⟩ wr (fun _ => 0) (fun _ => 0) (fun _ => 0) (fun _ => 0) (fun _ => 0) [] := by
  have arr : ∀ (b k : Nat), wr.heap[b]? = some (.cells (madeCells #[.int .i64 0] k) 3 (0, 0)) → Arr wr b k (fun _ => 0) := fun b k hb i hi => by
    rw [cell_of_row _ _ _ _ _ _ hb]
    simp [madeCells, hi, Nat.mod_one]
  obtain ⟨⟨n1, n2, n3, n4, n5⟩, ⟨n6, n7, n8, n9⟩, ⟨n10, n11, n12⟩, ⟨n13, n14⟩, n15⟩ := h.ne
  obtain ⟨l1, l2, l3, l4, l5, l6⟩ := h.lo
  have cF := fun j => cell_of_row wr F j _ _ _ h.hF
  refine ⟨⟨n1, n2, n3, n4, n5, n6, n7, n8, n9, n10, n11, n12, n13, n14, n15, n1.symm, n2.symm, n3.symm, n4.symm, n5.symm⟩, cF 0, cF 1, cF 2, cF 3, cF 4, cF 5, ⟨_, cF 6, QRow.nil _ _ _⟩, arr _ _ h.hI, arr _ _ h.hW, arr _ _ h.hH, arr _ _ h.hT, arr _ _ h.hS, ?_, ?_, cF 0⟩
  · rintro b (r | r | r | r | r | r | r) o <;> subst r
    · exact frozen_of_row _ _ _ _ _ h.hF
    · exact frozen_of_row _ _ _ _ _ h.hI
    · exact frozen_of_row _ _ _ _ _ h.hW
    · exact frozen_of_row _ _ _ _ _ h.hH
    · exact frozen_of_row _ _ _ _ _ h.hT
    · exact frozen_of_row _ _ _ _ _ h.hS
    · exact frozen_of_row _ _ _ _ _ h.hF
  · rintro b (r | r | r | r | r | r | r) <;> subst r
    · exact ⟨l1, lt_of_some h.hF⟩
    · exact ⟨l2, lt_of_some h.hI⟩
    · exact ⟨l3, lt_of_some h.hW⟩
    · exact ⟨l4, lt_of_some h.hH⟩
    · exact ⟨l5, lt_of_some h.hT⟩
    · exact ⟨l6, lt_of_some h.hS⟩
    · exact ⟨l1, lt_of_some h.hF⟩
end Go.Proofs.YtlnkgemndojdnaaDoor
