/- The document's Follow, without memory; of, set. -/
import Derived.Test.YtlnkgemndojdnaaDoorPrpU
set_option linter.unusedVariables false
set_option linter.unusedSimpArgs false
namespace Go.Proofs.YtlnkgemndojdnaaDoor
set_option maxRecDepth 100000
open Go.RowKit

/-- What is seen of the first literals: whether one is true, the last open one, whether two differ. -/
def scanA (A : Nat → Int) (c : List Int) : Nat → Bool × Int × Bool
  | 0 => (false, 0, false)
  | k + 1 => let s := scanA A c k; let l := c.getD k 0
    (s.1 || decide (va A l = 1), if va A l = 0 then l else s.2.1, if va A l = 0 then (s.2.2 || (decide (s.2.1 ≠ 0) && decide (s.2.1 ≠ l))) else s.2.2)
structure ScanIs (A : Nat → Int) (c : List Int) (k : Nat) (s : Bool × Int × Bool) : Prop where
  t1 : s.1 = true → ∃ j, j < k ∧ va A (c.getD j 0) = 1
  t0 : s.1 = false → ∀ j, j < k → va A (c.getD j 0) ≠ 1
  o0 : s.2.1 = 0 → ∀ j, j < k → va A (c.getD j 0) ≠ 0
  o1 : s.2.1 ≠ 0 → ∃ j, j < k ∧ c.getD j 0 = s.2.1 ∧ va A s.2.1 = 0
  m1 : s.2.2 = true → ∃ i j, i < k ∧ j < k ∧ va A (c.getD i 0) = 0 ∧ va A (c.getD j 0) = 0 ∧ c.getD i 0 ≠ c.getD j 0
  m0 : s.2.2 = false → ∀ j, j < k → va A (c.getD j 0) = 0 → c.getD j 0 = s.2.1
theorem scan_is (A : Nat → Int) (c : List Int) (hc : ∀ j, j < c.length → c.getD j 0 ≠ 0) : ∀ k, k ≤ c.length → ScanIs A c k (scanA A c k)
  | 0, _ => ⟨(fun h => by cases h), fun _ j hj => absurd hj (Nat.not_lt_zero _), fun _ j hj => absurd hj (Nat.not_lt_zero _), fun h => absurd rfl h, (fun h => by cases h), fun _ j hj => absurd hj (Nat.not_lt_zero _)⟩
  | k + 1, hk => by
    have ih := scan_is A c hc k (by omega)
    have hl := hc k (by omega)
    unfold scanA
    generalize scanA A c k = s at ih
    obtain ⟨t, o, m⟩ := s
    simp only
    have lt : ∀ j, j < k + 1 → j < k ∨ j = k := fun j hj => by omega
    refine ⟨fun h => ?_, fun h j hj => ?_, fun h j hj => ?_, fun h => ?_, fun h => ?_, fun h j hj hv => ?_⟩
    · simp only [Bool.or_eq_true, decide_eq_true_eq] at h
      rcases h with h | h
      · obtain ⟨j, h1, h2⟩ := ih.t1 h; exact ⟨j, by omega, h2⟩
      · exact ⟨k, by omega, h⟩
    · simp only [Bool.or_eq_false_iff, decide_eq_false_iff_not] at h
      rcases lt j hj with hj | rfl
      · exact ih.t0 h.1 j hj
      · exact h.2
    · by_cases hv : va A (c.getD k 0) = 0
      · rw [if_pos hv] at h; exact absurd h hl
      · rw [if_neg hv] at h
        rcases lt j hj with hj | rfl
        · exact ih.o0 h j hj
        · exact hv
    · by_cases hv : va A (c.getD k 0) = 0
      · rw [if_pos hv]; exact ⟨k, by omega, rfl, hv⟩
      · rw [if_neg hv] at h ⊢
        obtain ⟨j, h1, h2⟩ := ih.o1 h
        exact ⟨j, by omega, h2⟩
    · replace h : (if va A (c.getD k 0) = 0 then (m || (decide (o ≠ 0) && decide (o ≠ c.getD k 0))) else m) = true := h
      by_cases hv : va A (c.getD k 0) = 0
      · rw [if_pos hv] at h
        simp only [Bool.or_eq_true, Bool.and_eq_true, decide_eq_true_eq] at h
        rcases h with h | ⟨h1, h2⟩
        · obtain ⟨i, j, a, b, r⟩ := ih.m1 h; exact ⟨i, j, by omega, by omega, r⟩
        · obtain ⟨j, a, b, d⟩ := ih.o1 h1
          exact ⟨j, k, by omega, by omega, by rw [b]; exact d, hv, by rw [b]; exact h2⟩
      · rw [if_neg hv] at h
        obtain ⟨i, j, a, b, r⟩ := ih.m1 h; exact ⟨i, j, by omega, by omega, r⟩
    · replace h : (if va A (c.getD k 0) = 0 then (m || (decide (o ≠ 0) && decide (o ≠ c.getD k 0))) else m) = false := h
      show c.getD j 0 = if va A (c.getD k 0) = 0 then c.getD k 0 else o
      by_cases hv2 : va A (c.getD k 0) = 0
      · rw [if_pos hv2] at h ⊢
        simp only [Bool.or_eq_false_iff, Bool.and_eq_false_iff, decide_eq_false_iff_not] at h
        rcases lt j hj with hj | rfl
        · have e := ih.m0 h.1 j hj hv
          rcases h.2 with h2 | h2
          · have : o = 0 := Classical.byContradiction h2
            exact absurd hv (ih.o0 this j hj)
          · have : o = c.getD k 0 := Classical.byContradiction h2
            rw [e]; exact this
        · rfl
      · rw [if_neg hv2] at h ⊢
        rcases lt j hj with hj | rfl
        · exact ih.m0 h j hj hv
        · exact absurd hv hv2
/-- Nothing follows from a clause. -/
def Quiet (A : Nat → Int) (c : List Int) : Prop := (∃ x, x ∈ c ∧ va A x = 1) ∨ ∃ x y, x ∈ c ∧ y ∈ c ∧ x ≠ y ∧ va A x = 0 ∧ va A y = 0
section
variable {n : Nat} {cs : List (List Int)} {ls : List Int} {A : Nat → Int}
theorem quiet_ends (hs : Sane n cs ls) (hA : Asg n cs ls A []) (hls : ∀ l, l ∈ ls → va A l = 1) (hq : ∀ c, c ∈ cs → Quiet A c) : FollowIs n cs ls false A := by
  have hcomp : ∀ l, Der cs ls l → va A l = 1 := fun l hd => by
    induction hd with
    | told h => exact hls _ h
    | @rule c l hc hl hr ih =>
      have hf : ∀ x, x ∈ c → x ≠ l → va A x = -1 := fun x hx hne => by
        have := ih x hx hne
        rw [va_neg (hs.hc c hc x hx).1] at this
        omega
      rcases hq c hc with ⟨x, hx, hv⟩ | ⟨x, y, hx, hy, hne, hv1, hv2⟩
      · by_cases e : x = l
        · rw [← e]; exact hv
        · rw [hf x hx e] at hv; omega
      · by_cases e : x = l
        · have := hf y hy (fun e2 => hne (e.trans e2.symm)); omega
        · have := hf x hx e; omega
  refine .ok hA.tri hA.zero (fun l hl => ⟨fun hv => hA.snd l hl hv, hcomp l⟩) (fun hcf => ?_)
  rcases hcf with he | ⟨l, h1, h2⟩
  · rcases hq [] he with ⟨x, hx, _⟩ | ⟨x, y, hx, _⟩ <;> cases hx
  · have a := hcomp _ h1
    have b := hcomp _ h2
    rw [va_neg (h1.inR hs).1, a] at b; omega
theorem scan_quiet {c : List Int} (h : ScanIs A c c.length (scanA A c c.length)) (hq : (scanA A c c.length).1 = true ∨ (scanA A c c.length).2.2 = true) : Quiet A c := by
  rcases hq with hq | hq
  · obtain ⟨j, hj, hv⟩ := h.t1 hq; exact .inl ⟨_, getD_mem hj, hv⟩
  · obtain ⟨i, j, hi, hj, h1, h2, h3⟩ := h.m1 hq; exact .inr ⟨_, _, getD_mem hi, getD_mem hj, h3, h1, h2⟩
theorem scan_false (hA : Asg n cs ls A []) {c : List Int} (h : ScanIs A c c.length (scanA A c c.length)) (ht : (scanA A c c.length).1 = false) (hm : (scanA A c c.length).2.2 = false) : ∀ x, x ∈ c → x ≠ (scanA A c c.length).2.1 → va A x = -1 := fun x hx hne => by
  obtain ⟨j, hj, rfl⟩ := List.getElem_of_mem hx
  have e : c.getD j 0 = c[j] := by rw [List.getD_eq_getElem?_getD, List.getElem?_eq_getElem hj]; rfl
  have h1 := h.t0 ht j hj
  have h2 : va A (c.getD j 0) ≠ 0 := fun hv => hne (by rw [← e]; exact h.m0 hm j hj hv)
  rw [e] at h1 h2
  have := va_tri hA.tri c[j]
  omega
theorem scan_conf (hs : Sane n cs ls) (hA : Asg n cs ls A []) {c : List Int} (hc : c ∈ cs) (h : ScanIs A c c.length (scanA A c c.length)) (ht : (scanA A c c.length).1 = false) (hm : (scanA A c c.length).2.2 = false) (ho : (scanA A c c.length).2.1 = 0) : Conf cs ls := by
  have hf : ∀ x, x ∈ c → va A x = -1 := fun x hx => scan_false hA h ht hm x hx (by rw [ho]; exact (hs.hc c hc x hx).1)
  have hd : ∀ x, x ∈ c → Der cs ls (-x) := fun x hx => hA.snd _ (hs.hc c hc x hx).neg (by rw [va_neg (hs.hc c hc x hx).1, hf x hx]; decide)
  cases c with
  | nil => exact .inl hc
  | cons y r => exact .inr ⟨y, .rule hc List.mem_cons_self (fun x hx _ => hd x hx), hd y List.mem_cons_self⟩
theorem scan_der (hs : Sane n cs ls) (hA : Asg n cs ls A []) {c : List Int} (hc : c ∈ cs) (h : ScanIs A c c.length (scanA A c c.length)) (ht : (scanA A c c.length).1 = false) (hm : (scanA A c c.length).2.2 = false) (ho : (scanA A c c.length).2.1 ≠ 0) : Der cs ls (scanA A c c.length).2.1 ∧ va A (scanA A c c.length).2.1 = 0 ∧ inR n (scanA A c c.length).2.1 := by
  obtain ⟨j, hj, e, hv⟩ := h.o1 ho
  have hmem : (scanA A c c.length).2.1 ∈ c := by rw [← e]; exact getD_mem hj
  refine ⟨.rule hc hmem (fun x hx hne => hA.snd _ (hs.hc c hc x hx).neg (by rw [va_neg (hs.hc c hc x hx).1, scan_false hA h ht hm x hx hne]; decide)), hv, hs.hc c hc _ hmem⟩
theorem Asg.set (h : Asg n cs ls A []) {l : Int} (hl : inR n l) (hv : va A l ≠ -1) (hd : Der cs ls l) : Asg n cs ls (setL A l) [] ∧ va (setL A l) l = 1 ∧ Grow A (setL A l) := by
  by_cases h0 : va A l = 0
  · have := h.make hl h0 hd
    exact ⟨⟨this.tri, this.zero, this.snd, (fun x hx => by cases hx), List.nodup_nil⟩, by rw [va_setL hl.1 hl.1, if_pos rfl], fun x hx hvx => (va_mono hl.1 hx h0).1 hvx⟩
  · have h1 : va A l = 1 := by have := va_tri h.tri l; omega
    have e : setL A l = A := by
      unfold va at h1
      unfold setL upd
      split
      · rw [if_pos (by assumption)] at h1; funext j; split
        · rename_i e; rw [e, h1]
        · rfl
      · rw [if_neg (by assumption)] at h1; funext j; split
        · rename_i e; rw [e]; omega
        · rfl
    rw [e]
    exact ⟨h, h1, Grow.refl _⟩
end
/-! Memory. -/
section
variable {b n : Nat} {w : World} {A : Nat → Int}
theorem of_any (h : Arr w b (n + 1) A) (htri : ∀ i, A i = -1 ∨ A i = 0 ∨ A i = 1) {l : Int} (hl : inR n l) (hn : n ≤ 8192) :
    Calls Tryd.prog 31 #[.slice (some ⟨b, 0, none⟩) (n + 1) (n + 1), .int .i64 l] w fun e w' => e = .returned (.int .i64 (va A l)) ∧ w = w' := by
  obtain ⟨h1, h2, h3⟩ := hl
  by_cases hp : 0 < l
  · obtain ⟨k, rfl⟩ := Int.eq_ofNat_of_zero_le (show 0 ≤ l by omega)
    have a1 := h k (by omega)
    have e : va A (k : Int) = A k := by unfold va; rw [if_pos hp, Int.toNat_natCast]
    rw [e]
    have hk : (k : Int) < (n + 1 : Nat) := by omega
    clear h htri
    generalize A k = x at a1
    go_enter Tryd.func31, Tryd.ntmps31
    go_wp2_with fail
    go_ret
    exact ⟨rfl, rfl⟩
  · obtain ⟨k, hk⟩ := Int.eq_ofNat_of_zero_le (show 0 ≤ -l by omega)
    have hlk : l = -(k : Int) := by omega
    subst hlk
    have a1 := h k (by omega)
    have hA := htri k
    have e : va A (-(k : Int)) = -A k := by unfold va; rw [if_neg hp, Int.neg_neg, Int.toNat_natCast]
    rw [e]
    have hk2 : (k : Int) < (n + 1 : Nat) := by omega
    have hk0 : -(k : Int) < 0 := by omega
    have hw : IntKind.i64.wrap (-(-(k : Int))) = (k : Int) := by rw [Int.neg_neg]; exact IntWalk.i64_in _ (by omega)
    clear h htri hk
    generalize A k = x at a1 hA
    have hw2 : IntKind.i64.wrap (-x) = -x := IntWalk.i64_in _ (by omega)
    go_enter Tryd.func31, Tryd.ntmps31
    go_wp2_with fail
    go_ret
    exact ⟨rfl, rfl⟩
def SetEnd (b n : Nat) (A : Nat → Int) (l : Int) (w : World) (e : Ending) (w' : World) : Prop :=
  Below b w w' ∧ b < w'.heap.size ∧ (∀ o, w'.frozen? ⟨b, o, none⟩ = false) ∧ ((va A l = -1 ∧ e = .returned (.bool false) ∧ Arr w' b (n + 1) A) ∨ (va A l ≠ -1 ∧ e = .returned (.bool true) ∧ Arr w' b (n + 1) (setL A l)))
theorem set_any (h : Arr w b (n + 1) A) (hfr : ∀ o, w.frozen? ⟨b, o, none⟩ = false) (hb : b < w.heap.size) (htri : ∀ i, A i = -1 ∨ A i = 0 ∨ A i = 1) {l : Int} (hl : inR n l) (hn : n ≤ 8192) :
    Calls Tryd.prog 30 #[.slice (some ⟨b, 0, none⟩) (n + 1) (n + 1), .int .i64 l] w (SetEnd b n A l w) := by
  have HO := Lib.hid (of_any h htri hl hn)
  by_cases hv : va A l = -1
  · rw [hv] at HO
    have HA := Lib.hid h
    have HF := Lib.hid hfr
    clear h htri hfr
    go_enter Tryd.func30, Tryd.ntmps30
    go_wp2_with fail
    refine HO.out.mono ?_
    rintro e w' ⟨rfl, rfl⟩
    go_wp2_with fail
    go_ret
    exact ⟨Below.refl _ _, hb, HF.out, .inl ⟨hv, rfl, HA.out⟩⟩
  · have hvb : (va A l == -1) = false := by simp [hv]
    obtain ⟨h1, h2, h3⟩ := hl
    have HE : Hid (∀ (k : Nat) (x : Int), k < n + 1 → setL A l = upd A k x → SetEnd b n A l w (.returned (.bool true)) (w.setCell ⟨b, k, none⟩ (.int .i64 x))) := fun k x hk e =>
      ⟨(Below.refl b w).setCell (p := ⟨b, k, none⟩) (Nat.le_refl _) _, by rw [World.size_setCell]; exact hb, fun o => (World.frozen?_setCell _ _ _ _).trans (hfr o), .inr ⟨hv, rfl, by rw [e]; exact h.set hk x⟩⟩
    by_cases hp : 0 < l
    · obtain ⟨k, rfl⟩ := Int.eq_ofNat_of_zero_le (show 0 ≤ l by omega)
      have a1 := h k (by omega)
      have f1 := hfr k
      have hk : (k : Int) < (n + 1 : Nat) := by omega
      have HE2 := Lib.hid (HE.out k 1 (by omega) (by unfold setL; rw [if_pos hp, Int.toNat_natCast]))
      clear h htri hfr HE hv
      generalize va A (k : Int) = x at HO hvb
      go_enter Tryd.func30, Tryd.ntmps30
      go_wp2_with fail
      refine HO.out.mono ?_
      rintro e w' ⟨rfl, rfl⟩
      go_wp2_with fail
      go_ret
      exact HE2.out
    · obtain ⟨k, hlk⟩ := Int.eq_ofNat_of_zero_le (show 0 ≤ -l by omega)
      have hlk : l = -(k : Int) := by omega
      subst hlk
      have a1 := h k (by omega)
      have f1 := hfr k
      have hk : (k : Int) < (n + 1 : Nat) := by omega
      have hk0 : -(k : Int) < 0 := by omega
      have hw : IntKind.i64.wrap (-(-(k : Int))) = (k : Int) := by rw [Int.neg_neg]; exact IntWalk.i64_in _ (by omega)
      have HE2 := Lib.hid (HE.out k (-1) (by omega) (by unfold setL; rw [if_neg hp, Int.neg_neg, Int.toNat_natCast]))
      clear h htri hfr HE hv
      generalize va A (-(k : Int)) = x at HO hvb
      go_enter Tryd.func30, Tryd.ntmps30
      go_wp2_with fail
      refine HO.out.mono ?_
      rintro e w' ⟨rfl, rfl⟩
      go_wp2_with fail
      go_ret
      exact HE2.out
end
end Go.Proofs.YtlnkgemndojdnaaDoor
