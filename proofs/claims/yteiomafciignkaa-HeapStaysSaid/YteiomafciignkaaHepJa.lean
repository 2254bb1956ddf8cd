/- Shares joined: what the program's list and the document's list have in common decides them. -/
import Derived.Test.YteiomafciignkaaHepK
import Derived.Test.YteiomafciignkaaHepH
set_option linter.unusedVariables false
set_option linter.unusedSimpArgs false
namespace Go.Proofs.Yteiomafciignkaa
set_option maxRecDepth 100000
open Go.RowKit

def Str (l : List HC) : Prop := l.Pairwise fun x y => kl (hkey x) (hkey y) = true
def tot : List HC → Key → Int
  | [], _ => 0
  | x :: l, k => (if hkey x = k then x.v else 0) + tot l k
def Hs (l : List HC) (k : Key) : Prop := ∃ c, c ∈ l ∧ hkey c = k
theorem tot_append : ∀ (l m : List HC) (k : Key), tot (l ++ m) k = tot l k + tot m k
  | [], m, k => by simp [tot]
  | x :: l, m, k => by
    show (if hkey x = k then x.v else 0) + tot (l ++ m) k = (if hkey x = k then x.v else 0) + tot l k + tot m k
    rw [tot_append l m k]
    omega
theorem tot_perm {l m : List HC} (h : l.Perm m) (k : Key) : tot l k = tot m k := by
  induction h with
  | nil => rfl
  | cons x _ ih => simp only [tot]; rw [ih]
  | swap x y l => simp only [tot]; omega
  | trans _ _ h1 h2 => exact h1.trans h2
theorem hs_perm {l m : List HC} (h : l.Perm m) (k : Key) : Hs l k ↔ Hs m k := ⟨fun ⟨c, h1, h2⟩ => ⟨c, h.mem_iff.1 h1, h2⟩, fun ⟨c, h1, h2⟩ => ⟨c, h.mem_iff.2 h1, h2⟩⟩
theorem tot_none {l : List HC} {k : Key} (h : ¬ Hs l k) : tot l k = 0 := by
  induction l with
  | nil => rfl
  | cons x l ih =>
    show (if hkey x = k then x.v else 0) + tot l k = 0
    rw [if_neg (fun e => h ⟨x, List.mem_cons_self, e⟩), ih (fun ⟨c, h1, h2⟩ => h ⟨c, List.mem_cons_of_mem _ h1, h2⟩)]
    rfl
theorem str_not {x : HC} {l : List HC} (h : Str (x :: l)) : ¬ Hs l (hkey x) := fun ⟨c, h1, h2⟩ => kl_ne ((List.pairwise_cons.1 h).1 c h1) h2.symm
theorem str_unique : ∀ {l m : List HC}, Str l → Str m → (∀ k, Hs l k ↔ Hs m k) → (∀ k, tot l k = tot m k) → l = m
  | [], [], _, _, _, _ => rfl
  | [], y :: m, _, _, h, _ => absurd ((h (hkey y)).2 ⟨y, List.mem_cons_self, rfl⟩) (fun ⟨c, h1, _⟩ => by cases h1)
  | x :: l, [], _, _, h, _ => absurd ((h (hkey x)).1 ⟨x, List.mem_cons_self, rfl⟩) (fun ⟨c, h1, _⟩ => by cases h1)
  | x :: l, y :: m, h1, h2, h, ht => by
    have e : hkey x = hkey y := by
      obtain ⟨c, c1, c2⟩ := (h (hkey x)).1 ⟨x, List.mem_cons_self, rfl⟩
      obtain ⟨d, d1, d2⟩ := (h (hkey y)).2 ⟨y, List.mem_cons_self, rfl⟩
      rcases List.mem_cons.1 c1 with rfl | c1
      · exact c2.symm
      · rcases List.mem_cons.1 d1 with rfl | d1
        · exact d2
        · have k1 := (List.pairwise_cons.1 h2).1 c c1
          have k2 := (List.pairwise_cons.1 h1).1 d d1
          rw [c2] at k1
          rw [d2] at k2
          exact absurd k2 (kl_asymm k1)
    have ev : x.v = y.v := by
      have := ht (hkey x)
      simp only [tot] at this
      rw [if_pos e.symm, tot_none (str_not h1), tot_none (e ▸ str_not h2), if_pos trivial] at this
      omega
    have exy : x = y := HC.ext' e ev
    subst exy
    congr 1
    refine str_unique (List.pairwise_cons.1 h1).2 (List.pairwise_cons.1 h2).2 (fun k => ?_) (fun k => ?_)
    · by_cases ek : hkey x = k
      · subst ek
        exact ⟨fun h => absurd h (str_not h1), fun h => absurd h (str_not h2)⟩
      · constructor
        · rintro ⟨c, c1, c2⟩
          obtain ⟨d, d1, d2⟩ := (h k).1 ⟨c, List.mem_cons_of_mem _ c1, c2⟩
          rcases List.mem_cons.1 d1 with rfl | d1
          · exact absurd d2 ek
          · exact ⟨d, d1, d2⟩
        · rintro ⟨c, c1, c2⟩
          obtain ⟨d, d1, d2⟩ := (h k).2 ⟨c, List.mem_cons_of_mem _ c1, c2⟩
          rcases List.mem_cons.1 d1 with rfl | d1
          · exact absurd d2 ek
          · exact ⟨d, d1, d2⟩
    · have := ht k
      simp only [tot] at this
      omega
/-- The document's add. -/
def addD (s : HC) : Bool → List HC → List HC
  | d, [] => if d = true then [] else [s]
  | d, x :: l => if hkey x = hkey s then ⟨s.a, s.f, x.v + s.v⟩ :: addD s true l else if (!d && kl (hkey s) (hkey x)) = true then s :: x :: addD s true l else x :: addD s d l
theorem addD_done {s : HC} : ∀ {l : List HC}, (∀ c, c ∈ l → kl (hkey s) (hkey c) = true) → addD s true l = l
  | [], _ => rfl
  | x :: l, h => by
    unfold addD
    rw [if_neg (fun e => kl_ne (h x List.mem_cons_self) e.symm), if_neg (by simp), addD_done (fun c hc => h c (List.mem_cons_of_mem _ hc))]
structure Added (l m : List HC) (s : HC) : Prop where
  str : Str m
  hs : ∀ k, Hs m k ↔ Hs l k ∨ hkey s = k
  tot : ∀ k, tot m k = tot l k + if hkey s = k then s.v else 0
theorem hs_cons {x : HC} {l : List HC} {k : Key} : Hs (x :: l) k ↔ hkey x = k ∨ Hs l k := by
  constructor
  · rintro ⟨c, h1, h2⟩
    rcases List.mem_cons.1 h1 with rfl | h1
    · exact .inl h2
    · exact .inr ⟨c, h1, h2⟩
  · rintro (h | ⟨c, h1, h2⟩)
    · exact ⟨x, List.mem_cons_self, h⟩
    · exact ⟨c, List.mem_cons_of_mem _ h1, h2⟩
theorem hs_nil {k : Key} : ¬ Hs [] k := fun ⟨c, h, _⟩ => by cases h
theorem addD_is {s : HC} : ∀ {l : List HC}, Str l → Added l (addD s false l) s
  | [], _ => ⟨List.pairwise_singleton _ _, fun k => by
      show Hs [s] k ↔ _
      rw [hs_cons]
      exact ⟨fun h => h.elim .inr .inl, fun h => h.elim .inr .inl⟩, fun k => by
      show (if hkey s = k then s.v else 0) + 0 = 0 + _
      omega⟩
  | x :: l, h => by
    obtain ⟨h1, h2⟩ := List.pairwise_cons.1 h
    by_cases e : hkey x = hkey s
    · have ed : addD s false (x :: l) = ⟨s.a, s.f, x.v + s.v⟩ :: l := by
        unfold addD
        rw [if_pos e, addD_done (fun c hc => by rw [← e]; exact h1 c hc)]
      have ek : hkey (⟨s.a, s.f, x.v + s.v⟩ : HC) = hkey s := rfl
      rw [ed]
      refine ⟨List.pairwise_cons.2 ⟨fun c hc => by rw [ek, ← e]; exact h1 c hc, h2⟩, fun k => ?_, fun k => ?_⟩
      · rw [hs_cons, hs_cons, ek, e]
        exact ⟨fun h => h.elim .inr (fun h => .inl (.inr h)), fun h => h.elim id .inl⟩
      · simp only [tot]
        rw [ek, e]
        split <;> omega
    · by_cases lt : kl (hkey s) (hkey x) = true
      · have ed : addD s false (x :: l) = s :: x :: l := by
          unfold addD
          rw [if_neg e, if_pos (by simp [lt]), addD_done (fun c hc => kl_trans lt (h1 c hc))]
        rw [ed]
        refine ⟨List.pairwise_cons.2 ⟨fun c hc => ?_, h⟩, fun k => ?_, fun k => ?_⟩
        · rcases List.mem_cons.1 hc with rfl | hc
          · exact lt
          · exact kl_trans lt (h1 c hc)
        · rw [hs_cons]
          exact ⟨fun h => h.elim .inr .inl, fun h => h.elim .inr .inl⟩
        · simp only [tot]
          omega
      · have ed : addD s false (x :: l) = x :: addD s false l := by
          conv => lhs; unfold addD
          rw [if_neg e, if_neg (by simp [lt])]
        obtain ⟨i1, i2, i3⟩ := addD_is (s := s) h2
        rw [ed]
        refine ⟨List.pairwise_cons.2 ⟨fun c hc => ?_, i1⟩, fun k => ?_, fun k => ?_⟩
        · rcases (i2 (hkey c)).1 ⟨c, hc, rfl⟩ with ⟨d, d1, d2⟩ | d
          · rw [← d2]; exact h1 d d1
          · rw [← d]
            rcases kl_total e with k1 | k1
            · exact k1
            · exact absurd k1 lt
        · rw [hs_cons, hs_cons, i2 k]
          constructor
          · rintro (h | h | h)
            · exact .inl (.inl h)
            · exact .inl (.inr h)
            · exact .inr h
          · rintro ((h | h) | h)
            · exact .inl h
            · exact .inr (.inl h)
            · exact .inr (.inr h)
        · simp only [tot]
          rw [i3 k]
          omega
/-- The document's Join. -/
def joinD (ys : List HC) : List HC := ys.foldl (fun l s => addD s false l) []
theorem fold_is : ∀ (ys : List HC) {l : List HC}, Str l → Str (ys.foldl (fun l s => addD s false l) l) ∧ (∀ k, Hs (ys.foldl (fun l s => addD s false l) l) k ↔ Hs l k ∨ Hs ys k) ∧ (∀ k, tot (ys.foldl (fun l s => addD s false l) l) k = tot l k + tot ys k)
  | [], l, h => ⟨h, fun k => ⟨.inl, fun h => h.elim id (fun h => absurd h hs_nil)⟩, fun k => by simp [tot]⟩
  | y :: ys, l, h => by
    obtain ⟨i1, i2, i3⟩ := addD_is (s := y) h
    obtain ⟨j1, j2, j3⟩ := fold_is ys i1
    refine ⟨j1, fun k => ?_, fun k => ?_⟩
    · show Hs (ys.foldl _ (addD y false l)) k ↔ _
      rw [j2 k, i2 k, hs_cons]
      constructor
      · rintro ((h | h) | h)
        · exact .inl h
        · exact .inr (.inl h)
        · exact .inr (.inr h)
      · rintro (h | h | h)
        · exact .inl (.inl h)
        · exact .inl (.inr h)
        · exact .inr h
    · show tot (ys.foldl _ (addD y false l)) k = _
      rw [j3 k, i3 k]
      simp only [tot]
      omega
theorem snoc_of {l : List HC} (h : 0 < l.length) : l = l.take (l.length - 1) ++ [l.getD (l.length - 1) hc0] := by
  have := take_snocH l (l.length - 1) (by omega)
  rw [show l.length - 1 + 1 = l.length by omega, List.take_length] at this
  exact this
theorem addLast_is {l : List HC} {s : HC} (h : Str l) (hle : ∀ c, c ∈ l → ¬ kl (hkey s) (hkey c) = true) : Added l (addLast l s) s := by
  by_cases e : 0 < l.length ∧ hkey (l.getD (l.length - 1) hc0) = hkey s
  · unfold addLast
    rw [if_pos e]
    have el := snoc_of e.1
    generalize l.take (l.length - 1) = m at el ⊢
    obtain ⟨_, e2⟩ := e
    generalize l.getD (l.length - 1) hc0 = x at el e2 ⊢
    subst el
    have ek : hkey (⟨x.a, x.f, x.v + s.v⟩ : HC) = hkey x := rfl
    obtain ⟨p1, _, p3⟩ := List.pairwise_append.1 h
    refine ⟨List.pairwise_append.2 ⟨p1, List.pairwise_singleton _ _, fun a ha b hb => ?_⟩, fun k => ?_, fun k => ?_⟩
    · rw [List.mem_singleton.1 hb, ek]
      exact p3 a ha x (List.mem_singleton.2 rfl)
    · constructor
      · rintro ⟨c, c1, c2⟩
        rcases List.mem_append.1 c1 with c1 | c1
        · exact .inl ⟨c, List.mem_append_left _ c1, c2⟩
        · rw [List.mem_singleton.1 c1, ek, e2] at c2
          exact .inr c2
      · rintro (⟨c, c1, c2⟩ | c)
        · rcases List.mem_append.1 c1 with c1 | c1
          · exact ⟨c, List.mem_append_left _ c1, c2⟩
          · rw [List.mem_singleton.1 c1] at c2
            exact ⟨_, List.mem_append_right _ (List.mem_singleton.2 rfl), c2⟩
        · exact ⟨_, List.mem_append_right _ (List.mem_singleton.2 rfl), by rw [ek, e2, c]⟩
    · rw [tot_append, tot_append]
      simp only [tot]
      rw [ek, e2]
      split <;> omega
  · unfold addLast
    rw [if_neg e]
    refine ⟨List.pairwise_append.2 ⟨h, List.pairwise_singleton _ _, fun a ha b hb => ?_⟩, fun k => ?_, fun k => ?_⟩
    · rw [List.mem_singleton.1 hb]
      have hpos : 0 < l.length := List.length_pos_of_mem ha
      have hne : hkey (l.getD (l.length - 1) hc0) ≠ hkey s := fun h => e ⟨hpos, h⟩
      have hlast := hle _ (getD_memH (l := l) (i := l.length - 1) (by omega))
      have hls : kl (hkey (l.getD (l.length - 1) hc0)) (hkey s) = true := by
        rcases kl_total hne with k1 | k1
        · exact k1
        · exact absurd k1 hlast
      have el := snoc_of hpos
      rw [el] at ha
      rcases List.mem_append.1 ha with h1 | h1
      · have h3 : Str (l.take (l.length - 1) ++ [l.getD (l.length - 1) hc0]) := by rw [← el]; exact h
        exact kl_trans ((List.pairwise_append.1 h3).2.2 a h1 _ (List.mem_singleton.2 rfl)) hls
      · rw [List.mem_singleton.1 h1]; exact hls
    · constructor
      · rintro ⟨c, c1, c2⟩
        rcases List.mem_append.1 c1 with c1 | c1
        · exact .inl ⟨c, c1, c2⟩
        · rw [List.mem_singleton.1 c1] at c2; exact .inr c2
      · rintro (⟨c, c1, c2⟩ | c)
        · exact ⟨c, List.mem_append_left _ c1, c2⟩
        · exact ⟨s, List.mem_append_right _ (List.mem_singleton.2 rfl), c⟩
    · rw [tot_append]
      simp only [tot]
      omega
theorem joinTo_is {zs : List HC} (hs : ∀ i j, i < j → j < zs.length → ¬ kl (hkey (zs.getD j hc0)) (hkey (zs.getD i hc0)) = true) : ∀ k, k ≤ zs.length → Str (joinTo zs k) ∧ (∀ q, Hs (joinTo zs k) q ↔ Hs (zs.take k) q) ∧ (∀ q, tot (joinTo zs k) q = tot (zs.take k) q)
  | 0, _ => ⟨List.Pairwise.nil, fun q => Iff.rfl, fun q => rfl⟩
  | k + 1, hk => by
    obtain ⟨i1, i2, i3⟩ := joinTo_is hs k (by omega)
    obtain ⟨j1, j2, j3⟩ := addLast_is (l := joinTo zs k) (s := zs.getD k hc0) i1 (fun c hc => by
      obtain ⟨d, d1, d2⟩ := (i2 (hkey c)).1 ⟨c, hc, rfl⟩
      obtain ⟨i, hi, e⟩ := List.mem_iff_getElem.1 d1
      rw [List.length_take] at hi
      have h3 := hs i k (by omega) (by omega)
      have h4 : zs.getD i hc0 = d := by
        rw [← e, List.getElem_take, List.getD_eq_getElem?_getD, List.getElem?_eq_getElem (by omega)]
        rfl
      rw [h4, d2] at h3
      exact h3)
    refine ⟨j1, fun q => ?_, fun q => ?_⟩
    · show Hs (addLast _ _) q ↔ _
      rw [j2 q, i2 q, take_snocH zs k (by omega)]
      constructor
      · rintro (⟨c, c1, c2⟩ | c)
        · exact ⟨c, List.mem_append_left _ c1, c2⟩
        · exact ⟨_, List.mem_append_right _ (List.mem_singleton.2 rfl), c⟩
      · rintro ⟨c, c1, c2⟩
        rcases List.mem_append.1 c1 with c1 | c1
        · exact .inl ⟨c, c1, c2⟩
        · rw [List.mem_singleton.1 c1] at c2; exact .inr c2
    · show tot (addLast _ _) q = _
      rw [j3 q, i3 q, take_snocH zs k (by omega), tot_append]
      simp only [tot]
      omega
/-- The program's Join is the document's. -/
theorem join_is {xs zs : List HC} (h : SortIs xs zs) : joinTo zs zs.length = joinD xs := by
  obtain ⟨i1, i2, i3⟩ := joinTo_is h.sorted zs.length (Nat.le_refl _)
  obtain ⟨j1, j2, j3⟩ := fold_is xs (l := []) List.Pairwise.nil
  have j2 : ∀ k, Hs (joinD xs) k ↔ Hs [] k ∨ Hs xs k := j2
  have j3 : ∀ k, tot (joinD xs) k = tot [] k + tot xs k := j3
  rw [List.take_length] at i2 i3
  refine str_unique i1 j1 (fun k => ?_) (fun k => ?_)
  · rw [i2 k, j2 k, hs_perm h.perm k]
    exact ⟨.inr, fun h => h.elim (fun h => absurd h hs_nil) id⟩
  · rw [i3 k, j3 k, tot_perm h.perm k]
    simp [tot]
end Go.Proofs.Yteiomafciignkaa
