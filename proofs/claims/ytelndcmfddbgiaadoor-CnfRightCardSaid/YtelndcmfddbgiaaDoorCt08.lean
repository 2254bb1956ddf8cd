/- The clauses of a formula: what they are. -/
import Derived.Test.YtelndcmfddbgiaaDoorCt07
set_option linter.unusedVariables false
set_option linter.unusedSimpArgs false
set_option linter.unusedVariables false
set_option linter.unusedSimpArgs false
namespace Go.Proofs.YtelndcmfddbgiaaDoor
set_option maxRecDepth 100000

theorem made_kids {n : Nat} {f : FT} (h : madeF (n + 1) f = true) : ∀ i, i < f.ks.length → madeF n (f.ks.getD i default) = true := fun i hi => by
  by_cases h0 : f.kind = 0 ∨ f.kind = 1
  · rw [madeF_0 h0] at h
    simp at h
    rw [h.2] at hi
    cases hi
  · by_cases h2 : f.kind = 2
    · rw [madeF_2 h2] at h
      simp at h
      rw [h.2] at hi
      cases hi
    · by_cases h4 : f.kind = 4
      · rw [madeF_4 h4] at h
        simp only [Bool.and_eq_true, decide_eq_true_eq] at h
        obtain rfl : i = 0 := by omega
        exact h.2.2.2
      · by_cases h5 : f.kind = 5 ∨ f.kind = 6
        · rw [madeF_5 h5] at h
          simp only [Bool.and_eq_true, decide_eq_true_eq] at h
          exact h.1 i hi
        · rw [madeF_x ⟨h0, h2, h4, h5⟩] at h
          cases h
theorem made_pos {n : Nat} {f : FT} (h : madeF n f = true) : 1 ≤ siz n f := by
  cases n with
  | zero => cases h
  | succ n => exact siz_pos n f
theorem made_snd {n : Nat} {f : FT} (h : madeF (n + 1) f = true) (h2 : f.kind = 2) : snd f.c f.t = true ∧ f.ks.length = 0 := by
  rw [madeF_2 h2] at h
  unfold canF at h
  simp only [Bool.and_eq_true, decide_eq_true_eq] at h
  exact ⟨h.1.1, h.2⟩
theorem made_not {n : Nat} {f : FT} (h : madeF (n + 1) f = true) (h4 : f.kind = 4) : f.ks.length = 1 ∧ (f.ks.getD 0 default).kind = 2 := by
  rw [madeF_4 h4] at h
  simp only [Bool.and_eq_true, decide_eq_true_eq] at h
  exact ⟨h.2.1, h.2.2.1⟩
theorem made_kind {n : Nat} {f : FT} (h : madeF (n + 1) f = true) : f.kind = 0 ∨ f.kind = 1 ∨ f.kind = 2 ∨ f.kind = 4 ∨ f.kind = 5 ∨ f.kind = 6 := by
  by_cases h0 : f.kind = 0 ∨ f.kind = 1
  · omega
  · by_cases h2 : f.kind = 2
    · omega
    · by_cases h4 : f.kind = 4
      · omega
      · by_cases h5 : f.kind = 5 ∨ f.kind = 6
        · omega
        · rw [madeF_x ⟨h0, h2, h4, h5⟩] at h
          cases h
theorem made_none {n : Nat} {f : FT} (h : madeF (n + 1) f = true) (h0 : f.kind = 0 ∨ f.kind = 1) : f.ks.length = 0 := by
  rw [madeF_0 h0] at h
  simp only [Bool.and_eq_true, decide_eq_true_eq] at h
  exact h.2
/-- The place of a form among atoms, from 1 on; 0: it has none. -/
def atN : List (Int × List (Int × Int)) → Int × List (Int × Int) → Nat
  | [], _ => 0
  | a :: am, x => if a = x then 1 else if atN am x = 0 then 0 else atN am x + 1
theorem atN_le : ∀ (am : List (Int × List (Int × Int))) (x : Int × List (Int × Int)), atN am x ≤ am.length
  | [], _ => Nat.le_refl _
  | a :: am, x => by
    have := atN_le am x
    rw [atN, List.length_cons]
    split
    · omega
    · split <;> omega
theorem atN_snoc : ∀ (am : List (Int × List (Int × Int))) (x y : Int × List (Int × Int)), atN (am ++ [x]) y = if atN am y = 0 then (if x = y then am.length + 1 else 0) else atN am y
  | [], x, y => by
    simp [atN]
  | a :: am, x, y => by
    rw [List.cons_append, atN, atN_snoc am x y, atN, List.length_cons]
    by_cases h1 : a = y
    · simp [h1]
    · by_cases h2 : atN am y = 0
      · by_cases h3 : x = y
        · simp [h1, h2, h3]
        · simp [h1, h2, h3]
      · simp [h1, h2]
theorem atN_get : ∀ (am : List (Int × List (Int × Int))) (x : Int × List (Int × Int)) (k : Nat), atN am x = k + 1 → am[k]? = some x
  | [], _, _, h => by cases h
  | a :: am, x, k, h => by
    rw [atN] at h
    split at h
    · rename_i e
      obtain rfl : k = 0 := by omega
      simp [e]
    · split at h
      · cases h
      · have hk : 0 < k := by omega
        obtain ⟨j, rfl⟩ : ∃ j, k = j + 1 := ⟨k - 1, by omega⟩
        have := atN_get am x j (by omega)
        simpa using this
def addA (am : List (Int × List (Int × Int))) (x : Int × List (Int × Int)) : List (Int × List (Int × Int)) := if atN am x = 0 then am ++ [x] else am
theorem addA_len (am : List (Int × List (Int × Int))) (x : Int × List (Int × Int)) : am.length ≤ (addA am x).length ∧ (addA am x).length ≤ am.length + 1 := by
  unfold addA; split <;> simp
/-- The atoms of a formula, behind those that are there. -/
def gatF : Nat → FT → List (Int × List (Int × Int)) → List (Int × List (Int × Int))
  | 0, _, am => am
  | n + 1, f, am => if f.kind = 2 then addA (f.ks.foldl (fun a k => gatF n k a) am) (f.c, f.t) else f.ks.foldl (fun a k => gatF n k a) am
def gatTo (n : Nat) (ks : List FT) (am : List (Int × List (Int × Int))) (i : Nat) : List (Int × List (Int × Int)) := (ks.take i).foldl (fun a k => gatF n k a) am
theorem gatTo_zero (n : Nat) (ks : List FT) (am : List (Int × List (Int × Int))) : gatTo n ks am 0 = am := rfl
theorem gatTo_succ (n : Nat) (ks : List FT) (am : List (Int × List (Int × Int))) (i : Nat) (h : i < ks.length) : gatTo n ks am (i + 1) = gatF n (ks.getD i default) (gatTo n ks am i) := by
  unfold gatTo
  rw [List.take_succ_eq_append_getElem h, List.foldl_append]
  simp [List.getD_eq_getElem?_getD, h]
theorem gatTo_len (n : Nat) (f : FT) (am : List (Int × List (Int × Int))) : gatF (n + 1) f am = if f.kind = 2 then addA (gatTo n f.ks am f.ks.length) (f.c, f.t) else gatTo n f.ks am f.ks.length := by
  unfold gatTo; rw [List.take_length]; rfl
theorem gatF_le : ∀ (n : Nat) (f : FT) (am : List (Int × List (Int × Int))), am.length ≤ (gatF n f am).length ∧ (gatF n f am).length ≤ am.length + siz n f
  | 0, f, am => ⟨Nat.le_refl _, by show am.length ≤ _; omega⟩
  | n + 1, f, am => by
    have hto : ∀ i, i ≤ f.ks.length → am.length ≤ (gatTo n f.ks am i).length ∧ (gatTo n f.ks am i).length ≤ am.length + sizTo n f.ks i := fun i => by
      induction i with
      | zero => exact fun _ => ⟨Nat.le_refl _, by show am.length ≤ _; omega⟩
      | succ i ih =>
        intro hi
        have h1 := ih (by omega)
        have h2 := gatF_le n (f.ks.getD i default) (gatTo n f.ks am i)
        rw [gatTo_succ n f.ks am i hi, sizTo_succ n f.ks i hi]
        omega
    have h := hto f.ks.length (Nat.le_refl _)
    rw [gatTo_len, sizTo_len]
    split
    · have := addA_len (gatTo n f.ks am f.ks.length) (f.c, f.t)
      omega
    · omega
theorem gatTo_le (n : Nat) (ks : List FT) (am : List (Int × List (Int × Int))) : ∀ i, i ≤ ks.length → am.length ≤ (gatTo n ks am i).length ∧ (gatTo n ks am i).length ≤ am.length + sizTo n ks i
  | 0, _ => ⟨Nat.le_refl _, by show am.length ≤ _; omega⟩
  | i + 1, hi => by
    have h1 := gatTo_le n ks am i (by omega)
    have h2 := gatF_le n (ks.getD i default) (gatTo n ks am i)
    rw [gatTo_succ n ks am i hi, sizTo_succ n ks i hi]
    omega
/-- The clauses of a formula's own variable. -/
def joinL (v s : Int) (ls : List Int) : List (List Int) := (ls.map fun l => [-v, s * l]) ++ [v :: ls.map fun l => -s * l]
def ownC (kind v : Int) (ls : List Int) : List (List Int) :=
  if kind = 0 then [[v]] else if kind = 1 then [[-v]] else if kind = 5 then joinL v 1 ls else if kind = 6 then joinL (-v) (-1) ls else []
structure MkR where
  n : Nat
  cl : List (List Int)
  lit : Int
/-- What is made of a formula: the variables, the clauses, its literal. -/
def mkF (am : List (Int × List (Int × Int))) : Nat → FT → Nat → List (List Int) → MkR
  | 0, _, N, cl => ⟨N, cl, 0⟩
  | n + 1, f, N, cl =>
    if f.kind = 2 then ⟨N, cl, atN am (f.c, f.t)⟩
    else if f.kind = 4 then ⟨(mkF am n (f.ks.getD 0 default) N cl).n, (mkF am n (f.ks.getD 0 default) N cl).cl, -(mkF am n (f.ks.getD 0 default) N cl).lit⟩
    else
      let r := f.ks.foldl (fun (a : Nat × List (List Int) × List Int) k => ((mkF am n k a.1 a.2.1).n, (mkF am n k a.1 a.2.1).cl, a.2.2 ++ [(mkF am n k a.1 a.2.1).lit])) (N, cl, [])
      ⟨r.1 + 1, r.2.1 ++ ownC f.kind (r.1 + 1 : Nat) r.2.2, (r.1 + 1 : Nat)⟩
def mkTo (am : List (Int × List (Int × Int))) (n : Nat) (ks : List FT) (N : Nat) (cl : List (List Int)) (i : Nat) : Nat × List (List Int) × List Int :=
  (ks.take i).foldl (fun (a : Nat × List (List Int) × List Int) k => ((mkF am n k a.1 a.2.1).n, (mkF am n k a.1 a.2.1).cl, a.2.2 ++ [(mkF am n k a.1 a.2.1).lit])) (N, cl, [])
theorem mkTo_zero (am : List (Int × List (Int × Int))) (n : Nat) (ks : List FT) (N : Nat) (cl : List (List Int)) : mkTo am n ks N cl 0 = (N, cl, []) := rfl
theorem mkTo_succ (am : List (Int × List (Int × Int))) (n : Nat) (ks : List FT) (N : Nat) (cl : List (List Int)) (i : Nat) (h : i < ks.length) :
    mkTo am n ks N cl (i + 1) = ((mkF am n (ks.getD i default) (mkTo am n ks N cl i).1 (mkTo am n ks N cl i).2.1).n, (mkF am n (ks.getD i default) (mkTo am n ks N cl i).1 (mkTo am n ks N cl i).2.1).cl, (mkTo am n ks N cl i).2.2 ++ [(mkF am n (ks.getD i default) (mkTo am n ks N cl i).1 (mkTo am n ks N cl i).2.1).lit]) := by
  unfold mkTo
  rw [List.take_succ_eq_append_getElem h, List.foldl_append]
  simp [List.getD_eq_getElem?_getD, h]
theorem mkF_2 {am : List (Int × List (Int × Int))} {n : Nat} {f : FT} {N : Nat} {cl : List (List Int)} (h : f.kind = 2) : mkF am (n + 1) f N cl = ⟨N, cl, atN am (f.c, f.t)⟩ := by
  rw [mkF, if_pos h]
theorem mkF_4 {am : List (Int × List (Int × Int))} {n : Nat} {f : FT} {N : Nat} {cl : List (List Int)} (h : f.kind = 4) : mkF am (n + 1) f N cl = ⟨(mkF am n (f.ks.getD 0 default) N cl).n, (mkF am n (f.ks.getD 0 default) N cl).cl, -(mkF am n (f.ks.getD 0 default) N cl).lit⟩ := by
  rw [mkF, if_neg (by omega), if_pos h]
theorem mkF_x {am : List (Int × List (Int × Int))} {n : Nat} {f : FT} {N : Nat} {cl : List (List Int)} (h : f.kind ≠ 2 ∧ f.kind ≠ 4) : mkF am (n + 1) f N cl = ⟨(mkTo am n f.ks N cl f.ks.length).1 + 1, (mkTo am n f.ks N cl f.ks.length).2.1 ++ ownC f.kind ((mkTo am n f.ks N cl f.ks.length).1 + 1 : Nat) (mkTo am n f.ks N cl f.ks.length).2.2, ((mkTo am n f.ks N cl f.ks.length).1 + 1 : Nat)⟩ := by
  rw [mkF, if_neg h.1, if_neg h.2]
  unfold mkTo
  rw [List.take_length]
/-- How many, how long, how far. -/
structure Fits (A : Nat) (n0 : Nat) (c0 : List (List Int)) (s d : Nat) (m : Nat) (cl : List (List Int)) : Prop where
  n : n0 ≤ m ∧ m ≤ n0 + s
  c : c0.length ≤ cl.length ∧ cl.length + d ≤ c0.length + 2 * s
  l : ∀ c ∈ cl, c ∈ c0 ∨ c.length ≤ s + 2 ∧ ∀ x ∈ c, -(A + n0 + s : Int) ≤ x ∧ x ≤ A + n0 + s
theorem ownC_len {kind v : Int} {ls : List Int} : (ownC kind v ls).length ≤ ls.length + 1 := by
  unfold ownC joinL
  repeat (first | split | simp)
theorem ownC_in {kind v : Int} {ls : List Int} {m : Int} (hv : -m ≤ v ∧ v ≤ m) (hl : ∀ x ∈ ls, -m ≤ x ∧ x ≤ m) : ∀ c ∈ ownC kind v ls, c.length ≤ ls.length + 2 ∧ ∀ x ∈ c, -m ≤ x ∧ x ≤ m := fun c hc => by
  have hj : ∀ u s : Int, (-m ≤ u ∧ u ≤ m) → (s = 1 ∨ s = -1) → ∀ c ∈ joinL u s ls, c.length ≤ ls.length + 2 ∧ ∀ x ∈ c, -m ≤ x ∧ x ≤ m := fun u s hu hs c hc => by
    unfold joinL at hc
    rcases List.mem_append.1 hc with hc | hc
    · obtain ⟨l, hl2, rfl⟩ := List.mem_map.1 hc
      have h1 := hl l hl2
      refine ⟨by simp, fun x hx => ?_⟩
      rcases List.mem_cons.1 hx with rfl | hx
      · omega
      · rw [List.mem_singleton] at hx
        subst hx
        rcases hs with rfl | rfl <;> omega
    · rw [List.mem_singleton] at hc
      subst hc
      refine ⟨by simp, fun x hx => ?_⟩
      rcases List.mem_cons.1 hx with rfl | hx
      · omega
      · obtain ⟨l, hl2, rfl⟩ := List.mem_map.1 hx
        have h1 := hl l hl2
        rcases hs with rfl | rfl <;> omega
  unfold ownC at hc
  split at hc
  · rw [List.mem_singleton] at hc
    subst hc
    exact ⟨by simp, fun x hx => by rw [List.mem_singleton] at hx; subst hx; exact hv⟩
  · split at hc
    · rw [List.mem_singleton] at hc
      subst hc
      exact ⟨by simp, fun x hx => by rw [List.mem_singleton] at hx; subst hx; omega⟩
    · split at hc
      · exact hj v 1 hv (.inl rfl) c hc
      · split at hc
        · exact hj (-v) (-1) (by omega) (.inr rfl) c hc
        · cases hc
theorem mkF_fits (am : List (Int × List (Int × Int))) : ∀ (n : Nat) (f : FT) (N : Nat) (cl : List (List Int)), madeF n f = true →
    Fits am.length N cl (siz n f) 1 (mkF am n f N cl).n (mkF am n f N cl).cl ∧ (-(am.length + N + siz n f : Int) ≤ (mkF am n f N cl).lit ∧ (mkF am n f N cl).lit ≤ am.length + N + siz n f)
  | 0, f, N, cl, hm => by cases hm
  | n + 1, f, N, cl, hm => by
    have hmk := made_kids hm
    by_cases h2 : f.kind = 2
    · rw [mkF_2 h2]
      have := atN_le am (f.c, f.t)
      have hp := siz_pos n f
      exact ⟨⟨⟨Nat.le_refl _, Nat.le_add_right _ _⟩, ⟨Nat.le_refl _, by show cl.length + 1 ≤ _; omega⟩, fun c hc => .inl hc⟩, by show _ ≤ ((atN am (f.c, f.t) : Nat) : Int) ∧ ((atN am (f.c, f.t) : Nat) : Int) ≤ _; omega⟩
    · have hto : ∀ i, i ≤ f.ks.length → Fits am.length N cl (sizTo n f.ks i) i (mkTo am n f.ks N cl i).1 (mkTo am n f.ks N cl i).2.1 ∧ (mkTo am n f.ks N cl i).2.2.length = i ∧ ∀ x ∈ (mkTo am n f.ks N cl i).2.2, -(am.length + N + sizTo n f.ks i : Int) ≤ x ∧ x ≤ am.length + N + sizTo n f.ks i := fun i => by
        induction i with
        | zero => exact fun _ => ⟨⟨⟨Nat.le_refl _, Nat.le_add_right _ _⟩, ⟨Nat.le_refl _, Nat.le_add_right _ _⟩, fun c hc => .inl hc⟩, rfl, fun x hx => by cases hx⟩
        | succ i ih =>
          intro hi
          obtain ⟨⟨a1, a2, a3⟩, a4, a5⟩ := ih (by omega)
          obtain ⟨⟨b1, b2, b3⟩, b4⟩ := mkF_fits am n (f.ks.getD i default) (mkTo am n f.ks N cl i).1 (mkTo am n f.ks N cl i).2.1 (hmk i hi)
          rw [mkTo_succ am n f.ks N cl i hi, sizTo_succ n f.ks i hi]
          generalize mkTo am n f.ks N cl i = p at *
          generalize mkF am n (f.ks.getD i default) p.1 p.2.1 = q at *
          generalize siz n (f.ks.getD i default) = s at *
          generalize sizTo n f.ks i = t at *
          refine ⟨⟨by show N ≤ q.n ∧ q.n ≤ _; omega, by show _ ≤ q.cl.length ∧ q.cl.length + _ ≤ _; omega, fun c hc => ?_⟩, by simp [a4], fun x hx => ?_⟩
          · rcases b3 c hc with h | ⟨h, h'⟩
            · rcases a3 c h with h | ⟨h, h'⟩
              · exact .inl h
              · exact .inr ⟨by omega, fun x hx => by have := h' x hx; omega⟩
            · exact .inr ⟨by omega, fun x hx => by have := h' x hx; omega⟩
          · rcases List.mem_append.1 hx with hx | hx
            · have := a5 x hx; omega
            · rw [List.mem_singleton] at hx
              subst hx
              omega
      obtain ⟨⟨a1, a2, a3⟩, a4, a5⟩ := hto f.ks.length (Nat.le_refl _)
      have hs := sizTo_len n f
      by_cases h4 : f.kind = 4
      · have hk := (made_not hm h4).1
        obtain ⟨⟨b1, b2, b3⟩, b4⟩ := mkF_fits am n (f.ks.getD 0 default) N cl (hmk 0 (by omega))
        have h0 : siz n (f.ks.getD 0 default) ≤ siz (n + 1) f := by
          have e := sizTo_succ n f.ks 0 (by omega)
          have m := sizTo_mono n f.ks (i := 1) (j := f.ks.length) (by omega)
          rw [sizTo_zero] at e
          rw [show (0 : Nat) + 1 = 1 from rfl] at e
          omega
        rw [mkF_4 h4]
        generalize mkF am n (f.ks.getD 0 default) N cl = q at *
        generalize siz n (f.ks.getD 0 default) = s at *
        refine ⟨⟨by show N ≤ q.n ∧ q.n ≤ _; omega, by show _ ≤ q.cl.length ∧ q.cl.length + _ ≤ _; omega, fun c hc => ?_⟩, by show _ ≤ -q.lit ∧ -q.lit ≤ _; omega⟩
        rcases b3 c hc with h | ⟨h, h'⟩
        · exact .inl h
        · exact .inr ⟨by omega, fun x hx => by have := h' x hx; omega⟩
      · rw [mkF_x ⟨h2, h4⟩, hs]
        have hln : f.ks.length ≤ sizTo n f.ks f.ks.length := by
          have : ∀ i, i ≤ f.ks.length → i ≤ sizTo n f.ks i := fun i => by
            induction i with
            | zero => exact fun _ => Nat.zero_le _
            | succ i ih =>
              intro hi
              have h1 := ih (by omega)
              have h2 := made_pos (hmk i hi)
              rw [sizTo_succ n f.ks i hi]
              omega
          exact this _ (Nat.le_refl _)
        generalize mkTo am n f.ks N cl f.ks.length = p at *
        generalize sizTo n f.ks f.ks.length = t at *
        have ho := ownC_len (kind := f.kind) (v := (p.1 + 1 : Nat)) (ls := p.2.2)
        have hi := ownC_in (kind := f.kind) (v := (p.1 + 1 : Nat)) (ls := p.2.2) (m := am.length + N + (1 + t)) (by omega) (fun x hx => by have := a5 x hx; omega)
        refine ⟨⟨by show N ≤ p.1 + 1 ∧ p.1 + 1 ≤ _; omega, by show _ ≤ (p.2.1 ++ _).length ∧ (p.2.1 ++ _).length + 1 ≤ _; rw [List.length_append]; omega, fun c hc => ?_⟩, by show _ ≤ ((p.1 + 1 : Nat) : Int) ∧ ((p.1 + 1 : Nat) : Int) ≤ _; omega⟩
        rcases List.mem_append.1 hc with hc | hc
        · rcases a3 c hc with h | ⟨h, h'⟩
          · exact .inl h
          · exact .inr ⟨by omega, fun x hx => by have := h' x hx; omega⟩
        · have := hi c hc
          exact .inr ⟨by omega, fun x hx => by have := this.2 x hx; omega⟩
theorem mkTo_fits (am : List (Int × List (Int × Int))) (n : Nat) (ks : List FT) (N : Nat) (cl : List (List Int)) (hmk : ∀ i, i < ks.length → madeF n (ks.getD i default) = true) : ∀ i, i ≤ ks.length → Fits am.length N cl (sizTo n ks i) i (mkTo am n ks N cl i).1 (mkTo am n ks N cl i).2.1 ∧ (mkTo am n ks N cl i).2.2.length = i ∧ ∀ x ∈ (mkTo am n ks N cl i).2.2, -(am.length + N + sizTo n ks i : Int) ≤ x ∧ x ≤ am.length + N + sizTo n ks i := fun i => by
  induction i with
  | zero => exact fun _ => ⟨⟨⟨Nat.le_refl _, Nat.le_add_right _ _⟩, ⟨Nat.le_refl _, Nat.le_add_right _ _⟩, fun c hc => .inl hc⟩, rfl, fun x hx => by cases hx⟩
  | succ i ih =>
    intro hi
    obtain ⟨⟨a1, a2, a3⟩, a4, a5⟩ := ih (by omega)
    obtain ⟨⟨b1, b2, b3⟩, b4⟩ := mkF_fits am n (ks.getD i default) (mkTo am n ks N cl i).1 (mkTo am n ks N cl i).2.1 (hmk i hi)
    rw [mkTo_succ am n ks N cl i hi, sizTo_succ n ks i hi]
    generalize mkTo am n ks N cl i = p at *
    generalize mkF am n (ks.getD i default) p.1 p.2.1 = q at *
    generalize siz n (ks.getD i default) = s at *
    generalize sizTo n ks i = t at *
    refine ⟨⟨by show N ≤ q.n ∧ q.n ≤ _; omega, by show _ ≤ q.cl.length ∧ q.cl.length + _ ≤ _; omega, fun c hc => ?_⟩, by simp [a4], fun x hx => ?_⟩
    · rcases b3 c hc with h | ⟨h, h'⟩
      · rcases a3 c h with h | ⟨h, h'⟩
        · exact .inl h
        · exact .inr ⟨by omega, fun x hx => by have := h' x hx; omega⟩
      · exact .inr ⟨by omega, fun x hx => by have := h' x hx; omega⟩
    · rcases List.mem_append.1 hx with hx | hx
      · have := a5 x hx; omega
      · rw [List.mem_singleton] at hx
        subst hx
        omega
theorem len_siz (n : Nat) (ks : List FT) (hmk : ∀ i, i < ks.length → madeF n (ks.getD i default) = true) : ∀ i, i ≤ ks.length → i ≤ sizTo n ks i := fun i => by
  induction i with
  | zero => exact fun _ => Nat.zero_le _
  | succ i ih =>
    intro hi
    have h1 := ih (by omega)
    have h2 := made_pos (hmk i hi)
    rw [sizTo_succ n ks i hi]
    omega
end Go.Proofs.YtelndcmfddbgiaaDoor
