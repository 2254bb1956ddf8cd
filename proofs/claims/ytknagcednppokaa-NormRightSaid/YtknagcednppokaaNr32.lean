/- The document's Is: a formula's value; lemmas. The value of what is normalized. formula.value, kind by kind. -/
import Derived.Test.YtknagcednppokaaNr30
import Derived.Test.YtknagcednppokaaNr31
set_option linter.unusedVariables false
set_option linter.unusedSimpArgs false
namespace Go.Proofs.Ytknagcednppokaa
open Go.RowKit

theorem vTo_near {zs : List Int} {n : Nat} {b : Bool} {ks : List FT} : ∀ k, k ≤ ks.length → ((vTo zs n b ks k).2 = true ↔ ∀ i, i < k → (vOf zs n (ks.getD i default)).2 = true)
  | 0, _ => by
    constructor
    · intro _ i hi; omega
    · intro _; rfl
  | k + 1, h => by
    rw [vTo_succ zs n b ks k (by omega)]
    have ih := vTo_near (zs := zs) (n := n) (b := b) (ks := ks) k (by omega)
    show ((vTo zs n b ks k).2 && (vOf zs n (ks.getD k default)).2) = true ↔ _
    rw [Bool.and_eq_true, ih]
    constructor
    · rintro ⟨h1, h2⟩ i hi
      by_cases e : i = k
      · rw [e]; exact h2
      · exact h1 i (by omega)
    · intro h1
      exact ⟨fun i hi => h1 i (by omega), h1 k (by omega)⟩
theorem vTo_and (zs : List Int) (n : Nat) (ks : List FT) (k : Nat) (h : k < ks.length) : (vTo zs n true ks (k + 1)).1 = ((vTo zs n true ks k).1 && (vOf zs n (ks.getD k default)).1) := by
  rw [vTo_succ zs n true ks k h]
  show (if ((vOf zs n (ks.getD k default)).1 != true) = true then !true else (vTo zs n true ks k).1) = _
  cases (vOf zs n (ks.getD k default)).1 <;> cases (vTo zs n true ks k).1 <;> rfl
theorem vTo_or (zs : List Int) (n : Nat) (ks : List FT) (k : Nat) (h : k < ks.length) : (vTo zs n false ks (k + 1)).1 = ((vTo zs n false ks k).1 || (vOf zs n (ks.getD k default)).1) := by
  rw [vTo_succ zs n false ks k h]
  show (if ((vOf zs n (ks.getD k default)).1 != false) = true then !false else (vTo zs n false ks k).1) = _
  cases (vOf zs n (ks.getD k default)).1 <;> cases (vTo zs n false ks k).1 <;> rfl
theorem vOf_5 {zs : List Int} {n : Nat} {f : FT} (hk : f.kind = 5) : vOf zs (n + 1) f = vTo zs n true f.ks f.ks.length := by
  show (if f.kind = 0 then _ else if f.kind = 1 then _ else if f.kind = 2 ∨ f.kind = 3 then _ else if f.kind = 4 then _ else _) = _
  rw [if_neg (by omega), if_neg (by omega), if_neg (by omega), if_neg (by omega)]
  unfold vTo
  rw [List.take_length, show (f.kind == 5) = true from by rw [hk]; rfl]
theorem vOf_6 {zs : List Int} {n : Nat} {f : FT} (hk : f.kind = 6) : vOf zs (n + 1) f = vTo zs n false f.ks f.ks.length := by
  show (if f.kind = 0 then _ else if f.kind = 1 then _ else if f.kind = 2 ∨ f.kind = 3 then _ else if f.kind = 4 then _ else _) = _
  rw [if_neg (by omega), if_neg (by omega), if_neg (by omega), if_neg (by omega)]
  unfold vTo
  rw [List.take_length, show (f.kind == 5) = false from by rw [hk]; rfl]
theorem vOf_4 {zs : List Int} {n : Nat} {f : FT} (hk : f.kind = 4) : vOf zs (n + 1) f = (!(vOf zs n (f.ks.getD 0 default)).1, (vOf zs n (f.ks.getD 0 default)).2) := by
  show (if f.kind = 0 then _ else if f.kind = 1 then _ else if f.kind = 2 ∨ f.kind = 3 then _ else if f.kind = 4 then _ else _) = _
  rw [if_neg (by omega), if_neg (by omega), if_neg (by omega), if_pos hk]
theorem vOf_2 {zs : List Int} {n : Nat} {f : FT} (hk : f.kind = 2 ∨ f.kind = 3) : vOf zs (n + 1) f = if ∀ i, i < f.t.length → near f.t zs i = true then (decide (sAt f.c f.t zs f.t.length = 0) || (decide (sAt f.c f.t zs f.t.length < 0) && decide (f.kind = 2)), true) else (true, false) := by
  show (if f.kind = 0 then _ else if f.kind = 1 then _ else if f.kind = 2 ∨ f.kind = 3 then _ else _) = _
  rw [if_neg (by omega), if_neg (by omega), if_pos hk]
theorem vOf_0 {zs : List Int} {n : Nat} {f : FT} (hk : f.kind = 0) : vOf zs (n + 1) f = (true, true) := by show (if f.kind = 0 then _ else _) = _; rw [if_pos hk]
theorem vOf_1 {zs : List Int} {n : Nat} {f : FT} (hk : f.kind = 1) : vOf zs (n + 1) f = (false, true) := by show (if f.kind = 0 then _ else if f.kind = 1 then _ else _) = _; rw [if_neg (by omega), if_pos hk]

theorem ownF_noks {f : FT} (h : ownF f = true) (hk : f.kind = 0 ∨ f.kind = 1 ∨ f.kind = 2 ∨ f.kind = 3) : f.ks.length = 0 := by
  unfold ownF ownV at h
  by_cases h0 : f.kind = 0 ∨ f.kind = 1
  · rw [if_pos h0] at h
    simp at h
    have := h.2
    simp [this]
  · rw [if_neg h0, if_pos (by omega)] at h
    simp at h
    have := h.2
    simp [this]
/-- far is the opposite of near. -/
theorem far_near (zs : List Int) : ∀ (n : Nat) (f : FT), sndF n f = true → farF zs n f = !(vOf zs n f).2
  | 0, _, h => by cases h
  | n + 1, f, h => by
    obtain ⟨hown, hkids⟩ := sndF_split h
    have ih := fun i hi => far_near zs n (f.ks.getD i default) (hkids i hi)
    rcases ownF_kind hown with hk | hk | hk | hk | hk | hk
    · rw [vOf_0 hk]
      have ht : f.t.length = 0 := by rcases ownF_terms hown with h | h; exact h; omega
      have hl := ownF_noks hown (by omega)
      exact farF_no (fun i hi => by omega) (fun i hi => by omega)
    · rw [vOf_1 hk]
      have ht : f.t.length = 0 := by rcases ownF_terms hown with h | h; exact h; omega
      have hl := ownF_noks hown (by omega)
      exact farF_no (fun i hi => by omega) (fun i hi => by omega)
    · rw [vOf_2 hk]
      have hl := ownF_noks hown (by omega)
      split
      · rename_i hn
        exact farF_no hn (fun i hi => by omega)
      · rename_i hn
        obtain ⟨j, hj, h1, h2⟩ := first_no _ _ hn
        exact farF_yes1 hj h2
    · rw [vOf_4 hk]
      have ht : f.t.length = 0 := by rcases ownF_terms hown with h | h; exact h; omega
      have hl := ownF_not hown hk
      have i0 := ih 0 (by omega)
      show _ = !(vOf zs n (f.ks.getD 0 default)).2
      rw [← i0]
      cases hc : farF zs n (f.ks.getD 0 default) with
      | true => exact farF_yes2 (by omega) hc
      | false => exact farF_no (fun i hi => by omega) (fun i hi => by obtain rfl : i = 0 := by omega
                                                                      exact hc)
    all_goals
      first | rw [vOf_5 hk] | rw [vOf_6 hk]
      have ht : f.t.length = 0 := by rcases ownF_terms hown with h | h; exact h; omega
      rw [show ∀ b c : Bool, (b = !c) ↔ (c = true ↔ b = false) from by decide, vTo_near _ (Nat.le_refl _)]
      constructor
      · intro hh
        exact farF_no (fun i hi => by omega) (fun i hi => by rw [ih i hi, hh i hi]; rfl)
      · intro hh i hi
        have := ih i hi
        cases hc : (vOf zs n (f.ks.getD i default)).2 with
        | true => rfl
        | false =>
          rw [hc] at this
          rw [farF_yes2 hi this] at hh
          cases hh
end Go.Proofs.Ytknagcednppokaa

namespace Go.Proofs.Ytknagcednppokaa
open Go.RowKit

theorem sAt_plus (c : Int) (l : List (Int × Int)) (zs : List Int) : ∀ k, sAt c l zs k = c + sAt 0 l zs k
  | 0 => by show c = c + 0; omega
  | k + 1 => by rw [sAt_eq, sAt_eq, sAt_plus c l zs k, Int.add_assoc]
theorem sAt_red {l : List (Int × Int)} {g : Int} {zs : List Int} (hg : 1 ≤ g) : ∀ k, k ≤ l.length → (∀ j, j < k → g ∣ (l.getD j (0, 0)).2) → sAt 0 (redL g l) zs k * g = sAt 0 l zs k
  | 0, _, _ => by show (0 : Int) * g = 0; omega
  | k + 1, hk, hd => by
    obtain ⟨q, hq⟩ := hd k (by omega)
    rw [sAt_eq, sAt_eq, redL_get g l k (by omega), Int.add_mul, sAt_red hg k (by omega) (fun j hj => hd j (by omega)), hq, Int.mul_tdiv_cancel_left q (by omega), Int.mul_assoc, Int.mul_comm q g]
theorem sAt_neg (l : List (Int × Int)) (zs : List Int) : ∀ k, k ≤ l.length → sAt 0 (scale (-1) l) zs k = - sAt 0 l zs k
  | 0, _ => rfl
  | k + 1, hk => by
    rw [sAt_eq, sAt_eq, sAt_neg l zs k (by omega), scale_get (-1) l k (by omega)]
    show -sAt 0 l zs k + valOf zs (l.getD k (0, 0)).1 * (-1 * (l.getD k (0, 0)).2) = _
    rw [Int.neg_mul, Int.one_mul, Int.mul_neg]
    omega
theorem upI_spec {c g : Int} (hg : 1 ≤ g) : (upI c g - 1) * g < c ∧ c ≤ upI c g * g := by
  have h := Int.mul_tdiv_add_tmod c g
  have h1 : (c.tmod g).natAbs = c.natAbs % g.natAbs := Int.natAbs_tmod c g
  have h2 := Nat.mod_lt c.natAbs (show 0 < g.natAbs by omega)
  have h3 := Int.mul_comm g (c.tdiv g)
  unfold upI
  generalize c.tdiv g = q at h h3 ⊢
  generalize c.tmod g = r at h h1 ⊢
  split
  · rw [Int.add_sub_cancel, Int.add_mul, Int.one_mul]
    omega
  · rw [Int.sub_mul, Int.one_mul]
    omega
theorem le_up {c g S : Int} (hg : 1 ≤ g) : c + S * g ≤ 0 ↔ upI c g + S ≤ 0 := by
  obtain ⟨h1, h2⟩ := upI_spec (c := c) hg
  generalize upI c g = u at h1 h2 ⊢
  constructor
  · intro h
    by_cases e : u + S ≤ 0
    · exact e
    · have h3 : (1 - u) * g ≤ S * g := Int.mul_le_mul_of_nonneg_right (by omega) (by omega)
      have h4 : (1 - u) * g = -((u - 1) * g) := by rw [← Int.neg_mul]; congr 1; omega
      omega
  · intro h
    have h3 : S * g ≤ (-u) * g := Int.mul_le_mul_of_nonneg_right (by omega) (by omega)
    rw [Int.neg_mul] at h3
    omega

theorem near_red {g : Int} {l : List (Int × Int)} {zs : List Int} {i : Nat} (h : i < l.length) : near (redL g l) zs i = near l zs i := by
  unfold near
  rw [redL_get g l i h]
theorem near_scale {x : Int} {l : List (Int × Int)} {zs : List Int} {i : Nat} (h : i < l.length) : near (scale x l) zs i = near l zs i := by
  unfold near
  rw [scale_get x l i h]
theorem vOf_le {N : Nat} {c : Int} {t : List (Int × Int)} {zs : List Int} (hn : ∀ i, i < t.length → near t zs i = true) : vOf zs (N + 1) (.mk 2 c t []) = (decide (sAt c t zs t.length ≤ 0), true) := by
  rw [vOf_2 (.inl rfl)]
  show (if ∀ i, i < t.length → near t zs i = true then _ else _) = _
  rw [if_pos hn]
  congr 1
  show (decide (sAt c t zs t.length = 0) || (decide (sAt c t zs t.length < 0) && decide ((2 : Int) = 2))) = _
  rw [Bool.eq_iff_iff]
  simp
  omega

theorem lit_val {N : Nat} {c : Int} {l : List (Int × Int)} {zs : List Int} (hk : litK c l = 0) (hn : ∀ i, i < l.length → near l zs i = true) : vOf zs (N + 2) (litT c l) = (decide (sAt c l zs l.length ≤ 0), true) := by
  have hs : snd c l = true := by
    by_cases hs : snd c l = true
    · exact hs
    · unfold litK at hk
      rw [if_neg hs] at hk
      cases hk
  unfold litT
  unfold litK at hk
  rw [if_pos hs] at hk ⊢
  by_cases h0 : l.length = 0
  · rw [if_pos h0, h0]
    show vOf zs (N + 2) (.mk (if c ≤ 0 then 0 else 1) 0 [] []) = (decide (c ≤ 0), true)
    by_cases hc : c ≤ 0
    · rw [if_pos hc, vOf_0 rfl, decide_eq_true hc]
    · rw [if_neg hc, vOf_1 rfl, decide_eq_false hc]
  · rw [if_neg h0] at hk ⊢
    have h0' : 0 < l.length := by omega
    have hg := gAt_one hs h0'
    have hS := sAt_red (zs := zs) hg l.length (Nat.le_refl _) (fun j hj => gAt_dvd l l.length j hj)
    have hup := le_up (c := c) (S := sAt 0 (redL (gAt l l.length) l) zs l.length) hg
    rw [hS, ← sAt_plus] at hup
    have hlen := redL_len (gAt l l.length) l
    by_cases hp : 0 < (l.getD 0 (0, 0)).2.tdiv (gAt l l.length)
    · rw [if_pos hp, vOf_le (fun i hi => by rw [near_red (by omega)]; exact hn i (by omega)), hlen, sAt_plus, decide_eq_decide.2 hup]
    · rw [if_neg hp] at hk ⊢
      by_cases hw : wi (1 - upI c (gAt l l.length)) 1073741824 = true
      · rw [if_pos hw, vOf_4 rfl]
        show (!(vOf zs (N + 1) (.mk 2 (1 - upI c (gAt l l.length)) (scale (-1) (redL (gAt l l.length) l)) [])).1, (vOf zs (N + 1) (.mk 2 (1 - upI c (gAt l l.length)) (scale (-1) (redL (gAt l l.length) l)) [])).2) = _
        rw [vOf_le (fun i hi => by rw [scale_len] at hi; rw [near_scale hi, near_red (by omega)]; exact hn i (by omega)), scale_len, sAt_plus, sAt_neg _ _ _ (Nat.le_refl _), hlen]
        congr 1
        rw [← decide_not, decide_eq_decide, hup]
        omega
      · rw [if_neg hw] at hk
        cases hk
theorem opp_val {f : FT} (h : Can f) (N : Nat) (zs : List Int) : vOf zs (N + 2) (oppF f) = (!(vOf zs (N + 2) f).1, (vOf zs (N + 2) f).2) := by
  cases h with
  | yes => show vOf zs (N + 2) (.mk 1 0 [] []) = _; rw [vOf_1 (f := .mk 1 0 [] []) rfl, vOf_0 (f := .mk 0 0 [] []) rfl]; rfl
  | no => show vOf zs (N + 2) (.mk 0 0 [] []) = _; rw [vOf_1 (f := .mk 1 0 [] []) rfl, vOf_0 (f := .mk 0 0 [] []) rfl]; rfl
  | @le c t h =>
    show vOf zs (N + 2) (.mk 4 0 [] [.mk 2 c t []]) = _
    rw [vOf_4 rfl]
    show (!(vOf zs (N + 1) (.mk 2 c t [])).1, (vOf zs (N + 1) (.mk 2 c t [])).2) = _
    rw [vOf_2 (.inl rfl), vOf_2 (.inl rfl)]
  | @not c t h =>
    show vOf zs (N + 2) (.mk 2 c t []) = _
    rw [vOf_4 (f := .mk 4 0 [] [.mk 2 c t []]) rfl]
    show _ = (!(!(vOf zs (N + 1) (.mk 2 c t [])).1), (vOf zs (N + 1) (.mk 2 c t [])).2)
    rw [vOf_2 (.inl rfl), vOf_2 (.inl rfl), Bool.not_not]
theorem litso_val {N : Nat} {c : Int} {l : List (Int × Int)} {zs : List Int} {so : Bool} (hk : litK c l = 0) (hn : ∀ i, i < l.length → near l zs i = true) :
    vOf zs (N + 2) (if so then litT c l else oppF (litT c l)) = (if so then decide (sAt c l zs l.length ≤ 0) else !decide (sAt c l zs l.length ≤ 0), true) := by
  cases so
  · show vOf zs (N + 2) (oppF (litT c l)) = _
    rw [opp_val (litT_can hk), lit_val hk hn]
    rfl
  · exact lit_val hk hn

theorem can_snd {f : FT} (h : Can f) (N : Nat) : sndF (N + 2) f = true := by
  have hle : ∀ {c : Int} {t : List (Int × Int)} (N : Nat), canF c t = true → sndF (N + 1) (.mk 2 c t []) = true := fun {c t} N h => by
    rw [sndF_yes (fun i hi => absurd hi (by simp [FT.ks]))]
    show ownV 2 c t.length 0 (snd c t) = true
    rw [(canF_iff.1 h).1]
    rfl
  cases h with
  | yes => rw [sndF_yes (fun i hi => absurd hi (by simp [FT.ks]))]; rfl
  | no => rw [sndF_yes (fun i hi => absurd hi (by simp [FT.ks]))]; rfl
  | le h => exact hle (N + 1) h
  | @not c t h =>
    rw [sndF_yes (fun i hi => by
      obtain rfl : i = 0 := by simpa [FT.ks] using hi
      exact hle N h)]
    rfl
theorem nF_snd : ∀ {n : Nat} {f : FT}, nF n f → sndF (n + 1) f = true
  | 0, _, h => h.elim
  | n + 1, f, h => by
    rcases h with h | ⟨h1, h2, h3, _, h5⟩
    · exact can_snd h n
    · rw [sndF_yes (fun i hi => nF_snd (h5 i hi))]
      unfold ownF
      rw [h2, h3]
      rcases h1 with e | e <;> rw [e] <;> rfl

theorem pair_and {N : Nat} {zs : List Int} {a b : FT} {x y : Bool} (ha : vOf zs N a = (x, true)) (hb : vOf zs N b = (y, true)) : vOf zs (N + 1) (.mk 5 0 [] [a, b]) = (x && y, true) := by
  rw [vOf_5 rfl]
  show vStep true (vStep true (true, true) (vOf zs N a)) (vOf zs N b) = _
  rw [ha, hb]
  cases x <;> cases y <;> rfl
theorem pair_or {N : Nat} {zs : List Int} {a b : FT} {x y : Bool} (ha : vOf zs N a = (x, true)) (hb : vOf zs N b = (y, true)) : vOf zs (N + 1) (.mk 6 0 [] [a, b]) = (x || y, true) := by
  rw [vOf_6 rfl]
  show vStep false (vStep false (false, true) (vOf zs N a)) (vOf zs N b) = _
  rw [ha, hb]
  cases x <;> cases y <;> rfl
theorem vTo_same {zs : List Int} {n N : Nat} {b so : Bool} {fs gs : List FT} : ∀ k, k ≤ fs.length → k ≤ gs.length → (∀ i, i < k → (vOf zs n (fs.getD i default)).2 = true ∧ vOf zs N (gs.getD i default) = (if so then (vOf zs n (fs.getD i default)).1 else !(vOf zs n (fs.getD i default)).1, true)) →
    vTo zs N (if so then b else !b) gs k = (if so then (vTo zs n b fs k).1 else !(vTo zs n b fs k).1, true)
  | 0, _, _, _ => by
    show ((if so then b else !b), true) = (if so then b else !b, true)
    rfl
  | k + 1, h1, h2, h => by
    rw [vTo_succ _ _ _ _ _ (by omega), vTo_succ _ _ _ _ _ (by omega), vTo_same k (by omega) (by omega) (fun i hi => h i (by omega)), (h k (by omega)).2]
    unfold vStep
    dsimp only
    generalize (vTo zs n b fs k).1 = p
    generalize (vOf zs n (fs.getD k default)).1 = q
    cases so <;> cases b <;> cases p <;> cases q <;> rfl

theorem normF_val {zs : List Int} : ∀ {n : Nat} {f : FT} {so : Bool} {g : FT}, sndF n f = true → normF n f so = some g → (vOf zs n f).2 = true → ∀ M, n ≤ M → vOf zs (M + 2) g = (if so then (vOf zs n f).1 else !(vOf zs n f).1, true)
  | 0, _, _, _, h, _, _ => by cases h
  | n + 1, f, so, g, hs, h, hv => by
    have hks := (snd_own hs).2
    intro M hM
    obtain ⟨M, rfl⟩ : ∃ K, M = K + 1 := ⟨M - 1, by omega⟩
    rcases normF_ways hs h with ⟨_, ⟨hk, rfl⟩ | ⟨hk, rfl⟩ | ⟨hk, hsn, hk0, rfl⟩⟩ | ⟨hk, hsn, hk0, hj0, rfl⟩ | ⟨hk4, hk1, h4⟩ | ⟨hk56, hg, hkk⟩
    · rw [vOf_0 hk]
      cases so
      · exact vOf_1 rfl
      · exact vOf_0 rfl
    · rw [vOf_1 hk]
      cases so
      · exact vOf_0 rfl
      · exact vOf_1 rfl
    · have hn : ∀ i, i < f.t.length → near f.t zs i = true := by
        rw [vOf_2 (.inl hk)] at hv
        split at hv
        · assumption
        · cases hv
      rw [litso_val hk0 hn, vOf_2 (.inl hk), if_pos hn, hk]
      have e : (decide (sAt f.c f.t zs f.t.length = 0) || (decide (sAt f.c f.t zs f.t.length < 0) && decide ((2 : Int) = 2))) = decide (sAt f.c f.t zs f.t.length ≤ 0) := by
        rw [Bool.eq_iff_iff]
        simp
        omega
      rw [e]
    · have hn : ∀ i, i < f.t.length → near f.t zs i = true := by
        rw [vOf_2 (.inr hk)] at hv
        split at hv
        · assumption
        · cases hv
      have hA := litso_val (N := M) (so := so) hk0 hn
      have hB := litso_val (N := M) (so := so) hj0 (fun i hi => by rw [scale_len] at hi; rw [near_scale hi]; exact hn i hi)
      rw [scale_len, sAt_plus, sAt_neg _ _ _ (Nat.le_refl _)] at hB
      rw [sAt_plus] at hA
      rw [vOf_2 (.inr hk), if_pos hn, hk, sAt_plus]
      generalize sAt 0 f.t zs f.t.length = S at hA hB ⊢
      have e : (decide (f.c + S = 0) || (decide (f.c + S < 0) && decide ((3 : Int) = 2))) = (decide (f.c + S ≤ 0) && decide (-f.c + -S ≤ 0)) := by
        rw [Bool.eq_iff_iff]
        simp
        omega
      rw [e]
      cases so
      · show vOf zs (M + 2 + 1) (.mk 6 0 [] [_, _]) = _
        rw [pair_or hA hB]
        show (!decide (f.c + S ≤ 0) || !decide (-f.c + -S ≤ 0), true) = (!(decide (f.c + S ≤ 0) && decide (-f.c + -S ≤ 0)), true)
        rw [Bool.not_and]
      · show vOf zs (M + 2 + 1) (.mk 5 0 [] [_, _]) = _
        rw [pair_and hA hB]
        rfl
    · rw [vOf_4 hk4] at hv ⊢
      have := normF_val (hks 0 (by omega)) h4 hv (M + 1) (by omega)
      rw [this]
      generalize (vOf zs n (f.ks.getD 0 default)).1 = q
      cases so <;> cases q <;> rfl
    · have hlen : g.ks.length = f.ks.length := by rw [hg]; exact kidsT_len n f so
      have hgk : g.kind = if so then f.kind else 11 - f.kind := by rw [hg]; rfl
      rcases hk56 with e | e
      · rw [vOf_5 e] at hv ⊢
        have hnr := (vTo_near f.ks.length (Nat.le_refl _)).1 hv
        have key := vTo_same (zs := zs) (n := n) (N := M + 2) (b := true) (so := so) (fs := f.ks) (gs := g.ks) f.ks.length (Nat.le_refl _) (by omega) (fun i hi => by
          obtain ⟨k, h1, h2⟩ := hkk i hi
          refine ⟨hnr i hi, ?_⟩
          rw [h2]
          exact normF_val (hks i hi) h1 (hnr i hi) M (by omega))
        rw [e] at hgk
        cases so
        · rw [vOf_6 (n := M + 2) (show g.kind = 6 from hgk), hlen]
          exact key
        · rw [vOf_5 (n := M + 2) (show g.kind = 5 from hgk), hlen]
          exact key
      · rw [vOf_6 e] at hv ⊢
        have hnr := (vTo_near f.ks.length (Nat.le_refl _)).1 hv
        have key := vTo_same (zs := zs) (n := n) (N := M + 2) (b := false) (so := so) (fs := f.ks) (gs := g.ks) f.ks.length (Nat.le_refl _) (by omega) (fun i hi => by
          obtain ⟨k, h1, h2⟩ := hkk i hi
          refine ⟨hnr i hi, ?_⟩
          rw [h2]
          exact normF_val (hks i hi) h1 (hnr i hi) M (by omega))
        rw [e] at hgk
        cases so
        · rw [vOf_5 (n := M + 2) (show g.kind = 5 from hgk), hlen]
          exact key
        · rw [vOf_6 (n := M + 2) (show g.kind = 6 from hgk), hlen]
          exact key
end Go.Proofs.Ytknagcednppokaa

namespace Go.Proofs.Ytknagcednppokaa
open Go.RowKit

set_option maxRecDepth 100000 in
set_option maxHeartbeats 4000000 in
theorem value_0 (n : Nat) (f : FT) (cs : List Value) (a2 : Option Addr) (n2 cap2 : Nat) (zs : List Int) (w : World) (IH : ∀ (f : FT) (cs : List Value) (a2 : Option Addr) (n2 cap2 : Nat) (zs : List Int) (w : World), FLies w.heap.size w n f cs → sndF n f = true → zs.length = n2 → Nums w.heap.size w a2 zs → Calls Try.prog 44 #[.agg cs.toArray, .slice a2 n2 cap2] w (ValEnd w.heap.size (vOf zs n f) w))
    (h : FLies w.heap.size w (n + 1) f cs) (hs : sndF (n + 1) f = true) (hn2 : zs.length = n2) (hz : Nums w.heap.size w a2 zs) (hk : f.kind = 0) :
    Calls Try.prog 44 #[.agg cs.toArray, .slice a2 n2 cap2] w (ValEnd w.heap.size (vOf zs (n + 1) f) w) := by
    obtain ⟨hown, hkids⟩ := sndF_split hs
    obtain ⟨ta, tcap, ka, kcap, rfl, hlt, ht4, hk4, hks⟩ := h
    have B0 := Lib.hid (box_start w f.kind f.c ta ka f.t.length tcap f.ks.length kcap)
    have hv : vOf zs (n + 1) f = (true, true) := by show (if f.kind = 0 then _ else _) = _; rw [if_pos hk]
    rw [hv]
    rw [hk] at B0 ⊢
    generalize f.c = fc at B0
    generalize f.t.length = ft at B0
    generalize f.ks.length = len at B0
    clear IH hks hkids hlt hown hk hs hz hv hn2 hk4
    go_enter Try.func44, Try.ntmps44
    go_wp2_with fail
    refine bodyPost_ret (v := .tuple #[.bool true, .bool true]) ?_ rfl ⟨rfl, B0.out.bel⟩
    simp [results, Try.results44, go_sem]

set_option maxRecDepth 100000 in
set_option maxHeartbeats 4000000 in
theorem value_1 (n : Nat) (f : FT) (cs : List Value) (a2 : Option Addr) (n2 cap2 : Nat) (zs : List Int) (w : World) (IH : ∀ (f : FT) (cs : List Value) (a2 : Option Addr) (n2 cap2 : Nat) (zs : List Int) (w : World), FLies w.heap.size w n f cs → sndF n f = true → zs.length = n2 → Nums w.heap.size w a2 zs → Calls Try.prog 44 #[.agg cs.toArray, .slice a2 n2 cap2] w (ValEnd w.heap.size (vOf zs n f) w))
    (h : FLies w.heap.size w (n + 1) f cs) (hs : sndF (n + 1) f = true) (hn2 : zs.length = n2) (hz : Nums w.heap.size w a2 zs) (hk : f.kind = 1) :
    Calls Try.prog 44 #[.agg cs.toArray, .slice a2 n2 cap2] w (ValEnd w.heap.size (vOf zs (n + 1) f) w) := by
    obtain ⟨hown, hkids⟩ := sndF_split hs
    obtain ⟨ta, tcap, ka, kcap, rfl, hlt, ht4, hk4, hks⟩ := h
    have B0 := Lib.hid (box_start w f.kind f.c ta ka f.t.length tcap f.ks.length kcap)
    have hv : vOf zs (n + 1) f = (false, true) := by show (if f.kind = 0 then _ else if f.kind = 1 then _ else _) = _; rw [if_neg (by omega), if_pos hk]
    rw [hv]
    rw [hk] at B0 ⊢
    generalize f.c = fc at B0
    generalize f.t.length = ft at B0
    generalize f.ks.length = len at B0
    clear IH hks hkids hlt hown hk hs hz hv hn2 hk4
    go_enter Try.func44, Try.ntmps44
    go_wp2_with fail
    refine bodyPost_ret (v := .tuple #[.bool false, .bool true]) ?_ rfl ⟨rfl, B0.out.bel⟩
    simp [results, Try.results44, go_sem]

set_option maxRecDepth 100000 in
set_option maxHeartbeats 4000000 in
theorem value_2 (n : Nat) (f : FT) (cs : List Value) (a2 : Option Addr) (n2 cap2 : Nat) (zs : List Int) (w : World) (IH : ∀ (f : FT) (cs : List Value) (a2 : Option Addr) (n2 cap2 : Nat) (zs : List Int) (w : World), FLies w.heap.size w n f cs → sndF n f = true → zs.length = n2 → Nums w.heap.size w a2 zs → Calls Try.prog 44 #[.agg cs.toArray, .slice a2 n2 cap2] w (ValEnd w.heap.size (vOf zs n f) w))
    (h : FLies w.heap.size w (n + 1) f cs) (hs : sndF (n + 1) f = true) (hn2 : zs.length = n2) (hz : Nums w.heap.size w a2 zs) (hk : f.kind = 2 ∨ f.kind = 3) :
    Calls Try.prog 44 #[.agg cs.toArray, .slice a2 n2 cap2] w (ValEnd w.heap.size (vOf zs (n + 1) f) w) := by
    obtain ⟨hown, hkids⟩ := sndF_split hs
    obtain ⟨ta, tcap, ka, kcap, rfl, hlt, ht4, hk4, hks⟩ := h
    have B0 := Lib.hid (box_start w f.kind f.c ta ka f.t.length tcap f.ks.length kcap)
    have hsn := ownF_form hown hk
    have hv : vOf zs (n + 1) f = if ∀ i, i < f.t.length → near f.t zs i = true then (decide (sAt f.c f.t zs f.t.length = 0) || (decide (sAt f.c f.t zs f.t.length < 0) && decide (f.kind = 2)), true) else (true, false) := by
      show (if f.kind = 0 then _ else if f.kind = 1 then _ else if f.kind = 2 ∨ f.kind = 3 then _ else _) = _
      rw [if_neg (by omega), if_neg (by omega), if_pos hk]
    rw [hv]
    have en := fun W => Try.eqNil W
    have ei := fun W => Try.eqIfaceNil 1 W
    by_cases hnear : ∀ i, i < f.t.length → near f.t zs i = true
    · rw [if_pos hnear]
      have hcv := value_ok f.c ta f.t.length tcap f.t a2 n2 cap2 zs _ rfl hn2 ((hlt.below B0.out.bel).mono B0.out.bel.size) ((hz.below B0.out.bel).mono B0.out.bel.size) hsn hnear
      generalize sAt f.c f.t zs f.t.length = v at hcv
      generalize f.c = fc at B0 hcv
      generalize f.t.length = ft at B0 hcv
      generalize f.ks.length = len at B0 hcv
      generalize f.kind = fk at B0 hcv hk
      clear IH hks hkids hlt hown hs hz hv hn2 hk4 hsn hnear ei
      have hv3 : v = 0 ∨ (decide (v < 0) = true ∧ (v == 0) = false) ∨ (decide (v < 0) = false ∧ (v == 0) = false) := by
        simp only [beq_eq_false_iff_ne, ne_eq, decide_eq_true_eq, decide_eq_false_iff_not]; omega
      rcases hk with rfl | rfl <;> rcases hv3 with rfl | ⟨h1, h2⟩ | ⟨h1, h2⟩
      all_goals
        go_enter Try.func44, Try.ntmps44
        go_wp2_with fail
        refine hcv.mono ?_
        rintro e w1 ⟨rfl, hb1⟩
        have T1 := Lib.hid (B0.out.below hb1 B0.out.lt)
        obtain ⟨l1, p0, _, _, _, _⟩ := T1.out
        clear hb1 hcv
        go_wp2_with fail
        go_quiet (fail)
        go_wp2
        refine bodyPost_ret ?_ rfl ⟨rfl, below_drewN T1.out.bel _⟩
        simp_all [results, Try.results44, go_sem]
    · rw [if_neg hnear]
      have hcv := value_far f.c ta f.t.length tcap f.t a2 n2 cap2 zs _ rfl hn2 ((hlt.below B0.out.bel).mono B0.out.bel.size) ((hz.below B0.out.bel).mono B0.out.bel.size) hsn hnear
      generalize f.c = fc at B0 hcv
      generalize f.t.length = ft at B0 hcv
      generalize f.ks.length = len at B0 hcv
      generalize f.kind = fk at B0 hcv hk
      clear IH hks hkids hlt hown hs hz hv hn2 hk4 hsn hnear en
      rcases hk with rfl | rfl
      all_goals
        go_enter Try.func44, Try.ntmps44
        go_wp2_with fail
        refine hcv.mono ?_
        rintro e w1 ⟨rfl, hb1⟩
        have T1 := Lib.hid (B0.out.below hb1 B0.out.lt)
        clear hb1 hcv
        go_wp2_with fail
        go_quiet (fail)
        go_wp2
        refine bodyPost_ret (v := .tuple #[.bool true, .bool false]) ?_ rfl ⟨rfl, below_drewN T1.out.bel _⟩
        simp [results, Try.results44, go_sem]

set_option maxRecDepth 100000 in
set_option maxHeartbeats 4000000 in
theorem value_3 (n : Nat) (f : FT) (cs : List Value) (a2 : Option Addr) (n2 cap2 : Nat) (zs : List Int) (w : World) (IH : ∀ (f : FT) (cs : List Value) (a2 : Option Addr) (n2 cap2 : Nat) (zs : List Int) (w : World), FLies w.heap.size w n f cs → sndF n f = true → zs.length = n2 → Nums w.heap.size w a2 zs → Calls Try.prog 44 #[.agg cs.toArray, .slice a2 n2 cap2] w (ValEnd w.heap.size (vOf zs n f) w))
    (h : FLies w.heap.size w (n + 1) f cs) (hs : sndF (n + 1) f = true) (hn2 : zs.length = n2) (hz : Nums w.heap.size w a2 zs) (hk : f.kind = 4) :
    Calls Try.prog 44 #[.agg cs.toArray, .slice a2 n2 cap2] w (ValEnd w.heap.size (vOf zs (n + 1) f) w) := by
    obtain ⟨hown, hkids⟩ := sndF_split hs
    obtain ⟨ta, tcap, ka, kcap, rfl, hlt, ht4, hk4, hks⟩ := h
    have B0 := Lib.hid (box_start w f.kind f.c ta ka f.t.length tcap f.ks.length kcap)
    have hlen := ownF_not hown hk
    have hv : vOf zs (n + 1) f = (!(vOf zs n (f.ks.getD 0 default)).1, (vOf zs n (f.ks.getD 0 default)).2) := by
      show (if f.kind = 0 then _ else if f.kind = 1 then _ else if f.kind = 2 ∨ f.kind = 3 then _ else if f.kind = 4 then _ else _) = _
      rw [if_neg (by omega), if_neg (by omega), if_neg (by omega), if_pos hk]
    rw [hv]
    obtain ⟨b, off, c0, c1, c2, c3, rfl, hblt, g0, g1, g2, g3, hf⟩ := hks 0 (by omega)
    rw [← B0.out.bel.cell (p := ⟨b, _, none⟩) hblt] at g0 g1 g2 g3
    obtain ⟨ck, cc, cta, ctn, ctcap, cka, ckn, ckcap, rfl, rfl, rfl, rfl⟩ := hf.form
    have hih := IH (f.ks.getD 0 default) _ a2 n2 cap2 zs _ ((hf.below B0.out.bel).mono B0.out.bel.size) (hkids 0 (by omega)) hn2 ((hz.below B0.out.bel).mono B0.out.bel.size)
    simp only [Nat.zero_mul, Nat.add_zero] at g0 g1 g2 g3
    generalize vOf zs n (f.ks.getD 0 default) = p at hih
    obtain ⟨o, u⟩ := p
    rw [hk] at B0 g0 g1 g2 g3 hih ⊢
    rw [hlen] at B0 g0 g1 g2 g3 hih ⊢
    generalize f.c = fc at B0 g0 g1 g2 g3 hih
    generalize f.t.length = ft at B0 g0 g1 g2 g3 hih
    clear IH hks hkids hlt hown hs hz hv hn2 hk4 hf hk hlen
    go_enter Try.func44, Try.ntmps44
    go_wp2_with fail
    refine hih.mono ?_
    rintro e w1 ⟨rfl, hb1⟩
    have T1 := Lib.hid (B0.out.below hb1 B0.out.lt)
    clear hb1 hih
    go_wp2_with fail
    refine bodyPost_ret (v := .tuple #[.bool !o, .bool u]) ?_ rfl ⟨rfl, T1.out.bel⟩
    simp [results, Try.results44, go_sem]

end Go.Proofs.Ytknagcednppokaa
