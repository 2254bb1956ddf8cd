/- What is normalized: its literals are canonical; normalized again it is itself; how deep and how long it is. The walk of NormTwice. The frame of NormTwice. -/
import Derived.Test.YtknagcednppokaaTw02
import Derived.Test.YtknagcednppokaaTw29
namespace Go.Proofs.Ytknagcednppokaa
open Go.RowKit

theorem gAt_red {l : List (Int × Int)} {g : Int} (hg : 1 ≤ g) : ∀ i, i ≤ l.length → (∀ j, j < i → g ∣ (l.getD j (0, 0)).2) → gAt (redL g l) i * g = gAt l i
  | 0, _, _ => by unfold gAt; omega
  | i + 1, hi, hd => by
    have ih := gAt_red hg i (by omega) (fun j hj => hd j (by omega))
    obtain ⟨q, hq⟩ := hd i (by omega)
    show ((Nat.gcd (gAt (redL g l) i).natAbs ((redL g l).getD i (0, 0)).2.natAbs : Nat) : Int) * g = ((Nat.gcd (gAt l i).natAbs (l.getD i (0, 0)).2.natAbs : Nat) : Int)
    rw [redL_get g l i (by omega), ← ih, hq, Int.mul_tdiv_cancel_left q (by omega), Int.natAbs_mul, Int.natAbs_mul, Nat.mul_comm g.natAbs q.natAbs, Nat.gcd_mul_right]
    have : (g.natAbs : Int) = g := by omega
    rw [Int.natCast_mul, this]
theorem gAt_scale (l : List (Int × Int)) : ∀ i, i ≤ l.length → gAt (scale (-1) l) i = gAt l i
  | 0, _ => rfl
  | i + 1, hi => by
    show ((Nat.gcd (gAt (scale (-1) l) i).natAbs ((scale (-1) l).getD i (0, 0)).2.natAbs : Nat) : Int) = _
    rw [gAt_scale l i (by omega), scale_get (-1) l i (by omega)]
    show ((Nat.gcd (gAt l i).natAbs (-1 * (l.getD i (0, 0)).2).natAbs : Nat) : Int) = _
    rw [Int.natAbs_mul]
    simp [gAt]
theorem gAt_one {c : Int} {l : List (Int × Int)} (hs : snd c l = true) (h0 : 0 < l.length) : 1 ≤ gAt l l.length := by
  have h := gAt_in l l.length (fun j hj => by have := okAt_in ((snd_iff.1 hs).2.2 j hj); omega)
  have hd := gAt_dvd l l.length 0 h0
  have h1 := okAt_in ((snd_iff.1 hs).2.2 0 h0)
  by_cases e : gAt l l.length = 0
  · rw [e] at hd
    have := Int.zero_dvd.1 hd
    omega
  · omega

/-- The canonical literals. -/
inductive Can : FT → Prop where
  | yes : Can (.mk 0 0 [] [])
  | no : Can (.mk 1 0 [] [])
  | le {c : Int} {t : List (Int × Int)} (h : canF c t = true) : Can (.mk 2 c t [])
  | not {c : Int} {t : List (Int × Int)} (h : canF c t = true) : Can (.mk 4 0 [] [.mk 2 c t []])
theorem canF_iff {c : Int} {l : List (Int × Int)} : canF c l = true ↔ snd c l = true ∧ gAt l l.length = 1 ∧ 0 < (l.getD 0 (0, 0)).2 := by
  unfold canF
  rw [Bool.and_eq_true, Bool.and_eq_true, decide_eq_true_eq, decide_eq_true_eq]
theorem canF_pos {c : Int} {l : List (Int × Int)} (h : canF c l = true) : 0 < l.length := by
  have := (canF_iff.1 h).2.2
  cases l with
  | nil => simp at this
  | cons => simp
theorem red_can {c : Int} {l : List (Int × Int)} (hs : snd c l = true) (h0 : 0 < l.length) : snd (upI c (gAt l l.length)) (redL (gAt l l.length) l) = true ∧ gAt (redL (gAt l l.length) l) (redL (gAt l l.length) l).length = 1 := by
  have hg := gAt_one hs h0
  refine ⟨red_snd hs h0, ?_⟩
  rw [redL_len]
  have := gAt_red hg l.length (Nat.le_refl _) (fun j hj => gAt_dvd l l.length j hj)
  generalize gAt (redL (gAt l l.length) l) l.length = q at this ⊢
  generalize gAt l l.length = g at this hg
  have h2 : (q - 1) * g = 0 := by rw [Int.sub_mul, this]; omega
  rcases Int.mul_eq_zero.1 h2 with h | h <;> omega
theorem litT_can {c : Int} {l : List (Int × Int)} (hk : litK c l = 0) : Can (litT c l) := by
  have hs : snd c l = true := by
    by_cases hs : snd c l = true
    · exact hs
    · unfold litK at hk
      rw [if_neg hs] at hk
      cases hk
  unfold litT
  unfold litK at hk
  rw [if_pos hs] at hk ⊢
  by_cases h0 : l.length = 0
  · rw [if_pos h0]
    split
    · exact .yes
    · exact .no
  · rw [if_neg h0] at hk ⊢
    have h0' : 0 < l.length := by omega
    obtain ⟨r1, r2⟩ := red_can hs h0'
    have hg := gAt_one hs h0'
    have hd := gAt_dvd l l.length 0 h0'
    have hk0 := okAt_in ((snd_iff.1 hs).2.2 0 h0')
    have hne := tdiv_ne hk0.2.1 hg hd
    by_cases hp : 0 < (l.getD 0 (0, 0)).2.tdiv (gAt l l.length)
    · rw [if_pos hp]
      refine .le (canF_iff.2 ⟨r1, r2, ?_⟩)
      rw [redL_get _ l 0 h0']
      exact hp
    · rw [if_neg hp] at hk ⊢
      by_cases hw : wi (1 - upI c (gAt l l.length)) 1073741824 = true
      · rw [if_pos hw]
        have hn := snd_neg r1
        obtain ⟨_, h64, hall⟩ := snd_iff.1 hn
        refine .not (canF_iff.2 ⟨snd_iff.2 ⟨hw, h64, hall⟩, ?_, ?_⟩)
        · rw [scale_len, gAt_scale _ _ (Nat.le_refl _)]; exact r2
        · rw [scale_get _ _ 0 (by rw [redL_len]; exact h0'), redL_get _ l 0 h0']
          show 0 < -1 * (l.getD 0 (0, 0)).2.tdiv (gAt l l.length)
          omega
      · rw [if_neg hw] at hk
        cases hk
theorem oppF_can {f : FT} (h : Can f) : Can (oppF f) := by
  cases h with
  | yes => exact .no
  | no => exact .yes
  | le h => exact .not h
  | not h => exact .le h

/-- Normalized, of so many layers. -/
def nF : Nat → FT → Prop
  | 0, _ => False
  | n + 1, f => Can f ∨ ((f.kind = 5 ∨ f.kind = 6) ∧ f.c = 0 ∧ f.t = [] ∧ f.ks.length ≤ 1048576 ∧ ∀ i, i < f.ks.length → nF n (f.ks.getD i default))
theorem nF.up : ∀ {n m : Nat} {f : FT}, nF n f → n ≤ m → nF m f
  | 0, _, _, h, _ => h.elim
  | n + 1, 0, _, _, hm => absurd hm (by omega)
  | n + 1, m + 1, f, h, hm => by
    rcases h with h | ⟨h1, h2, h3, h4, h5⟩
    · exact .inl h
    · exact .inr ⟨h1, h2, h3, h4, fun i hi => (h5 i hi).up (by omega)⟩
theorem nF.can {n : Nat} {f : FT} (h : Can f) : nF (n + 1) f := .inl h

theorem getD_map {α β : Type} [Inhabited α] [Inhabited β] (F : α → β) (l : List α) (i : Nat) (h : i < l.length) : (l.map F).getD i default = F (l.getD i default) := by
  simp [List.getD_eq_getElem?_getD, h]
theorem all_some {n : Nat} {f : FT} {so : Bool} {g : FT} (h : (if (f.ks.all fun k => (normF n k so).isSome) = true then some (kidsT n f so) else none) = some g) :
    g = kidsT n f so ∧ ∀ i, i < f.ks.length → ∃ k, normF n (f.ks.getD i default) so = some k ∧ g.ks.getD i default = k := by
  split at h
  · rename_i ha
    injection h with h
    subst h
    refine ⟨rfl, fun i hi => ?_⟩
    rw [List.all_eq_true] at ha
    have := ha _ (List.getElem_mem hi)
    have e : f.ks.getD i default = f.ks[i] := by simp [List.getD_eq_getElem?_getD, hi]
    cases hn : normF n f.ks[i] so with
    | none => rw [hn] at this; cases this
    | some k => exact ⟨k, by rw [e]; exact hn, kidsT_get hi (by rw [e]; exact hn)⟩
  · cases h

theorem normF_nf : ∀ {n : Nat} {f : FT} {so : Bool} {g : FT}, sndF n f = true → litF n f → normF n f so = some g → nF (n + 1) g
  | 0, _, _, _, h, _, _ => by cases h
  | n + 1, f, so, g, hs, hl, h => by
    obtain ⟨hown, hks⟩ := snd_own hs
    rcases own_kinds hown with ⟨hk01, _, _, _⟩ | ⟨hk23, hsn, hkn⟩ | ⟨hk4, _, _, hk1⟩ | ⟨hk56, _, _⟩
    · rcases hk01 with e | e
      · rw [normF_0 e] at h
        injection h with h
        subst h
        cases so <;> exact nF.can (by first | exact .yes | exact .no)
      · rw [normF_1 e] at h
        injection h with h
        subst h
        cases so <;> exact nF.can (by first | exact .yes | exact .no)
    · rcases hk23 with e | e
      · rw [normF_2 e] at h
        split at h
        · rename_i hk
          injection h with h
          subst h
          cases so
          · exact nF.can (oppF_can (litT_can hk))
          · exact nF.can (litT_can hk)
        · cases h
      · rw [normF_3 e] at h
        rcases litK_sound hsn with hk0 | hk3
        · rcases litK_sound (snd_neg hsn) with hj0 | hj3
          · rw [bothT_ok hk0 hj0] at h
            injection h with h
            subst h
            refine .inr ⟨by cases so <;> simp [FT.kind], rfl, rfl, by simp [FT.ks], fun i hi => ?_⟩
            have hi2 : i < 2 := by simpa [FT.ks] using hi
            have c1 : Can (if so = true then litT f.c f.t else oppF (litT f.c f.t)) := by
              cases so
              · exact oppF_can (litT_can hk0)
              · exact litT_can hk0
            have c2 : Can (if so = true then litT (-f.c) (scale (-1) f.t) else oppF (litT (-f.c) (scale (-1) f.t))) := by
              cases so
              · exact oppF_can (litT_can hj0)
              · exact litT_can hj0
            match i, hi2 with
            | 0, _ => exact nF.can c1
            | 1, _ => exact nF.can c2
          · rw [bothT_far2 hj3] at h; cases h
        · rw [bothT_far1 hk3] at h; cases h
    · rw [normF_4 hk4] at h
      exact (normF_nf (hks 0 (by omega)) (hl.2.2 0 (by omega)) h).up (by omega)
    · rw [normF_56 hk56] at h
      obtain ⟨rfl, hk⟩ := all_some h
      refine .inr ⟨?_, rfl, rfl, by rw [kidsT_len]; exact hl.2.1, fun i hi => ?_⟩
      · show (if so = true then f.kind else 11 - f.kind) = 5 ∨ (if so = true then f.kind else 11 - f.kind) = 6
        cases so <;> rcases hk56 with e | e <;> rw [e] <;> decide
      · rw [kidsT_len] at hi
        obtain ⟨k, h1, h2⟩ := hk i hi
        rw [h2]
        exact normF_nf (hks i hi) (hl.2.2 i hi) h1

theorem can_made {n : Nat} {f : FT} (h : Can f) : madeF (n + 2) f = true := by
  cases h with
  | yes => rw [madeF_0 (.inl rfl)]; rfl
  | no => rw [madeF_0 (.inr rfl)]; rfl
  | @le c t h => rw [madeF_2 rfl]; show (canF c t && _) = true; rw [h]; rfl
  | @not c t h =>
    rw [madeF_4 rfl]
    show (bareF _ && (_ && (_ && madeF (n + 1) (.mk 2 c t [])))) = true
    rw [madeF_2 rfl]
    show (bareF _ && (_ && (_ && (canF c t && _)))) = true
    rw [h]
    rfl
theorem nF_made : ∀ {n : Nat} {f : FT}, nF n f → madeF (n + 1) f = true
  | 0, _, h => h.elim
  | n + 1, f, h => by
    rcases h with h | ⟨h1, h2, h3, _, h5⟩
    · exact can_made h
    · rw [madeF_5 h1, decide_eq_true (fun i hi => nF_made (h5 i hi))]
      unfold bareF
      rw [h2, h3]
      rfl
theorem can_lit {n : Nat} {f : FT} (h : Can f) : litF (n + 2) f := by
  have hc : ∀ {c : Int} {t : List (Int × Int)}, canF c t = true → t.length ≤ 64 := fun h => (snd_iff.1 (canF_iff.1 h).1).2.1
  cases h with
  | yes => exact ⟨by simp [FT.t], by simp [FT.ks], fun i hi => absurd hi (by simp [FT.ks])⟩
  | no => exact ⟨by simp [FT.t], by simp [FT.ks], fun i hi => absurd hi (by simp [FT.ks])⟩
  | le h => exact ⟨by have := hc h; show _ ≤ _; simp only [FT.t]; omega, by simp [FT.ks], fun i hi => absurd hi (by simp [FT.ks])⟩
  | @not c t h =>
    refine ⟨by simp [FT.t], by simp [FT.ks], fun i hi => ?_⟩
    obtain rfl : i = 0 := by simpa [FT.ks] using hi
    exact ⟨by have := hc h; show t.length ≤ _; omega, by simp [FT.ks], fun i hi => absurd hi (by simp [FT.ks])⟩
theorem nF_lit : ∀ {n : Nat} {f : FT}, nF n f → litF (n + 1) f
  | 0, _, h => h.elim
  | n + 1, f, h => by
    rcases h with h | ⟨_, _, h3, h4, h5⟩
    · exact can_lit h
    · exact ⟨by rw [h3]; simp, h4, fun i hi => nF_lit (h5 i hi)⟩
theorem nrmT_nf {n : Nat} {f : FT} (hl : litF (n + 1) f) : nF (n + 2) (nrmT (n + 1) f) := by
  unfold nrmT
  split
  · rename_i h0
    cases ho : normF (n + 1) f true with
    | none => exact nF.can .yes
    | some g => exact normF_nf (cc_sound h0).2.2 hl ho
  · exact nF.can .yes

theorem can_twice {c : Int} {t : List (Int × Int)} (h : canF c t = true) : litT c t = .mk 2 c t [] := by
  obtain ⟨hs, hg, hp⟩ := canF_iff.1 h
  have h0 := canF_pos h
  have hr : redL 1 t = t := by
    unfold redL
    have : (fun m : Int × Int => (m.1, m.2.tdiv 1)) = id := by funext m; simp
    rw [this, List.map_id]
  unfold litT
  rw [if_pos hs, if_neg (by omega), hg, hr]
  have hu : upI c 1 = c := by
    unfold upI
    have h1 : c.tmod 1 = 0 := by simp
    rw [h1, if_neg (by omega)]
    simp
  rw [if_pos (by simpa using hp), hu]
theorem nF_twice : ∀ {N m : Nat} {g g' : FT}, nF m g → normF N g true = some g' → g' = g
  | 0, _, _, _, _, h => by cases h
  | N + 1, 0, _, _, hn, _ => hn.elim
  | N + 1, m + 1, g, g', hn, h => by
    rcases hn with hc | ⟨h1, h2, h3, _, h5⟩
    · cases hc with
      | yes => rw [normF_0 rfl] at h; injection h with h; exact h.symm
      | no => rw [normF_1 rfl] at h; injection h with h; exact h.symm
      | le hc =>
        rw [normF_2 rfl] at h
        split at h
        · injection h with h
          rw [← h]
          exact can_twice hc
        · cases h
      | @not c t hc =>
        rw [normF_4 rfl] at h
        cases N with
        | zero => cases h
        | succ N =>
          replace h : normF (N + 1) (.mk 2 c t []) false = some g' := h
          rw [normF_2 rfl] at h
          split at h
          · injection h with h
            rw [← h]
            show oppF (litT c t) = _
            rw [can_twice hc]
            rfl
          · cases h
    · rw [normF_56 h1] at h
      obtain ⟨rfl, hk⟩ := all_some h
      cases g with
      | mk k c t ks =>
        simp only [FT.kind, FT.c, FT.t, FT.ks] at h1 h2 h3 h5 hk
        subst h2 h3
        show FT.mk k 0 [] (ks.map fun x => (normF N x true).getD default) = _
        congr 1
        refine List.ext_getElem (by simp) fun i h6 h7 => ?_
        obtain ⟨x, hx, _⟩ := hk i h7
        have e : ks.getD i default = ks[i] := by simp [List.getD_eq_getElem?_getD, h7]
        have := nF_twice (h5 i h7) hx
        rw [e] at hx this
        simp only [List.getElem_map, hx, Option.getD_some]
        exact this
end Go.Proofs.Ytknagcednppokaa

namespace Go.Proofs.Ytknagcednppokaa
open Go.RowKit

theorem nrmT_twice {n : Nat} {f : FT} (hl : litF (n + 1) f) (h : nrmK (n + 3) (nrmT (n + 1) f) = 0) : nrmT (n + 3) (nrmT (n + 1) f) = nrmT (n + 1) f := by
  have hn := nrmT_nf hl
  generalize nrmT (n + 1) f = g at h hn ⊢
  unfold nrmK at h
  unfold nrmT
  split at h
  · rename_i h0
    rw [if_pos h0]
    cases ho : normF (n + 3) g true with
    | none => rw [ho] at h; cases h
    | some g' => exact nF_twice hn ho
  · contradiction

set_option maxRecDepth 100000 in
set_option maxHeartbeats 4000000 in
theorem normTwice_any (hup : UpSaid3) (n : Nat) (f : FT) (cs : List Value) (w : World) (h : FLies w.heap.size w n f cs) :
    Calls Try.prog 7 #[.agg cs.toArray] w fun e w' => e = .returned (.bool true) ∧ Below w.heap.size w w' := by
  have FL := fun W (hb : Below w.heap.size w W) => (h.below hb).mono hb.size
  cases n with
  | zero => exact h.elim
  | succ n =>
    obtain ⟨ta, tcap, ka, kcap, rfl, _⟩ := h
    have hsm := Lib.hid (fun W hb => lit_any (n + 1) f _ 800 60 W (by omega) (by omega) (by omega) (by omega) (FL W hb))
    have hnb := Lib.hid (fun (hl : litF (n + 1) f) W hb => (norm_both (n + 1) f _ W hl (FL W hb)).1)
    have hnc := Lib.hid (fun (hl : litF (n + 1) f) cs W hf => (norm_both (n + 3) (nrmT (n + 1) f) cs W (nF_lit (nrmT_nf hl)) hf).1)
    have HEQ : Hid (litF (n + 1) f → nrmK (n + 3) (nrmT (n + 1) f) = 0 → nrmT (n + 3) (nrmT (n + 1) f) = nrmT (n + 1) f) := fun hl h => nrmT_twice hl h
    have T0 := Lib.hid (box_start w f.kind f.c ta ka f.t.length tcap f.ks.length kcap)
    have n0 := fun W => Try.neNil W
    have n3 := fun k W => Try.neCode k W
    have HX1 : Hid (codeV (nrmK (n + 1) f) = .nilIface ∨ ∃ k : Int, codeV (nrmK (n + 1) f) = .iface 53 (.int .i64 k)) := by
      unfold codeV
      split
      · exact .inl rfl
      · exact .inr ⟨_, rfl⟩
    have HX2 : Hid ((nrmK (n + 3) (nrmT (n + 1) f) = 0 ∧ codeV (nrmK (n + 3) (nrmT (n + 1) f)) = .nilIface) ∨ ∃ k : Int, codeV (nrmK (n + 3) (nrmT (n + 1) f)) = .iface 53 (.int .i64 k)) := by
      unfold codeV
      split
      · exact .inl ⟨by assumption, rfl⟩
      · exact .inr ⟨_, rfl⟩
    clear FL
    generalize litF (n + 1) f = L at hsm hnb hnc HEQ
    generalize codeV (nrmK (n + 1) f) = x1 at hnb HX1
    generalize codeV (nrmK (n + 3) (nrmT (n + 1) f)) = x2 at hnc HX2
    generalize nrmK (n + 3) (nrmT (n + 1) f) = K2 at HEQ HX2
    generalize nrmT (n + 3) (nrmT (n + 1) f) = g2 at hnc HEQ
    generalize nrmT (n + 1) f = g at hnb hnc HEQ
    generalize f.kind = fk at T0 hsm hnb
    generalize f.c = fc at T0 hsm hnb
    generalize f.t.length = ft at T0 hsm hnb
    generalize f.ks.length = fl at T0 hsm hnb
    go_enter Try.func7, Try.ntmps7
    go_wp2_with fail
    refine (hup _).mono ?_
    rintro e w1 ⟨rfl, hb1⟩
    have T1 := Lib.hid (T0.out.below hb1 T0.out.lt)
    clear hb1
    obtain ⟨l1, p0, p1, p2, p3, _⟩ := T1.out
    go_wp2_with fail
    refine (hsm.out _ T1.out.bel).mono ?_
    rintro e w2 ⟨v, rfl, hv1, hv2, hL, hb2⟩
    have T2 := Lib.hid (T1.out.below hb2 T1.out.lt)
    clear hb2 l1 p0 p1 p2 p3
    by_cases hv : v < 0
    · clear hL
      go_wp2_with fail
      go_ret
      exact ⟨rfl, T2.out.bel⟩
    · have HL := Lib.hid (hL (by omega))
      clear hL
      obtain ⟨l2, p0, p1, p2, p3, -⟩ := T2.out
      go_wp2_with fail
      refine (hnb.out HL.out _ T2.out.bel).mono ?_
      rintro e w3 ⟨cs3, rfl, hfS3, hb3⟩
      have HF3 := Lib.hid (hfS3.lies (B := w3.heap.size) (fun b h => h.2))
      obtain ⟨xk, xc, xa, xn, xp, xb, xm, xq, rfl⟩ := hfS3.form
      have hz3 := hb3.size
      have hba : Below w3.heap.size w3 (w3.alloc (.cells #[.int .i64 xk, .int .i64 xc, .slice xa xn xp, .slice xb xm xq] 28)) := (Below.refl _ _).alloc (Nat.le_refl _) _
      have hb4 : Below w2.heap.size w2 (w3.alloc (.cells #[.int .i64 xk, .int .i64 xc, .slice xa xn xp, .slice xb xm xq] 28)) := hb3.trans (hba.mono hz3)
      have B4 := Lib.hid (T2.out.bel.trans (hb4.mono (Nat.le_of_lt l2)))
      have HN4 := Lib.hid (heap_alloc_new w3 (.cells #[.int .i64 xk, .int .i64 xc, .slice xa xn xp, .slice xb xm xq] 28))
      have HF4 := Lib.hid ((HF3.out.below hba).mono hba.size)
      clear hb3 hba hb4 hfS3 p0 p1 p2 p3 HF3
      obtain ⟨t0, t1, t2, t3⟩ := form_cells HN4.out
      have Z4 := lt_of_some HN4.out
      go_wp2_with fail
      clear t0 t1 t2 t3 l2
      generalize w3.alloc (.cells #[.int .i64 xk, .int .i64 xc, .slice xa xn xp, .slice xb xm xq] 28) = w4 at B4 HN4 HF4 Z4 ⊢
      generalize w3.heap.size = M3 at HN4 Z4 hz3 ⊢
      refine (hnc.out HL.out _ _ HF4.out).mono ?_
      rintro e w5 ⟨cs5, rfl, hfS5, hb5⟩
      have HF5 := Lib.hid (hfS5.lies (B := w5.heap.size) (fun b h => h.2))
      obtain ⟨yk, yc, ya, yn, yp, yb, ym, yq, rfl⟩ := hfS5.form
      have hz5 := hb5.size
      have hbb : Below w5.heap.size w5 (w5.alloc (.cells #[.int .i64 yk, .int .i64 yc, .slice ya yn yp, .slice yb ym yq] 28)) := (Below.refl _ _).alloc (Nat.le_refl _) _
      have hb6 : Below w4.heap.size w4 (w5.alloc (.cells #[.int .i64 yk, .int .i64 yc, .slice ya yn yp, .slice yb ym yq] 28)) := hb5.trans (hbb.mono hz5)
      have B6 := Lib.hid (B4.out.trans (hb6.mono B4.out.size))
      obtain ⟨t0, t1, t2, t3⟩ := form_cells ((hb6.block _ Z4).trans HN4.out)
      obtain ⟨v0, v1, v2, v3⟩ := form_cells (heap_alloc_new w5 (.cells #[.int .i64 yk, .int .i64 yc, .slice ya yn yp, .slice yb ym yq] 28))
      have HFN6 := Lib.hid ((HF4.out.below hb6).mono hb6.size)
      have HFM6 := Lib.hid ((HF5.out.below hbb).mono hbb.size)
      clear hb5 hbb hb6 hfS5 HF5 HF4 hz5
      rcases HX1.out with rfl | ⟨k1, rfl⟩
      · rcases HX2.out with ⟨hk2, rfl⟩ | ⟨k2, rfl⟩
        · obtain rfl := HEQ.out HL.out hk2
          have HS := Lib.hid (same2_any (n + 3 + 2) g2 _ _ _ HFN6.out.succ.succ HFM6.out)
          go_wp2_with fail
          refine HS.out.mono ?_
          rintro e w7 ⟨rfl, hb7⟩
          have B7 := Lib.hid (B6.out.trans (hb7.mono B6.out.size))
          clear hb7 t0 t1 t2 t3 v0 v1 v2 v3
          go_wp2_with fail
          go_ret
          exact ⟨rfl, B7.out⟩
        · clear t0 t1 t2 t3 v0 v1 v2 v3
          go_wp2_with fail
          go_ret
          exact ⟨rfl, B6.out⟩
      · clear t0 t1 t2 t3 v0 v1 v2 v3
        go_wp2_with fail
        go_ret
        exact ⟨rfl, B6.out⟩
end Go.Proofs.Ytknagcednppokaa

namespace Go.Proofs.Ytknagcednppokaa
open Go.ChangeShapes Go.WideShapes Go.ChangeAt Go.RowKit

set_option maxRecDepth 100000 in
theorem normTwice_lifted (hup : UpSaid3) (os : Os) (started : os.Started) (H : Type) (enc : TypeId × Value → H) :
    ReturnsInHanded {} Try.checked os 7 .any (Rows.normTwiceSpec.pre6 enc Try.prog Try.f7 Rows.normTwiceRow.domain false) (Rows.normTwiceSpec.post enc Try.prog Try.f7 false true false false) := by
  refine returnsInHanded_of_change (C := Try.checked) Try.own started (by kernel_rfl) Try.func7
    (ChangeSpec.witness6 (enc := enc) (C := Try.checked) false ⟨#[], #[.agg #[.int .i64 0, .int .i64 0, .slice none 0 0, .slice none 0 0]], []⟩ 8 (by kernel_rfl) (by kernel_rfl) (by kernel_rfl) (by kernel_rfl)) ?_
  intro W base args ds gs before hval0 hW hcnd _
  have hval : ∀ (j : Nat) t v, Try.f7.params[j]? = some t → args[j]? = some v → Value.okWide Try.prog W .any base t v := hval0
  have hW' := hW
  obtain ⟨p, q, hA0, hV, rfl, hfz, hnd⟩ := hW
  have hA : DataW.TrodAll enc Try.prog W 0 (fun _ => true) true Try.f7.params.toList args.toList ds p := hA0
  rw [Try.params7] at hA hval
  obtain ⟨v0, vs0, d0, ds0, p0, q0, hargs, rfl, rfl, h0, r0⟩ := trodAll_cons hA
  obtain ⟨rfl, rfl, rfl⟩ := trodAll_nil r0
  obtain rfl : args = #[v0] := by cases args; simp_all
  obtain ⟨rfl, rfl⟩ := trodVars_none hV
  have k0 := h0
  have lt0 : ∀ x ∈ p0, x.block < W.heap.size := by obtain ⟨m, hm⟩ := k0; exact DataW.trod_lt m _ _ _ hm
  obtain ⟨n, f, cs, rfl, hf0⟩ := open_form (hval 0 28 v0 rfl rfl) h0
  clear hA0 hval0
  refine (normTwice_any hup n f cs W hf0).mono fun e W' ⟨he, bel⟩ => ?_
  subst he
  exact ⟨_, rfl, _, _, _, [], _, [], hW', trodAll_mk1 (shut_bool Try.underlying4 _), (trodAll_cons_mk (Below.trod Try.laidOut (by kernel_rfl) (of_decide_eq_true (by kernel_rfl)) k0 bel lt0) trodAll_mk0), rfl, bel.frame _, fun h => by cases h⟩

theorem normTwice_over (hup : UpSaid3) : Rows.NormTwiceSaid :=
  OpenClaim.holds_of_wide 7 Try.f7 rfl rfl rfl rfl rfl rfl rfl ⟨rfl, rfl, rfl, rfl, rfl⟩ rfl rfl rfl rfl rfl (by kernel_rfl) Try.func7 (by kernel_rfl)
    (of_decide_eq_true (by kernel_rfl)) (by unfold Func.isWrapper; first | (rw [if_pos (by decide +kernel)]; kernel_rfl) | (rw [if_neg (by decide +kernel)]; exact ⟨rfl, rfl⟩))
    (fun os started H enc _ => normTwice_lifted hup os started H enc)
end Go.Proofs.Ytknagcednppokaa
