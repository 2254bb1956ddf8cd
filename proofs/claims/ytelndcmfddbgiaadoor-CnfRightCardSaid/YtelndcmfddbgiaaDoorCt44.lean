/- The value of what is normalized. The document's Is. The document's Value of a formula. CnfRight: what it stands on. CnfRight: its walk. -/
import Derived.Test.YtelndcmfddbgiaaDoorCt17
import Derived.Test.YtelndcmfddbgiaaDoorCt25
import Derived.Test.YtelndcmfddbgiaaDoorCt26
import Derived.Test.YtelndcmfddbgiaaDoorCt42
import Derived.Test.YtelndcmfddbgiaaDoorCt43
import Derived.Test.YtelndcmfddbgiaaDoorCtFd
import Derived.Test.YtelndcmfddbgiaaDoorCtFe
import Derived.Test.YtelndcmfddbgiaaDoorCtFf
set_option linter.unusedVariables false
set_option linter.unusedSimpArgs false
namespace Go.Proofs.YtelndcmfddbgiaaDoor
open Go.RowKit

theorem sAt_plus (c : Int) (l : List (Int × Int)) (zs : List Int) : ∀ k, sAt c l zs k = c + sAt 0 l zs k
  | 0 => by show c = c + 0; omega
  | k + 1 => by rw [sAt_eq, sAt_eq, sAt_plus c l zs k, Int.add_assoc]
theorem sAt_red {l : List (Int × Int)} {g : Int} {zs : List Int} (hg : 1 ≤ g) : ∀ k, k ≤ l.length → (∀ j, j < k → g ∣ (l.getD j (0, 0)).2) → sAt 0 (redL g l) zs k * g = sAt 0 l zs k
  | 0, _, _ => by show (0 : Int) * g = 0; omega
  | k + 1, hk, hd => by
    obtain ⟨q, hq⟩ := hd k (by omega)
    rw [sAt_eq, sAt_eq, redL_get g l k (by omega), Int.add_mul, sAt_red hg k (by omega) (fun j hj => hd j (by omega)), hq, Int.mul_tdiv_cancel_left q (by omega), Int.mul_assoc, Int.mul_comm q g]
theorem sAt_neg (l : List (Int × Int)) (zs : List Int) : ∀ k, k ≤ l.length → sAt 0 (scale (-1) l) zs k = - sAt 0 l zs k
  | 0, _ => rfl
  | k + 1, hk => by
    rw [sAt_eq, sAt_eq, sAt_neg l zs k (by omega), scale_get (-1) l k (by omega)]
    show -sAt 0 l zs k + valOf zs (l.getD k (0, 0)).1 * (-1 * (l.getD k (0, 0)).2) = _
    rw [Int.neg_mul, Int.one_mul, Int.mul_neg]
    omega
theorem upI_spec {c g : Int} (hg : 1 ≤ g) : (upI c g - 1) * g < c ∧ c ≤ upI c g * g := by
  have h := Int.mul_tdiv_add_tmod c g
  have h1 : (c.tmod g).natAbs = c.natAbs % g.natAbs := Int.natAbs_tmod c g
  have h2 := Nat.mod_lt c.natAbs (show 0 < g.natAbs by omega)
  have h3 := Int.mul_comm g (c.tdiv g)
  unfold upI
  generalize c.tdiv g = q at h h3 ⊢
  generalize c.tmod g = r at h h1 ⊢
  split
  · rw [Int.add_sub_cancel, Int.add_mul, Int.one_mul]
    omega
  · rw [Int.sub_mul, Int.one_mul]
    omega
theorem le_up {c g S : Int} (hg : 1 ≤ g) : c + S * g ≤ 0 ↔ upI c g + S ≤ 0 := by
  obtain ⟨h1, h2⟩ := upI_spec (c := c) hg
  generalize upI c g = u at h1 h2 ⊢
  constructor
  · intro h
    by_cases e : u + S ≤ 0
    · exact e
    · have h3 : (1 - u) * g ≤ S * g := Int.mul_le_mul_of_nonneg_right (by omega) (by omega)
      have h4 : (1 - u) * g = -((u - 1) * g) := by rw [← Int.neg_mul]; congr 1; omega
      omega
  · intro h
    have h3 : S * g ≤ (-u) * g := Int.mul_le_mul_of_nonneg_right (by omega) (by omega)
    rw [Int.neg_mul] at h3
    omega

theorem near_red {g : Int} {l : List (Int × Int)} {zs : List Int} {i : Nat} (h : i < l.length) : near (redL g l) zs i = near l zs i := by
  unfold near
  rw [redL_get g l i h]
theorem near_scale {x : Int} {l : List (Int × Int)} {zs : List Int} {i : Nat} (h : i < l.length) : near (scale x l) zs i = near l zs i := by
  unfold near
  rw [scale_get x l i h]
theorem vOf_le {N : Nat} {c : Int} {t : List (Int × Int)} {zs : List Int} (hn : ∀ i, i < t.length → near t zs i = true) : vOf zs (N + 1) (.mk 2 c t []) = (decide (sAt c t zs t.length ≤ 0), true) := by
  rw [vOf_2 (.inl rfl)]
  show (if ∀ i, i < t.length → near t zs i = true then _ else _) = _
  rw [if_pos hn]
  congr 1
  show (decide (sAt c t zs t.length = 0) || (decide (sAt c t zs t.length < 0) && decide ((2 : Int) = 2))) = _
  rw [Bool.eq_iff_iff]
  simp
  omega

theorem lit_val {N : Nat} {c : Int} {l : List (Int × Int)} {zs : List Int} (hk : litK c l = 0) (hn : ∀ i, i < l.length → near l zs i = true) : vOf zs (N + 2) (litT c l) = (decide (sAt c l zs l.length ≤ 0), true) := by
  have hs : snd c l = true := by
    by_cases hs : snd c l = true
    · exact hs
    · unfold litK at hk
      rw [if_neg hs] at hk
      cases hk
  unfold litT
  unfold litK at hk
  rw [if_pos hs] at hk ⊢
  by_cases h0 : l.length = 0
  · rw [if_pos h0, h0]
    show vOf zs (N + 2) (.mk (if c ≤ 0 then 0 else 1) 0 [] []) = (decide (c ≤ 0), true)
    by_cases hc : c ≤ 0
    · rw [if_pos hc, vOf_0 rfl, decide_eq_true hc]
    · rw [if_neg hc, vOf_1 rfl, decide_eq_false hc]
  · rw [if_neg h0] at hk ⊢
    have h0' : 0 < l.length := by omega
    have hg := gAt_one hs h0'
    have hS := sAt_red (zs := zs) hg l.length (Nat.le_refl _) (fun j hj => gAt_dvd l l.length j hj)
    have hup := le_up (c := c) (S := sAt 0 (redL (gAt l l.length) l) zs l.length) hg
    rw [hS, ← sAt_plus] at hup
    have hlen := redL_len (gAt l l.length) l
    by_cases hp : 0 < (l.getD 0 (0, 0)).2.tdiv (gAt l l.length)
    · rw [if_pos hp, vOf_le (fun i hi => by rw [near_red (by omega)]; exact hn i (by omega)), hlen, sAt_plus, decide_eq_decide.2 hup]
    · rw [if_neg hp] at hk ⊢
      by_cases hw : wi (1 - upI c (gAt l l.length)) 1073741824 = true
      · rw [if_pos hw, vOf_4 rfl]
        show (!(vOf zs (N + 1) (.mk 2 (1 - upI c (gAt l l.length)) (scale (-1) (redL (gAt l l.length) l)) [])).1, (vOf zs (N + 1) (.mk 2 (1 - upI c (gAt l l.length)) (scale (-1) (redL (gAt l l.length) l)) [])).2) = _
        rw [vOf_le (fun i hi => by rw [scale_len] at hi; rw [near_scale hi, near_red (by omega)]; exact hn i (by omega)), scale_len, sAt_plus, sAt_neg _ _ _ (Nat.le_refl _), hlen]
        congr 1
        rw [← decide_not, decide_eq_decide, hup]
        omega
      · rw [if_neg hw] at hk
        cases hk
theorem opp_val {f : FT} (h : Can f) (N : Nat) (zs : List Int) : vOf zs (N + 2) (oppF f) = (!(vOf zs (N + 2) f).1, (vOf zs (N + 2) f).2) := by
  cases h with
  | yes => show vOf zs (N + 2) (.mk 1 0 [] []) = _; rw [vOf_1 (f := .mk 1 0 [] []) rfl, vOf_0 (f := .mk 0 0 [] []) rfl]; rfl
  | no => show vOf zs (N + 2) (.mk 0 0 [] []) = _; rw [vOf_1 (f := .mk 1 0 [] []) rfl, vOf_0 (f := .mk 0 0 [] []) rfl]; rfl
  | @le c t h =>
    show vOf zs (N + 2) (.mk 4 0 [] [.mk 2 c t []]) = _
    rw [vOf_4 rfl]
    show (!(vOf zs (N + 1) (.mk 2 c t [])).1, (vOf zs (N + 1) (.mk 2 c t [])).2) = _
    rw [vOf_2 (.inl rfl), vOf_2 (.inl rfl)]
  | @not c t h =>
    show vOf zs (N + 2) (.mk 2 c t []) = _
    rw [vOf_4 (f := .mk 4 0 [] [.mk 2 c t []]) rfl]
    show _ = (!(!(vOf zs (N + 1) (.mk 2 c t [])).1), (vOf zs (N + 1) (.mk 2 c t [])).2)
    rw [vOf_2 (.inl rfl), vOf_2 (.inl rfl), Bool.not_not]
theorem litso_val {N : Nat} {c : Int} {l : List (Int × Int)} {zs : List Int} {so : Bool} (hk : litK c l = 0) (hn : ∀ i, i < l.length → near l zs i = true) :
    vOf zs (N + 2) (if so then litT c l else oppF (litT c l)) = (if so then decide (sAt c l zs l.length ≤ 0) else !decide (sAt c l zs l.length ≤ 0), true) := by
  cases so
  · show vOf zs (N + 2) (oppF (litT c l)) = _
    rw [opp_val (litT_can hk), lit_val hk hn]
    rfl
  · exact lit_val hk hn

theorem can_snd {f : FT} (h : Can f) (N : Nat) : sndF (N + 2) f = true := by
  have hle : ∀ {c : Int} {t : List (Int × Int)} (N : Nat), canF c t = true → sndF (N + 1) (.mk 2 c t []) = true := fun {c t} N h => by
    rw [sndF_yes (fun i hi => absurd hi (by simp [FT.ks]))]
    show ownV 2 c t.length 0 (snd c t) = true
    rw [(canF_iff.1 h).1]
    rfl
  cases h with
  | yes => rw [sndF_yes (fun i hi => absurd hi (by simp [FT.ks]))]; rfl
  | no => rw [sndF_yes (fun i hi => absurd hi (by simp [FT.ks]))]; rfl
  | le h => exact hle (N + 1) h
  | @not c t h =>
    rw [sndF_yes (fun i hi => by
      obtain rfl : i = 0 := by simpa [FT.ks] using hi
      exact hle N h)]
    rfl
theorem nF_snd : ∀ {n : Nat} {f : FT}, nF n f → sndF (n + 1) f = true
  | 0, _, h => h.elim
  | n + 1, f, h => by
    rcases h with h | ⟨h1, h2, h3, _, h5⟩
    · exact can_snd h n
    · rw [sndF_yes (fun i hi => nF_snd (h5 i hi))]
      unfold ownF
      rw [h2, h3]
      rcases h1 with e | e <;> rw [e] <;> rfl

theorem pair_and {N : Nat} {zs : List Int} {a b : FT} {x y : Bool} (ha : vOf zs N a = (x, true)) (hb : vOf zs N b = (y, true)) : vOf zs (N + 1) (.mk 5 0 [] [a, b]) = (x && y, true) := by
  rw [vOf_5 rfl]
  show vStep true (vStep true (true, true) (vOf zs N a)) (vOf zs N b) = _
  rw [ha, hb]
  cases x <;> cases y <;> rfl
theorem pair_or {N : Nat} {zs : List Int} {a b : FT} {x y : Bool} (ha : vOf zs N a = (x, true)) (hb : vOf zs N b = (y, true)) : vOf zs (N + 1) (.mk 6 0 [] [a, b]) = (x || y, true) := by
  rw [vOf_6 rfl]
  show vStep false (vStep false (false, true) (vOf zs N a)) (vOf zs N b) = _
  rw [ha, hb]
  cases x <;> cases y <;> rfl
theorem vTo_same {zs : List Int} {n N : Nat} {b so : Bool} {fs gs : List FT} : ∀ k, k ≤ fs.length → k ≤ gs.length → (∀ i, i < k → (vOf zs n (fs.getD i default)).2 = true ∧ vOf zs N (gs.getD i default) = (if so then (vOf zs n (fs.getD i default)).1 else !(vOf zs n (fs.getD i default)).1, true)) →
    vTo zs N (if so then b else !b) gs k = (if so then (vTo zs n b fs k).1 else !(vTo zs n b fs k).1, true)
  | 0, _, _, _ => by
    show ((if so then b else !b), true) = (if so then b else !b, true)
    rfl
  | k + 1, h1, h2, h => by
    rw [vTo_succ _ _ _ _ _ (by omega), vTo_succ _ _ _ _ _ (by omega), vTo_same k (by omega) (by omega) (fun i hi => h i (by omega)), (h k (by omega)).2]
    unfold vStep
    dsimp only
    generalize (vTo zs n b fs k).1 = p
    generalize (vOf zs n (fs.getD k default)).1 = q
    cases so <;> cases b <;> cases p <;> cases q <;> rfl

theorem normF_val {zs : List Int} : ∀ {n : Nat} {f : FT} {so : Bool} {g : FT}, sndF n f = true → normF n f so = some g → (vOf zs n f).2 = true → ∀ M, n ≤ M → vOf zs (M + 2) g = (if so then (vOf zs n f).1 else !(vOf zs n f).1, true)
  | 0, _, _, _, h, _, _ => by cases h
  | n + 1, f, so, g, hs, h, hv => by
    have hks := (snd_own hs).2
    intro M hM
    obtain ⟨M, rfl⟩ : ∃ K, M = K + 1 := ⟨M - 1, by omega⟩
    rcases normF_ways hs h with ⟨_, ⟨hk, rfl⟩ | ⟨hk, rfl⟩ | ⟨hk, hsn, hk0, rfl⟩⟩ | ⟨hk, hsn, hk0, hj0, rfl⟩ | ⟨hk4, hk1, h4⟩ | ⟨hk56, hg, hkk⟩
    · rw [vOf_0 hk]
      cases so
      · exact vOf_1 rfl
      · exact vOf_0 rfl
    · rw [vOf_1 hk]
      cases so
      · exact vOf_0 rfl
      · exact vOf_1 rfl
    · have hn : ∀ i, i < f.t.length → near f.t zs i = true := by
        rw [vOf_2 (.inl hk)] at hv
        split at hv
        · assumption
        · cases hv
      rw [litso_val hk0 hn, vOf_2 (.inl hk), if_pos hn, hk]
      have e : (decide (sAt f.c f.t zs f.t.length = 0) || (decide (sAt f.c f.t zs f.t.length < 0) && decide ((2 : Int) = 2))) = decide (sAt f.c f.t zs f.t.length ≤ 0) := by
        rw [Bool.eq_iff_iff]
        simp
        omega
      rw [e]
    · have hn : ∀ i, i < f.t.length → near f.t zs i = true := by
        rw [vOf_2 (.inr hk)] at hv
        split at hv
        · assumption
        · cases hv
      have hA := litso_val (N := M) (so := so) hk0 hn
      have hB := litso_val (N := M) (so := so) hj0 (fun i hi => by rw [scale_len] at hi; rw [near_scale hi]; exact hn i hi)
      rw [scale_len, sAt_plus, sAt_neg _ _ _ (Nat.le_refl _)] at hB
      rw [sAt_plus] at hA
      rw [vOf_2 (.inr hk), if_pos hn, hk, sAt_plus]
      generalize sAt 0 f.t zs f.t.length = S at hA hB ⊢
      have e : (decide (f.c + S = 0) || (decide (f.c + S < 0) && decide ((3 : Int) = 2))) = (decide (f.c + S ≤ 0) && decide (-f.c + -S ≤ 0)) := by
        rw [Bool.eq_iff_iff]
        simp
        omega
      rw [e]
      cases so
      · show vOf zs (M + 2 + 1) (.mk 6 0 [] [_, _]) = _
        rw [pair_or hA hB]
        show (!decide (f.c + S ≤ 0) || !decide (-f.c + -S ≤ 0), true) = (!(decide (f.c + S ≤ 0) && decide (-f.c + -S ≤ 0)), true)
        rw [Bool.not_and]
      · show vOf zs (M + 2 + 1) (.mk 5 0 [] [_, _]) = _
        rw [pair_and hA hB]
        rfl
    · rw [vOf_4 hk4] at hv ⊢
      have := normF_val (hks 0 (by omega)) h4 hv (M + 1) (by omega)
      rw [this]
      generalize (vOf zs n (f.ks.getD 0 default)).1 = q
      cases so <;> cases q <;> rfl
    · have hlen : g.ks.length = f.ks.length := by rw [hg]; exact kidsT_len n f so
      have hgk : g.kind = if so then f.kind else 11 - f.kind := by rw [hg]; rfl
      rcases hk56 with e | e
      · rw [vOf_5 e] at hv ⊢
        have hnr := (vTo_near f.ks.length (Nat.le_refl _)).1 hv
        have key := vTo_same (zs := zs) (n := n) (N := M + 2) (b := true) (so := so) (fs := f.ks) (gs := g.ks) f.ks.length (Nat.le_refl _) (by omega) (fun i hi => by
          obtain ⟨k, h1, h2⟩ := hkk i hi
          refine ⟨hnr i hi, ?_⟩
          rw [h2]
          exact normF_val (hks i hi) h1 (hnr i hi) M (by omega))
        rw [e] at hgk
        cases so
        · rw [vOf_6 (n := M + 2) (show g.kind = 6 from hgk), hlen]
          exact key
        · rw [vOf_5 (n := M + 2) (show g.kind = 5 from hgk), hlen]
          exact key
      · rw [vOf_6 e] at hv ⊢
        have hnr := (vTo_near f.ks.length (Nat.le_refl _)).1 hv
        have key := vTo_same (zs := zs) (n := n) (N := M + 2) (b := false) (so := so) (fs := f.ks) (gs := g.ks) f.ks.length (Nat.le_refl _) (by omega) (fun i hi => by
          obtain ⟨k, h1, h2⟩ := hkk i hi
          refine ⟨hnr i hi, ?_⟩
          rw [h2]
          exact normF_val (hks i hi) h1 (hnr i hi) M (by omega))
        rw [e] at hgk
        cases so
        · rw [vOf_5 (n := M + 2) (show g.kind = 5 from hgk), hlen]
          exact key
        · rw [vOf_6 (n := M + 2) (show g.kind = 6 from hgk), hlen]
          exact key
end Go.Proofs.YtelndcmfddbgiaaDoor

namespace Go.Proofs.YtelndcmfddbgiaaDoor
open Go.RowKit
theorem is_any : ∀ (n : Nat) (f : FT) (cs : List Value) (a2 : Option Addr) (n2 cap2 : Nat) (zs : List Int) (w : World), FLies w.heap.size w n f cs → sndF n f = true → (vOf zs n f).2 = true → zs.length = n2 → n2 ≤ 9223372036854775807 → Nums w.heap.size w a2 zs →
    Calls Tryd.prog 35 #[.agg cs.toArray, .slice a2 n2 cap2] w fun e w' => e = .returned (.bool (vOf zs n f).1) ∧ Below w.heap.size w w'
  | 0, _, _, _, _, _, _, _, h, _, _, _, _, _ => h.elim
  | n + 1, f, cs, a2, n2, cap2, zs, w, h, hs, hv, hn2, hm2, hz => by
    have IH := is_any n
    rcases ownF_kind (sndF_split hs).1 with hk | hk | hk | hk | hk | hk
    · exact is_0 n f cs a2 n2 cap2 zs w IH h hs hv hn2 hm2 hz hk
    · exact is_1 n f cs a2 n2 cap2 zs w IH h hs hv hn2 hm2 hz hk
    · rcases hk with hk | hk
      · exact is_2 n f cs a2 n2 cap2 zs w IH h hs hv hn2 hm2 hz hk
      · exact is_3 n f cs a2 n2 cap2 zs w IH h hs hv hn2 hm2 hz hk
    · exact is_4 n f cs a2 n2 cap2 zs w IH h hs hv hn2 hm2 hz hk
    · exact is_5 n f cs a2 n2 cap2 zs w IH h hs hv hn2 hm2 hz hk
    · exact is_6 n f cs a2 n2 cap2 zs w IH h hs hv hn2 hm2 hz hk
end Go.Proofs.YtelndcmfddbgiaaDoor

namespace Go.Proofs.YtelndcmfddbgiaaDoor
open Go.RowKit

set_option maxHeartbeats 1600000 in
theorem rfvalue_any (n : Nat) (f : FT) (cs : List Value) (a2 : Option Addr) (n2 cap2 : Nat) (zs : List Int) (w : World) (h : FLies w.heap.size w n f cs) (hn2 : zs.length = n2) (hm2 : n2 ≤ 9223372036854775807) (hz : Nums w.heap.size w a2 zs) :
    Calls Tryd.prog 15 #[.agg cs.toArray, .slice a2 n2 cap2] w fun e w' => e = .returned (.tuple #[.bool (fvN zs n f).1, .int .i64 (fvN zs n f).2]) ∧ Below w.heap.size w w' := by
  have FL := fun W (hb : Below w.heap.size w W) => (h.below hb).mono hb.size
  cases n with
  | zero => exact h.elim
  | succ n =>
    obtain ⟨ta, tcap, ka, kcap, rfl, _⟩ := h
    have hc := Lib.hid (fun W hb => rfcheck_any (n + 1) f _ W (FL W hb))
    have hfa := Lib.hid (fun (hc : cc (n + 1) f = 0) W (hb : Below w.heap.size w W) => far_any (n + 1) f _ a2 n2 cap2 zs W (FL W hb) (cc_snd hc) hn2 hm2 ((hz.below hb).mono hb.size))
    have his := Lib.hid (fun (hc : cc (n + 1) f = 0) (hv : (vOf zs (n + 1) f).2 = true) W (hb : Below w.heap.size w W) => is_any (n + 1) f _ a2 n2 cap2 zs W (FL W hb) (cc_snd hc) hv hn2 hm2 ((hz.below hb).mono hb.size))
    have hfn := Lib.hid (fun (hc : cc (n + 1) f = 0) => far_near zs (n + 1) f (cc_snd hc))
    have T0 := Lib.hid (box_start w f.kind f.c ta ka f.t.length tcap f.ks.length kcap)
    unfold fvN
    clear FL hz hn2
    generalize vOf zs (n + 1) f = p at his hfn
    generalize farF zs (n + 1) f = q at hfa hfn
    generalize cc (n + 1) f = k at hc hfa his hfn
    obtain ⟨o, u⟩ := p
    generalize f.kind = fk at T0 hc hfa his
    generalize f.c = fc at T0 hc hfa his
    generalize f.t.length = ft at T0 hc hfa his
    generalize f.ks.length = fl at T0 hc hfa his
    by_cases hk : k = 0
    · subst hk
      have hf0 := Lib.hid (hfa.out rfl)
      have hq := hfn.out rfl
      have hi0 := Lib.hid (his.out rfl)
      clear hfa hfn his
      rw [if_pos rfl]
      cases u with
      | true =>
        obtain rfl : q = false := hq
        have hi1 := Lib.hid (hi0.out rfl)
        clear hi0
        go_enter Tryd.func15, Tryd.ntmps15
        go_wp2_with fail
        refine (hc.out _ T0.out.bel).mono ?_
        rintro e w1 ⟨rfl, hb1⟩
        have T1 := Lib.hid (T0.out.below hb1 T0.out.lt)
        clear hb1
        obtain ⟨l1, p0, p1, p2, p3, _⟩ := T1.out
        go_wp2_with fail
        refine (hf0.out _ T1.out.bel).mono ?_
        rintro e w2 ⟨rfl, hb2⟩
        have T2 := Lib.hid (T1.out.below hb2 T1.out.lt)
        clear hb2 l1 p0 p1 p2 p3
        obtain ⟨l2, p0, p1, p2, p3, _⟩ := T2.out
        go_wp2_with fail
        refine (hi1.out _ T2.out.bel).mono ?_
        rintro e w3 ⟨rfl, hb3⟩
        have T3 := Lib.hid (T2.out.below hb3 T2.out.lt)
        clear hb3 l2 p0 p1 p2 p3
        go_wp2_with fail
        refine bodyPost_ret (v := .tuple #[.bool o, .int .i64 0]) ?_ rfl ⟨rfl, T3.out.bel⟩
        simp [results, Tryd.results15, go_sem]
      | false =>
        obtain rfl : q = true := hq
        clear hi0
        go_enter Tryd.func15, Tryd.ntmps15
        go_wp2_with fail
        refine (hc.out _ T0.out.bel).mono ?_
        rintro e w1 ⟨rfl, hb1⟩
        have T1 := Lib.hid (T0.out.below hb1 T0.out.lt)
        clear hb1
        obtain ⟨l1, p0, p1, p2, p3, _⟩ := T1.out
        go_wp2_with fail
        refine (hf0.out _ T1.out.bel).mono ?_
        rintro e w2 ⟨rfl, hb2⟩
        have T2 := Lib.hid (T1.out.below hb2 T1.out.lt)
        clear hb2 l1 p0 p1 p2 p3
        go_wp2_with fail
        refine bodyPost_ret (v := .tuple #[.bool false, .int .i64 1]) ?_ rfl ⟨rfl, T2.out.bel⟩
        simp [results, Tryd.results15, go_sem]
    · rw [if_neg hk]
      have hkk : (k == 0) = false := by simpa using hk
      clear hfa his hfn
      go_enter Tryd.func15, Tryd.ntmps15
      go_wp2_with fail
      refine (hc.out _ T0.out.bel).mono ?_
      rintro e w1 ⟨rfl, hb1⟩
      have T1 := Lib.hid (T0.out.below hb1 T0.out.lt)
      clear hb1
      go_wp2_with fail
      refine bodyPost_ret (v := .tuple #[.bool false, .int .i64 k]) ?_ rfl ⟨rfl, T1.out.bel⟩
      simp [results, Tryd.results15, go_sem]

theorem fvN_in (zs : List Int) (n : Nat) (f : FT) : 0 ≤ (fvN zs n f).2 ∧ (fvN zs n f).2 ≤ 16 := by
  unfold fvN
  have : 0 ≤ cc n f ∧ cc n f ≤ 16 := by
    unfold cc ccV
    split
    · decide
    · split
      · decide
      · split <;> decide
  split
  · split <;> simp
  · exact this
end Go.Proofs.YtelndcmfddbgiaaDoor

set_option linter.unusedVariables false
set_option linter.unusedSimpArgs false
namespace Go.Proofs.YtelndcmfddbgiaaDoor
set_option maxRecDepth 100000
open Go.RowKit

theorem norm_all (n : Nat) (f : FT) (cs : List Value) (w : World) (h : FLies w.heap.size w n f cs) :
    Calls Tryd.prog 14 #[.agg cs.toArray] w (Ans w.heap.size (n + 2) (nrmT n f) (codeV (nrmK n f)) w) := by
  by_cases h0 : cc n f = 0
  · obtain ⟨_, h2, h3⟩ := cc_sound h0
    exact norm_code n f cs w (lit_of h h3 h2) h
  · have C1 := fun W (hb : Below w.heap.size w W) => fcheck_any n f _ W ((h.below hb).mono hb.size)
    have hform : ∃ (k c : Int) (a : Option Addr) (m cap : Nat) (ka : Option Addr) (kn kcap : Nat), cs = [.int .i64 k, .int .i64 c, .slice a m cap, .slice ka kn kcap] := by
      cases n with
      | zero => exact h.elim
      | succ n =>
        obtain ⟨ta, tcap, ka, kcap, rfl, _⟩ := h
        exact ⟨_, _, _, _, _, _, _, _, rfl⟩
    obtain ⟨k, c, a, m, cap, ka, kn, kcap, rfl⟩ := hform
    unfold nrmT nrmK
    rw [if_neg h0, if_neg h0]
    have e : codeV (cc n f) = .iface 43 (.int .i64 (cc n f)) := by unfold codeV; rw [if_neg h0]
    rw [e] at C1 ⊢
    exact (nnorm_bad k c _ a ka m cap kn kcap w C1).mono fun _ _ h => h.up (by omega)
/-- What the formula's value has to do with that of its variables. -/
theorem right_val {zs : List Int} {n : Nat} {f : FT} (hk : nrmK (n + 1) f = 0) (hv : (fvN zs (n + 1) f).2 = 0) (hm : madeF (n + 3) (nrmT (n + 1) f) = true) : (tF zs (n + 3) (nrmT (n + 1) f)).2 = (fvN zs (n + 1) f).1 := by
  obtain ⟨hc, g, hg, e⟩ := nrmK_ok hk
  have hs := (cc_sound hc).2.2
  have hv2 : (vOf zs (n + 1) f).2 = true ∧ (fvN zs (n + 1) f).1 = (vOf zs (n + 1) f).1 := by
    unfold fvN at hv ⊢
    rw [if_pos hc] at hv ⊢
    split at hv
    · rename_i h
      exact ⟨h, by rw [if_pos h]⟩
    · cases hv
  have hval := normF_val hs hg hv2.1 (n + 1) (Nat.le_refl _)
  rw [e] at hm ⊢
  rw [tF_val zs (n + 3) g hm (by rw [show vOf zs (n + 3) g = _ from hval]), hv2.2, show vOf zs (n + 3) g = _ from hval]
  rfl
/-- The clauses but the last one; the last one. -/
theorem CRow.parts {K : Nat} {S : Nat → Prop} {cl : List (List Int)} {x : List Int} {v : Value} {w : World} (h : CRow K S (cl ++ [x]) v w) : ∃ g cap, v = .slice (some ⟨g, 0, none⟩) (cl.length + 1) cap ∧ cl.length + 1 ≤ cap ∧ Prp.CLies w.heap.size w (some ⟨g, 0, none⟩) cl ∧ Prp.CLies w.heap.size w (some ⟨g, cl.length, none⟩) [x] := by
  obtain ⟨a, cap, e⟩ := h.form
  have hlen : (cl ++ [x]).length = cl.length + 1 := by rw [List.length_append]; rfl
  obtain ⟨g, cs, ea, eb, _⟩ := h.at' e (i := 0) (by rw [hlen]; omega)
  subst ea
  have hcap : cl.length + 1 ≤ cap := by
    obtain ⟨css, h1, ⟨_, ⟨e2, _⟩ | ⟨g', cap', cur, e2, h3, h4, h5⟩⟩, _⟩ := h.row
    · rw [e2] at e; cases e
    · rw [e2] at e
      injection e with e3 e4 e5
      rw [← hlen, ← e5]
      exact h5.1
  rw [hlen] at e
  have hnum : ∀ {S : Nat → Prop} {ta : Option Addr} {ys : List Int}, (∀ b, S b → b < w.heap.size) → Pak.Sits Pak.intSh S w ta ys → Prp.Nums w.heap.size w ta ys := fun hS hs => nums_of hs hS
  have key : ∀ i (hi : i < (cl ++ [x]).length), g < w.heap.size ∧ ∃ ta tcap, w.cell? ⟨g, i, none⟩ = some (.slice ta (cl ++ [x])[i].length tcap) ∧ Prp.Nums w.heap.size w ta (cl ++ [x])[i] := fun i hi => by
    obtain ⟨g2, cs2, e1, e2, e3, u, rfl, ta, tcap, rfl, hl, hs⟩ := h.at' e hi
    have e4 : g2 = g := by injection e1 with e1; injection e1 with e1; exact e1.symm
    subst e4
    have c0 := e3 0 _ rfl
    rw [show Pak.clauseSh.k = 1 from rfl, Nat.mul_one, Nat.add_zero, Nat.zero_add] at c0
    exact ⟨(h.lt g2 e2).2, ta, tcap, c0, nums_of ⟨hl, hs⟩ (fun b hb => (h.ok b hb).1)⟩
  refine ⟨g, cap, e, hcap, fun i hi => ?_, fun i hi => ?_⟩
  · obtain ⟨k1, ta, tcap, k2, k3⟩ := key i (by rw [hlen]; omega)
    rw [List.getElem_append_left hi] at k2 k3
    rw [List.getD_eq_getElem?_getD, List.getElem?_eq_getElem hi, Option.getD_some]
    exact ⟨g, 0, ta, tcap, rfl, k1, by rw [Nat.zero_add]; exact k2, k3⟩
  · have hi0 : i = 0 := by simp at hi; exact hi
    subst hi0
    obtain ⟨k1, ta, tcap, k2, k3⟩ := key cl.length (by rw [hlen]; omega)
    rw [List.getElem_concat_length rfl] at k2 k3
    exact ⟨g, cl.length, ta, tcap, rfl, k1, k2, k3⟩
end Go.Proofs.YtelndcmfddbgiaaDoor

set_option linter.unusedVariables false
set_option linter.unusedSimpArgs false
namespace Go.Proofs.YtelndcmfddbgiaaDoor
set_option maxRecDepth 100000
open Go.RowKit

theorem codeV_ways (x : Int) : (x = 0 ∧ codeV x = .nilIface) ∨ (x ≠ 0 ∧ ∃ k : Int, codeV x = .iface 43 (.int .i64 k)) := by
  unfold codeV
  by_cases h : x = 0
  · exact .inl ⟨h, by rw [if_pos h]⟩
  · exact .inr ⟨h, x, by rw [if_neg h]⟩
/-- Values of the clauses but the last one; of the last one. -/
theorem pv1 (cl : List (List Int)) (x : List Int) (vs : List Bool) (g0 m cap nv c8 : Nat) (a8 : Option Addr) (w : World) (hm : m = cl.length) (hm6 : m ≤ 60000) (hq : ∀ c ∈ cl ++ [x], c.length ≤ 60000) (hv : vs.length = nv) (hn : nv ≤ 60000) (hb : Prp.Bools w.heap.size w a8 vs) (hl : Prp.CLies w.heap.size w (some ⟨g0, 0, none⟩) cl) (hr : Prp.valB cl vs = true) :
    Calls Tryd.prog 17 #[.slice (some ⟨g0, 0, none⟩) m cap, .slice a8 nv c8] w fun e w' => e = .returned (.bool true) ∧ Below w.heap.size w w' := by
  have := Prp.pvalue_any (some ⟨g0, 0, none⟩) m cap cl a8 nv c8 vs w hm.symm (by omega) hl (fun j hj => by
    have hj' : j < cl.length := by omega
    rw [List.getD_eq_getElem?_getD, List.getElem?_eq_getElem hj', Option.getD_some]
    have := hq _ (List.mem_append_left _ (List.getElem_mem hj'))
    omega) hv (by omega) hb
  rwa [hr] at this
theorem pv2 (x : List Int) (is : Bool) (vs : List Bool) (g0 m cap nv c8 : Nat) (a8 : Option Addr) (w : World) (hx : x.length = 1) (hv : vs.length = nv) (hn : nv ≤ 60000) (hb : Prp.Bools w.heap.size w a8 vs) (hl : Prp.CLies w.heap.size w (some ⟨g0, m, none⟩) [x]) (hr : Prp.valB [x] vs = is) :
    Calls Tryd.prog 17 #[.slice (some ⟨g0, m, none⟩) 1 cap, .slice a8 nv c8] w fun e w' => e = .returned (.bool is) ∧ Below w.heap.size w w' := by
  have := Prp.pvalue_any (some ⟨g0, m, none⟩) 1 cap [x] a8 nv c8 vs w rfl (by omega) hl (fun j hj => by
    obtain rfl : j = 0 := by omega
    rw [show ([x] : List (List Int)).getD 0 [] = x from rfl, hx]
    omega) hv (by omega) hb
  rwa [hr] at this
theorem nums_up {B : Nat} {w : World} {a : Option Addr} {xs : List Int} (h : Nums B w a xs) : Prp.Nums B w a xs := h
set_option maxHeartbeats 16000000 in
theorem cnfRight_any (hup : UpSaid9) (n : Nat) (f : FT) (cs : List Value) (a2 : Option Addr) (n2 cap2 : Nat) (zs : List Int) (w : World) (h : FLies w.heap.size w n f cs) (hn2 : zs.length = n2) (hm2 : n2 ≤ 9223372036854775807) (hz : Nums w.heap.size w a2 zs) (ht : Tens w.heap.size w) :
    Calls Tryd.prog 5 #[.agg cs.toArray, .slice a2 n2 cap2] w fun e w' => e = .returned (.bool true) ∧ Below w.heap.size w w' := by
  obtain ⟨n, rfl⟩ : ∃ m, n = m + 1 := by
    cases n with
    | zero => exact h.elim
    | succ n => exact ⟨n, rfl⟩
  have hh := h
  obtain ⟨ta, tcap, ka, kcap, rfl, _⟩ := h
  have T0 := Lib.hid (box_start w f.kind f.c ta ka f.t.length tcap f.ks.length kcap)
  have FL := Lib.hid (fun W (hb : Below w.heap.size w W) => (hh.below hb).mono hb.size)
  have HUP := Lib.hid (fun W (hb : Below w.heap.size w W) => hup W (ht.up hb hb.size))
  have HSM := Lib.hid (fun W (hb : Below w.heap.size w W) => small_any (n + 1) f _ W (FL.out W hb))
  have HNO := Lib.hid (fun W (hb : Below w.heap.size w W) => norm_all (n + 1) f _ W (FL.out W hb))
  have HFV := Lib.hid (fun W (hb : Below w.heap.size w W) => rfvalue_any (n + 1) f _ a2 n2 cap2 zs W (FL.out W hb) hn2 hm2 ((hz.below hb).mono hb.size))
  have HMK := Lib.hid (fun cs W (hb : Below w.heap.size w W) hf => make_any (n + 3) (nrmT (n + 1) f) cs W hf (ht.up hb hb.size))
  have HVA := Lib.hid (fun cs aa an ac W (hb : Below w.heap.size w W) hf hm hs ha han hal hsn => values_any a2 n2 cap2 zs hn2 hm2 (n + 3) (nrmT (n + 1) f) cs aa an ac (atomsF (n + 3) (nrmT (n + 1) f)) W hf hm hs ((hz.below hb).mono hb.size) ha han hal hsn)
  have HRV := Lib.hid (fun hk hv hm => right_val (zs := zs) (n := n) (f := f) hk hv hm)
  have n0 := fun W => Tryd.neNil W
  have n3 : ∀ (k : Int) (W : World), (binOp .neq 35 (.iface 43 (.int .i64 k)) .nilIface).run Tryd.prog W = .ok (.bool true) W := fun k W => by simp [go_sem]
  clear hup ht FL hh hz hn2
  generalize f.kind = fk at *
  generalize f.c = fc at *
  generalize f.t.length = ft at *
  generalize f.ks.length = fl at *
  go_enter Tryd.func5, Tryd.ntmps5
  go_wp2_with fail
  refine (HUP.out _ T0.out.bel).mono ?_
  rintro e w1 ⟨rfl, hb1⟩
  have T1 := Lib.hid (T0.out.below hb1 T0.out.lt)
  clear hb1 HUP
  obtain ⟨l1, p0, p1, p2, p3, _⟩ := T1.out
  go_wp2_with fail
  refine (HSM.out _ T1.out.bel).mono ?_
  rintro e w2 ⟨b, rfl, hb2⟩
  have T2 := Lib.hid (T1.out.below hb2 T1.out.lt)
  clear hb2 HSM l1 p0 p1 p2 p3
  obtain ⟨l2, p0, p1, p2, p3, _⟩ := T2.out
  have HN2 := Lib.hid (HNO.out _ T2.out.bel)
  clear HNO
  go_wp2_with fail
  refine HN2.out.mono ?_
  rintro e w3 ⟨cs3, rfl, hf3, hb3⟩
  obtain ⟨k3, c3, ta3, tn3, tcap3, ka3, kn3, kcap3, rfl⟩ := hf3.form
  have hfl3 : FLies w3.heap.size w3 (n + 3) (nrmT (n + 1) f) _ := hf3.lies (fun b hb => hb.2)
  have T3 := Lib.hid (T2.out.below hb3 T2.out.lt)
  have hA3 : Below w3.heap.size w3 (w3.alloc (.cells #[.int .i64 k3, .int .i64 c3, .slice ta3 tn3 tcap3, .slice ka3 kn3 kcap3] 27)) := (Below.refl _ _).alloc (Nat.le_refl _) _
  have HO := Lib.hid (box_start w3 k3 c3 ta3 ka3 tn3 tcap3 kn3 kcap3)
  have T4 := Lib.hid (T3.out.below hA3 T3.out.lt)
  have HF4 := Lib.hid ((hfl3.below hA3).mono hA3.size)
  have HMK4 := HMK
  clear hf3 hfl3 hb3 hA3 HN2 p0 p1 p2 p3 l2
  have hbool : b = false ∨ b = true := by cases b <;> simp
  rcases codeV_ways (nrmK (n + 1) f) with ⟨hk0, hkv⟩ | ⟨hk0, k, hkv⟩
  · have HK0 := Lib.hid hk0
    rw [hkv]
    clear hk0 hkv
    rcases hbool with rfl | rfl
    · clear HMK HMK4 HVA HRV HFV HF4
      obtain ⟨_, s0, s1, s2, s3, _⟩ := T4.out
      go_wp2_with fail
      go_ret
      exact ⟨rfl, T4.out.bel⟩
    · obtain ⟨_, s0, s1, s2, s3, _⟩ := T4.out
      go_wp2_with fail
      clear s0 s1 s2 s3
      generalize w3.alloc (.cells #[.int .i64 k3, .int .i64 c3, .slice ta3 tn3 tcap3, .slice ka3 kn3 kcap3] 27) = W4 at *
      refine (HFV.out _ T4.out.bel).mono ?_
      rintro e w5 ⟨rfl, hb5⟩
      have T5 := Lib.hid (T4.out.below hb5 T4.out.lt)
      have O5 := Lib.hid (HO.out.below hb5 HO.out.lt)
      have HF5 := Lib.hid ((HF4.out.below hb5).mono hb5.size)
      have HM5 := Lib.hid (HMK.out _ _ T5.out.bel HF5.out)
      obtain ⟨_, r0, r1, r2, r3, _⟩ := O5.out
      have HRV2 := Lib.hid (fun hv hm => HRV.out HK0.out hv hm)
      clear hb5 HMK HMK4 HFV HF4 T4 HO HRV HK0
      generalize (fvN zs (n + 1) f).2 = bad at *
      generalize (fvN zs (n + 1) f).1 = is at *
      go_wp2_with fail
      clear r0 r1 r2 r3
      generalize hgg : nrmT (n + 1) f = g at *
      clear hgg
      refine HM5.out.mono ?_
      intro e w6 hE
      obtain ⟨hbad, hok, hb6⟩ := hE
      have T6 := Lib.hid (T5.out.below hb6 T5.out.lt)
      have O6 := Lib.hid (O5.out.below hb6 O5.out.lt)
      by_cases hc : cnfK (n + 3) g = 0
      · obtain ⟨av, cv, rfl, K, Sa, Sc, k1, k2, k3, k4, k5, k6, k7, k8⟩ := hok hc
        have hi := cnfK_made hc
        have hmd := ret_made hi
        obtain ⟨q1, q2, q3, q4⟩ := cls_len hi
        obtain ⟨R1, R2, R3⟩ := cnf_right zs (n + 3) g hmd
        obtain ⟨g0, cap, rfl, hcap0, P1, P2⟩ := CRow.parts (cl := (makF (n + 3) g).cl) (x := [(makF (n + 3) g).lit]) k6
        obtain ⟨aa, ac, ca, cc, rfl, hcv, hla, _⟩ := CnfOk.lies (n := n + 3) (f := g) (B := w5.heap.size) (w := w6) (av := av) (cv := .slice (some ⟨g0, 0, none⟩) ((makF (n + 3) g).cl.length + 1) cap) ⟨K, Sa, Sc, k1, k2, k3, k4, k5, k6, k7, k8⟩ hi
        clear hcv k1 k2 k3 k4 k5 k6 k7 k8 hbad hok
        obtain ⟨N, hN⟩ : ∃ N, N = (makF (n + 3) g).n := ⟨_, rfl⟩
        obtain ⟨an, han⟩ : ∃ an, an = (atomsF (n + 3) g).length := ⟨_, rfl⟩
        obtain ⟨m, hm⟩ : ∃ m, m = (makF (n + 3) g).cl.length := ⟨_, rfl⟩
        rw [← hN, ← han, ← hm]
        have hA6 : Below w6.heap.size w6 (w6.alloc (.cells #[.int .i64 N, .slice aa an ac, .slice (some ⟨g0, 0, none⟩) (m + 1) cap] 33)) := (Below.refl _ _).alloc (Nat.le_refl _) _
        obtain ⟨y0, y1, y2⟩ := tree_cells w6 (.int .i64 N) (.slice aa an ac) (.slice (some ⟨g0, 0, none⟩) (m + 1) cap)
        have hb7 := hb6.trans (hA6.mono hb6.size)
        have T7 := Lib.hid (T5.out.below hb7 T5.out.lt)
        have O7 := Lib.hid (O5.out.below hb7 O5.out.lt)
        have HF7 := Lib.hid ((HF5.out.below hb7).mono hb7.size)
        have hsg : siz (n + 3) g ≤ 100000 := by omega
        have HV7 := Lib.hid (HVA.out _ aa an ac _ T7.out.bel HF7.out hmd hsg ((hla.below hA6).mono hA6.size) han.symm (by omega) (gat_sound (n + 3) g [] hmd (fun x hx => by cases hx)))
        have HP1 := Lib.hid ((P1.below hA6).mono hA6.size)
        have HP2 := Lib.hid ((P2.below hA6).mono hA6.size)
        have HR := Lib.hid (And.intro R1 (And.intro R2 R3))
        have HNN := Lib.hid hN
        have HMM := Lib.hid hm
        have HIS := Lib.hid (fun hv => HRV2.out hv hmd)
        have HQ : Hid (∀ c ∈ (makF (n + 3) g).cl ++ [[(makF (n + 3) g).lit]], c.length ≤ 60000) := q4
        have HN6 : Hid (N ≤ 60000) := by rw [hN]; exact q2
        have hm3 : m ≤ 60000 := by
          have := q3
          unfold clsF at this
          rw [List.length_append, ← hm] at this
          omega
        have hcap : m + 1 ≤ cap := by rw [hm]; exact hcap0
        have hz6 : w6.heap.size < (w6.alloc (.cells #[.int .i64 N, .slice aa an ac, .slice (some ⟨g0, 0, none⟩) (m + 1) cap] 33)).heap.size := by simp
        have HZ6 := Lib.hid hz6
        have HY := Lib.hid (And.intro y0 y2)
        obtain ⟨_, r0, r1, r2, r3, _⟩ := O7.out
        clear q1 q2 q3 q4 R1 R2 R3 P1 P2 hla hA6 hb7 hb6 hmd hi hN han hm hc hcap0 hsg HM5 T6 O6 T5 O5 HF5 HVA HRV2 hz6
        by_cases hv : bad = 0
        · subst hv
          have HE0 := Lib.hid (HIS.out rfl)
          clear HIS
          go_wp2_with fail
          clear r0 r1 r2 r3
          generalize w6.alloc (.cells #[.int .i64 N, .slice aa an ac, .slice (some ⟨g0, 0, none⟩) (m + 1) cap] 33) = W7 at *
          refine HV7.out.mono ?_
          rintro e w8 ⟨a8, nv, c8, rfl, hnv, hbo, hb8⟩
          have hnN : nv = N := by
            rw [hnv, HNN.out]
            exact HR.out.1
          obtain ⟨a8', c8', e8, hB8⟩ := hbo.bools
          have e8' := e8
          injection e8' with e81 e82 e83
          subst e81
          have hlN : (valsF zs (n + 3) g).length = N := by rw [HNN.out]; exact HR.out.1
          have HB8 := Lib.hid hB8
          have HLN := Lib.hid hlN
          clear e8 e82 e83 hbo hB8 hlN hnv HV7
          subst hnN
          have z0 := (hb8.cell (p := ⟨w6.heap.size, 0, none⟩) HZ6.out).trans HY.out.1
          have z2 := (hb8.cell (p := ⟨w6.heap.size, 2, none⟩) HZ6.out).trans HY.out.2
          have T8 := Lib.hid (T7.out.below hb8 T7.out.lt)
          have hlt8 := Lib.hid (show w6.heap.size < w8.heap.size from Nat.lt_of_lt_of_le HZ6.out hb8.size)
          have hB8' : Prp.Bools w8.heap.size w8 a8 (valsF zs (n + 3) g) := HB8.out
          have HPA := Lib.hid (pv1 (makF (n + 3) g).cl [(makF (n + 3) g).lit] (valsF zs (n + 3) g) g0 m cap nv c8 a8 w8 HMM.out hm3 HQ.out HLN.out HN6.out hB8' ((HP1.out.below hb8).mono hb8.size) HR.out.2.1)
          have hP9 : Prp.CLies W7.heap.size W7 (some ⟨g0, m, none⟩) [[(makF (n + 3) g).lit]] := by
            rw [HMM.out]
            exact HP2.out
          have HP9 := Lib.hid ((hP9.below hb8).mono hb8.size)
          have HPC := Lib.hid (fun c W (hb : Below w8.heap.size w8 W) => pv2 [(makF (n + 3) g).lit] is (valsF zs (n + 3) g) g0 m c nv c8 a8 W rfl HLN.out HN6.out ((hB8'.below hb).mono hb.size) ((HP9.out.below hb).mono hb.size) (HR.out.2.2.trans HE0.out))
          clear HP1 HP2 HP9 hP9 HY HZ6 HB8 hB8' HMM HQ HLN HN6 HR HE0 HNN hb8 HF7
          have f1 : IntKind.i64.wrap (m : Int) = (m : Int) := IntWalk.i64_in _ (by omega)
          have f3 : (m : Int) ≤ (cap : Int) := by omega
          have f4 : (m : Int) + 1 ≤ (cap : Int) := by omega
          have f5 : (m : Int) ≤ (m : Int) + 1 := by omega
          clear hm3 hcap
          go_wp2_with fail
          refine HPA.out.mono ?_
          rintro e w9 ⟨rfl, hb9⟩
          have T9 := Lib.hid (T8.out.below hb9 T8.out.lt)
          have z2' := (hb9.cell (p := ⟨w6.heap.size, 2, none⟩) hlt8.out).trans z2
          have HPD := Lib.hid (fun c => HPC.out c _ hb9)
          clear HPA HPC hb9
          go_wp2_with fail
          refine (HPD.out _).mono ?_
          rintro e w10 ⟨rfl, hb10⟩
          have T10 := Lib.hid (T9.out.below hb10 T9.out.lt)
          have h0 : (is == is) = true := by simp
          clear HPD
          go_wp2_with fail
          go_ret
          exact ⟨rfl, T10.out.bel⟩
        · have hne : (bad != 0) = true := by simp [hv]
          clear hv HV7 HP1 HP2 HR HIS
          go_wp2_with fail
          go_ret
          exact ⟨rfl, T7.out.bel⟩
      · have e3 := hbad hc
        subst e3
        have hA6 : Below w6.heap.size w6 (w6.alloc (.cells #[.int .i64 0, .slice none 0 0, .slice none 0 0] 33)) := (Below.refl _ _).alloc (Nat.le_refl _) _
        have HE := Lib.hid (T6.out.bel.trans (hA6.mono T6.out.bel.size))
        clear hbad hok hb6 hA6 HM5 HVA HRV2 hc
        go_wp2_with fail
        go_ret
        exact ⟨rfl, HE.out⟩
  · rw [hkv]
    clear hk0 hkv HMK HMK4 HVA HRV HFV HF4
    obtain ⟨_, s0, s1, s2, s3, _⟩ := T4.out
    rcases hbool with rfl | rfl
    all_goals
      go_wp2_with fail
      go_ret
      exact ⟨rfl, T4.out.bel⟩
end Go.Proofs.YtelndcmfddbgiaaDoor
