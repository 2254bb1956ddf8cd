/- norm.Norm, and the document's. The walk of NormForms. What is normalized: its literals are canonical; normalized again it is itself; how deep and how long it is. How deep and how long what is normalized is. -/
import Derived.Test.YtelndcmfddbgiaaDoorCt17
import Derived.Test.YtelndcmfddbgiaaDoorCt35
import Derived.Test.YtelndcmfddbgiaaDoorCt41
import Derived.Test.YtelndcmfddbgiaaDoorCt42
set_option linter.unusedVariables false
set_option linter.unusedSimpArgs false
namespace Go.Proofs.YtelndcmfddbgiaaDoor
open Go.RowKit

/-- What normalizing a formula makes, and what is amiss. -/
def nrmT (n : Nat) (f : FT) : FT := if cc n f = 0 then (normF n f true).getD (.mk 0 0 [] []) else .mk 0 0 [] []
def nrmK (n : Nat) (f : FT) : Int := if cc n f = 0 then (if (normF n f true).isSome = true then 0 else 3) else cc n f
theorem cc_in (n : Nat) (f : FT) : 0 ≤ cc n f ∧ cc n f ≤ 16 := by
  unfold cc ccV
  split
  · omega
  · split
    · omega
    · split <;> omega
theorem cc_sound {n : Nat} {f : FT} (h : cc n f = 0) : dep n f ≤ 64 ∧ siz n f ≤ 4096 ∧ sndF n f = true := by
  unfold cc ccV at h
  split at h
  · omega
  · split at h
    · omega
    · split at h
      · exact ⟨by omega, by omega, by assumption⟩
      · omega
theorem nrmK_in (n : Nat) (f : FT) : 0 ≤ nrmK n f ∧ nrmK n f ≤ 16 := by
  unfold nrmK
  split
  · split <;> omega
  · exact cc_in n f

set_option maxRecDepth 100000 in
set_option maxHeartbeats 2000000 in
theorem nnorm_bad (k c K : Int) (a ka : Option Addr) (n cap kn kcap : Nat) (w : World)
    (HC : ∀ W, Below w.heap.size w W → Calls Tryd.prog 31 #[.agg #[.int .i64 k, .int .i64 c, .slice a n cap, .slice ka kn kcap]] W fun e w' => e = .returned (.iface 43 (.int .i64 K)) ∧ Below W.heap.size W w') :
    Calls Tryd.prog 14 #[.agg #[.int .i64 k, .int .i64 c, .slice a n cap, .slice ka kn kcap]] w (Ans w.heap.size 2 (.mk 0 0 [] []) (.iface 43 (.int .i64 K)) w) := by
  have HCH := Lib.hid HC
  clear HC
  have n3 := fun W => Tryd.neCode K W
  have SZ : Hid (w.heap.size + 2 = ((w.alloc (.cells #[.int .i64 k, .int .i64 c, .slice a n cap, .slice ka kn kcap] 27)).alloc (.cells #[.int .i64 0, .int .i64 0, .slice none 0 0, .slice none 0 0] 27)).heap.size) := by show _ = _; simp
  have ST := Lib.hid (args_start w k c a ka n cap kn kcap)
  obtain ⟨-, p0, p1, p2, p3, -⟩ := ST.out.1
  generalize hW : (w.alloc (.cells #[.int .i64 k, .int .i64 c, .slice a n cap, .slice ka kn kcap] 27)).alloc (.cells #[.int .i64 0, .int .i64 0, .slice none 0 0, .slice none 0 0] 27) = W0 at ST SZ p0 p1 p2 p3
  go_enter Tryd.func14, Tryd.ntmps14
  go_wp2_with fail
  clear hW
  refine (HCH.out _ ST.out.1.bel).mono ?_
  rintro e w3 ⟨rfl, hb3⟩
  have hz3 := hb3.size
  have hz := SZ.out
  have B3 := Lib.hid (ST.out.1.bel.trans (hb3.mono (by omega)))
  have F3 := Lib.hid (ST.out.2.below hb3 (by omega))
  have X3 := Lib.hid (ST.out.1.below hb3 (by omega))
  have Z3 : w.heap.size + 2 ≤ w3.heap.size := by omega
  clear hb3 hz3 hz p0 p1 p2 p3
  have RT := Lib.hid (ret_set (m := 2) (f := .mk 0 0 [] []) (S := fun _ => False) F3.out B3.out flies_flat (fun b h => h.elim))
  obtain ⟨r0, r1, r2, r3, rf⟩ := F3.out
  go_wp2_with fail
  clear r0 r1 r2 r3 rf
  refine bodyPost_ret (v := .tuple #[.agg #[.int .i64 0, .int .i64 0, .slice none 0 0, .slice none 0 0], .iface 43 (.int .i64 K)]) ?_ rfl ⟨_, rfl, RT.out.lies, RT.out.bel⟩
  obtain ⟨_, _, e0, e1, e2, e3⟩ := RT.out
  simp [results, Tryd.results14, go_sem, e0, e1, e2, e3]

set_option maxRecDepth 100000 in
set_option maxHeartbeats 2000000 in
theorem nnorm_ok (k c : Int) (a ka : Option Addr) (n cap kn kcap : Nat) (m : Nat) (g : FT) (X : Value) (w : World)
    (HC : ∀ W, Below w.heap.size w W → Calls Tryd.prog 31 #[.agg #[.int .i64 k, .int .i64 c, .slice a n cap, .slice ka kn kcap]] W fun e w' => e = .returned .nilIface ∧ Below W.heap.size W w')
    (HN : ∀ W, Below w.heap.size w W → Calls Tryd.prog 32 #[.agg #[.int .i64 k, .int .i64 c, .slice a n cap, .slice ka kn kcap], .bool true] W (Ans W.heap.size m g X W)) :
    Calls Tryd.prog 14 #[.agg #[.int .i64 k, .int .i64 c, .slice a n cap, .slice ka kn kcap]] w (Ans w.heap.size m g X w) := by
  have HCH := Lib.hid HC
  have HNH := Lib.hid HN
  clear HC HN
  have n0 := fun W => Tryd.neNil W
  have SZ : Hid (w.heap.size + 2 = ((w.alloc (.cells #[.int .i64 k, .int .i64 c, .slice a n cap, .slice ka kn kcap] 27)).alloc (.cells #[.int .i64 0, .int .i64 0, .slice none 0 0, .slice none 0 0] 27)).heap.size) := by show _ = _; simp
  have ST := Lib.hid (args_start w k c a ka n cap kn kcap)
  obtain ⟨-, p0, p1, p2, p3, -⟩ := ST.out.1
  generalize hW : (w.alloc (.cells #[.int .i64 k, .int .i64 c, .slice a n cap, .slice ka kn kcap] 27)).alloc (.cells #[.int .i64 0, .int .i64 0, .slice none 0 0, .slice none 0 0] 27) = W0 at ST SZ p0 p1 p2 p3
  go_enter Tryd.func14, Tryd.ntmps14
  go_wp2_with fail
  clear hW
  refine (HCH.out _ ST.out.1.bel).mono ?_
  rintro e w3 ⟨rfl, hb3⟩
  have hz3 := hb3.size
  have hz := SZ.out
  have B3 := Lib.hid (ST.out.1.bel.trans (hb3.mono (by omega)))
  have F3 := Lib.hid (ST.out.2.below hb3 (by omega))
  have X3 := Lib.hid (ST.out.1.below hb3 (by omega))
  have Z3 : w.heap.size + 2 ≤ w3.heap.size := by omega
  clear hb3 hz3 hz p0 p1 p2 p3
  obtain ⟨-, q0, q1, q2, q3, -⟩ := X3.out
  go_wp2_with fail
  clear q0 q1 q2 q3
  refine (HNH.out _ B3.out).mono ?_
  rintro e w5 ⟨cs5, rfl, hf5, hb5⟩
  have HF5 := Lib.hid hf5
  obtain ⟨dk, dc, ua, un, ucap, va, vn, vcap, rfl⟩ := hf5.form
  have hz5 := hb5.size
  have F5 := Lib.hid (F3.out.below hb5 (by omega))
  have RT := Lib.hid (ret_set F5.out (B3.out.trans (hb5.mono (by omega))) HF5.out (fun b ⟨h1, h2⟩ => ⟨by omega, by omega, h2⟩))
  clear hf5 hb5
  obtain ⟨r0, r1, r2, r3, rf⟩ := F5.out
  go_wp2_with fail
  clear r0 r1 r2 r3 rf
  refine bodyPost_ret (v := .tuple #[.agg #[.int .i64 dk, .int .i64 dc, .slice ua un ucap, .slice va vn vcap], X]) ?_ rfl ⟨_, rfl, RT.out.lies, RT.out.bel⟩
  obtain ⟨_, _, e0, e1, e2, e3⟩ := RT.out
  simp [results, Tryd.results14, go_sem, e0, e1, e2, e3]

/-- Normalizing, by the program. -/
theorem norm_code (n : Nat) (f : FT) (cs : List Value) (w : World) (hlit : litF n f) (h : FLies w.heap.size w n f cs) :
    Calls Tryd.prog 14 #[.agg cs.toArray] w (Ans w.heap.size (n + 2) (nrmT n f) (codeV (nrmK n f)) w) := by
  have FL := fun W (hb : Below w.heap.size w W) => (h.below hb).mono hb.size
  have C1 := fun W (hb : Below w.heap.size w W) => fcheck_any n f _ W (FL W hb)
  have hform : ∃ (k c : Int) (a : Option Addr) (m cap : Nat) (ka : Option Addr) (kn kcap : Nat), cs = [.int .i64 k, .int .i64 c, .slice a m cap, .slice ka kn kcap] := by
    cases n with
    | zero => exact h.elim
    | succ n =>
      obtain ⟨ta, tcap, ka, kcap, rfl, _⟩ := h
      exact ⟨_, _, _, _, _, _, _, _, rfl⟩
  obtain ⟨k, c, a, m, cap, ka, kn, kcap, rfl⟩ := hform
  unfold nrmT nrmK
  by_cases h0 : cc n f = 0
  · obtain ⟨_, _, hs⟩ := cc_sound h0
    rw [if_pos h0, if_pos h0]
    rw [h0] at C1
    have N1 := fun W (hb : Below w.heap.size w W) => nrm_any n f true _ W hs hlit (FL W hb)
    cases ho : normF n f true with
    | none =>
      rw [ho] at N1
      exact nnorm_ok k c a ka m cap kn kcap (n + 2) _ _ w C1 N1
    | some g =>
      rw [ho] at N1
      exact nnorm_ok k c a ka m cap kn kcap (n + 2) _ _ w C1 N1
  · rw [if_neg h0, if_neg h0]
    have e : codeV (cc n f) = .iface 43 (.int .i64 (cc n f)) := by unfold codeV; rw [if_neg h0]
    rw [e] at C1 ⊢
    exact (nnorm_bad k c _ a ka m cap kn kcap w C1).mono fun _ _ h => h.up (by omega)
end Go.Proofs.YtelndcmfddbgiaaDoor

namespace Go.Proofs.YtelndcmfddbgiaaDoor
open Go.RowKit

end Go.Proofs.YtelndcmfddbgiaaDoor

namespace Go.Proofs.YtelndcmfddbgiaaDoor
open Go.RowKit

theorem gAt_red {l : List (Int × Int)} {g : Int} (hg : 1 ≤ g) : ∀ i, i ≤ l.length → (∀ j, j < i → g ∣ (l.getD j (0, 0)).2) → gAt (redL g l) i * g = gAt l i
  | 0, _, _ => by unfold gAt; omega
  | i + 1, hi, hd => by
    have ih := gAt_red hg i (by omega) (fun j hj => hd j (by omega))
    obtain ⟨q, hq⟩ := hd i (by omega)
    show ((Nat.gcd (gAt (redL g l) i).natAbs ((redL g l).getD i (0, 0)).2.natAbs : Nat) : Int) * g = ((Nat.gcd (gAt l i).natAbs (l.getD i (0, 0)).2.natAbs : Nat) : Int)
    rw [redL_get g l i (by omega), ← ih, hq, Int.mul_tdiv_cancel_left q (by omega), Int.natAbs_mul, Int.natAbs_mul, Nat.mul_comm g.natAbs q.natAbs, Nat.gcd_mul_right]
    have : (g.natAbs : Int) = g := by omega
    rw [Int.natCast_mul, this]
theorem gAt_scale (l : List (Int × Int)) : ∀ i, i ≤ l.length → gAt (scale (-1) l) i = gAt l i
  | 0, _ => rfl
  | i + 1, hi => by
    show ((Nat.gcd (gAt (scale (-1) l) i).natAbs ((scale (-1) l).getD i (0, 0)).2.natAbs : Nat) : Int) = _
    rw [gAt_scale l i (by omega), scale_get (-1) l i (by omega)]
    show ((Nat.gcd (gAt l i).natAbs (-1 * (l.getD i (0, 0)).2).natAbs : Nat) : Int) = _
    rw [Int.natAbs_mul]
    simp [gAt]
theorem gAt_one {c : Int} {l : List (Int × Int)} (hs : snd c l = true) (h0 : 0 < l.length) : 1 ≤ gAt l l.length := by
  have h := gAt_in l l.length (fun j hj => by have := okAt_in ((snd_iff.1 hs).2.2 j hj); omega)
  have hd := gAt_dvd l l.length 0 h0
  have h1 := okAt_in ((snd_iff.1 hs).2.2 0 h0)
  by_cases e : gAt l l.length = 0
  · rw [e] at hd
    have := Int.zero_dvd.1 hd
    omega
  · omega

/-- The canonical literals. -/
inductive Can : FT → Prop where
  | yes : Can (.mk 0 0 [] [])
  | no : Can (.mk 1 0 [] [])
  | le {c : Int} {t : List (Int × Int)} (h : canF c t = true) : Can (.mk 2 c t [])
  | not {c : Int} {t : List (Int × Int)} (h : canF c t = true) : Can (.mk 4 0 [] [.mk 2 c t []])
theorem canF_iff {c : Int} {l : List (Int × Int)} : canF c l = true ↔ snd c l = true ∧ gAt l l.length = 1 ∧ 0 < (l.getD 0 (0, 0)).2 := by
  unfold canF
  rw [Bool.and_eq_true, Bool.and_eq_true, decide_eq_true_eq, decide_eq_true_eq]
theorem canF_pos {c : Int} {l : List (Int × Int)} (h : canF c l = true) : 0 < l.length := by
  have := (canF_iff.1 h).2.2
  cases l with
  | nil => simp at this
  | cons => simp
theorem red_can {c : Int} {l : List (Int × Int)} (hs : snd c l = true) (h0 : 0 < l.length) : snd (upI c (gAt l l.length)) (redL (gAt l l.length) l) = true ∧ gAt (redL (gAt l l.length) l) (redL (gAt l l.length) l).length = 1 := by
  have hg := gAt_one hs h0
  refine ⟨red_snd hs h0, ?_⟩
  rw [redL_len]
  have := gAt_red hg l.length (Nat.le_refl _) (fun j hj => gAt_dvd l l.length j hj)
  generalize gAt (redL (gAt l l.length) l) l.length = q at this ⊢
  generalize gAt l l.length = g at this hg
  have h2 : (q - 1) * g = 0 := by rw [Int.sub_mul, this]; omega
  rcases Int.mul_eq_zero.1 h2 with h | h <;> omega
theorem litT_can {c : Int} {l : List (Int × Int)} (hk : litK c l = 0) : Can (litT c l) := by
  have hs : snd c l = true := by
    by_cases hs : snd c l = true
    · exact hs
    · unfold litK at hk
      rw [if_neg hs] at hk
      cases hk
  unfold litT
  unfold litK at hk
  rw [if_pos hs] at hk ⊢
  by_cases h0 : l.length = 0
  · rw [if_pos h0]
    split
    · exact .yes
    · exact .no
  · rw [if_neg h0] at hk ⊢
    have h0' : 0 < l.length := by omega
    obtain ⟨r1, r2⟩ := red_can hs h0'
    have hg := gAt_one hs h0'
    have hd := gAt_dvd l l.length 0 h0'
    have hk0 := okAt_in ((snd_iff.1 hs).2.2 0 h0')
    have hne := tdiv_ne hk0.2.1 hg hd
    by_cases hp : 0 < (l.getD 0 (0, 0)).2.tdiv (gAt l l.length)
    · rw [if_pos hp]
      refine .le (canF_iff.2 ⟨r1, r2, ?_⟩)
      rw [redL_get _ l 0 h0']
      exact hp
    · rw [if_neg hp] at hk ⊢
      by_cases hw : wi (1 - upI c (gAt l l.length)) 1073741824 = true
      · rw [if_pos hw]
        have hn := snd_neg r1
        obtain ⟨_, h64, hall⟩ := snd_iff.1 hn
        refine .not (canF_iff.2 ⟨snd_iff.2 ⟨hw, h64, hall⟩, ?_, ?_⟩)
        · rw [scale_len, gAt_scale _ _ (Nat.le_refl _)]; exact r2
        · rw [scale_get _ _ 0 (by rw [redL_len]; exact h0'), redL_get _ l 0 h0']
          show 0 < -1 * (l.getD 0 (0, 0)).2.tdiv (gAt l l.length)
          omega
      · rw [if_neg hw] at hk
        cases hk
theorem oppF_can {f : FT} (h : Can f) : Can (oppF f) := by
  cases h with
  | yes => exact .no
  | no => exact .yes
  | le h => exact .not h
  | not h => exact .le h

/-- Normalized, of so many layers. -/
def nF : Nat → FT → Prop
  | 0, _ => False
  | n + 1, f => Can f ∨ ((f.kind = 5 ∨ f.kind = 6) ∧ f.c = 0 ∧ f.t = [] ∧ f.ks.length ≤ 1048576 ∧ ∀ i, i < f.ks.length → nF n (f.ks.getD i default))
theorem nF.up : ∀ {n m : Nat} {f : FT}, nF n f → n ≤ m → nF m f
  | 0, _, _, h, _ => h.elim
  | n + 1, 0, _, _, hm => absurd hm (by omega)
  | n + 1, m + 1, f, h, hm => by
    rcases h with h | ⟨h1, h2, h3, h4, h5⟩
    · exact .inl h
    · exact .inr ⟨h1, h2, h3, h4, fun i hi => (h5 i hi).up (by omega)⟩
theorem nF.can {n : Nat} {f : FT} (h : Can f) : nF (n + 1) f := .inl h

theorem getD_map {α β : Type} [Inhabited α] [Inhabited β] (F : α → β) (l : List α) (i : Nat) (h : i < l.length) : (l.map F).getD i default = F (l.getD i default) := by
  simp [List.getD_eq_getElem?_getD, h]
theorem all_some {n : Nat} {f : FT} {so : Bool} {g : FT} (h : (if (f.ks.all fun k => (normF n k so).isSome) = true then some (kidsT n f so) else none) = some g) :
    g = kidsT n f so ∧ ∀ i, i < f.ks.length → ∃ k, normF n (f.ks.getD i default) so = some k ∧ g.ks.getD i default = k := by
  split at h
  · rename_i ha
    injection h with h
    subst h
    refine ⟨rfl, fun i hi => ?_⟩
    rw [List.all_eq_true] at ha
    have := ha _ (List.getElem_mem hi)
    have e : f.ks.getD i default = f.ks[i] := by simp [List.getD_eq_getElem?_getD, hi]
    cases hn : normF n f.ks[i] so with
    | none => rw [hn] at this; cases this
    | some k => exact ⟨k, by rw [e]; exact hn, kidsT_get hi (by rw [e]; exact hn)⟩
  · cases h

theorem normF_nf : ∀ {n : Nat} {f : FT} {so : Bool} {g : FT}, sndF n f = true → litF n f → normF n f so = some g → nF (n + 1) g
  | 0, _, _, _, h, _, _ => by cases h
  | n + 1, f, so, g, hs, hl, h => by
    obtain ⟨hown, hks⟩ := snd_own hs
    rcases own_kinds hown with ⟨hk01, _, _, _⟩ | ⟨hk23, hsn, hkn⟩ | ⟨hk4, _, _, hk1⟩ | ⟨hk56, _, _⟩
    · rcases hk01 with e | e
      · rw [normF_0 e] at h
        injection h with h
        subst h
        cases so <;> exact nF.can (by first | exact .yes | exact .no)
      · rw [normF_1 e] at h
        injection h with h
        subst h
        cases so <;> exact nF.can (by first | exact .yes | exact .no)
    · rcases hk23 with e | e
      · rw [normF_2 e] at h
        split at h
        · rename_i hk
          injection h with h
          subst h
          cases so
          · exact nF.can (oppF_can (litT_can hk))
          · exact nF.can (litT_can hk)
        · cases h
      · rw [normF_3 e] at h
        rcases litK_sound hsn with hk0 | hk3
        · rcases litK_sound (snd_neg hsn) with hj0 | hj3
          · rw [bothT_ok hk0 hj0] at h
            injection h with h
            subst h
            refine .inr ⟨by cases so <;> simp [FT.kind], rfl, rfl, by simp [FT.ks], fun i hi => ?_⟩
            have hi2 : i < 2 := by simpa [FT.ks] using hi
            have c1 : Can (if so = true then litT f.c f.t else oppF (litT f.c f.t)) := by
              cases so
              · exact oppF_can (litT_can hk0)
              · exact litT_can hk0
            have c2 : Can (if so = true then litT (-f.c) (scale (-1) f.t) else oppF (litT (-f.c) (scale (-1) f.t))) := by
              cases so
              · exact oppF_can (litT_can hj0)
              · exact litT_can hj0
            match i, hi2 with
            | 0, _ => exact nF.can c1
            | 1, _ => exact nF.can c2
          · rw [bothT_far2 hj3] at h; cases h
        · rw [bothT_far1 hk3] at h; cases h
    · rw [normF_4 hk4] at h
      exact (normF_nf (hks 0 (by omega)) (hl.2.2 0 (by omega)) h).up (by omega)
    · rw [normF_56 hk56] at h
      obtain ⟨rfl, hk⟩ := all_some h
      refine .inr ⟨?_, rfl, rfl, by rw [kidsT_len]; exact hl.2.1, fun i hi => ?_⟩
      · show (if so = true then f.kind else 11 - f.kind) = 5 ∨ (if so = true then f.kind else 11 - f.kind) = 6
        cases so <;> rcases hk56 with e | e <;> rw [e] <;> decide
      · rw [kidsT_len] at hi
        obtain ⟨k, h1, h2⟩ := hk i hi
        rw [h2]
        exact normF_nf (hks i hi) (hl.2.2 i hi) h1

theorem can_made {n : Nat} {f : FT} (h : Can f) : madeF (n + 2) f = true := by
  cases h with
  | yes => rw [madeF_0 (.inl rfl)]; rfl
  | no => rw [madeF_0 (.inr rfl)]; rfl
  | @le c t h => rw [madeF_2 rfl]; show (canF c t && _) = true; rw [h]; rfl
  | @not c t h =>
    rw [madeF_4 rfl]
    show (bareF _ && (_ && (_ && madeF (n + 1) (.mk 2 c t [])))) = true
    rw [madeF_2 rfl]
    show (bareF _ && (_ && (_ && (canF c t && _)))) = true
    rw [h]
    rfl
theorem nF_made : ∀ {n : Nat} {f : FT}, nF n f → madeF (n + 1) f = true
  | 0, _, h => h.elim
  | n + 1, f, h => by
    rcases h with h | ⟨h1, h2, h3, _, h5⟩
    · exact can_made h
    · rw [madeF_5 h1, decide_eq_true (fun i hi => nF_made (h5 i hi))]
      unfold bareF
      rw [h2, h3]
      rfl
theorem can_lit {n : Nat} {f : FT} (h : Can f) : litF (n + 2) f := by
  have hc : ∀ {c : Int} {t : List (Int × Int)}, canF c t = true → t.length ≤ 64 := fun h => (snd_iff.1 (canF_iff.1 h).1).2.1
  cases h with
  | yes => exact ⟨by simp [FT.t], by simp [FT.ks], fun i hi => absurd hi (by simp [FT.ks])⟩
  | no => exact ⟨by simp [FT.t], by simp [FT.ks], fun i hi => absurd hi (by simp [FT.ks])⟩
  | le h => exact ⟨by have := hc h; show _ ≤ _; simp only [FT.t]; omega, by simp [FT.ks], fun i hi => absurd hi (by simp [FT.ks])⟩
  | @not c t h =>
    refine ⟨by simp [FT.t], by simp [FT.ks], fun i hi => ?_⟩
    obtain rfl : i = 0 := by simpa [FT.ks] using hi
    exact ⟨by have := hc h; show t.length ≤ _; omega, by simp [FT.ks], fun i hi => absurd hi (by simp [FT.ks])⟩
theorem nF_lit : ∀ {n : Nat} {f : FT}, nF n f → litF (n + 1) f
  | 0, _, h => h.elim
  | n + 1, f, h => by
    rcases h with h | ⟨_, _, h3, h4, h5⟩
    · exact can_lit h
    · exact ⟨by rw [h3]; simp, h4, fun i hi => nF_lit (h5 i hi)⟩
theorem nrmT_nf {n : Nat} {f : FT} (hl : litF (n + 1) f) : nF (n + 2) (nrmT (n + 1) f) := by
  unfold nrmT
  split
  · rename_i h0
    cases ho : normF (n + 1) f true with
    | none => exact nF.can .yes
    | some g => exact normF_nf (cc_sound h0).2.2 hl ho
  · exact nF.can .yes

theorem can_twice {c : Int} {t : List (Int × Int)} (h : canF c t = true) : litT c t = .mk 2 c t [] := by
  obtain ⟨hs, hg, hp⟩ := canF_iff.1 h
  have h0 := canF_pos h
  have hr : redL 1 t = t := by
    unfold redL
    have : (fun m : Int × Int => (m.1, m.2.tdiv 1)) = id := by funext m; simp
    rw [this, List.map_id]
  unfold litT
  rw [if_pos hs, if_neg (by omega), hg, hr]
  have hu : upI c 1 = c := by
    unfold upI
    have h1 : c.tmod 1 = 0 := by simp
    rw [h1, if_neg (by omega)]
    simp
  rw [if_pos (by simpa using hp), hu]
theorem nF_twice : ∀ {N m : Nat} {g g' : FT}, nF m g → normF N g true = some g' → g' = g
  | 0, _, _, _, _, h => by cases h
  | N + 1, 0, _, _, hn, _ => hn.elim
  | N + 1, m + 1, g, g', hn, h => by
    rcases hn with hc | ⟨h1, h2, h3, _, h5⟩
    · cases hc with
      | yes => rw [normF_0 rfl] at h; injection h with h; exact h.symm
      | no => rw [normF_1 rfl] at h; injection h with h; exact h.symm
      | le hc =>
        rw [normF_2 rfl] at h
        split at h
        · injection h with h
          rw [← h]
          exact can_twice hc
        · cases h
      | @not c t hc =>
        rw [normF_4 rfl] at h
        cases N with
        | zero => cases h
        | succ N =>
          replace h : normF (N + 1) (.mk 2 c t []) false = some g' := h
          rw [normF_2 rfl] at h
          split at h
          · injection h with h
            rw [← h]
            show oppF (litT c t) = _
            rw [can_twice hc]
            rfl
          · cases h
    · rw [normF_56 h1] at h
      obtain ⟨rfl, hk⟩ := all_some h
      cases g with
      | mk k c t ks =>
        simp only [FT.kind, FT.c, FT.t, FT.ks] at h1 h2 h3 h5 hk
        subst h2 h3
        show FT.mk k 0 [] (ks.map fun x => (normF N x true).getD default) = _
        congr 1
        refine List.ext_getElem (by simp) fun i h6 h7 => ?_
        obtain ⟨x, hx, _⟩ := hk i h7
        have e : ks.getD i default = ks[i] := by simp [List.getD_eq_getElem?_getD, h7]
        have := nF_twice (h5 i h7) hx
        rw [e] at hx this
        simp only [List.getElem_map, hx, Option.getD_some]
        exact this
end Go.Proofs.YtelndcmfddbgiaaDoor

namespace Go.Proofs.YtelndcmfddbgiaaDoor
open Go.RowKit

theorem le_top {l : List Nat} {x : Nat} (h : x ∈ l) : x ≤ top l := by
  by_cases e : x ≤ top l
  · exact e
  · have : top l < top l := lt_top.2 ⟨x, h, by omega⟩
    omega
theorem top_le {l : List Nat} {d : Nat} (h : ∀ x ∈ l, x ≤ d) : top l ≤ d := by
  by_cases e : top l ≤ d
  · exact e
  · obtain ⟨x, hx, hl⟩ := lt_top.1 (show d < top l by omega)
    have := h x hx
    omega
theorem kid_dep {n : Nat} {f : FT} {i : Nat} (hi : i < f.ks.length) : dep n (f.ks.getD i default) + 1 ≤ dep (n + 1) f := by
  show _ ≤ 1 + top (f.ks.map (dep n))
  have := le_top (l := f.ks.map (dep n)) (x := dep n (f.ks.getD i default)) (List.mem_map.2 ⟨_, by rw [List.getD_eq_getElem?_getD, List.getElem?_eq_getElem hi]; exact List.getElem_mem hi, rfl⟩)
  omega
theorem kid_siz {n : Nat} {f : FT} {i : Nat} (hi : i < f.ks.length) : siz n (f.ks.getD i default) + 1 ≤ siz (n + 1) f := by
  rw [sizTo_len]
  have h1 := sizTo_succ n f.ks i hi
  have h2 := sizTo_mono n f.ks (show i + 1 ≤ f.ks.length by omega)
  omega
theorem leaf_dep (N : Nat) (k c : Int) (t : List (Int × Int)) : dep N (.mk k c t []) ≤ 1 ∧ siz N (.mk k c t []) ≤ 1 := by
  cases N with
  | zero => exact ⟨Nat.zero_le _, Nat.zero_le _⟩
  | succ N => exact ⟨Nat.le_refl _, Nat.le_refl _⟩
theorem can_dep {f : FT} (h : Can f) (N : Nat) : dep N f ≤ 2 ∧ siz N f ≤ 2 := by
  cases h with
  | yes => have := leaf_dep N 0 0 []; omega
  | no => have := leaf_dep N 1 0 []; omega
  | @le c t h => have := leaf_dep N 2 c t; omega
  | @not c t h =>
    cases N with
    | zero => exact ⟨Nat.zero_le _, Nat.zero_le _⟩
    | succ N =>
      have := leaf_dep N 2 c t
      have e1 : dep (N + 1) (.mk 4 0 [] [.mk 2 c t []]) = 1 + top [dep N (.mk 2 c t [])] := rfl
      have e2 : siz (N + 1) (.mk 4 0 [] [.mk 2 c t []]) = 1 + (siz N (.mk 2 c t []) + 0) := rfl
      have e3 := top_le (l := [dep N (.mk 2 c t [])]) (d := 1) (fun x hx => by rw [List.mem_singleton.1 hx]; exact this.1)
      omega
theorem pair_dep {k : Int} {a b : FT} (ha : Can a) (hb : Can b) (N : Nat) : dep N (.mk k 0 [] [a, b]) ≤ 3 ∧ siz N (.mk k 0 [] [a, b]) ≤ 5 := by
  cases N with
  | zero => exact ⟨Nat.zero_le _, Nat.zero_le _⟩
  | succ N =>
    have h1 := can_dep ha N
    have h2 := can_dep hb N
    have e1 : dep (N + 1) (.mk k 0 [] [a, b]) = 1 + top [dep N a, dep N b] := rfl
    have e2 : siz (N + 1) (.mk k 0 [] [a, b]) = 1 + (siz N a + (siz N b + 0)) := rfl
    have e3 := top_le (l := [dep N a, dep N b]) (d := 2) (fun x hx => by
      rcases List.mem_cons.1 hx with rfl | hx
      · exact h1.1
      · rw [List.mem_singleton.1 hx]; exact h2.1)
    omega

/-- The ways of what a sound formula becomes. -/
theorem normF_ways {n : Nat} {f : FT} {so : Bool} {g : FT} (hs : sndF (n + 1) f = true) (h : normF (n + 1) f so = some g) :
    (Can g ∧ ((f.kind = 0 ∧ g = if so then .mk 0 0 [] [] else .mk 1 0 [] []) ∨ (f.kind = 1 ∧ g = if so then .mk 1 0 [] [] else .mk 0 0 [] []) ∨ (f.kind = 2 ∧ snd f.c f.t = true ∧ litK f.c f.t = 0 ∧ g = if so then litT f.c f.t else oppF (litT f.c f.t)))) ∨
    (f.kind = 3 ∧ snd f.c f.t = true ∧ litK f.c f.t = 0 ∧ litK (-f.c) (scale (-1) f.t) = 0 ∧ g = .mk (if so = true then 5 else 11 - 5) 0 [] [if so then litT f.c f.t else oppF (litT f.c f.t), if so then litT (-f.c) (scale (-1) f.t) else oppF (litT (-f.c) (scale (-1) f.t))]) ∨
    (f.kind = 4 ∧ f.ks.length = 1 ∧ normF n (f.ks.getD 0 default) (!so) = some g) ∨
    ((f.kind = 5 ∨ f.kind = 6) ∧ g = kidsT n f so ∧ ∀ i, i < f.ks.length → ∃ k, normF n (f.ks.getD i default) so = some k ∧ g.ks.getD i default = k) := by
  obtain ⟨hown, hks⟩ := snd_own hs
  rcases own_kinds hown with ⟨hk01, _, _, _⟩ | ⟨hk23, hsn, hkn⟩ | ⟨hk4, _, _, hk1⟩ | ⟨hk56, _, _⟩
  · rcases hk01 with e | e
    · rw [normF_0 e] at h
      injection h with h
      refine .inl ⟨?_, .inl ⟨e, h.symm⟩⟩
      rw [← h]
      cases so
      · exact .no
      · exact .yes
    · rw [normF_1 e] at h
      injection h with h
      refine .inl ⟨?_, .inr (.inl ⟨e, h.symm⟩)⟩
      rw [← h]
      cases so
      · exact .yes
      · exact .no
  · rcases hk23 with e | e
    · rw [normF_2 e] at h
      split at h
      · rename_i hk
        injection h with h
        refine .inl ⟨?_, .inr (.inr ⟨e, hsn, hk, h.symm⟩)⟩
        rw [← h]
        cases so
        · exact oppF_can (litT_can hk)
        · exact litT_can hk
      · cases h
    · rw [normF_3 e] at h
      rcases litK_sound hsn with hk0 | hk3
      · rcases litK_sound (snd_neg hsn) with hj0 | hj3
        · rw [bothT_ok hk0 hj0] at h
          injection h with h
          exact .inr (.inl ⟨e, hsn, hk0, hj0, h.symm⟩)
        · rw [bothT_far2 hj3] at h; cases h
      · rw [bothT_far1 hk3] at h; cases h
  · rw [normF_4 hk4] at h
    exact .inr (.inr (.inl ⟨hk4, hk1, h⟩))
  · rw [normF_56 hk56] at h
    obtain ⟨h1, h2⟩ := all_some h
    exact .inr (.inr (.inr ⟨hk56, h1, h2⟩))

theorem normF_dep : ∀ {n : Nat} {f : FT} {so : Bool} {g : FT}, sndF n f = true → normF n f so = some g → ∀ N, dep N g ≤ dep n f + 2 ∧ siz N g ≤ 5 * siz n f
  | 0, _, _, _, h, _ => by cases h
  | n + 1, f, so, g, hs, h => by
    have hks := (snd_own hs).2
    have hd := dep_zero n f
    have hz := siz_pos n f
    intro N
    rcases normF_ways hs h with ⟨hc, _⟩ | ⟨_, hsn, hk0, hj0, rfl⟩ | ⟨hk4, hk1, h4⟩ | ⟨hk56, hg, hk⟩
    · have := can_dep hc N
      omega
    · have c1 : Can (if so = true then litT f.c f.t else oppF (litT f.c f.t)) := by
        cases so
        · exact oppF_can (litT_can hk0)
        · exact litT_can hk0
      have c2 : Can (if so = true then litT (-f.c) (scale (-1) f.t) else oppF (litT (-f.c) (scale (-1) f.t))) := by
        cases so
        · exact oppF_can (litT_can hj0)
        · exact litT_can hj0
      have := pair_dep (k := if so = true then 5 else 11 - 5) c1 c2 N
      omega
    · have h1 := normF_dep (hks 0 (by omega)) h4 N
      have h2 := kid_dep (n := n) (f := f) (i := 0) (by omega)
      have h3 := kid_siz (n := n) (f := f) (i := 0) (by omega)
      omega
    · cases N with
      | zero => exact ⟨Nat.zero_le _, Nat.zero_le _⟩
      | succ N =>
        have hlen : g.ks.length = f.ks.length := by rw [hg]; exact kidsT_len n f so
        have hkid : ∀ i, i < f.ks.length → dep N (g.ks.getD i default) ≤ dep n (f.ks.getD i default) + 2 ∧ siz N (g.ks.getD i default) ≤ 5 * siz n (f.ks.getD i default) := fun i hi => by
          obtain ⟨k, h1, h2⟩ := hk i hi
          rw [h2]
          exact normF_dep (hks i hi) h1 N
        constructor
        · show 1 + top (g.ks.map (dep N)) ≤ _
          have := top_le (l := g.ks.map (dep N)) (d := dep (n + 1) f + 1) (fun x hx => by
            obtain ⟨k, hk, rfl⟩ := List.mem_map.1 hx
            obtain ⟨i, hi, rfl⟩ := List.getElem_of_mem hk
            have h1 := (hkid i (by omega)).1
            have h2 := kid_dep (n := n) (f := f) (i := i) (by omega)
            rw [List.getD_eq_getElem?_getD (l := g.ks), List.getElem?_eq_getElem hi, Option.getD_some] at h1
            omega)
          omega
        · rw [sizTo_len, sizTo_len, hlen]
          have key : ∀ k, k ≤ f.ks.length → sizTo N g.ks k ≤ 5 * sizTo n f.ks k := fun k => by
            induction k with
            | zero => intro _; rw [sizTo_zero]; omega
            | succ k ih =>
              intro hk2
              have h1 := ih (by omega)
              have h2 := (hkid k (by omega)).2
              rw [sizTo_succ N g.ks k (by omega), sizTo_succ n f.ks k (by omega)]
              omega
          have := key f.ks.length (Nat.le_refl _)
          omega

theorem nrmK_ok {n : Nat} {f : FT} (h : nrmK n f = 0) : cc n f = 0 ∧ ∃ g, normF n f true = some g ∧ nrmT n f = g := by
  unfold nrmK at h
  unfold nrmT
  split at h
  · rename_i h0
    refine ⟨h0, ?_⟩
    rw [if_pos h0]
    cases ho : normF n f true with
    | none => rw [ho] at h; cases h
    | some g => exact ⟨g, rfl, rfl⟩
  · contradiction
theorem nrmT_isF {n : Nat} {f : FT} (hl : litF (n + 1) f) (h : nrmK (n + 1) f = 0) : isF (n + 3) (nrmT (n + 1) f) = true := by
  obtain ⟨h0, g, hg, e⟩ := nrmK_ok h
  obtain ⟨hd, hz, hs⟩ := cc_sound h0
  have hnf := nrmT_nf hl
  rw [e] at hnf ⊢
  have := normF_dep hs hg (n + 3)
  unfold isF
  rw [nF_made hnf, decide_eq_true (show dep (n + 3) g ≤ 128 by omega), decide_eq_true (show siz (n + 3) g ≤ 20480 by omega)]
  rfl
end Go.Proofs.YtelndcmfddbgiaaDoor
