/- The document's far: whether a variable's value is too great. The document's Is: a formula's value; lemmas. -/
import Derived.Test.YtelndcmfddbgiaaDoorCt15
import Derived.Test.YtelndcmfddbgiaaDoorCt18
set_option linter.unusedVariables false
set_option linter.unusedSimpArgs false
namespace Go.Proofs.YtelndcmfddbgiaaDoor
open Go.RowKit

/-- Has one of its variables a value that is too great? -/
def farF (zs : List Int) : Nat → FT → Bool
  | 0, _ => false
  | n + 1, f => decide (∃ i, i < f.t.length ∧ near f.t zs i = false) || decide (∃ i, i < f.ks.length ∧ farF zs n (f.ks.getD i default) = true)
theorem farF_no {zs : List Int} {n : Nat} {f : FT} (h1 : ∀ i, i < f.t.length → near f.t zs i = true) (h2 : ∀ i, i < f.ks.length → farF zs n (f.ks.getD i default) = false) : farF zs (n + 1) f = false := by
  show (decide _ || decide _) = false
  rw [decide_eq_false, decide_eq_false]
  · rfl
  · rintro ⟨i, hi, h⟩
    rw [h2 i hi] at h; cases h
  · rintro ⟨i, hi, h⟩
    rw [h1 i hi] at h; cases h
theorem farF_yes1 {zs : List Int} {n : Nat} {f : FT} {i : Nat} (hi : i < f.t.length) (h : near f.t zs i = false) : farF zs (n + 1) f = true := by
  show (decide _ || decide _) = true
  rw [decide_eq_true ⟨i, hi, h⟩, Bool.true_or]
theorem farF_yes2 {zs : List Int} {n : Nat} {f : FT} {i : Nat} (hi : i < f.ks.length) (h : farF zs n (f.ks.getD i default) = true) : farF zs (n + 1) f = true := by
  show (decide _ || decide _) = true
  rw [decide_eq_true (p := ∃ i, i < f.ks.length ∧ farF zs n (f.ks.getD i default) = true) ⟨i, hi, h⟩, Bool.or_true]
/-- What the terms of a sound formula are. -/
theorem ownF_terms {f : FT} (h : ownF f = true) : f.t.length = 0 ∨ ((f.kind = 2 ∨ f.kind = 3) ∧ snd f.c f.t = true) := by
  by_cases hk : f.kind = 2 ∨ f.kind = 3
  · exact .inr ⟨hk, ownF_form h hk⟩
  · left
    unfold ownF ownV at h
    by_cases h0 : f.kind = 0 ∨ f.kind = 1
    · rw [if_pos h0] at h
      simp at h
      simp [h.1.2]
    · rw [if_neg h0, if_neg hk] at h
      by_cases h4 : f.kind = 4
      · rw [if_pos h4] at h
        simp at h
        simp [h.1.2]
      · rw [if_neg h4] at h
        split at h
        · simp at h
          simp [h.2]
        · cases h
theorem ownF_vars {f : FT} (h : ownF f = true) : ∀ i, i < f.t.length → 0 ≤ (f.t.getD i (0, 0)).1 := by
  intro i hi
  rcases ownF_terms h with h0 | ⟨_, hs⟩
  · omega
  · exact (okAt_in ((snd_iff.1 hs).2.2 i hi)).2.2.1

set_option maxRecDepth 100000 in
set_option maxHeartbeats 1600000 in
theorem far_any : ∀ (n : Nat) (f : FT) (cs : List Value) (a2 : Option Addr) (n2 cap2 : Nat) (zs : List Int) (w : World), FLies w.heap.size w n f cs → sndF n f = true → zs.length = n2 → n2 ≤ 9223372036854775807 → Nums w.heap.size w a2 zs →
    Calls Tryd.prog 34 #[.agg cs.toArray, .slice a2 n2 cap2] w fun e w' => e = .returned (.bool (farF zs n f)) ∧ Below w.heap.size w w'
  | 0, _, _, _, _, _, _, _, h, _, _, _, _ => h.elim
  | n + 1, f, cs, a2, n2, cap2, zs, w, h, hs, hn2, hm2, hz => by
    have IH := far_any n
    obtain ⟨hown, hkids⟩ := sndF_split hs
    obtain ⟨ta, tcap, ka, kcap, rfl, hlt, ht4, hk4, hks⟩ := h
    have B0 := Lib.hid (box_start w f.kind f.c ta ka f.t.length tcap f.ks.length kcap)
    have HV := Lib.hid (ownF_vars hown)
    have HL := Lib.hid hlt
    have HI := Lib.hid IH
    have HK := Lib.hid hks
    have HS := Lib.hid hkids
    have HZ := Lib.hid hz
    have HN2 := Lib.hid hn2
    have Y1 := Lib.hid (fun i hi h => @farF_yes1 zs n f i hi h)
    have Y2 := Lib.hid (fun i hi h => @farF_yes2 zs n f i hi h)
    have YN := Lib.hid (fun h1 h2 => @farF_no zs n f h1 h2)
    generalize hr : farF zs (n + 1) f = r at Y1 Y2 YN
    clear IH hks hkids hlt hown hs hz hn2 hr
    generalize f.kind = fk at B0
    generalize f.c = fc at B0
    generalize htl : f.t.length = ft at B0 HL HV Y1 YN ht4
    generalize hl : f.ks.length = len at B0 HK hk4 HS Y2 YN
    have HTL := Lib.hid htl
    clear hl htl
    go_enter Tryd.func34, Tryd.ntmps34
    go_wp2_with fail
    go_loopw [5] (fun i wr => ∃ (k : Nat), k ≤ ft ∧ i = .int .i64 k ∧ Hid (∀ j, j < k → near f.t zs j = true) ∧ Hid (Box w wr w.heap.size fk fc ta ft tcap ka len kcap)) (fun i _ => ft - (intOf i).toNat)
    case atStart => exact ⟨0, Nat.zero_le _, rfl, fun j hj => absurd hj (Nat.not_lt_zero j), B0⟩
    case round =>
      obtain ⟨k, hk, rfl, hok, hbx⟩ := hrel
      obtain ⟨bz, _, _, q2, q3, hb⟩ := hbx.out
      by_cases hlt : k < ft
      · obtain ⟨b, off, rfl, hblt, c1, c2⟩ := (HL.out.below hb) k (by rw [HTL.out]; exact hlt)
        have hof := of_any (f.t.getD k (0, 0)).1 a2 n2 cap2 zs wr HN2.out hm2 (HV.out k hlt) ((HZ.out.below hb).mono hb.size)
        by_cases hx : near f.t zs k = true
        · have hok2 : Hid (∀ j, j < k + 1 → near f.t zs j = true) := fun j hj => by
            by_cases ej : j = k
            · rw [ej]; exact hx
            · exact hok.out j (by omega)
          have hxb : -16777216 ≤ valOf zs (f.t.getD k (0, 0)).1 ∧ valOf zs (f.t.getD k (0, 0)).1 ≤ 16777216 := by unfold near wi at hx; simpa using hx
          clear hx hok
          generalize valOf zs (f.t.getD k (0, 0)).1 = X at hof hxb
          generalize (f.t.getD k (0, 0)).1 = v at c1 hof
          go_wp2_with (go_at_call 60; refine hof.mono ?_; rintro e w' ⟨rfl, rfl⟩)
          go_roundw
          case rel => exact ⟨k + 1, by omega, by go_num, hok2, hbx⟩
          case measure => simp [intOf]; omega
        · have hr : r = true := Y1.out k hlt (by simpa using hx)
          have hxb : ¬ (-16777216 ≤ valOf zs (f.t.getD k (0, 0)).1 ∧ valOf zs (f.t.getD k (0, 0)).1 ≤ 16777216) := fun h => hx (by unfold near; exact wi_t h)
          subst hr
          clear hx hok
          generalize valOf zs (f.t.getD k (0, 0)).1 = X at hof hxb
          generalize (f.t.getD k (0, 0)).1 = v at c1 hof
          by_cases hlo : X < -16777216
          · go_wp2_with (go_at_call 60; refine hof.mono ?_; rintro e w' ⟨rfl, rfl⟩)
            go_ret
            exact ⟨rfl, hb⟩
          · have hhi : 16777216 < X := by omega
            go_wp2_with (go_at_call 60; refine hof.mono ?_; rintro e w' ⟨rfl, rfl⟩)
            go_ret
            exact ⟨rfl, hb⟩
      · have hok2 : Hid (∀ j, j < ft → near f.t zs j = true) := fun j hj => hok.out j (by omega)
        clear hok
        go_wp2_with fail
        go_loopw [7] (fun i wr => ∃ (k : Nat), k ≤ len ∧ i = .int .i64 k ∧ Hid (∀ j, j < k → farF zs n (f.ks.getD j default) = false) ∧ Hid (Box w wr w.heap.size fk fc ta ft tcap ka len kcap)) (fun i _ => len - (intOf i).toNat)
        case atStart => exact ⟨0, Nat.zero_le _, rfl, fun j hj => absurd hj (Nat.not_lt_zero j), hbx⟩
        case round =>
          clear q2 q3 hb bz hbx
          obtain ⟨k, hk, rfl, hok, hbx⟩ := hrel
          obtain ⟨bz, _, _, q2, q3, hb⟩ := hbx.out
          by_cases hlt : k < len
          · obtain ⟨b, off, c0, c1, c2, c3, rfl, hblt, g0, g1, g2, g3, hf⟩ := HK.out k hlt
            rw [← hb.cell (p := ⟨b, _, none⟩) hblt] at g0 g1 g2 g3
            obtain ⟨ck, cc, cta, ctn, ctcap, cka, ckn, ckcap, rfl, rfl, rfl, rfl⟩ := hf.form
            have hih := HI.out (f.ks.getD k default) _ a2 n2 cap2 zs _ ((hf.below hb).mono hb.size) (HS.out k hlt) HN2.out hm2 ((HZ.out.below hb).mono hb.size)
            have hstep := Lib.hid (fun h => Y2.out k hlt h)
            have hno : Hid (farF zs n (f.ks.getD k default) = false → ∀ j, j < k + 1 → farF zs n (f.ks.getD j default) = false) := fun h j hj => by
              by_cases ej : j = k
              · rw [ej]; exact h
              · exact hok.out j (by omega)
            generalize farF zs n (f.ks.getD k default) = u at hih hstep hno
            clear hf hok
            go_wp2_with fail
            refine hih.mono ?_
            rintro e w1 ⟨rfl, hb1⟩
            have HB1 := Lib.hid (hbx.out.below hb1 bz)
            clear g0 g1 g2 g3 hih hb1 hb hbx q2 q3
            cases u with
            | true =>
              have hr : r = true := hstep.out rfl
              subst hr
              go_wp2_with fail
              go_ret
              exact ⟨rfl, HB1.out.bel⟩
            | false =>
              go_wp2_with fail
              go_roundw
              case rel => exact ⟨k + 1, by omega, by go_num, hno.out trivial, HB1⟩
              case measure => simp [intOf]; omega
          · have hr : r = false := YN.out (fun i hi => hok2.out i hi) (fun i hi => hok.out i (by omega))
            subst hr
            go_wp2_with fail
            go_ret
            exact ⟨rfl, hb⟩
end Go.Proofs.YtelndcmfddbgiaaDoor

namespace Go.Proofs.YtelndcmfddbgiaaDoor
open Go.RowKit

theorem vTo_near {zs : List Int} {n : Nat} {b : Bool} {ks : List FT} : ∀ k, k ≤ ks.length → ((vTo zs n b ks k).2 = true ↔ ∀ i, i < k → (vOf zs n (ks.getD i default)).2 = true)
  | 0, _ => by
    constructor
    · intro _ i hi; omega
    · intro _; rfl
  | k + 1, h => by
    rw [vTo_succ zs n b ks k (by omega)]
    have ih := vTo_near (zs := zs) (n := n) (b := b) (ks := ks) k (by omega)
    show ((vTo zs n b ks k).2 && (vOf zs n (ks.getD k default)).2) = true ↔ _
    rw [Bool.and_eq_true, ih]
    constructor
    · rintro ⟨h1, h2⟩ i hi
      by_cases e : i = k
      · rw [e]; exact h2
      · exact h1 i (by omega)
    · intro h1
      exact ⟨fun i hi => h1 i (by omega), h1 k (by omega)⟩
theorem vTo_and (zs : List Int) (n : Nat) (ks : List FT) (k : Nat) (h : k < ks.length) : (vTo zs n true ks (k + 1)).1 = ((vTo zs n true ks k).1 && (vOf zs n (ks.getD k default)).1) := by
  rw [vTo_succ zs n true ks k h]
  show (if ((vOf zs n (ks.getD k default)).1 != true) = true then !true else (vTo zs n true ks k).1) = _
  cases (vOf zs n (ks.getD k default)).1 <;> cases (vTo zs n true ks k).1 <;> rfl
theorem vTo_or (zs : List Int) (n : Nat) (ks : List FT) (k : Nat) (h : k < ks.length) : (vTo zs n false ks (k + 1)).1 = ((vTo zs n false ks k).1 || (vOf zs n (ks.getD k default)).1) := by
  rw [vTo_succ zs n false ks k h]
  show (if ((vOf zs n (ks.getD k default)).1 != false) = true then !false else (vTo zs n false ks k).1) = _
  cases (vOf zs n (ks.getD k default)).1 <;> cases (vTo zs n false ks k).1 <;> rfl
theorem vOf_5 {zs : List Int} {n : Nat} {f : FT} (hk : f.kind = 5) : vOf zs (n + 1) f = vTo zs n true f.ks f.ks.length := by
  show (if f.kind = 0 then _ else if f.kind = 1 then _ else if f.kind = 2 ∨ f.kind = 3 then _ else if f.kind = 4 then _ else _) = _
  rw [if_neg (by omega), if_neg (by omega), if_neg (by omega), if_neg (by omega)]
  unfold vTo
  rw [List.take_length, show (f.kind == 5) = true from by rw [hk]; rfl]
theorem vOf_6 {zs : List Int} {n : Nat} {f : FT} (hk : f.kind = 6) : vOf zs (n + 1) f = vTo zs n false f.ks f.ks.length := by
  show (if f.kind = 0 then _ else if f.kind = 1 then _ else if f.kind = 2 ∨ f.kind = 3 then _ else if f.kind = 4 then _ else _) = _
  rw [if_neg (by omega), if_neg (by omega), if_neg (by omega), if_neg (by omega)]
  unfold vTo
  rw [List.take_length, show (f.kind == 5) = false from by rw [hk]; rfl]
theorem vOf_4 {zs : List Int} {n : Nat} {f : FT} (hk : f.kind = 4) : vOf zs (n + 1) f = (!(vOf zs n (f.ks.getD 0 default)).1, (vOf zs n (f.ks.getD 0 default)).2) := by
  show (if f.kind = 0 then _ else if f.kind = 1 then _ else if f.kind = 2 ∨ f.kind = 3 then _ else if f.kind = 4 then _ else _) = _
  rw [if_neg (by omega), if_neg (by omega), if_neg (by omega), if_pos hk]
theorem vOf_2 {zs : List Int} {n : Nat} {f : FT} (hk : f.kind = 2 ∨ f.kind = 3) : vOf zs (n + 1) f = if ∀ i, i < f.t.length → near f.t zs i = true then (decide (sAt f.c f.t zs f.t.length = 0) || (decide (sAt f.c f.t zs f.t.length < 0) && decide (f.kind = 2)), true) else (true, false) := by
  show (if f.kind = 0 then _ else if f.kind = 1 then _ else if f.kind = 2 ∨ f.kind = 3 then _ else _) = _
  rw [if_neg (by omega), if_neg (by omega), if_pos hk]
theorem vOf_0 {zs : List Int} {n : Nat} {f : FT} (hk : f.kind = 0) : vOf zs (n + 1) f = (true, true) := by show (if f.kind = 0 then _ else _) = _; rw [if_pos hk]
theorem vOf_1 {zs : List Int} {n : Nat} {f : FT} (hk : f.kind = 1) : vOf zs (n + 1) f = (false, true) := by show (if f.kind = 0 then _ else if f.kind = 1 then _ else _) = _; rw [if_neg (by omega), if_pos hk]

theorem ownF_noks {f : FT} (h : ownF f = true) (hk : f.kind = 0 ∨ f.kind = 1 ∨ f.kind = 2 ∨ f.kind = 3) : f.ks.length = 0 := by
  unfold ownF ownV at h
  by_cases h0 : f.kind = 0 ∨ f.kind = 1
  · rw [if_pos h0] at h
    simp at h
    have := h.2
    simp [this]
  · rw [if_neg h0, if_pos (by omega)] at h
    simp at h
    have := h.2
    simp [this]
/-- far is the opposite of near. -/
theorem far_near (zs : List Int) : ∀ (n : Nat) (f : FT), sndF n f = true → farF zs n f = !(vOf zs n f).2
  | 0, _, h => by cases h
  | n + 1, f, h => by
    obtain ⟨hown, hkids⟩ := sndF_split h
    have ih := fun i hi => far_near zs n (f.ks.getD i default) (hkids i hi)
    rcases ownF_kind hown with hk | hk | hk | hk | hk | hk
    · rw [vOf_0 hk]
      have ht : f.t.length = 0 := by rcases ownF_terms hown with h | h; exact h; omega
      have hl := ownF_noks hown (by omega)
      exact farF_no (fun i hi => by omega) (fun i hi => by omega)
    · rw [vOf_1 hk]
      have ht : f.t.length = 0 := by rcases ownF_terms hown with h | h; exact h; omega
      have hl := ownF_noks hown (by omega)
      exact farF_no (fun i hi => by omega) (fun i hi => by omega)
    · rw [vOf_2 hk]
      have hl := ownF_noks hown (by omega)
      split
      · rename_i hn
        exact farF_no hn (fun i hi => by omega)
      · rename_i hn
        obtain ⟨j, hj, h1, h2⟩ := first_no _ _ hn
        exact farF_yes1 hj h2
    · rw [vOf_4 hk]
      have ht : f.t.length = 0 := by rcases ownF_terms hown with h | h; exact h; omega
      have hl := ownF_not hown hk
      have i0 := ih 0 (by omega)
      show _ = !(vOf zs n (f.ks.getD 0 default)).2
      rw [← i0]
      cases hc : farF zs n (f.ks.getD 0 default) with
      | true => exact farF_yes2 (by omega) hc
      | false => exact farF_no (fun i hi => by omega) (fun i hi => by obtain rfl : i = 0 := by omega
                                                                      exact hc)
    all_goals
      first | rw [vOf_5 hk] | rw [vOf_6 hk]
      have ht : f.t.length = 0 := by rcases ownF_terms hown with h | h; exact h; omega
      rw [show ∀ b c : Bool, (b = !c) ↔ (c = true ↔ b = false) from by decide, vTo_near _ (Nat.le_refl _)]
      constructor
      · intro hh
        exact farF_no (fun i hi => by omega) (fun i hi => by rw [ih i hi, hh i hi]; rfl)
      · intro hh i hi
        have := ih i hi
        cases hc : (vOf zs n (f.ks.getD i default)).2 with
        | true => rfl
        | false =>
          rw [hc] at this
          rw [farF_yes2 hi this] at hh
          cases hh
end Go.Proofs.YtelndcmfddbgiaaDoor
