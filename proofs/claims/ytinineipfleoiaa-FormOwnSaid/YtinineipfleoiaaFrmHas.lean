/- The document's Has: whether a variable stands in a formula. -/
import Derived.Test.YtinineipfleoiaaFrmD
namespace Go.Proofs.Ytinineipfleoiaa
open Go.RowKit

/-- Does a variable stand in it? -/
def hasF (v : Int) : Nat → FT → Bool
  | 0, _ => false
  | n + 1, f => decide (∃ i, i < f.t.length ∧ (f.t.getD i (0, 0)).1 = v) || decide (∃ i, i < f.ks.length ∧ hasF v n (f.ks.getD i default) = true)
theorem hasF_no {v : Int} {n : Nat} {f : FT} (h1 : ∀ i, i < f.t.length → (f.t.getD i (0, 0)).1 ≠ v) (h2 : ∀ i, i < f.ks.length → hasF v n (f.ks.getD i default) = false) : hasF v (n + 1) f = false := by
  show (decide _ || decide _) = false
  rw [decide_eq_false, decide_eq_false]
  · rfl
  · rintro ⟨i, hi, h⟩
    rw [h2 i hi] at h; cases h
  · rintro ⟨i, hi, h⟩
    exact h1 i hi h
theorem hasF_yes1 {v : Int} {n : Nat} {f : FT} {i : Nat} (hi : i < f.t.length) (h : (f.t.getD i (0, 0)).1 = v) : hasF v (n + 1) f = true := by
  show (decide _ || decide _) = true
  rw [decide_eq_true ⟨i, hi, h⟩, Bool.true_or]
theorem hasF_yes2 {v : Int} {n : Nat} {f : FT} {i : Nat} (hi : i < f.ks.length) (h : hasF v n (f.ks.getD i default) = true) : hasF v (n + 1) f = true := by
  show (decide _ || decide _) = true
  rw [decide_eq_true (p := ∃ i, i < f.ks.length ∧ hasF v n (f.ks.getD i default) = true) ⟨i, hi, h⟩, Bool.or_true]
theorem hasF_split {v : Int} {n : Nat} {f : FT} (h : hasF v (n + 1) f = false) : (∀ i, i < f.t.length → (f.t.getD i (0, 0)).1 ≠ v) ∧ ∀ i, i < f.ks.length → hasF v n (f.ks.getD i default) = false := by
  refine ⟨fun i hi e => ?_, fun i hi => ?_⟩
  · rw [hasF_yes1 hi e] at h; cases h
  · cases hh : hasF v n (f.ks.getD i default) with
    | false => rfl
    | true => rw [hasF_yes2 hi hh] at h; cases h

set_option maxRecDepth 100000 in
set_option maxHeartbeats 1600000 in
theorem has_any : ∀ (n : Nat) (f : FT) (cs : List Value) (x : Int) (w : World), FLies w.heap.size w n f cs →
    Calls Try.prog 21 #[.agg cs.toArray, .int .i64 x] w fun e w' => e = .returned (.bool (hasF x n f)) ∧ Below w.heap.size w w'
  | 0, _, _, _, _, h => h.elim
  | n + 1, f, cs, x, w, h => by
    have IH := has_any n
    obtain ⟨ta, tcap, ka, kcap, rfl, hlt, ht4, hk4, hks⟩ := h
    have B0 := Lib.hid (box_start w f.kind f.c ta ka f.t.length tcap f.ks.length kcap)
    have HL := Lib.hid hlt
    have HI := Lib.hid IH
    have HK := Lib.hid hks
    have Y1 := Lib.hid (fun i hi h => @hasF_yes1 x n f i hi h)
    have Y2 := Lib.hid (fun i hi h => @hasF_yes2 x n f i hi h)
    have YN := Lib.hid (fun h1 h2 => @hasF_no x n f h1 h2)
    generalize hr : hasF x (n + 1) f = r at Y1 Y2 YN
    clear IH hks hlt hr
    generalize f.kind = fk at B0
    generalize f.c = fc at B0
    generalize htl : f.t.length = ft at B0 HL Y1 YN ht4
    generalize hl : f.ks.length = len at B0 HK hk4 Y2 YN
    have HTL := Lib.hid htl
    clear hl htl
    go_enter Try.func21, Try.ntmps21
    go_wp2_with fail
    go_loopw [5] (fun i wr => ∃ (k : Nat), k ≤ ft ∧ i = .int .i64 k ∧ Hid (∀ j, j < k → (f.t.getD j (0, 0)).1 ≠ x) ∧ Hid (Box w wr w.heap.size fk fc ta ft tcap ka len kcap)) (fun i _ => ft - (intOf i).toNat)
    case atStart => exact ⟨0, Nat.zero_le _, rfl, fun j hj => absurd hj (Nat.not_lt_zero j), B0⟩
    case round =>
      obtain ⟨k, hk, rfl, hok, hbx⟩ := hrel
      obtain ⟨bz, _, _, q2, q3, hb⟩ := hbx.out
      by_cases hlt : k < ft
      · obtain ⟨b, off, rfl, hblt, c1, c2⟩ := (HL.out.below hb) k (by rw [HTL.out]; exact hlt)
        have hy := Lib.hid (Y1.out k hlt)
        have hno : Hid ((f.t.getD k (0, 0)).1 ≠ x → ∀ j, j < k + 1 → (f.t.getD j (0, 0)).1 ≠ x) := fun h j hj => by
          by_cases ej : j = k
          · rw [ej]; exact h
          · exact hok.out j (by omega)
        generalize (f.t.getD k (0, 0)).1 = v at c1 hy hno
        clear hok
        by_cases hx : v = x
        · have hr : r = true := hy.out hx
          subst hr hx
          go_wp2_with fail
          go_ret
          exact ⟨rfl, hb⟩
        · have hxx : (v == x) = false := by simpa using hx
          have hok2 := Lib.hid (hno.out hx)
          clear hno hy
          go_wp2_with fail
          go_roundw
          case rel => exact ⟨k + 1, by omega, by go_num, hok2, hbx⟩
          case measure => simp [intOf]; omega
      · have hok2 : Hid (∀ j, j < ft → (f.t.getD j (0, 0)).1 ≠ x) := fun j hj => hok.out j (by omega)
        clear hok
        go_wp2_with fail
        go_loopw [6] (fun i wr => ∃ (k : Nat), k ≤ len ∧ i = .int .i64 k ∧ Hid (∀ j, j < k → hasF x n (f.ks.getD j default) = false) ∧ Hid (Box w wr w.heap.size fk fc ta ft tcap ka len kcap)) (fun i _ => len - (intOf i).toNat)
        case atStart => exact ⟨0, Nat.zero_le _, rfl, fun j hj => absurd hj (Nat.not_lt_zero j), hbx⟩
        case round =>
          clear q2 q3 hb bz hbx
          obtain ⟨k, hk, rfl, hok, hbx⟩ := hrel
          obtain ⟨bz, _, _, q2, q3, hb⟩ := hbx.out
          by_cases hlt : k < len
          · obtain ⟨b, off, c0, c1, c2, c3, rfl, hblt, g0, g1, g2, g3, hf⟩ := HK.out k hlt
            rw [← hb.cell (p := ⟨b, _, none⟩) hblt] at g0 g1 g2 g3
            obtain ⟨ck, cc, cta, ctn, ctcap, cka, ckn, ckcap, rfl, rfl, rfl, rfl⟩ := hf.form
            have hih := HI.out (f.ks.getD k default) _ x _ ((hf.below hb).mono hb.size)
            have hstep := Lib.hid (fun h => Y2.out k hlt h)
            have hno : Hid (hasF x n (f.ks.getD k default) = false → ∀ j, j < k + 1 → hasF x n (f.ks.getD j default) = false) := fun h j hj => by
              by_cases ej : j = k
              · rw [ej]; exact h
              · exact hok.out j (by omega)
            generalize hasF x n (f.ks.getD k default) = u at hih hstep hno
            clear hf hok
            go_wp2_with fail
            refine hih.mono ?_
            rintro e w1 ⟨rfl, hb1⟩
            have HB1 := Lib.hid (hbx.out.below hb1 bz)
            clear g0 g1 g2 g3 hih hb1 hb hbx q2 q3
            cases u with
            | true =>
              have hr : r = true := hstep.out rfl
              subst hr
              go_wp2_with fail
              go_ret
              exact ⟨rfl, HB1.out.bel⟩
            | false =>
              go_wp2_with fail
              go_roundw
              case rel => exact ⟨k + 1, by omega, by go_num, hno.out trivial, HB1⟩
              case measure => simp [intOf]; omega
          · have hr : r = false := YN.out (fun i hi => hok2.out i hi) (fun i hi => hok.out i (by omega))
            subst hr
            go_wp2_with fail
            go_ret
            exact ⟨rfl, hb⟩
end Go.Proofs.Ytinineipfleoiaa
