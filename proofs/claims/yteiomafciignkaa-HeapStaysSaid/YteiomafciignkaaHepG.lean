/- The document's Get, Fresh, Drop, Same: their walks. -/
import Derived.Test.YteiomafciignkaaHepE
set_option linter.unusedVariables false
set_option linter.unusedSimpArgs false
namespace Go.Proofs.Yteiomafciignkaa
set_option maxRecDepth 100000
open Go.RowKit

theorem hkey_eq {c : HC} {a : Int} {f : ByteArray} : hkey c = (a, f.toList) ↔ c.a = a ∧ c.f.toList = f.toList := by simp [hkey]
inductive RGetIs (hs : List HC) (k : Key) : Int → Bool → Prop
  | yes (i : Nat) : i < hs.length → hkey (hs.getD i hc0) = k → (∀ j, j < i → hkey (hs.getD j hc0) ≠ k) → RGetIs hs k (hs.getD i hc0).v true
  | no : (∀ i, i < hs.length → hkey (hs.getD i hc0) ≠ k) → RGetIs hs k 0 false
def RGetEnd (hs : List HC) (k : Key) (w : World) (e : Ending) (w' : World) : Prop := ∃ x b, e = .returned (.tuple #[.int .i64 x, .bool b]) ∧ RGetIs hs k x b ∧ Below w.heap.size w w'
theorem rget_any (hs : List HC) (ad : Option Addr) (n cap : Nat) (a : Int) (f : ByteArray) (w : World) (hn : hs.length = n) (hnm : n ≤ 9223372036854775807) (hl : HLies w.heap.size w ad hs) :
    Calls Try.prog 14 #[.slice ad n cap, .int .i64 a, .string f] w (RGetEnd hs (a, f.toList) w) := by
  have HL := Lib.hid hl
  have HN := Lib.hid hn
  clear hl hn
  go_enter Try.func14, Try.ntmps14
  go_wp2_with fail
  go_loopw [8] (fun i wr => ∃ k : Nat, i = .int .i64 k ∧ k ≤ n ∧ Hid (∀ j, j < k → hkey (hs.getD j hc0) ≠ (a, f.toList)) ∧ Hid (Below w.heap.size w wr)) (fun i _ => n - (intOf i).toNat)
  case atStart => exact ⟨0, rfl, Nat.zero_le _, fun j hj => absurd hj (Nat.not_lt_zero j), Below.refl _ _⟩
  case round =>
    obtain ⟨k, rfl, hk, hno, hb⟩ := hrel
    by_cases hlt : k < n
    · have hlti : (k : Int) < (n : Int) := by omega
      obtain ⟨b3, off3, rfl, hb3, c1, c2, c3⟩ := HL.out k (by rw [HN.out]; omega)
      have c1 := (hb.out.cell (p := ⟨b3, _, none⟩) hb3).trans c1
      have c2 := (hb.out.cell (p := ⟨b3, _, none⟩) hb3).trans c2
      have c3 := (hb.out.cell (p := ⟨b3, _, none⟩) hb3).trans c3
      have HY : Hid (hkey (hs.getD k hc0) = (a, f.toList) → ∀ W, Below w.heap.size w W → RGetEnd hs (a, f.toList) w (.returned (.tuple #[.int .i64 (hs.getD k hc0).v, .bool true])) W) := fun h W hW => ⟨_, _, rfl, .yes k (by rw [HN.out]; exact hlt) h hno.out, hW⟩
      have HK : Hid (hkey (hs.getD k hc0) ≠ (a, f.toList) → ∀ j, j < k + 1 → hkey (hs.getD j hc0) ≠ (a, f.toList)) := fun h j hj => by
        by_cases e : j = k
        · subst e; exact h
        · exact hno.out j (by omega)
      clear hno
      generalize hs.getD k hc0 = x at c1 c2 c3 HY HK
      obtain ⟨xa, xf, xv⟩ := x
      simp only at c1 c2 c3
      by_cases e1 : xa = a
      · have he1 : (xa == a) = true := by simp [e1]
        by_cases e2 : xf.toList = f.toList
        · have he2 : (xf.toList == f.toList) = true := by simp [e2]
          have HE := Lib.hid (HY.out (hkey_eq.2 ⟨e1, e2⟩))
          clear HK HY e1 e2
          go_wp2_with fail
          go_ret2
          exact HE.out _ hb.out
        · have he2 : (xf.toList == f.toList) = false := by simp [e2]
          have HE := Lib.hid (HK.out (fun h => e2 (hkey_eq.1 h).2))
          clear HK HY e1 e2
          go_wp2_with fail
          go_roundw
          case rel => exact ⟨k + 1, by go_num, by omega, HE, hb⟩
          case measure => simp [intOf]; omega
      · have he1 : (xa == a) = false := by simp [e1]
        have HE := Lib.hid (HK.out (fun h => e1 (hkey_eq.1 h).1))
        clear HK HY e1
        go_wp2_with fail
        go_roundw
        case rel => exact ⟨k + 1, by go_num, by omega, HE, hb⟩
        case measure => simp [intOf]; omega
    · have hlti : ¬ (k : Int) < (n : Int) := by omega
      have HE : Hid (∀ W, Below w.heap.size w W → RGetEnd hs (a, f.toList) w (.returned (.tuple #[.int .i64 0, .bool false])) W) := fun W hW => ⟨_, _, rfl, .no (fun i hi => hno.out i (by rw [HN.out] at hi; omega)), hW⟩
      go_wp2_with fail
      go_ret2
      exact HE.out _ hb.out
/-- The greatest address, as the loop goes. -/
def topI (hs : List HC) : Nat → Int
  | 0 => 0
  | k + 1 => if k = 0 ∨ (hs.getD k hc0).a > topI hs k then (hs.getD k hc0).a else topI hs k
theorem topI_in {hs : List HC} (h : ∀ i, i < hs.length → -9223372036854775808 ≤ (hs.getD i hc0).a ∧ (hs.getD i hc0).a ≤ 9223372036854775806) : ∀ k, k ≤ hs.length → -9223372036854775808 ≤ topI hs k ∧ topI hs k ≤ 9223372036854775806
  | 0, _ => by simp [topI]
  | k + 1, hk => by
    have h1 := topI_in h k (by omega)
    have h2 := h k (by omega)
    unfold topI
    split <;> omega
theorem topI_last {hs : List HC} (hst : Stand hs) : ∀ k, k + 1 ≤ hs.length → topI hs (k + 1) = (hs.getD k hc0).a
  | 0, _ => by simp [topI]
  | k + 1, hk => by
    have h1 := topI_last hst k (by omega)
    have h2 := hst k (by omega)
    rw [kl_iff] at h2
    simp only [hkey] at h2
    unfold topI
    rw [h1]
    split <;> omega
theorem rfresh_any (hs : List HC) (ad : Option Addr) (n cap : Nat) (w : World) (hn : hs.length = n) (hnm : n ≤ 9223372036854775807) (hl : HLies w.heap.size w ad hs) (hin : ∀ i, i < hs.length → -9223372036854775808 ≤ (hs.getD i hc0).a ∧ (hs.getD i hc0).a ≤ 9223372036854775806) :
    Calls Try.prog 20 #[.slice ad n cap] w fun e w' => e = .returned (.int .i64 (topI hs n + 1)) ∧ w = w' := by
  have HL := Lib.hid hl
  have HN := Lib.hid hn
  have HT := Lib.hid (topI_in hin)
  clear hl hn hin
  go_enter Try.func20, Try.ntmps20
  go_wp2_with fail
  go_loop [3, 4] (fun t i => ∃ k : Nat, t = .int .i64 (topI hs k) ∧ i = .int .i64 k ∧ k ≤ n) (fun _ i => n - (intOf i).toNat)
  case atStart => exact ⟨0, rfl, rfl, Nat.zero_le _⟩
  case round =>
    obtain ⟨k, rfl, rfl, hk⟩ := hrel
    by_cases hlt : k < n
    · have hlti : (k : Int) < (n : Int) := by omega
      obtain ⟨b3, off3, rfl, hb3, c1, c2, c3⟩ := HL.out k (by rw [HN.out]; omega)
      have HE : Hid (topI hs (k + 1) = if k = 0 ∨ (hs.getD k hc0).a > topI hs k then (hs.getD k hc0).a else topI hs k) := rfl
      clear c2 c3
      generalize topI hs k = t at HE
      generalize (hs.getD k hc0).a = x at c1 HE
      by_cases h0 : k = 0
      · subst h0
        have hE : Hid (topI hs (0 + 1) = x) := HE.out.trans (if_pos (.inl rfl))
        simp only [Nat.zero_mul, Nat.add_zero] at c1
        clear HE
        go_wp2_with fail
        go_round
        case rel => exact ⟨0 + 1, by rw [hE.out], by go_num, by omega⟩
        case measure => simp [intOf]; omega
      · have h0i : ((k : Int) == 0) = false := by simp [h0]
        by_cases hxt : x > t
        · have hE : Hid (topI hs (k + 1) = x) := HE.out.trans (if_pos (.inr hxt))
          have hxt2 : t < x := hxt
          clear HE
          go_wp2_with fail
          go_round
          case rel => exact ⟨k + 1, by rw [hE.out], by go_num, by omega⟩
          case measure => simp [intOf]; omega
        · have hE : Hid (topI hs (k + 1) = t) := HE.out.trans (if_neg (fun h => h.elim h0 hxt))
          have hxt2 : ¬ t < x := hxt
          clear HE
          go_wp2_with fail
          go_round
          case rel => exact ⟨k + 1, by rw [hE.out], by go_num, by omega⟩
          case measure => simp [intOf]; omega
    · have hlti : ¬ (k : Int) < (n : Int) := by omega
      obtain rfl : k = n := by omega
      have h1 := HT.out k (by rw [HN.out]; exact Nat.le_refl _)
      have HTT : Hid (∀ t, topI hs k = t → t + 1 = topI hs k + 1) := fun t h => by rw [h]
      obtain ⟨t, ht⟩ : ∃ t, t = topI hs k := ⟨_, rfl⟩
      have HTT : Hid (topI hs k + 1 = t + 1) := by show _ = _; rw [ht]
      rw [← ht] at h1 ⊢
      clear ht
      have hw1 : IntKind.i64.wrap (t + 1) = t + 1 := IntWalk.i64_in _ (by omega)
      go_wp2_with fail
      go_ret
      exact ⟨by rw [HTT.out]; rfl, rfl⟩
end Go.Proofs.Yteiomafciignkaa
