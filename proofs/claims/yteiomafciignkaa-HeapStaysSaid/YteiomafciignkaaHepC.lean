/- heap.find: the place of a cell. -/
import Derived.Test.YteiomafciignkaaHepB
import Derived.RegionTactic
set_option linter.unusedVariables false
set_option linter.unusedSimpArgs false
namespace Go.Proofs.Yteiomafciignkaa
set_option maxRecDepth 100000
open Go.RowKit

/-- The cells stand. -/
def Stand (hs : List HC) : Prop := ∀ i, i + 1 < hs.length → kl (hkey (hs.getD i hc0)) (hkey (hs.getD (i + 1) hc0)) = true
theorem Stand.lt {hs : List HC} (h : Stand hs) : ∀ {i j : Nat}, i < j → j < hs.length → kl (hkey (hs.getD i hc0)) (hkey (hs.getD j hc0)) = true := by
  intro i j hij
  induction hij with
  | refl => intro hj; exact h i hj
  | step hij ih => intro hj; exact kl_trans (ih (by omega)) (h _ hj)
structure FindIs (hs : List HC) (k : Key) (i : Nat) (b : Bool) : Prop where
  le : i ≤ hs.length
  lo : ∀ q, q < i → kl (hkey (hs.getD q hc0)) k = true
  hi : ∀ q, i ≤ q → q < hs.length → ¬ kl (hkey (hs.getD q hc0)) k = true
  is : b = true ↔ i < hs.length ∧ hkey (hs.getD i hc0) = k
theorem fcmp_any (c : HC) (a : Int) (f : ByteArray) (g : Nat) (w : World) (hg : w.cell? ⟨g, 0, none⟩ = some (.string f)) :
    Calls Try.prog 35 #[.agg #[.int .i64 c.a, .string c.f, .int .i64 c.v], .int .i64 a, .pointer (some ⟨g, 0, none⟩)] w fun e w' => e = .returned (.int .i64 (ordK (hkey c) (a, f.toList))) ∧ Below w.heap.size w w' := by
  obtain ⟨x, y, z⟩ := c
  have HO := Lib.hid (fun W => order_any x y a f W)
  have hglt : g < w.heap.size := by
    rcases Nat.lt_or_ge g w.heap.size with h | h
    · exact h
    · simp [World.cell?, Array.getElem?_eq_none h] at hg
  have HB : Hid (Below w.heap.size w (w.alloc (.cells #[.int .i64 x, .string y, .int .i64 z] 30))) := (Below.refl _ w).alloc (Nat.le_refl _) _
  have hg2 := (HB.out.cell (p := ⟨g, 0, none⟩) hglt).trans hg
  go_enter Try.func35, Try.ntmps35
  go_wp2_with fail
  refine (HO.out _).mono ?_
  rintro e w1 ⟨rfl, rfl⟩
  go_wp2_with fail
  go_ret
  exact ⟨rfl, HB.out⟩
def FindEnd (hs : List HC) (k : Key) (w : World) (e : Ending) (w' : World) : Prop := ∃ (i : Nat) (b : Bool), e = .returned (.tuple #[.int .i64 i, .bool b]) ∧ FindIs hs k i b ∧ Below w.heap.size w w'
theorem shr_half (m : Int) (x : Int) (hx : x / 2 = m) (W : World) : (binOp .shr 66 (.int .u64 x) (.int .u64 1)).run Try.prog W = .ok (.int .u64 m) W := by
  subst hx
  simp [go_sem]
set_option maxHeartbeats 2000000 in
theorem bsearch_any (hs : List HC) (ad : Option Addr) (n cap : Nat) (a : Int) (f : ByteArray) (g : Nat) (w : World) (hn : hs.length = n) (hnm : n ≤ 1000000) (hl : HLies w.heap.size w ad hs) (hst : Stand hs) (hg : w.cell? ⟨g, 0, none⟩ = some (.string f)) (hgl : g < w.heap.size) :
    Calls Try.prog 34 #[.slice ad n cap, .int .i64 a, .func (.func 35) #[] #[.pointer (some ⟨g, 0, none⟩)]] w (FindEnd hs (a, f.toList) w) := by
  have HF := Lib.hid (fun c W (hb : Below w.heap.size w W) => fcmp_any c a f g W ((hb.cell (p := ⟨g, 0, none⟩) hgl).trans hg))
  have HN := Lib.hid hn
  have HL := Lib.hid hl
  have HS := Lib.hid hst
  clear hn hl hst hg
  go_enter Try.func34, Try.ntmps34
  go_wp2_with fail
  go_loopw [9, 10] (fun i j wr => ∃ p q : Nat, p ≤ q ∧ q ≤ n ∧ i = .int .i64 p ∧ j = .int .i64 q ∧ Hid (∀ r, r < p → kl (hkey (hs.getD r hc0)) (a, f.toList) = true) ∧ Hid (∀ r, q ≤ r → r < n → ¬ kl (hkey (hs.getD r hc0)) (a, f.toList) = true) ∧ Hid (Below w.heap.size w wr)) (fun i j _ => (intOf j - intOf i).toNat)
  case atStart => exact ⟨0, n, Nat.zero_le _, Nat.le_refl _, rfl, rfl, fun r hr => absurd hr (Nat.not_lt_zero r), fun r h1 h2 => by omega, Below.refl _ _⟩
  case round =>
    obtain ⟨p, q, hpq, hq, rfl, rfl, hlo, hhi, hb⟩ := hrel
    by_cases hlt : p < q
    · have hlti : (p : Int) < (q : Int) := by omega
      have hm1 : Hid (p ≤ (p + q) / 2 ∧ (p + q) / 2 < q) := ⟨by omega, by omega⟩
      have hw1 : IntKind.i64.wrap ((p : Int) + (q : Int)) = (p : Int) + (q : Int) := IntWalk.i64_in _ (by omega)
      have hi1 : (p + q) / 2 < n := by omega
      obtain ⟨b3, off3, rfl, hb3, c1, c2, c3⟩ := HL.out ((p + q) / 2) (by rw [HN.out]; exact hi1)
      have c1 := (hb.out.cell (p := ⟨b3, _, none⟩) hb3).trans c1
      have c2 := (hb.out.cell (p := ⟨b3, _, none⟩) hb3).trans c2
      have c3 := (hb.out.cell (p := ⟨b3, _, none⟩) hb3).trans c3
      have HC := Lib.hid (HF.out (hs.getD ((p + q) / 2) hc0) wr hb.out)
      have HLO : Hid (kl (hkey (hs.getD ((p + q) / 2) hc0)) (a, f.toList) = true → ∀ r, r < (p + q) / 2 + 1 → kl (hkey (hs.getD r hc0)) (a, f.toList) = true) := fun h r hr => by
        by_cases e : r = (p + q) / 2
        · rw [e]; exact h
        · exact kl_trans (HS.out.lt (show r < (p + q) / 2 by omega) (by rw [HN.out]; exact hi1)) h
      have HHI : Hid (¬ kl (hkey (hs.getD ((p + q) / 2) hc0)) (a, f.toList) = true → ∀ r, (p + q) / 2 ≤ r → r < n → ¬ kl (hkey (hs.getD r hc0)) (a, f.toList) = true) := fun h r h1 h2 h3 => by
        by_cases e : r = (p + q) / 2
        · rw [e] at h3; exact h h3
        · exact h (kl_trans (HS.out.lt (show (p + q) / 2 < r by omega) (by rw [HN.out]; exact h2)) h3)
      generalize hs.getD ((p + q) / 2) hc0 = c at c1 c2 c3 HC HLO HHI
      have HOL := Lib.hid (ordK_lt (x := hkey c) (y := (a, f.toList)))
      have HC : Hid (Calls Try.prog 35 #[.agg #[.int .i64 c.a, .string c.f, .int .i64 c.v], .int .i64 a, .pointer (some ⟨g, 0, none⟩)] wr fun e w' => e = .returned (.int .i64 (ordK (hkey c) (a, f.toList))) ∧ Below wr.heap.size wr w') := HC.out
      generalize ordK (hkey c) (a, f.toList) = o at HC HOL
      clear HS
      go_wp2_with fail
      refine HC.out.mono ?_
      rintro e w5 ⟨rfl, hb5⟩
      have BW := Lib.hid (hb.out.trans (hb5.mono hb.out.size))
      clear hb5 HC HF hb
      by_cases ho : o < 0
      · have HL2 := Lib.hid (HLO.out (HOL.out.1 ho))
        clear HLO HHI HOL
        go_wp2_with fail
        go_roundw
        case rel => exact ⟨(p + q) / 2 + 1, q, by have := hm1.out; omega, hq, by go_num, rfl, HL2, hhi, BW⟩
        case measure => have := hm1.out; simp [intOf]; omega
      · have HH2 := Lib.hid (HHI.out (fun h => ho (HOL.out.2 h)))
        clear HLO HHI HOL
        go_wp2_with fail
        go_roundw
        case rel => exact ⟨p, (p + q) / 2, hm1.out.1, by have := hm1.out; omega, rfl, by go_num, hlo, HH2, BW⟩
        case measure => have := hm1.out; simp [intOf]; omega
    · obtain rfl : p = q := by omega
      by_cases hpn : p < n
      · have hpni : (p : Int) < (n : Int) := by omega
        obtain ⟨b3, off3, rfl, hb3, c1, c2, c3⟩ := HL.out p (by rw [HN.out]; exact hpn)
        have c1 := (hb.out.cell (p := ⟨b3, _, none⟩) hb3).trans c1
        have c2 := (hb.out.cell (p := ⟨b3, _, none⟩) hb3).trans c2
        have c3 := (hb.out.cell (p := ⟨b3, _, none⟩) hb3).trans c3
        have HC := Lib.hid (HF.out (hs.getD p hc0) wr hb.out)
        have HE : Hid (∀ z : Bool, (z = true ↔ ordK (hkey (hs.getD p hc0)) (a, f.toList) = 0) → FindIs hs (a, f.toList) p z) := fun z hz =>
          ⟨by rw [HN.out]; exact hq, hlo.out, fun r h1 h2 => hhi.out r h1 (by rw [HN.out] at h2; exact h2), by rw [hz, ordK_zero, HN.out]; exact ⟨fun h => ⟨hpn, h⟩, fun h => h.2⟩⟩
        generalize hs.getD p hc0 = c at c1 c2 c3 HC HE
        have HC : Hid (Calls Try.prog 35 #[.agg #[.int .i64 c.a, .string c.f, .int .i64 c.v], .int .i64 a, .pointer (some ⟨g, 0, none⟩)] wr fun e w' => e = .returned (.int .i64 (ordK (hkey c) (a, f.toList))) ∧ Below wr.heap.size wr w') := HC.out
        generalize ordK (hkey c) (a, f.toList) = o at HC HE
        clear HS hlo hhi
        go_wp2_with fail
        refine HC.out.mono ?_
        rintro e w5 ⟨rfl, hb5⟩
        have BW := Lib.hid (hb.out.trans (hb5.mono hb.out.size))
        have HE2 := Lib.hid (HE.out (o == 0) (by simp))
        clear hb5 HC HF hb HE
        go_wp2_with fail
        go_ret2
        exact ⟨p, _, rfl, HE2.out, BW.out⟩
      · have hpni : ¬ (p : Int) < (n : Int) := by omega
        have HE : Hid (FindIs hs (a, f.toList) p false) := ⟨by rw [HN.out]; exact hq, hlo.out, fun r h1 h2 => hhi.out r h1 (by rw [HN.out] at h2; exact h2), ⟨fun h => (by cases h), fun h => by have := h.1; rw [HN.out] at this; omega⟩⟩
        clear HF HS hlo hhi
        go_wp2_with fail
        go_ret2
        exact ⟨p, _, rfl, HE.out, hb.out⟩
theorem find_any (hs : List HC) (ad : Option Addr) (n cap : Nat) (a : Int) (f : ByteArray) (w : World) (hn : hs.length = n) (hnm : n ≤ 1000000) (hl : HLies w.heap.size w ad hs) (hst : Stand hs) :
    Calls Try.prog 26 #[.slice ad n cap, .int .i64 a, .string f] w (FindEnd hs (a, f.toList) w) := by
  have hB : Below w.heap.size w (w.alloc (.cells #[.string f] 9)) := (Below.refl _ w).alloc (Nat.le_refl _) _
  have hn2 := heap_alloc_new w (.cells #[.string f] 9)
  have HS := Lib.hid (bsearch_any hs ad n cap a f w.heap.size (w.alloc (.cells #[.string f] 9)) hn hnm (hl.up hB) hst ((cell_of_row _ _ _ _ _ _ hn2).trans rfl) (lt_of_some hn2))
  have HB := Lib.hid hB
  clear hn hl hst hB hn2
  go_enter Try.func26, Try.ntmps26
  go_wp2_with fail
  refine HS.out.mono ?_
  rintro e w1 ⟨i, b, rfl, hf, hb1⟩
  have BW := Lib.hid (HB.out.trans (hb1.mono HB.out.size))
  have HF := Lib.hid hf
  clear hb1 hf HS
  go_wp2_with fail
  go_ret2
  exact ⟨i, b, rfl, HF.out, BW.out⟩
end Go.Proofs.Yteiomafciignkaa
