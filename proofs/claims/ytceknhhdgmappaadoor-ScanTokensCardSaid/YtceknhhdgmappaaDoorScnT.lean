/- ScanTokens: its walk. -/
import Derived.Test.YtceknhhdgmappaaDoorScnTb
import Derived.Test.YtceknhhdgmappaaDoorScnU
set_option linter.unusedVariables false
set_option linter.unusedSimpArgs false
namespace Go.Proofs.YtceknhhdgmappaaDoor
set_option maxRecDepth 100000
open Go.RowKit

theorem scanF_few {l : List UInt8} : ∀ (f : Nat) (r : List UInt8) (i : Nat) (ts us : List Tok), scanF f r i ts = .ok us → us.length ≤ ts.length + f
  | 0, r, i, ts, us, h => by rw [scanF] at h; injection h with h; subst h; omega
  | f + 1, r, i, ts, us, h => by
    rw [scanF] at h
    split at h
    · injection h with h; subst h; omega
    · cases h
    · have := scanF_few (l := l) f _ _ _ _ h; omega
    · have := scanF_few (l := l) f _ _ _ _ h
      rw [List.length_append, List.length_singleton] at this; omega
theorem scanF_bad : ∀ (f : Nat) (r : List UInt8) (i : Nat) (ts : List Tok) (c : Int) (j : Nat), scanF f r i ts = .bad c j → c = 2 ∨ c = 5 ∨ c = 10
  | 0, r, i, ts, c, j, h => by rw [scanF] at h; cases h
  | f + 1, r, i, ts, c, j, h => by
    rw [scanF] at h
    split at h
    · cases h
    · next hs => injection h with h1 h2; subst h1; exact stp_bad hs
    · exact scanF_bad f _ _ _ _ _ h
    · exact scanF_bad f _ _ _ _ _ h
theorem resOf_in (s : ByteArray) : (0 ≤ (resOf s).1 ∧ (resOf s).1 ≤ 16) ∧ (0 ≤ (resOf s).2.1 → (resOf s).1 ≠ 0) ∧ (resOf s).2.2.length ≤ 65536 := by
  unfold resOf
  split
  · exact ⟨⟨by decide, by decide⟩, fun h => absurd h (by decide), Nat.zero_le _⟩
  · next hs =>
    cases h : scanF s.data.toList.length s.data.toList 0 [] with
    | ok ts =>
      have := scanF_few (l := []) _ _ _ _ _ h
      rw [size_l, List.length_nil] at this
      exact ⟨⟨by show (0 : Int) ≤ 0; omega, by show (0 : Int) ≤ 16; omega⟩, fun h => absurd h (by show ¬ (0 : Int) ≤ -1; decide), by show ts.length ≤ 65536; omega⟩
    | bad c i =>
      have := scanF_bad _ _ _ _ _ _ h
      refine ⟨?_, fun _ => ?_, Nat.zero_le _⟩
      · show 0 ≤ c ∧ c ≤ 16; omega
      · show c ≠ 0; omega
set_option maxHeartbeats 4000000 in
theorem scanTokens_any (hup : UpSaid13) (s : ByteArray) (w : World) (hs : s.size ≤ 9223372036854775807) (hL : Laid w) :
    Calls Tryd.prog 3 #[.string s] w fun e w' => e = .returned (.bool true) ∧ Below w.heap.size w w' := by
  have HUP := Lib.hid (hup w hL)
  have HSC := Lib.hid (fun W (hb : Below w.heap.size w W) => scan_any s W hs (hL.up hb))
  have HRS := Lib.hid (fun W => rscan_any s W hs)
  obtain ⟨q1, q2, q3⟩ := resOf_in s
  have HIN := Lib.hid q1
  have HNZ := Lib.hid q2
  have HL := Lib.hid (fun W (hb : Below w.heap.size w W) => (hL.up hb).err)
  obtain ⟨⟨x, at', ts⟩, hr⟩ : ∃ r, resOf s = r := ⟨_, rfl⟩
  rw [hr] at HSC HRS HIN HNZ q3
  clear hL q1 q2 hr
  have main : ∀ w1, Below w.heap.size w w1 → True := fun _ _ => trivial
  by_cases h1 : 5000 < s.size ∧ s.size ≤ 65536
  · have h1i : (5000 : Int) < (s.size : Int) := by omega
    have h2i : (s.size : Int) ≤ 65536 := by omega
    clear main
    go_enter Tryd.func3, Tryd.ntmps3
    go_wp2_with fail
    refine HUP.out.mono ?_
    rintro e w1 ⟨rfl, hb1⟩
    go_wp2_with fail
    go_ret
    exact ⟨rfl, hb1⟩
  · have hh : ((5000 : Int) < (s.size : Int) ∧ ¬ (s.size : Int) ≤ 65536) ∨ ¬ (5000 : Int) < (s.size : Int) := by omega
    clear main h1
    rcases hh with ⟨h1i, h2i⟩ | h1i
    all_goals
      go_enter Tryd.func3, Tryd.ntmps3
      go_wp2_with fail
      refine HUP.out.mono ?_
      rintro e w1 ⟨rfl, hb1⟩
      have B1 := Lib.hid hb1
      clear hb1 HUP
      go_wp2_with fail
      refine (HSC.out _ B1.out).mono ?_
      rintro e w2 ⟨v, er, rfl, hrow, her, hb2⟩
      have B2 := Lib.hid (B1.out.trans (hb2.mono B1.out.size))
      obtain ⟨a, ca, rfl, hla⟩ := hrow.lies
      have HLA := Lib.hid hla
      have HER := Lib.hid her
      clear hrow her hb2 hla HSC
      go_wp2_with fail
      refine (HRS.out _).mono ?_
      rintro e w3 ⟨v3, rfl, hrow3, hb3⟩
      have B3 := Lib.hid (B2.out.trans (hb3.mono B2.out.size))
      obtain ⟨b, cb, rfl, hlb⟩ := hrow3.lies
      have hla3 : TLies w3.heap.size w3 a ts := fun i hi => by
        obtain ⟨b, off, ha, hlt, h⟩ := (HLA.out.below hb3) i hi
        exact ⟨b, off, ha, Nat.lt_of_lt_of_le hlt hb3.size, h⟩
      have HSM := Lib.hid (rsame_any a b ts.length ca cb ts w3 rfl q3 hla3 hlb)
      have HE3 := Lib.hid (HER.out.below hb3)
      clear hrow3 hb3 hla3 hlb HLA HER HRS
      go_wp2_with fail
      refine HSM.out.mono ?_
      rintro e w4 ⟨rfl, hb4⟩
      have B4 := Lib.hid (B3.out.trans (hb4.mono B3.out.size))
      have HTO := Lib.hid (etold_any (HE3.out.below hb4) HIN.out HNZ.out (HL.out _ B4.out))
      clear hb4 HSM HE3
      go_wp2_with fail
      refine HTO.out.mono ?_
      rintro e w5 ⟨rfl, hb5⟩
      have B5 := Lib.hid (B4.out.trans (hb5.mono B4.out.size))
      clear hb5 HTO
      go_wp2_with fail
      go_ret
      exact ⟨rfl, B5.out⟩
end Go.Proofs.YtceknhhdgmappaaDoor
