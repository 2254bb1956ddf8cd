/- heap.Get, Drop, Set, Fresh. -/
import Derived.Test.YteiomafciignkaaHepC
import Derived.BigRegion
import Derived.Deep.RegionWith
set_option linter.unusedVariables false
set_option linter.unusedSimpArgs false
namespace Go.Proofs.Yteiomafciignkaa
set_option maxRecDepth 100000
open Go.RowKit

/-- What Get answers. -/
inductive GetIs (hs : List HC) (k : Key) : Int → Value → Prop
  | yes (i : Nat) : i < hs.length → hkey (hs.getD i hc0) = k → GetIs hs k (hs.getD i hc0).v .nilIface
  | no : (∀ i, i < hs.length → hkey (hs.getD i hc0) ≠ k) → GetIs hs k 0 (.iface 28 (.int .i64 15))
theorem FindIs.not {hs : List HC} {k : Key} {i : Nat} (hst : Stand hs) (h : FindIs hs k i false) : ∀ j, j < hs.length → hkey (hs.getD j hc0) ≠ k := fun j hj e => by
  rcases Nat.lt_trichotomy j i with hlt | rfl | hlt
  · have := h.lo j hlt
    rw [e] at this
    exact kl_irrefl k this
  · have := h.is.2 ⟨hj, e⟩
    cases this
  · have h1 := hst.lt hlt hj
    rw [e] at h1
    exact h.hi i (Nat.le_refl _) (by omega) h1
def GetEnd (hs : List HC) (k : Key) (w : World) (e : Ending) (w' : World) : Prop := ∃ x er, e = .returned (.tuple #[.int .i64 x, er]) ∧ GetIs hs k x er ∧ Below w.heap.size w w'
theorem get_any (hs : List HC) (ad : Option Addr) (n cap : Nat) (a : Int) (f : ByteArray) (w : World) (hn : hs.length = n) (hnm : n ≤ 1000000) (hl : HLies w.heap.size w ad hs) (hst : Stand hs) :
    Calls Try.prog 12 #[.slice ad n cap, .int .i64 a, .string f] w (GetEnd hs (a, f.toList) w) := by
  have HF := Lib.hid (find_any hs ad n cap a f w hn hnm hl hst)
  have HL := Lib.hid hl
  have HN := Lib.hid hn
  have HST := Lib.hid hst
  clear hl hn hst
  go_enter Try.func12, Try.ntmps12
  go_wp2_with fail
  refine HF.out.mono ?_
  rintro e w1 ⟨i, b, rfl, hf, hb1⟩
  have BW := Lib.hid hb1
  cases b with
  | false =>
    have HE : Hid (GetEnd hs (a, f.toList) w (.returned (.tuple #[.int .i64 0, .iface 28 (.int .i64 15)])) w1) := ⟨_, _, rfl, .no (hf.not HST.out), hb1⟩
    clear hf hb1 HF
    go_wp2_with fail
    go_ret2
    exact HE.out
  | true =>
    obtain ⟨hi, hk⟩ := hf.is.1 rfl
    obtain ⟨b3, off3, rfl, hb3, c1, c2, c3⟩ := HL.out i hi
    have c3 := (hb1.cell (p := ⟨b3, _, none⟩) hb3).trans c3
    have hin : i < n := by rw [← HN.out]; exact hi
    have HE : Hid (GetEnd hs (a, f.toList) w (.returned (.tuple #[.int .i64 (hs.getD i hc0).v, .nilIface])) w1) := ⟨_, _, rfl, .yes i hi hk, hb1⟩
    generalize (hs.getD i hc0).v = x at c3 HE
    clear hf hb1 HF c1 c2 hk hi
    go_wp2_with fail
    go_ret2
    exact HE.out
theorem fresh_any (hs : List HC) (ad : Option Addr) (n cap : Nat) (w : World) (hn : hs.length = n) (hnm : n ≤ 1000000) (hl : HLies w.heap.size w ad hs) (hin : ∀ i, i < hs.length → -9223372036854775808 ≤ (hs.getD i hc0).a ∧ (hs.getD i hc0).a ≤ 9223372036854775806) :
    Calls Try.prog 19 #[.slice ad n cap] w fun e w' => e = .returned (.int .i64 (if n = 0 then 1 else (hs.getD (n - 1) hc0).a + 1)) ∧ w = w' := by
  by_cases h0 : n = 0
  · subst h0
    rw [if_pos rfl]
    go_enter Try.func19, Try.ntmps19
    go_wp2_with fail
    go_ret
    exact ⟨rfl, rfl⟩
  · rw [if_neg h0]
    obtain ⟨m, rfl⟩ : ∃ m, n = m + 1 := ⟨n - 1, by omega⟩
    obtain ⟨b3, off3, rfl, hb3, c1, c2, c3⟩ := hl m (by omega)
    have h1 := hin m (by omega)
    rw [show m + 1 - 1 = m by omega]
    have hw1 : IntKind.i64.wrap ((hs.getD m hc0).a + 1) = (hs.getD m hc0).a + 1 := IntWalk.i64_in _ (by omega)
    have hw2 : IntKind.i64.wrap (((m + 1 : Nat) : Int) - 1) = (m : Int) := by rw [show ((m + 1 : Nat) : Int) - 1 = (m : Int) by omega]; exact IntWalk.i64_in _ (by omega)
    have hw3 : IntKind.i64.wrap ((m : Int) + 1 - 1) = (m : Int) := by rw [show (m : Int) + 1 - 1 = (m : Int) by omega]; exact IntWalk.i64_in _ (by omega)
    clear hn hl hin c2 c3 h1
    generalize (hs.getD m hc0).a = x at c1 hw1
    go_enter Try.func19, Try.ntmps19
    go_wp2_with fail
    go_ret
    exact ⟨rfl, rfl⟩
/-- What Drop answers. -/
inductive DropIs (hs : List HC) (k : Key) : List HC → Value → Prop
  | yes (i : Nat) : i < hs.length → hkey (hs.getD i hc0) = k → DropIs hs k (hs.take i ++ hs.drop (i + 1)) .nilIface
  | no : (∀ i, i < hs.length → hkey (hs.getD i hc0) ≠ k) → DropIs hs k [] (.iface 28 (.int .i64 15))
def DropEnd (hs : List HC) (k : Key) (w : World) (e : Ending) (w' : World) : Prop := ∃ v er ds, e = .returned (.tuple #[v, er]) ∧ DropIs hs k ds er ∧ w'.ownsRow w.heap.size 30 3 v ds.length (hcells ds) ∧ Below w.heap.size w w'
set_option maxHeartbeats 1000000 in
theorem drop_any (hs : List HC) (ad : Option Addr) (n cap : Nat) (a : Int) (f : ByteArray) (w : World) (hn : hs.length = n) (hnm : n ≤ 30000) (hcap : n ≤ cap ∧ cap ≤ 9223372036854775807) (hl : HLies w.heap.size w ad hs) (hst : Stand hs) :
    Calls Try.prog 13 #[.slice ad n cap, .int .i64 a, .string f] w (DropEnd hs (a, f.toList) w) := by
  have HF := Lib.hid (find_any hs ad n cap a f w hn (by omega) hl hst)
  have HL := Lib.hid hl
  have HN := Lib.hid hn
  have HST := Lib.hid hst
  clear hl hn hst
  go_enter Try.func13, Try.ntmps13
  go_wp2_with fail
  refine HF.out.mono ?_
  rintro e w1 ⟨i, b, rfl, hf, hb1⟩
  have BW := Lib.hid hb1
  cases b with
  | false =>
    have HE : Hid (DropEnd hs (a, f.toList) w (.returned (.tuple #[.slice none 0 0, .iface 28 (.int .i64 15)])) w1) := ⟨_, _, _, rfl, .no (hf.not HST.out), World.ownsRow_nil _ _ _ _, hb1⟩
    clear hf hb1 HF
    go_wp2_with fail
    go_ret2
    exact HE.out
  | true =>
    obtain ⟨hi, hk⟩ := hf.is.1 rfl
    obtain ⟨b3, off3, rfl, hb3, _⟩ := HL.out i hi
    have hin : i < n := by rw [← HN.out]; exact hi
    have hw1 : IntKind.i64.wrap ((i : Int) + 1) = ((i + 1 : Nat) : Int) := by rw [show (i : Int) + 1 = ((i + 1 : Nat) : Int) by omega]; exact IntWalk.i64_in _ (by omega)
    obtain ⟨ad2, had2⟩ : ∃ ad2 : Option Addr, (if cap = i + 1 then some (⟨b3, off3, none⟩ : Addr) else some ⟨b3, off3 + (i + 1) * 3, none⟩) = ad2 := ⟨_, rfl⟩
    have HL2 : Hid (HLies w.heap.size w ad2 (hs.drop (i + 1))) := by
      show HLies _ _ _ _
      by_cases hc : cap = i + 1
      · have e : hs.drop (i + 1) = [] := List.drop_eq_nil_of_le (by rw [HN.out]; omega)
        rw [e]
        exact fun j hj => absurd hj (Nat.not_lt_zero j)
      · rw [if_neg hc] at had2
        subst had2
        exact HL.out.drop (i + 1)
    have hcap1 := hcap.1
    have hcap2 := hcap.2
    have B2 : Hid (Below w.heap.size w (w1.alloc (.cells #[.slice (some ⟨b3, off3, none⟩) i cap, .slice ad2 (n - (i + 1)) (cap - (i + 1))] 22)).drew) := (hb1.alloc hb1.size _).drew
    have HCO := Lib.hid (concat2Cell_any w1.heap.size (some ⟨b3, off3, none⟩) i cap (hs.take i) ad2 (n - (i + 1)) (cap - (i + 1)) (hs.drop (i + 1)) (w1.alloc (.cells #[.slice (some ⟨b3, off3, none⟩) i cap, .slice ad2 (n - (i + 1)) (cap - (i + 1))] 22)).drew (by rw [List.length_take, HN.out]; omega) (by omega) ((HL.out.take i).up B2.out) (by simp) (by rw [List.length_drop, HN.out]) (by omega) (HL2.out.up B2.out) (by simp) (by simp))
    have HD : Hid (DropIs hs (a, f.toList) (hs.take i ++ hs.drop (i + 1)) .nilIface) := .yes i hi hk
    have HDL : Hid ((hs.take i ++ hs.drop (i + 1)).length = i + (n - (i + 1))) := by show _ = _; rw [List.length_append, List.length_take, List.length_drop, HN.out]; omega
    clear hf HF hcap hi hk hb1 HL HST hb3
    have hic : i ≤ cap := by omega
    have hic1 : i + 1 ≤ n := by omega
    go_wp2_with fail
    go_region_with (go_at_call 27; refine HCO.out.mono ?_; rintro e w4 ⟨v, rfl, ho, hb4⟩; have HO := Lib.hid ho; have HB4 := Lib.hid hb4; clear ho hb4)
    all_goals
      have HE : Hid (DropEnd hs (a, f.toList) w (.returned (.tuple #[v, .nilIface])) w4) := ⟨v, _, _, rfl, HD.out, by
        rw [HDL.out]
        obtain ⟨h1, h2⟩ := HO.out
        refine ⟨h1, h2.imp id fun ⟨g, cap', cur, e1, e2, e3⟩ => ⟨g, cap', cur, e1, Nat.le_trans B2.out.size e2, e3⟩⟩, B2.out.trans (HB4.out.mono B2.out.size)⟩
      clear HD HDL HO HB4 B2 HCO had2
      go_wp2_with fail
      go_ret2
      exact HE.out
/-- What Set answers. -/
def setL (hs : List HC) (c : HC) (i : Nat) (b : Bool) : List HC := hs.take i ++ [c] ++ hs.drop (if b = true then i + 1 else i)
def SetIs (hs : List HC) (c : HC) (os : List HC) : Prop := ∃ i b, FindIs hs (hkey c) i b ∧ os = setL hs c i b
theorem setL_len {hs : List HC} {c : HC} {i : Nat} {b : Bool} (h : i ≤ hs.length) : (setL hs c i b).length = i + 1 + (hs.length - (if b = true then i + 1 else i)) := by
  unfold setL
  rw [List.length_append, List.length_append, List.length_take, List.length_drop, List.length_cons, List.length_nil, Nat.min_eq_left h]
theorem ownsRow_lower {B B' : Nat} {e : TypeId} {k : Nat} {v : Value} {n : Nat} {xs : List Value} {w : World} (h : w.ownsRow B e k v n xs) (hb : B' ≤ B) : w.ownsRow B' e k v n xs := by
  obtain ⟨h1, h2⟩ := h
  exact ⟨h1, h2.imp id fun ⟨g, cap', cur, e1, e2, e3⟩ => ⟨g, cap', cur, e1, Nat.le_trans hb e2, e3⟩⟩
def SetEnd (hs : List HC) (c : HC) (w : World) (e : Ending) (w' : World) : Prop := ∃ v os, e = .returned v ∧ SetIs hs c os ∧ w'.ownsRow w.heap.size 30 3 v os.length (hcells os) ∧ Below w.heap.size w w'
set_option maxHeartbeats 2000000 in
theorem set_any (hs : List HC) (ad : Option Addr) (n cap : Nat) (a : Int) (f : ByteArray) (x : Int) (w : World) (hn : hs.length = n) (hnm : n ≤ 30000) (hcap : n ≤ cap ∧ cap ≤ 9223372036854775807) (hnil : ad = none → cap = 0) (hsp : 0 < n → ∀ q, ad = some q → q.spot = none) (hl : HLies w.heap.size w ad hs) (hst : Stand hs) :
    Calls Try.prog 17 #[.slice ad n cap, .int .i64 a, .string f, .int .i64 x] w (SetEnd hs ⟨a, f, x⟩ w) := by
  have HF := Lib.hid (find_any hs ad n cap a f w hn (by omega) hl hst)
  have HL := Lib.hid hl
  have HN := Lib.hid hn
  have hcap1 := hcap.1
  have hcap2 := hcap.2
  clear hl hn hst hcap
  have key : ∀ (w1 : World) (i : Nat) (b : Bool), FindIs hs (a, f.toList) i b → Below w.heap.size w w1 → ∀ k, k = (if b = true then i + 1 else i) → k ≤ n ∧ i ≤ n ∧ ∀ ad2 : Option Addr, HLies w.heap.size w ad2 (hs.drop k) →
      Hid (Calls Try.prog 27 #[.slice (some ⟨w1.heap.size + 1, 0, none⟩) 3 3] ((w1.alloc (.cells #[.int .i64 a, .string f, .int .i64 x] 30)).alloc (.cells #[.slice ad i cap, .slice (some ⟨w1.heap.size, 0, none⟩) 1 1, .slice ad2 (n - k) (cap - k)] 22)).drew fun e w' => ∃ v, e = .returned v ∧ SetEnd hs ⟨a, f, x⟩ w (.returned v) w') := by
    intro w1 i b hf hb1 k hk
    have hin : i ≤ n := by rw [← HN.out]; exact hf.le
    have hkn : k ≤ n := by
      rw [hk]
      cases b with
      | false => exact hin
      | true => have := (hf.is.1 rfl).1; rw [HN.out] at this; exact this
    refine ⟨hkn, hin, fun ad2 h3 => ?_⟩
    have B2 : Below w.heap.size w (w1.alloc (.cells #[.int .i64 a, .string f, .int .i64 x] 30)) := hb1.alloc hb1.size _
    have B3 : Below w.heap.size w ((w1.alloc (.cells #[.int .i64 a, .string f, .int .i64 x] 30)).alloc (.cells #[.slice ad i cap, .slice (some ⟨w1.heap.size, 0, none⟩) 1 1, .slice ad2 (n - k) (cap - k)] 22)).drew := (B2.alloc B2.size _).drew
    have hz : ((w1.alloc (.cells #[.int .i64 a, .string f, .int .i64 x] 30)).alloc (.cells #[.slice ad i cap, .slice (some ⟨w1.heap.size, 0, none⟩) 1 1, .slice ad2 (n - k) (cap - k)] 22)).drew.heap.size = w1.heap.size + 2 := by simp
    have hnew := heap_alloc_new (w1.alloc (.cells #[.int .i64 a, .string f, .int .i64 x] 30)) (.cells #[.slice ad i cap, .slice (some ⟨w1.heap.size, 0, none⟩) 1 1, .slice ad2 (n - k) (cap - k)] 22)
    rw [World.size_alloc] at hnew
    have hc0 : HLies w1.heap.size.succ (w1.alloc (.cells #[.int .i64 a, .string f, .int .i64 x] 30)) (some ⟨w1.heap.size, 0, none⟩) [⟨a, f, x⟩] := hlies_new w1 [⟨a, f, x⟩] 30
    have hb5 : Below w1.heap.size.succ (w1.alloc (.cells #[.int .i64 a, .string f, .int .i64 x] 30)) ((w1.alloc (.cells #[.int .i64 a, .string f, .int .i64 x] 30)).alloc (.cells #[.slice ad i cap, .slice (some ⟨w1.heap.size, 0, none⟩) 1 1, .slice ad2 (n - k) (cap - k)] 22)).drew := ((Below.refl _ _).alloc (by simp) _).drew
    have hc1 := HLies.mono (B' := ((w1.alloc (.cells #[.int .i64 a, .string f, .int .i64 x] 30)).alloc (.cells #[.slice ad i cap, .slice (some ⟨w1.heap.size, 0, none⟩) 1 1, .slice ad2 (n - k) (cap - k)] 22)).drew.heap.size) (hc0.below hb5) (by rw [hz]; omega)
    have hC := concat3Cell_any (w1.heap.size + 1) ad i cap (hs.take i) (some ⟨w1.heap.size, 0, none⟩) 1 1 [⟨a, f, x⟩] ad2 (n - k) (cap - k) (hs.drop k) _ (by rw [List.length_take, HN.out]; omega) (by omega) ((HL.out.take i).up B3) ((cell_of_row _ _ _ _ _ _ hnew).trans rfl) rfl (by decide) hc1 ((cell_of_row _ _ _ _ _ _ hnew).trans rfl) (by rw [List.length_drop, HN.out]) (by omega) (h3.up B3) ((cell_of_row _ _ _ _ _ _ hnew).trans rfl) (by rw [hz]; omega)
    refine hC.mono ?_
    rintro e w5 ⟨v, rfl, ho, hb6⟩
    refine ⟨v, rfl, v, _, rfl, ⟨i, b, hf, rfl⟩, ?_, B3.trans (hb6.mono B3.size)⟩
    rw [setL_len hf.le, HN.out, ← hk]
    unfold setL
    rw [← hk]
    exact ownsRow_lower ho B3.size
  have KEY := Lib.hid key
  clear key
  by_cases hn0 : n = 0
  · subst hn0
    have HZ : Hid (∀ ad2 k, HLies w.heap.size w ad2 (hs.drop k)) := fun ad2 k j hj => by
      rw [List.length_drop, HN.out] at hj; omega
    clear hsp HL
    rcases (show ad = none ∨ ∃ q, ad = some q from by cases ad with | none => exact .inl rfl | some q => exact .inr ⟨q, rfl⟩) with rfl | ⟨⟨b3, off3, sp⟩, rfl⟩
    · obtain rfl := hnil rfl
      clear hnil
      go_enter Try.func17, Try.ntmps17
      go_wp2_with fail
      refine HF.out.mono ?_
      rintro e w1 ⟨i, b, rfl, hf, hb1⟩
      obtain ⟨hkn, hin, HC⟩ := KEY.out w1 i b hf hb1 _ rfl
      obtain rfl : i = 0 := by omega
      obtain rfl : b = false := by
        cases b with
        | false => rfl
        | true => simp at hkn
      have HC := Lib.hid (fun ad2 => HC ad2 (HZ.out _ _))
      simp only [Bool.false_eq_true, if_false, Nat.sub_self, Nat.sub_zero] at HC
      clear hf hb1 HF KEY hkn
      go_wp2_with fail
      go_region_with (go_at_call 27; refine (HC.out _).out.mono ?_; rintro e w4 ⟨v, rfl, hE⟩; have HE := Lib.hid hE; clear hE)
      all_goals
        clear HC
        go_wp2_with fail
        go_ret
        exact HE.out
    · clear hnil
      go_enter Try.func17, Try.ntmps17
      go_wp2_with fail
      refine HF.out.mono ?_
      rintro e w1 ⟨i, b, rfl, hf, hb1⟩
      obtain ⟨hkn, hin, HC⟩ := KEY.out w1 i b hf hb1 _ rfl
      obtain rfl : i = 0 := by omega
      obtain rfl : b = false := by
        cases b with
        | false => rfl
        | true => simp at hkn
      have HC := Lib.hid (fun ad2 => HC ad2 (HZ.out _ _))
      simp only [Bool.false_eq_true, if_false, Nat.sub_self, Nat.sub_zero] at HC
      clear hf hb1 HF KEY hkn
      go_wp2_with fail
      go_region_with (go_at_call 27; refine (HC.out _).out.mono ?_; rintro e w4 ⟨v, rfl, hE⟩; have HE := Lib.hid hE; clear hE)
      all_goals
        clear HC
        go_wp2_with fail
        go_ret
        exact HE.out
  · obtain ⟨q, rfl⟩ : ∃ q, ad = some q := by
      cases ad with
      | none => have := hnil rfl; omega
      | some q => exact ⟨q, rfl⟩
    obtain ⟨b3, off3, sp⟩ := q
    obtain rfl : sp = none := hsp (by omega) _ rfl
    clear hnil hsp
    go_enter Try.func17, Try.ntmps17
    go_wp2_with fail
    refine HF.out.mono ?_
    rintro e w1 ⟨i, b, rfl, hf, hb1⟩
    obtain ⟨hkn, hin, HC⟩ := KEY.out w1 i b hf hb1 _ rfl
    obtain ⟨k, hk⟩ : ∃ k, k = (if b = true then i + 1 else i) := ⟨_, rfl⟩
    rw [← hk] at hkn HC
    obtain ⟨ad2, had2⟩ : ∃ ad2 : Option Addr, (if cap = k then some (⟨b3, off3, none⟩ : Addr) else some ⟨b3, off3 + k * 3, none⟩) = ad2 := ⟨_, rfl⟩
    have HL2 : HLies w.heap.size w ad2 (hs.drop k) := by
      by_cases hc : cap = k
      · have e : hs.drop k = [] := List.drop_eq_nil_of_le (by rw [HN.out]; omega)
        rw [e]
        exact fun j hj => absurd hj (Nat.not_lt_zero j)
      · rw [if_neg hc] at had2
        subst had2
        exact HL.out.drop k
    have HC := HC ad2 HL2
    clear hf hb1 HF KEY HL2 HL
    have hic : i ≤ cap := by omega
    have hw1 : IntKind.i64.wrap ((i : Int) + 1) = ((i + 1 : Nat) : Int) := by rw [show (i : Int) + 1 = ((i + 1 : Nat) : Int) by omega]; exact IntWalk.i64_in _ (by omega)
    cases b with
    | false =>
      obtain rfl : k = i := by simpa using hk
      clear hk
      go_wp2_with fail
      go_region_with (go_at_call 27; refine HC.out.mono ?_; rintro e w4 ⟨v, rfl, hE⟩; have HE := Lib.hid hE; clear hE)
      all_goals
        clear HC had2
        go_wp2_with fail
        go_ret
        exact HE.out
    | true =>
      obtain rfl : k = i + 1 := by simpa using hk
      clear hk
      go_wp2_with fail
      go_region_with (go_at_call 27; refine HC.out.mono ?_; rintro e w4 ⟨v, rfl, hE⟩; have HE := Lib.hid hE; clear hE)
      all_goals
        clear HC had2
        go_wp2_with fail
        go_ret
        exact HE.out
end Go.Proofs.Yteiomafciignkaa
