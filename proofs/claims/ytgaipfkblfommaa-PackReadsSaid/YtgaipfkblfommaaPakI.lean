/- The writer: a record; Write. -/
import Derived.Test.YtgaipfkblfommaaPakH
import Derived.Laws.IdiomStrings
set_option linter.unusedVariables false
set_option linter.unusedSimpArgs false
namespace Go.Proofs.Ytgaipfkblfommaa
set_option maxRecDepth 100000
open Go.RowKit

set_option maxHeartbeats 4000000 in
theorem rec1_any (g : Nat) (r : Option Nat) (out : List UInt8) (w : World) (h : WS g r out w) (x : Rec) (a1 : Option Addr) (cap1 : Nat) (hnm : x.name.size ≤ 140000000000000) (hl : Sits replySh (Lo g) w a1 x.reps) :
    Calls Try.prog 16 #[.agg #[.string x.name, .slice a1 x.reps.length cap1], .pointer (some ⟨g, 0, none⟩)] w (WEnd g r w (out ++ encRec x)) := by
  have HB : Hid (Below w.heap.size w (w.alloc (.cells #[.string x.name, .slice a1 x.reps.length cap1] 37))) := (Below.refl _ _).alloc (Nat.le_refl _) _
  have HW := Lib.hid (h.below HB.out)
  have HA := Lib.hid (h.fresh (.cells #[.string x.name, .slice a1 x.reps.length cap1] 37))
  have hgl := h.lt
  have HBL := Lib.hid (HB.out.mono (Nat.le_of_lt h.lt))
  have HN := Lib.hid (number_any g r out (x.name.size : Int) _ (h.below HB.out) ⟨by omega, by omega⟩)
  have HL := Lib.hid (hl.up HBL.out)
  have HNM := Lib.hid hnm
  have hb0 := cell_of_row (w.alloc (.cells #[.string x.name, .slice a1 x.reps.length cap1] 37)) w.heap.size 0 _ _ _ (heap_alloc_new w _)
  have hb1 := cell_of_row (w.alloc (.cells #[.string x.name, .slice a1 x.reps.length cap1] 37)) w.heap.size 1 _ _ _ (heap_alloc_new w _)
  have HX : Hid (∀ w2, WTo g r (w.alloc (.cells #[.string x.name, .slice a1 x.reps.length cap1] 37)) (out ++ encRec x) w2 → WTo g r w (out ++ encRec x) w2) := fun w2 h3 => WTo.trans (.inl rfl) (KeptW.of_below HB.out) h3
  clear h hl hnm
  obtain ⟨nm, reps⟩ := x
  simp only at *
  go_enter Try.func16, Try.ntmps16
  go_wp2_with fail
  refine HN.out.mono ?_
  rintro e w5 ⟨rfl, hw5⟩
  have HBW := WTo.below HW.out hw5
  obtain ⟨r1, hs1, hr1, hk1⟩ := hw5
  obtain ⟨ha5, hae⟩ := HA.out.next hr1 hk1
  have p0 := (hae 0).trans hb0
  have p1 := (hae 1).trans hb1
  have HW5 := Lib.hid hs1
  have HR5 := Lib.hid (And.intro hr1 hk1)
  have HA5 := Lib.hid ha5
  have HN2 := Lib.hid (text_any g r1 _ nm w5 hs1 HNM.out)
  have HL5 := Lib.hid (HL.out.up HBW)
  clear hs1 hr1 hk1 ha5 hae HN hb0 hb1 HL HA HBW
  go_wp2_with fail
  refine HN2.out.mono ?_
  rintro e w6 ⟨rfl, hw6⟩
  have HBW := WTo.below HW5.out hw6
  obtain ⟨r2, hs2, hr2, hk2⟩ := hw6
  obtain ⟨ha6, hae⟩ := HA5.out.next hr2 hk2
  have s1 := (hae 1).trans p1
  have HN3 := Lib.hid (sevReply_any g r2 _ w6 hs2 a1 reps.length cap1 reps rfl (HL5.out.up HBW))
  have HXF : Hid (∀ w2, WTo g r2 w6 (out ++ num nm.size ++ nm.data.toList ++ encList encReply reps) w2 → WTo g r w (out ++ encRec ⟨nm, reps⟩) w2) := fun w2 h3 => HX.out w2 (by
    have := WTo.trans HR5.out.1 HR5.out.2 (WTo.trans hr2 hk2 h3)
    unfold encRec
    simpa [List.append_assoc] using this)
  clear hs2 hr2 hk2 ha6 hae HN2 HBW HL5 HA5 HR5 HW5 HX p0 p1
  go_wp2_with fail
  refine HN3.out.mono ?_
  rintro e w7 ⟨rfl, hw7⟩
  have HE := Lib.hid (HXF.out w7 hw7)
  clear hw7 HXF HN3
  go_wp2_with fail
  go_end0
  exact ⟨rfl, HE.out⟩
set_option maxHeartbeats 4000000 in
theorem sevRec_any (g : Nat) (r : Option Nat) (out : List UInt8) (w : World) (h : WS g r out w) (a : Option Addr) (n cap : Nat) (xs : List Rec) (hn : xs.length = n) (hl : Sits recSh (Lo g) w a xs) (hnmx : ∀ x ∈ xs, x.name.size ≤ 140000000000000) :
    Calls Try.prog 15 #[.pointer (some ⟨g, 0, none⟩), .slice a n cap, .func (.func 16) #[] #[.pointer (some ⟨g, 0, none⟩)]] w (WEnd g r w (out ++ encList encRec xs)) := by
  have HW := Lib.hid h
  have HNM := Lib.hid hnmx
  clear hnmx
  have HL := Lib.hid hl
  have HN := Lib.hid hn
  have hnm : n ≤ 9223372036854775807 := by rw [← hn]; exact hl.1
  have HNU := Lib.hid (number_any g r out (n : Int) w h ⟨by omega, by omega⟩)
  clear h hl hn
  go_enter Try.func15, Try.ntmps15
  go_wp2_with fail
  refine HNU.out.mono ?_
  rintro e w1 ⟨rfl, hw1⟩
  have H1 : Hid (Sev encRec g r w out xs 0 w1) := Sev.start (by rw [HN.out]; exact hw1)
  clear hw1 HNU
  go_wp2_with fail
  go_loopw [14] (fun i wr => ∃ k : Nat, i = .int .i64 k ∧ k ≤ n ∧ Hid (Sev encRec g r w out xs k wr)) (fun i _ => n - (intOf i).toNat)
  case atStart => exact ⟨0, rfl, Nat.zero_le _, H1⟩
  case round =>
    clear H1
    obtain ⟨k, rfl, hk, hrel⟩ := hrel
    by_cases hlt : k < n
    · have hlti : (k : Int) < (n : Int) := by omega
      have hkx : k < xs.length := by rw [HN.out]; exact hlt
      obtain ⟨r1, hs1, hr1, hk1⟩ := hrel.out
      obtain ⟨b, off, cs, rfl, hb, hc, hre⟩ := (HL.out.up (WTo.below HW.out hrel.out)).2 k hkx
      have HNX := Lib.hid (fun w2 => Sev.next (f := encRec) (w2 := w2) (out := out) hkx hr1 hk1)
      have HFU := Lib.hid (fun w2 => Sev.full (f := encRec) (w2 := w2) (xs := xs) (k := k) hr1 hk1 hs1)
      have HS1 := Lib.hid hs1
      have hgl := hs1.lt
      have hbl : b < wr.heap.size := Nat.lt_trans hb hgl
      obtain ⟨bb, f, v, g1, g2, _⟩ := hs1.st
      obtain ⟨v1, rfl, ⟨a1, cap1, rfl, hsl⟩⟩ := hre
      have hnm1 := HNM.out _ (List.getElem_mem hkx)
      have c0 : wr.cell? ⟨b, off + k * 2, none⟩ = some (.string xs[k].name) := by simpa [recSh] using hc 0 _ rfl
      have c1 : wr.cell? ⟨b, off + k * 2 + 1, none⟩ = some (.slice a1 xs[k].reps.length cap1) := by simpa [recSh] using hc 1 _ rfl
      clear hs1 hr1 hk1 hrel hc g1
      generalize xs[k] = x at *
      have HB : Hid (Below wr.heap.size wr (wr.alloc (.cells #[.string x.name, .slice a1 x.reps.length cap1] 37))) := (Below.refl _ _).alloc (Nat.le_refl _) _
      have HS2 := Lib.hid (HS1.out.below HB.out)
      have HC := Lib.hid (rec1_any g r1 _ _ HS2.out x a1 cap1 hnm1 (hsl.up (HB.out.mono (Nat.le_of_lt hgl))))
      cases f with
      | true =>
        have HE := Lib.hid (HFU.out _ g2 HB.out)
        clear HFU HNX HC
        go_wp2_with fail
        go_end0
        exact ⟨rfl, HE.out⟩
      | false =>
        clear HFU
        go_wp2_with fail
        refine HC.out.mono ?_
        rintro e w5 ⟨rfl, hw5⟩
        have H5 := Lib.hid (HNX.out w5 (WTo.trans (.inl rfl) (KeptW.of_below HB.out) hw5))
        clear hw5 HNX HC
        go_wp2_with fail
        go_roundw
        case rel => exact ⟨k + 1, by go_num, by omega, H5⟩
        case measure => simp [intOf]; omega
    · have hlti : ¬ (k : Int) < (n : Int) := by omega
      obtain rfl : k = n := by omega
      have HE : Hid (WTo g r w (out ++ encList encRec xs) wr) := Sev.done (by rw [HN.out]; exact hrel.out)
      clear hrel
      go_wp2_with fail
      go_end0
      exact ⟨rfl, HE.out⟩
def Small (xs : List Rec) : Prop := ∀ x ∈ xs, x.name.size ≤ 140000000000000
theorem WS.new (w : World) : WS w.heap.size none [] (w.alloc (.cells #[.slice none 0 0, .bool false] 54)) := by
  have hn := heap_alloc_new w (.cells #[.slice none 0 0, .bool false] 54)
  refine ⟨⟨[], false, .slice none 0 0, (cell_of_row _ _ _ _ _ _ hn).trans rfl, (cell_of_row _ _ _ _ _ _ hn).trans rfl, World.ownsRow_nil _ _ _ _, rfl, Nat.zero_le _, fun _ => rfl, fun h => (by cases h)⟩, fun j => ?_, by simp⟩
  have := World.frozen?_alloc_mark w #[.slice none 0 0, .bool false] 54 0 0 j
  rw [this]
  simp
def ErrLong : Value := .iface 51 (.int .i64 2)
def WriteEnd (xs : List Rec) (w : World) (e : Ending) (w' : World) : Prop := ∃ v er, e = .returned (.tuple #[v, er]) ∧ Below w.heap.size w w' ∧ ((encWit xs).length ≤ 4194304 ∧ er = .nilIface ∧ w'.ownsRow w.heap.size 5 1 v (encWit xs).length (Lib.byteCells (encWit xs)) ∨ 4194304 < (encWit xs).length ∧ er = ErrLong ∧ v = .slice none 0 0)
set_option maxHeartbeats 4000000 in
theorem write_any (a : Option Addr) (n cap : Nat) (xs : List Rec) (w : World) (hn : xs.length = n) (hsm : Small xs) (hl : Sits recSh (Lo w.heap.size) w a xs) :
    Calls Try.prog 9 #[.agg #[.slice a n cap]] w (WriteEnd xs w) := by
  have HB1 : Hid (Below w.heap.size w (w.alloc (.cells #[.slice a n cap] 24))) := (Below.refl _ _).alloc (Nat.le_refl _) _
  have HS := WS.new (w.alloc (.cells #[.slice a n cap] 24))
  rw [World.size_alloc] at HS
  have HB2 : Hid (Below w.heap.size w ((w.alloc (.cells #[.slice a n cap] 24)).alloc (.cells #[.slice none 0 0, .bool false] 54))) := HB1.out.alloc HB1.out.size _
  have HSV := Lib.hid (sevRec_any (w.heap.size + 1) none [] _ HS a n cap xs hn ((hl.up HB2.out).keep (fun b (hb : b < w.heap.size) => Nat.lt_succ_of_lt hb) (fun _ _ _ => rfl)) hsm)
  have HSH := Lib.hid HS
  have hc0 := (heap_alloc_new w (.cells #[.slice a n cap] 24))
  clear hl hsm HS
  go_enter Try.func9, Try.ntmps9
  go_wp2_with fail
  refine HSV.out.mono ?_
  rintro e w5 ⟨rfl, hw5⟩
  have HBW := WTo.below HSH.out hw5
  obtain ⟨r1, hs1, hr1, hk1⟩ := hw5
  have HBE : Hid (Below w.heap.size w w5) := HB2.out.trans (HBW.mono (by omega))
  rw [List.nil_append] at hs1
  obtain ⟨b, f, v, g1, g2, g3, g4, g5, g6, g7⟩ := hs1.st
  cases f with
  | true =>
    have HE : Hid (WriteEnd xs w (.returned (.tuple #[.slice none 0 0, ErrLong])) w5) := ⟨_, _, rfl, HBE.out, .inr ⟨g7 rfl, rfl, rfl⟩⟩
    clear hs1 hr1 hk1 g3 g4 g5 g6 g7 HSV HSH HB1 HB2 HBE HBW hc0
    unfold ErrLong at HE
    go_wp2_with fail
    go_ret2
    exact HE.out
  | false =>
    obtain rfl := g6 rfl
    have HE : Hid (WriteEnd xs w (.returned (.tuple #[v, .nilIface])) w5) := ⟨_, _, rfl, HBE.out, .inl ⟨g5, rfl, ⟨g3.1, g3.2.imp id fun ⟨g, cap', cur, e1, e2, e3⟩ => ⟨g, cap', cur, e1, by omega, e3⟩⟩⟩⟩
    obtain ⟨va, vc, rfl⟩ := own_slice g3
    clear hs1 hr1 hk1 g3 g4 g5 g6 g7 HSV HSH HB1 HB2 HBE HBW hc0
    go_wp2_with fail
    go_ret2
    exact HE.out
end Go.Proofs.Ytgaipfkblfommaa
