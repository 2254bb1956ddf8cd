/- PackStays: its walk. -/
import Derived.Test.YtgaipfkblfommaaPakWa
import Derived.Test.YtgaipfkblfommaaPakVd
set_option linter.unusedVariables false
set_option linter.unusedSimpArgs false
namespace Go.Proofs.Ytgaipfkblfommaa
set_option maxRecDepth 100000
open Go.RowKit

/-- The bytes, if they aren't too many. -/
def lim (l : List UInt8) : List UInt8 := if l.length ≤ 4194304 then l else []
theorem lim_len (l : List UInt8) : (lim l).length ≤ 4194304 := by unfold lim; split <;> simp_all
theorem rwrite_row {xs : List Rec} {w : World} {e : Ending} {w' : World} (h : RWriteEnd xs w e w') : ∃ v bad, e = .returned (.tuple #[v, .int .i64 bad]) ∧ Below w.heap.size w w' ∧ BRow w.heap.size (lim (encWit xs)) v w' := by
  obtain ⟨v, bad, h1, h2, h3⟩ := h
  refine ⟨v, bad, h1, h2, ?_⟩
  unfold lim
  rcases h3 with ⟨a, _, c⟩ | ⟨a, _, rfl⟩
  · rw [if_pos a]; exact c
  · rw [if_neg (by omega)]; exact BRow.nil _ _
theorem write_row {xs : List Rec} {w : World} {e : Ending} {w' : World} (h : WriteEnd xs w e w') : ∃ v er, e = .returned (.tuple #[v, er]) ∧ Below w.heap.size w w' ∧ BRow w.heap.size (lim (encWit xs)) v w' := by
  obtain ⟨v, er, h1, h2, h3⟩ := h
  refine ⟨v, er, h1, h2, ?_⟩
  unfold lim
  rcases h3 with ⟨a, _, c⟩ | ⟨a, _, rfl⟩
  · rw [if_pos a]; exact c
  · rw [if_neg (by omega)]; exact BRow.nil _ _
theorem code_of {l : List UInt8} {xs : List Rec} {er : Value} {n : Int} (h : ReadIs l xs er n) (W : World) : Calls Try.prog 11 #[er] W fun e w' => e = .returned (.int .i64 n) ∧ W = w' := by
  cases h with
  | long => exact code_k 2 W (by decide) (by decide)
  | form => exact code_k 5 W (by decide) (by decide)
  | more => exact code_k 16 W (by decide) (by decide)
  | fine => exact code_nil W
theorem BRow.came {B : Nat} {l : List UInt8} {v : Value} {w : World} (h : BRow B l v w) (hm : l.length ≤ 9223372036854775807) : ∃ a cap, v = .slice a l.length cap ∧ Sits byteSh (fun b => B ≤ b ∧ b < w.heap.size) w a l ∧ (l.length ≤ cap ∧ cap ≤ 9223372036854775807) ∧ (a = none → cap = 0) := by
  obtain ⟨a, cap, e, hs⟩ := h.slot hm
  refine ⟨a, cap, e, hs, ?_⟩
  rcases h.2 with ⟨e2, h0⟩ | ⟨q, cap2, cur, e2, _, _, h3, h4, _⟩
  · rw [e2] at e
    injection e with e3 e4 e5
    subst e3 e5
    exact ⟨⟨by omega, by omega⟩, fun _ => rfl⟩
  · rw [e2] at e
    injection e with e3 e4 e5
    subst e3 e5
    exact ⟨⟨h3, h4⟩, fun e => by cases e⟩
/-- Bytes of the call's own that are changed. -/
structure Mut (B n : Nat) (v : Value) (w0 w : World) : Prop where
  row : ∃ zs : List Int, zs.length = n ∧ w.ownsRow B 5 1 v n (zs.map (Value.int .u8))
  kept : w0.grownBy w v.ownBlock
theorem Mut.of {B : Nat} {l : List UInt8} {v : Value} {w : World} (h : BRow B l v w) : Mut B l.length v w w := ⟨⟨l.map fun b => (b.toNat : Int), by simp, by
  have : (l.map fun b => (b.toNat : Int)).map (Value.int .u8) = Lib.byteCells l := by simp [Lib.byteCells]
  rw [this]; exact h⟩, rfl, rfl, rfl, Nat.le_refl _, fun _ _ _ => rfl⟩
theorem Mut.form {B n : Nat} {v : Value} {w0 w : World} (h : Mut B n v w0 w) (hn : 0 < n) : ∃ g cap, v = .slice (some ⟨g, 0, none⟩) n cap ∧ (∀ i, i < n → ∃ z, w.cell? ⟨g, i, none⟩ = some (.int .u8 z)) ∧ (∀ j, w.frozen? ⟨g, j, none⟩ = false) := by
  obtain ⟨zs, hl, h1⟩ := h.row
  obtain ⟨g, cap, rfl, _⟩ := World.ownsRow.form h1 hn
  exact ⟨g, cap, rfl, fun i hi => ⟨zs[i]'(by omega), by rw [World.ownsRow.cellAt h1 i (by omega)]; simp [hl, hi]⟩, fun j => World.ownsRow.frozenAt h1 j⟩
theorem Mut.put {B n g cap : Nat} {w0 w : World} (h : Mut B n (.slice (some ⟨g, 0, none⟩) n cap) w0 w) (i : Nat) (z : Int) : Mut B n (.slice (some ⟨g, 0, none⟩) n cap) w0 (w.setCell ⟨g, i, none⟩ (.int .u8 z)) := by
  obtain ⟨zs, hl, h1⟩ := h.row
  have s1 := World.ownsRow.stored h1 i (.int .u8 z)
  refine ⟨⟨zs.set i z, by simpa using hl, ?_⟩, ?_⟩
  · rw [List.map_set]; exact s1.1
  · have hk := h.kept
    exact ⟨s1.2.os.trans hk.os, s1.2.tape.trans hk.tape, s1.2.output.trans hk.output, Nat.le_trans hk.size s1.2.size, fun k h2 h3 => (s1.2.block k (Nat.lt_of_lt_of_le h2 hk.size) h3).trans (hk.block k h2 h3)⟩
theorem Mut.drew {B n : Nat} {v : Value} {w0 w : World} (h : Mut B n v w0 w) : Mut B n v w0 w.drew := by
  obtain ⟨zs, hl, h1⟩ := h.row
  exact ⟨⟨zs, hl, World.ownsRow.kept (row := none) h1 ⟨rfl, rfl, rfl, Nat.le_refl _, fun _ _ _ => rfl⟩ (by cases v.ownBlock <;> simp)⟩, h.kept.os, h.kept.tape, h.kept.output, h.kept.size, h.kept.block⟩
theorem BRow.past {B : Nat} {l : List UInt8} {v : Value} {w w' : World} {row : Option Nat} (h : BRow B l v w) (hg : w.grownBy w' row) (hr : ∀ q, row = some q → q < B) : BRow B l v w' :=
  World.ownsRow.kept h hg (by
    cases hv : v.ownBlock with
    | none => exact .inl rfl
    | some q =>
      right
      intro e
      have h1 := (World.ownsRow.lt h q hv).1
      have h2 := hr q e.symm
      omega)
theorem BRow.past2 {B N : Nat} {l : List UInt8} {v : Value} {w w' : World} {row : Option Nat} (h : BRow B l v w) (hg : w.grownBy w' row) (hv : ∀ q, v.ownBlock = some q → q < N) (hr : ∀ q, row = some q → N ≤ q) : BRow B l v w' :=
  World.ownsRow.kept h hg (by
    cases hvv : v.ownBlock with
    | none => exact .inl rfl
    | some q =>
      right
      intro e
      have h1 := hv q hvv
      have h2 := hr q e.symm
      omega)
theorem past_below {w w' : World} {row : Option Nat} {B : Nat} (hg : w.grownBy w' row) (hB : B ≤ w.heap.size) (hr : ∀ q, row = some q → B ≤ q) : Below B w w' := Below.grown (Below.refl B w) hg hB hr
theorem Sits.past {T : Type} {sh : Sh T} {S : Nat → Prop} {w w' : World} {a : Option Addr} {xs : List T} {row : Option Nat} (h : Sits sh S w a xs) (hg : w.grownBy w' row) (hS : ∀ b, S b → b < w.heap.size ∧ some b ≠ row) : Sits sh S w' a xs :=
  h.keep (fun _ h => h) (fun b o hb => World.cell?_of_block (hg.block b (hS b hb).1 (hS b hb).2))
theorem Sits.on {T : Type} {sh : Sh T} {S : Nat → Prop} {w w' : World} {a : Option Addr} {xs : List T} (h : Sits sh S w a xs) (hb : Below w.heap.size w w') (hS : ∀ b, S b → b < w.heap.size) : Sits sh S w' a xs :=
  h.keep (fun _ h => h) (fun b o hbb => hb.cell (p := ⟨b, o, none⟩) (hS b hbb))
theorem Sits.lo {T : Type} {sh : Sh T} {S : Nat → Prop} {w : World} {a : Option Addr} {xs : List T} {B : Nat} (h : Sits sh S w a xs) (hS : ∀ b, S b → b < B) : Sits sh (Lo B) w a xs := h.keep hS (fun _ _ _ => rfl)
set_option maxHeartbeats 16000000 in
theorem packStays_any (ba : Option Addr) (bl bcap : Nat) (l : List UInt8) (a : Option Addr) (n cap : Nat) (xs : List Rec) (w : World) (hbl : l.length = bl) (hb : Sits byteSh (Lo w.heap.size) w ba l) (hbc : bl ≤ bcap ∧ bcap ≤ 9223372036854775807) (hnil : ba = none → bcap = 0) (hn : xs.length = n) (hl : Sits recSh (Lo w.heap.size) w a xs) :
    Calls Try.prog 6 #[.slice ba bl bcap, .agg #[.slice a n cap]] w fun e w' => e = .returned (.bool true) ∧ Below w.heap.size w w' := by
  have HA : Hid (Below w.heap.size w (w.alloc (.cells #[.slice a n cap] 24))) := (Below.refl _ _).alloc (Nat.le_refl _) _
  have HUP := Lib.hid (up_said12 (w.alloc (.cells #[.slice a n cap] 24)))
  have HL := Lib.hid (hl.below HA.out HA.out.size)
  have HB := Lib.hid (hb.below HA.out HA.out.size)
  have HN := Lib.hid hn
  have HBL := Lib.hid hbl
  have HBC := Lib.hid (And.intro hbc hnil)
  have hq : w.heap.size < (w.alloc (.cells #[.slice a n cap] 24)).heap.size := by simp
  have hb0 : (w.alloc (.cells #[.slice a n cap] 24)).cell? ⟨w.heap.size, 0, none⟩ = some (.slice a n cap) := (cell_of_row _ _ _ _ _ _ (heap_alloc_new w _)).trans rfl
  have HX0 : Hid (∀ W, Below (w.alloc (.cells #[.slice a n cap] 24)).heap.size (w.alloc (.cells #[.slice a n cap] 24)) W → W.cell? ⟨w.heap.size, 0, none⟩ = some (.slice a n cap)) := fun W hW => (hW.cell (p := ⟨_, _, none⟩) hq).trans hb0
  clear hl hn hb0 hq hb hbl hnil
  have hbl63 := hbc.1
  have hbl64 := hbc.2
  clear hbc
  go_enter Try.func6, Try.ntmps6
  go_wp2_with fail
  generalize w.alloc (.cells #[.slice a n cap] 24) = W0 at *
  refine HUP.out.mono ?_
  rintro e w1 ⟨rfl, hb1⟩
  have B1 := Lib.hid hb1
  have x1 := HX0.out w1 hb1
  have HLI := Lib.hid (rlight_any a n cap xs w1 HN.out (HL.out.below hb1 hb1.size))
  clear hb1 HUP
  go_wp2_with fail
  refine HLI.out.mono ?_
  rintro e w2 ⟨b, rfl, hb2, hbe⟩
  have B2 := Lib.hid (B1.out.trans (hb2.mono B1.out.size))
  clear hb2 HLI x1 B1
  cases b with
  | false =>
    have HE := Lib.hid (HA.out.trans (B2.out.mono HA.out.size))
    clear hbe
    go_wp2_with fail
    go_ret
    exact ⟨rfl, HE.out⟩
  | true =>
    have HLW := Lib.hid (hbe rfl)
    clear hbe
    by_cases hbig : (5000 : Int) < (bl : Int)
    · have HE := Lib.hid (HA.out.trans (B2.out.mono HA.out.size))
      go_wp2_with fail
      go_ret
      exact ⟨rfl, HE.out⟩
    · have hln : l.length ≤ 5000 := by rw [HBL.out]; omega
      have HWN := Lib.hid (enc_wit HL.out HLW.out)
      -- the copy
      have hA2 : Below w2.heap.size w2 (w2.alloc (.cells #[] 5)) := (Below.refl _ _).alloc (Nat.le_refl _) _
      have hown0 : BRow w2.heap.size [] (.slice (some ⟨w2.heap.size, 0, none⟩) 0 0) (w2.alloc (.cells #[] 5)) := World.ownsRow_made w2 #[] 0 (Nat.le_refl _) (Nat.zero_le _) rfl
      have hsl0 : Slot byteSh (Lo w2.heap.size) (w2.alloc (.cells #[] 5)) (.slice ba bl bcap) l := ⟨ba, bcap, by rw [HBL.out], (HB.out.below B2.out B2.out.size).up hA2⟩
      obtain ⟨v3, w3, hr3, ho3, hb3⟩ := run_cat hown0 hsl0 hA2.size (by simp; omega)
      rw [List.nil_append] at ho3
      have B3 := Lib.hid (B2.out.trans ((hA2.mono B2.out.size).trans (hb3.mono B2.out.size)))
      obtain ⟨a3, cap3, rfl, hs3, hc3, hn3⟩ := ho3.came (by omega)
      have HRD := Lib.hid (read_any a3 l cap3 w3 (hs3.lo (fun b h => h.2)) hc3 hn3)
      have R3 := Lib.hid ho3
      have G3 : Hid (∀ q, Value.ownBlock (.slice a3 l.length cap3) = some q → w2.heap.size ≤ q ∧ q < w3.heap.size) := World.ownsRow.lt ho3
      clear hs3 hc3 hn3 hA2 hown0 hsl0 hb3 ho3
      rw [HBL.out] at hr3 HRD R3 G3
      go_wp2_with (at_builtin; refine Lib.wpList_append_run _ rfl _ _ _ _ rfl _ _ rfl rfl _ _ (hr3 _) ?_)
      clear hr3
      refine HRD.out.mono ?_
      rintro e w4 ⟨v4, xs1, er1, n1, rfl, hri, ⟨a4, cap4, rfl, hs4⟩, hb4⟩
      have RI := Lib.hid hri
      have B4 := Lib.hid (B3.out.trans (hb4.mono B3.out.size))
      have HW4 : Below w4.heap.size w4 (w4.alloc (.cells #[.slice a4 xs1.length cap4] 24)) := (Below.refl _ _).alloc (Nat.le_refl _) _
      have P4 : Hid ((w4.alloc (.cells #[.slice a4 xs1.length cap4] 24)).cell? ⟨w4.heap.size, 0, none⟩ = some (.slice a4 xs1.length cap4)) := (cell_of_row _ _ _ _ _ _ (heap_alloc_new w4 _)).trans rfl
      have S4 : Hid (Sits recSh (fun b => w3.heap.size ≤ b ∧ b < w4.heap.size) (w4.alloc (.cells #[.slice a4 xs1.length cap4] 24)) a4 xs1) := hs4.on HW4 (fun b h => h.2)
      have B5 := Lib.hid (B4.out.trans (HW4.mono B4.out.size))
      have R5 := Lib.hid ((R3.out.below hb4).below HW4)
      have hz5 : (w4.alloc (.cells #[.slice a4 xs1.length cap4] 24)).heap.size = w4.heap.size + 1 := by simp
      have Z5 : Hid (w3.heap.size ≤ w4.heap.size ∧ (w4.alloc (.cells #[.slice a4 xs1.length cap4] 24)).heap.size = w4.heap.size + 1) := ⟨hb4.size, hz5⟩
      have hcv1 : (convert 27 9 (.slice a3 bl cap3)).run Try.prog (w4.alloc (.cells #[.slice a4 xs1.length cap4] 24)) = .ok (.string ⟨l.toArray⟩) (w4.alloc (.cells #[.slice a4 xs1.length cap4] 24)) := R5.out.conv (by omega)
      have hcv2 : (convert 27 9 (.slice ba bl bcap)).run Try.prog (w4.alloc (.cells #[.slice a4 xs1.length cap4] 24)) = .ok (.string ⟨l.toArray⟩) (w4.alloc (.cells #[.slice a4 xs1.length cap4] 24)) := by
        have := conv_bytes bcap (HB.out.below B5.out B5.out.size)
        rwa [HBL.out] at this
      have HRB := Lib.hid (fun W (hW : Below W0.heap.size W0 W) => by
        have := read_any ba l bcap W (HB.out.below hW hW.size) (by rw [HBL.out]; exact HBC.out.1) HBC.out.2
        rwa [HBL.out] at this)
      clear hri hs4 hb4 HW4 hz5 HRD B3 B4 R3
      generalize l.toArray = ls at hcv1 hcv2
      go_wp2_with fail
      clear hcv1 hcv2
      generalize w4.alloc (.cells #[.slice a4 xs1.length cap4] 24) = W5 at *
      have M5 : Hid (Mut w2.heap.size bl (.slice a3 bl cap3) W5 W5) := by have := Mut.of R5.out; rwa [HBL.out] at this
      clear R5
      go_loopw [11] (fun i wr => ∃ k : Nat, i = .int .i64 k ∧ k ≤ bl ∧ Hid (Mut w2.heap.size bl (.slice a3 bl cap3) W5 wr)) (fun i _ => bl - (intOf i).toNat)
      case atStart => exact ⟨0, rfl, Nat.zero_le _, M5⟩
      case round =>
        clear M5
        obtain ⟨k, rfl, hk, hM⟩ := hrel
        by_cases hlt : k < bl
        · have hlti : (k : Int) < (bl : Int) := by omega
          obtain ⟨g, gc, ev, hcell, hfz⟩ := hM.out.form (by omega)
          injection ev with ev1 _ ev2
          subst ev1 ev2
          obtain ⟨z, c0⟩ := hcell k hlt
          have f0 := hfz k
          have HM2 := Lib.hid (fun y => hM.out.put k y)
          clear hM hcell hfz HRB HWN
          go_wp2_with fail
          go_roundw
          case rel => exact ⟨k + 1, by go_num, by omega, HM2.out _⟩
          case measure => simp [intOf]; omega
        · have hlti : ¬ (k : Int) < (bl : Int) := by omega
          have K5 := Lib.hid hM.out.kept
          have Z6 : Hid (W5.heap.size ≤ wr.heap.size) := K5.out.size
          have P6 : Hid (wr.cell? ⟨w4.heap.size, 0, none⟩ = some (.slice a4 xs1.length cap4)) := (World.cell?_of_block (a := ⟨w4.heap.size, 0, none⟩) (K5.out.block w4.heap.size (by show w4.heap.size < _; have := Z5.out; omega) (fun e => by have := (G3.out _ e.symm).2; have := Z5.out; omega))).trans P4.out
          have S6 : Hid (Sits recSh (fun b => w3.heap.size ≤ b ∧ b < w4.heap.size) wr a4 xs1) := S4.out.past K5.out (fun b h => ⟨by have := Z5.out; omega, fun e => by have := (G3.out _ e.symm).2; omega⟩)
          have B6 : Hid (Below W0.heap.size W0 wr) := B5.out.trans (past_below K5.out B5.out.size (fun q e => Nat.le_trans B2.out.size (G3.out q e).1))
          have HR := Lib.hid (HRB.out wr B6.out)
          clear hM K5 P4 S4 B5
          rename World => w5
          go_wp2_with fail
          refine HR.out.mono ?_
          rintro e w6 ⟨v6, xs2, er2, n2, rfl, hri, ⟨a6, cap6, rfl, hs6⟩, hb6⟩
          obtain ⟨hxx, rfl, rfl⟩ := read_one RI.out hri
          subst hxx
          have HW6 : Below w6.heap.size w6 (w6.alloc (.cells #[.slice a6 xs1.length cap6] 24)) := (Below.refl _ _).alloc (Nat.le_refl _) _
          have hb7 : Below w5.heap.size w5 (w6.alloc (.cells #[.slice a6 xs1.length cap6] 24)) := hb6.trans (HW6.mono hb6.size)
          have Q7 : Hid ((w6.alloc (.cells #[.slice a6 xs1.length cap6] 24)).cell? ⟨w6.heap.size, 0, none⟩ = some (.slice a6 xs1.length cap6)) := (cell_of_row _ _ _ _ _ _ (heap_alloc_new w6 _)).trans rfl
          have T7 : Hid (Sits recSh (fun b => w5.heap.size ≤ b ∧ b < w6.heap.size) (w6.alloc (.cells #[.slice a6 xs1.length cap6] 24)) a6 xs1) := hs6.on HW6 (fun b h => h.2)
          have P7 : Hid ((w6.alloc (.cells #[.slice a6 xs1.length cap6] 24)).cell? ⟨w4.heap.size, 0, none⟩ = some (.slice a4 xs1.length cap4)) := (hb7.cell (p := ⟨w4.heap.size, 0, none⟩) (by show w4.heap.size < _; have := Z5.out; have := Z6.out; omega)).trans P6.out
          have S7 : Hid (Sits recSh (fun b => w3.heap.size ≤ b ∧ b < w4.heap.size) (w6.alloc (.cells #[.slice a6 xs1.length cap6] 24)) a4 xs1) := S6.out.on hb7 (fun b h => by have := Z5.out; have := Z6.out; omega)
          have hz7 : (w6.alloc (.cells #[.slice a6 xs1.length cap6] 24)).heap.size = w6.heap.size + 1 := by simp
          have Z7 : Hid (w4.heap.size ≤ w6.heap.size ∧ (w6.alloc (.cells #[.slice a6 xs1.length cap6] 24)).heap.size = w6.heap.size + 1) := ⟨by have := Z5.out; have := Z6.out; have := hb6.size; omega, hz7⟩
          have B7 := Lib.hid (B6.out.trans (hb7.mono B6.out.size))
          have HXN := Lib.hid (read_enc RI.out (by omega))
          have p7 := P7.out
          have HW1 := Lib.hid (rwrite_any a4 xs1.length cap4 xs1 (w6.alloc (.cells #[.slice a6 xs1.length cap6] 24)) rfl (S7.out.lo (fun b h => by have := Z7.out; omega)) HXN.out)
          clear hri hs6 hb6 HW6 hb7 hz7 HR HRB P6 S6 B6 P7 S7
          go_wp2_with fail
          generalize w6.alloc (.cells #[.slice a6 xs1.length cap6] 24) = W7 at *
          refine HW1.out.mono ?_
          intro e w8 hr8
          obtain ⟨v8, bad8, rfl, hb8, hrow8⟩ := rwrite_row hr8
          have q8 : w8.cell? ⟨w6.heap.size, 0, none⟩ = some (.slice a6 xs1.length cap6) := (hb8.cell (p := ⟨w6.heap.size, 0, none⟩) (by show w6.heap.size < _; have := Z7.out; omega)).trans Q7.out
          have B8 := Lib.hid (B7.out.trans (hb8.mono B7.out.size))
          have R8 : Hid (BRow W0.heap.size (lim (encWit xs1)) v8 w8) := hrow8.lower B7.out.size
          have V8 : Hid (∀ q, v8.ownBlock = some q → q < w8.heap.size) := fun q e => (World.ownsRow.lt hrow8 q e).2
          have HW2 := Lib.hid (rwrite_any a6 xs1.length cap6 xs1 w8 rfl ((T7.out.on hb8 (fun b h => by have := Z7.out; omega)).lo (fun b h => by have := Z7.out; have := hb8.size; omega)) HXN.out)
          clear hr8 hb8 hrow8 HW1 p7 T7 Q7 B7
          go_wp2_with fail
          refine HW2.out.mono ?_
          intro e w9 hr9
          obtain ⟨v9, bad9, rfl, hb9, hrow9⟩ := rwrite_row hr9
          have B9 := Lib.hid (B8.out.trans (hb9.mono B8.out.size))
          have R8 := Lib.hid (R8.out.below hb9)
          have R9 : Hid (BRow W0.heap.size (lim (encWit xs1)) v9 w9) := hrow9.lower B8.out.size
          have V8 : Hid (∀ q, v8.ownBlock = some q → q < w9.heap.size) := fun q e => Nat.lt_of_lt_of_le (V8.out q e) hb9.size
          have V9 : Hid (∀ q, v9.ownBlock = some q → q < w9.heap.size) := fun q e => (World.ownsRow.lt hrow9 q e).2
          have x9 := HX0.out w9 B9.out
          have HW3 := Lib.hid (rwrite_any a n cap xs w9 HN.out (HL.out.below B9.out B9.out.size) HWN.out)
          clear hr9 hb9 hrow9 HW2 q8 B8
          go_wp2_with fail
          refine HW3.out.mono ?_
          intro e w10 hr10
          obtain ⟨v10, bad10, rfl, hb10, hrow10⟩ := rwrite_row hr10
          have B10 := Lib.hid (B9.out.trans (hb10.mono B9.out.size))
          have R8 := Lib.hid (R8.out.below hb10)
          have R9 := Lib.hid (R9.out.below hb10)
          have R10 : Hid (BRow W0.heap.size (lim (encWit xs)) v10 w10) := hrow10.lower B9.out.size
          have V8 : Hid (∀ q, v8.ownBlock = some q → q < w10.heap.size) := fun q e => Nat.lt_of_lt_of_le (V8.out q e) hb10.size
          have V9 : Hid (∀ q, v9.ownBlock = some q → q < w10.heap.size) := fun q e => Nat.lt_of_lt_of_le (V9.out q e) hb10.size
          have V10 : Hid (∀ q, v10.ownBlock = some q → q < w10.heap.size) := fun q e => (World.ownsRow.lt hrow10 q e).2
          have x10 := HX0.out w10 B10.out
          have HW4 := Lib.hid (write_any a n cap xs w10 HN.out (small_of HLW.out) (HL.out.below B10.out B10.out.size))
          clear hr10 hb10 hrow10 HW3 x9 B9
          go_wp2_with fail
          refine HW4.out.mono ?_
          intro e w11 hr11
          obtain ⟨v11, er11, rfl, hb11, hrow11⟩ := write_row hr11
          have B11 := Lib.hid (B10.out.trans (hb11.mono B10.out.size))
          have R8 := Lib.hid (R8.out.below hb11)
          have R9 := Lib.hid (R9.out.below hb11)
          have R10 := Lib.hid (R10.out.below hb11)
          have V11 : Hid (∀ q, v11.ownBlock = some q → w10.heap.size ≤ q) := fun q e => (World.ownsRow.lt hrow11 q e).1
          have M11 := Lib.hid (Mut.of hrow11)
          have hl11 := lim_len (encWit xs)
          have H10 : Hid (W0.heap.size ≤ w10.heap.size) := B10.out.size
          obtain ⟨a11, cap11, rfl⟩ := hrow11.slice
          clear hr11 hb11 hrow11 HW4 x10 B10
          have HWL : Hid (∀ W, Below W0.heap.size W0 W → Calls Try.prog 10 #[.agg #[.slice a n cap]] W (RWriteEnd xs W)) := fun W hW => rwrite_any a n cap xs W HN.out (HL.out.below hW hW.size) HWN.out
          generalize (lim (encWit xs)).length = m at *
          go_wp2_with fail
          go_loopw [22] (fun i wr => ∃ k : Nat, i = .int .i64 k ∧ k ≤ m ∧ Hid (Mut w10.heap.size m (.slice a11 m cap11) w11 wr)) (fun i _ => m - (intOf i).toNat)
          case atStart => exact ⟨0, rfl, Nat.zero_le _, M11⟩
          case round =>
            clear M11
            obtain ⟨k2, rfl, hk2, hM⟩ := hrel
            by_cases hlt2 : k2 < m
            · have hlti2 : (k2 : Int) < (m : Int) := by omega
              obtain ⟨g, gc, ev, hcell, hfz⟩ := hM.out.form (by omega)
              injection ev with ev1 _ ev2
              subst ev1 ev2
              obtain ⟨z, c0⟩ := hcell k2 hlt2
              have f0 := hfz k2
              have HM2 := Lib.hid (fun y => hM.out.put k2 y)
              clear hM hcell hfz
              go_wp2_with fail
              go_roundw
              case rel => exact ⟨k2 + 1, by go_num, by omega, HM2.out _⟩
              case measure => simp [intOf]; omega
            · have hlti2 : ¬ (k2 : Int) < (m : Int) := by omega
              have K := Lib.hid hM.out.kept
              have R8 : Hid (BRow W0.heap.size (lim (encWit xs1)) v8 wr) := R8.out.past2 K.out V8.out V11.out
              have R9 : Hid (BRow W0.heap.size (lim (encWit xs1)) v9 wr) := R9.out.past2 K.out V9.out V11.out
              have R10 : Hid (BRow W0.heap.size (lim (encWit xs)) v10 wr) := R10.out.past2 K.out V10.out V11.out
              have B12 : Hid (Below W0.heap.size W0 wr) := B11.out.trans (past_below K.out B11.out.size (fun q e => Nat.le_trans H10.out (V11.out q e)))
              have x12 := HX0.out wr B12.out
              have HW5 := Lib.hid (HWL.out wr B12.out)
              clear hM K B11 HWL
              rename World => w12
              go_wp2_with fail
              refine HW5.out.mono ?_
              intro e w13 hr13
              obtain ⟨v13, bad13, rfl, hb13, hrow13⟩ := rwrite_row hr13
              have BE := Lib.hid (HA.out.trans ((B12.out.trans (hb13.mono B12.out.size)).mono HA.out.size))
              have d8 := (R8.out.below hb13).conv (by have := lim_len (encWit xs1); omega)
              have d9 := (R9.out.below hb13).conv (by have := lim_len (encWit xs1); omega)
              have d10 := (R10.out.below hb13).conv (by have := lim_len (encWit xs); omega)
              have d13 := hrow13.conv (by have := lim_len (encWit xs); omega)
              obtain ⟨a8, cap8, rfl⟩ := R8.out.slice
              obtain ⟨a9, cap9, rfl⟩ := R9.out.slice
              obtain ⟨a10, cap10, rfl⟩ := R10.out.slice
              obtain ⟨a13, cap13, rfl⟩ := hrow13.slice
              have HCO := Lib.hid (code_of RI.out w13)
              clear hr13 hb13 hrow13 HW5 R8 R9 R10 x12 B12
              generalize (lim (encWit xs1)).toArray = s1 at *
              generalize (lim (encWit xs)).toArray = s2 at *
              generalize (lim (encWit xs1)).length = m1 at *
              generalize (lim (encWit xs)).length = m2 at *
              go_wp2_with fail
              refine HCO.out.mono ?_
              rintro e w14 ⟨rfl, rfl⟩
              go_wp2_with fail
              refine HCO.out.mono ?_
              rintro e w15 ⟨rfl, rfl⟩
              go_wp2_with fail
              go_ret
              exact ⟨rfl, BE.out⟩
end Go.Proofs.Ytgaipfkblfommaa
