/- The writer: its state; a byte. -/
import Derived.Test.YtgaipfkblfommaaPakA
import Derived.BigQuiet
import Derived.RegionTactic
import Derived.Deep.QuietTactic
import Derived.Deep.RegionLaw
import Derived.Deep.AppendSrc
import Derived.Lib.Zigzag
import Derived.Lib.AppendZerosOnto
import Derived.Lib.AppendStr
set_option linter.unusedVariables false
set_option linter.unusedSimpArgs false
namespace Go.Proofs.Ytgaipfkblfommaa
set_option maxRecDepth 100000
open Go.RowKit

/-! What the bytes of a witness are. -/
def num (x : Int) : List UInt8 := Lib.uvarint (Lib.zigzag x)
def encList {T : Type} (f : T → List UInt8) (xs : List T) : List UInt8 := num xs.length ++ xs.flatMap f
def encPart (p : Part) : List UInt8 := num p.line ++ num p.times
def encStep (s : Step) : List UInt8 := encList encPart s.parts ++ num s.div
def encClause (c : List Int) : List UInt8 := encList num c
def encLem (l : Lem) : List UInt8 := encClause l.lits ++ encList encStep l.steps
def encReply (r : Reply) : List UInt8 := if r.yes = true then [1] ++ encList encLem r.lems ++ encList encClause r.refute else [0]
def encRec (r : Rec) : List UInt8 := num r.name.size ++ r.name.data.toList ++ encList encReply r.reps
def encWit (l : List Rec) : List UInt8 := encList encRec l
/-- The writer at g, whose bytes are out, as long as there is room. -/
structure WS (g : Nat) (r : Option Nat) (out : List UInt8) (w : World) : Prop where
  st : ∃ (b : List UInt8) (f : Bool) (v : Value), w.cell? ⟨g, 0, none⟩ = some v ∧ w.cell? ⟨g, 1, none⟩ = some (.bool f) ∧ w.ownsRow (g + 1) 5 1 v b.length (Lib.byteCells b) ∧ v.ownBlock = r ∧ b.length ≤ 4194304 ∧ (f = false → b = out) ∧ (f = true → 4194304 < out.length)
  fr : ∀ j, w.frozen? ⟨g, j, none⟩ = false
  lt : g < w.heap.size
structure KeptW (g : Nat) (r : Option Nat) (w w' : World) : Prop where
  os : w'.os = w.os
  tape : w'.tape = w.tape
  output : w'.output = w.output
  size : w.heap.size ≤ w'.heap.size
  block : ∀ q, q < w.heap.size → q ≠ g → some q ≠ r → w'.heap[q]? = w.heap[q]?
def WTo (g : Nat) (r : Option Nat) (w : World) (out' : List UInt8) (w' : World) : Prop := ∃ r', WS g r' out' w' ∧ (r' = r ∨ ∃ q, r' = some q ∧ w.heap.size ≤ q) ∧ KeptW g r w w'
def WEnd (g : Nat) (r : Option Nat) (w : World) (out' : List UInt8) (e : Ending) (w' : World) : Prop := e = .returned (.tuple #[]) ∧ WTo g r w out' w'
theorem WS.row_lt {g : Nat} {r : Option Nat} {out : List UInt8} {w : World} (h : WS g r out w) : ∀ q, r = some q → g < q ∧ q < w.heap.size := fun q hq => by
  obtain ⟨b, f, v, _, _, h3, h4, _⟩ := h.st
  have := World.ownsRow.lt h3 q (h4.trans hq)
  omega
theorem WS.more {g : Nat} {r : Option Nat} {out : List UInt8} {w : World} (h : WS g r out w) (hf : w.cell? ⟨g, 1, none⟩ = some (.bool true)) (x : List UInt8) : WS g r (out ++ x) w := by
  obtain ⟨b, f, v, h1, h2, h3, h4, h5, h6, h7⟩ := h.st
  rw [hf] at h2
  obtain rfl : true = f := by simpa using h2
  exact ⟨⟨b, true, v, h1, hf, h3, h4, h5, fun h => (by cases h), fun _ => by have := h7 rfl; rw [List.length_append]; omega⟩, h.fr, h.lt⟩
theorem WS.below {g : Nat} {r : Option Nat} {out : List UInt8} {w w' : World} (h : WS g r out w) (hb : Below w.heap.size w w') : WS g r out w' := by
  obtain ⟨b, f, v, h1, h2, h3, h4, h5, h6, h7⟩ := h.st
  exact ⟨⟨b, f, v, (hb.cell (p := ⟨g, 0, none⟩) h.lt).trans h1, (hb.cell (p := ⟨g, 1, none⟩) h.lt).trans h2, World.ownsRow.kept (row := none) h3 ⟨hb.os, hb.tape, hb.output, hb.size, fun q hq _ => hb.block q hq⟩ (by cases v.ownBlock <;> simp), h4, h5, h6, h7⟩,
    fun j => (hb.frozen (p := ⟨g, j, none⟩) h.lt).trans (h.fr j), Nat.lt_of_lt_of_le h.lt hb.size⟩
theorem KeptW.of_below {g : Nat} {r : Option Nat} {w w' : World} (hb : Below w.heap.size w w') : KeptW g r w w' := ⟨hb.os, hb.tape, hb.output, hb.size, fun q hq _ _ => hb.block q hq⟩
theorem WTo.of_below {g : Nat} {r : Option Nat} {out : List UInt8} {w w' : World} (h : WS g r out w) (hb : Below w.heap.size w w') : WTo g r w out w' := ⟨r, h.below hb, .inl rfl, .of_below hb⟩
theorem WTo.refl {g : Nat} {r : Option Nat} {out : List UInt8} {w : World} (h : WS g r out w) : WTo g r w out w := WTo.of_below h (Below.refl _ _)
theorem WTo.trans {g : Nat} {r r' : Option Nat} {w w1 w2 : World} {o2 : List UInt8} (hr : r' = r ∨ ∃ q, r' = some q ∧ w.heap.size ≤ q) (hk : KeptW g r w w1) (h : WTo g r' w1 o2 w2) : WTo g r w o2 w2 := by
  obtain ⟨r2, a1, a2, a3⟩ := h
  refine ⟨r2, a1, ?_, ⟨a3.os.trans hk.os, a3.tape.trans hk.tape, a3.output.trans hk.output, Nat.le_trans hk.size a3.size, fun q hq h1 h2 => ?_⟩⟩
  · rcases a2 with rfl | ⟨q, rfl, hq⟩
    · exact hr
    · exact .inr ⟨q, rfl, Nat.le_trans hk.size hq⟩
  · refine (a3.block q (Nat.lt_of_lt_of_le hq hk.size) h1 ?_).trans (hk.block q hq h1 h2)
    rcases hr with rfl | ⟨p, rfl, hp⟩
    · exact h2
    · intro e; injection e with e; omega
theorem KeptW.below {g : Nat} {r : Option Nat} {w w' : World} (h : KeptW g r w w') (hr : ∀ q, r = some q → g < q) : Below g w w' ∨ w.heap.size ≤ g := by
  by_cases hg : w.heap.size ≤ g
  · exact .inr hg
  · exact .inl ⟨h.os, h.tape, h.output, h.size, fun q hq => h.block q (by omega) (by omega) (fun e => by have := hr q e.symm; omega)⟩
theorem WTo.below {g : Nat} {r : Option Nat} {out o2 : List UInt8} {w w' : World} (h : WS g r out w) (k : WTo g r w o2 w') : Below g w w' := by
  obtain ⟨r', _, _, k3⟩ := k
  rcases k3.below (fun q hq => (h.row_lt q hq).1) with h1 | h1
  · exact h1
  · have := h.lt; omega
/-- A block that the writer doesn't touch. -/
structure Apart (h g : Nat) (r : Option Nat) (w : World) : Prop where
  lt : h < w.heap.size
  ne : h ≠ g
  row : some h ≠ r
theorem Apart.next {h g : Nat} {r r' : Option Nat} {w w' : World} (a : Apart h g r w) (hr : r' = r ∨ ∃ q, r' = some q ∧ w.heap.size ≤ q) (hk : KeptW g r w w') : Apart h g r' w' ∧ ∀ j, w'.cell? ⟨h, j, none⟩ = w.cell? ⟨h, j, none⟩ :=
  ⟨⟨Nat.lt_of_lt_of_le a.lt hk.size, a.ne, by
    rcases hr with rfl | ⟨q, rfl, hq⟩
    · exact a.row
    · intro e; injection e with e; have := a.lt; omega⟩, fun j => World.cell?_of_block (hk.block h a.lt a.ne a.row)⟩
theorem Try.infoByte : (Try.prog.info? 5).map (fun i => (i.zero, i.size, i.bytes)) = some (some (.int .u8 0), 1, 1) := by kernel_rfl
theorem info_parts {p : Option TypeInfo} {a : Option Value} {b c : Nat} (h : p.map (fun i => (i.zero, i.size, i.bytes)) = some (a, b, c)) : ∃ i, p = some i ∧ i.zero = a ∧ i.size = b ∧ i.bytes = c := by
  cases p with
  | none => cases h
  | some i => simp at h; exact ⟨i, rfl, h.1, h.2.1, h.2.2⟩
/-- A writer's row, and something more; the pointer's cell is set. -/
theorem WS.put {g : Nat} {r : Option Nat} {out : List UInt8} {w w5 w6 : World} {b : List UInt8} {f : Bool} {v v6 : Value} {e : List UInt8} (h : WS g r out w) (g1 : w.cell? ⟨g, 0, none⟩ = some v) (g2 : w.cell? ⟨g, 1, none⟩ = some (.bool f)) (g3 : w.ownsRow (g + 1) 5 1 v b.length (Lib.byteCells b)) (g4 : v.ownBlock = r) (g6 : f = false → b = out) (g7 : f = true → 4194304 < out.length)
    (hb5 : Below w.heap.size w w5) (hg : w5.grownBy w6 v.ownBlock) (hv : v6.ownBlock = v.ownBlock ∨ v6.ownBlock = some w5.heap.size)
    (hrow6 : w6.ownsRow (g + 1) 5 1 v6 (b.length + e.length) (Lib.byteCells (b ++ e))) (hl : (b ++ e).length ≤ 4194304) : WTo g r w (out ++ e) (w6.setCell ⟨g, 0, none⟩ v6) := by
  have hlt := h.lt
  have hs5 := hb5.size
  have hs6 := hg.size
  have hne : ∀ q, v.ownBlock = some q → g ≠ q := fun q hq => by have := World.ownsRow.lt g3 q hq; omega
  have hgn : some g ≠ v.ownBlock := fun e => hne g e.symm rfl
  have hg6 : w6.heap[g]? = w.heap[g]? := (hg.block g (by omega) hgn).trans (hb5.block g hlt)
  have hne6 : v6.ownBlock ≠ some g := fun e => by have := World.ownsRow.lt hrow6 g e; omega
  have hset : w6.grownBy (w6.setCell ⟨g, 0, none⟩ v6) (some g) := ⟨rfl, rfl, rfl, by simp [World.setCell], fun q hq hn => Below.heap_setCell _ _ _ _ (fun e => hn (by rw [e]))⟩
  refine ⟨v6.ownBlock, ⟨⟨b ++ e, f, v6, ?_, ?_, ?_, rfl, hl, fun hf => (by rw [g6 hf]), fun hf => (by have := g7 hf; rw [List.length_append]; omega)⟩, fun j => ?_, by simp [World.setCell]; omega⟩, ?_, ⟨?_, ?_, ?_, ?_, fun q hq h2 h3 => ?_⟩⟩
  · have : (w6.cell? ⟨g, 0, none⟩).isSome := by rw [World.cell?_of_block (a := ⟨g, 0, none⟩) hg6, g1]; rfl
    exact World.cell?_setCell_same' _ _ _ this
  · exact (World.cell?_setCell_other w6 ⟨g, 0, none⟩ ⟨g, 1, none⟩ v6 (by simp)).trans ((World.cell?_of_block (a := ⟨g, 1, none⟩) hg6).trans g2)
  · rw [List.length_append]
    exact World.ownsRow.kept hrow6 hset (.inr hne6)
  · rw [World.frozen?_setCell, World.frozen?_of_block (a := ⟨g, j, none⟩) hg6]
    exact h.fr j
  · rw [← g4]
    exact hv.imp id fun e => ⟨_, e, hs5⟩
  · exact hg.os.trans hb5.os
  · exact hg.tape.trans hb5.tape
  · exact hg.output.trans hb5.output
  · simp [World.setCell]; omega
  · rw [Below.heap_setCell _ _ _ _ h2, hg.block q (by omega) (by rw [g4]; exact h3), hb5.block q hq]
theorem own_slice {w : World} {B k n : Nat} {e : TypeId} {v : Value} {xs : List Value} (h : w.ownsRow B e k v n xs) : ∃ a cap, v = .slice a n cap := by
  rcases h.2 with ⟨e, e0⟩ | ⟨q, cap, _, e, _⟩
  · exact ⟨none, 0, by rw [e, e0]⟩
  · exact ⟨_, cap, e⟩
/-- The writer is full now. -/
theorem WS.fill {g : Nat} {r : Option Nat} {out : List UInt8} {w : World} (h : WS g r out w) {x : List UInt8} (hl : 4194304 < (out ++ x).length) : WTo g r w (out ++ x) (w.setCell ⟨g, 1, none⟩ (.bool true)) := by
  obtain ⟨b, f, v, g1, g2, g3, g4, g5, g6, g7⟩ := h.st
  have hlt := h.lt
  have hne6 : v.ownBlock ≠ some g := fun e => by have := World.ownsRow.lt g3 g e; omega
  have hset : w.grownBy (w.setCell ⟨g, 1, none⟩ (.bool true)) (some g) := ⟨rfl, rfl, rfl, by simp [World.setCell], fun q hq hn => Below.heap_setCell _ _ _ _ (fun e => hn (by rw [e]))⟩
  refine ⟨r, ⟨⟨b, true, v, ?_, ?_, World.ownsRow.kept g3 hset (.inr hne6), g4, g5, fun h => (by cases h), fun _ => hl⟩, fun j => ?_, by simp [World.setCell]; omega⟩, .inl rfl, ⟨rfl, rfl, rfl, by simp [World.setCell], fun q hq h2 h3 => Below.heap_setCell _ _ _ _ h2⟩⟩
  · exact (World.cell?_setCell_other w ⟨g, 1, none⟩ ⟨g, 0, none⟩ (.bool true) (by simp)).trans g1
  · exact World.cell?_setCell_same' _ _ _ (by rw [g2]; rfl)
  · rw [World.frozen?_setCell]
    exact h.fr j
set_option maxHeartbeats 2000000 in
theorem put_any (g : Nat) (r : Option Nat) (out : List UInt8) (c : UInt8) (w : World) (h : WS g r out w) :
    Calls Try.prog 27 #[.pointer (some ⟨g, 0, none⟩), .int .u8 (c.toNat : Int)] w (WEnd g r w (out ++ [c])) := by
  have HW := Lib.hid h
  obtain ⟨b, f, v, g1, g2, g3, g4, g5, g6, g7⟩ := h.st
  have f0 := h.fr 0
  have f1 := h.fr 1
  clear h
  by_cases hfull : b.length = 4194304
  · have hlen : ((b.length : Int) == 4194304) = true := by rw [hfull]; rfl
    have HE : Hid (WEnd g r w (out ++ [c]) (.returned (.tuple #[])) (w.setCell ⟨g, 1, none⟩ (.bool true))) := ⟨rfl, HW.out.fill (by
      rw [List.length_append]
      cases f with
      | false => rw [← g6 rfl, hfull]; simp
      | true => have := g7 rfl; omega)⟩
    obtain ⟨a, cap, rfl⟩ : ∃ a cap, v = .slice a b.length cap := by
      rcases g3.2 with ⟨e, e0⟩ | ⟨q, cap, _, e, _⟩
      · exact ⟨none, 0, by rw [e, e0]⟩
      · exact ⟨_, cap, e⟩
    clear g3 g4 g5 g6 g7
    generalize b.length = n at *
    go_enter Try.func27, Try.ntmps27
    go_wp2_with fail
    go_end0
    exact HE.out
  · have hlen : ((b.length : Int) == 4194304) = false := by simp; omega
    have HI := Lib.hid g3
    have HB5 := Lib.hid g5
    have HB6 := Lib.hid g6
    have HB7 := Lib.hid g7
    have H4 := Lib.hid g4
    have hfl : b.length < 4194304 := by omega
    obtain ⟨a, cap, rfl⟩ : ∃ a cap, v = .slice a b.length cap := by
      rcases g3.2 with ⟨e, e0⟩ | ⟨q, cap, _, e, _⟩
      · exact ⟨none, 0, by rw [e, e0]⟩
      · exact ⟨_, cap, e⟩
    clear g3 g4 g5 g6 g7
    have HB : Hid (Below w.heap.size w (w.alloc (.cells #[.int .u8 (c.toNat : Int)] 5))) := (Below.refl _ w).alloc (Nat.le_refl _) _
    obtain ⟨i0, hi, hz0, hz1, hz2⟩ := info_parts Try.infoByte
    have hrow5 : (w.alloc (.cells #[.int .u8 (c.toNat : Int)] 5)).ownsRow (g + 1) 5 1 (.slice a b.length cap) b.length (Lib.byteCells b) := World.ownsRow.kept (row := none) HI.out ⟨HB.out.os, HB.out.tape, HB.out.output, HB.out.size, fun q hq _ => HB.out.block q hq⟩ (by cases Value.ownBlock (.slice a b.length cap) <;> simp)
    have hnews := World.news_of_block (heap_alloc_new w (.cells #[.int .u8 (c.toNat : Int)] 5))
    have hrun := fun ty => run_append_own_at (P := Try.prog) (w.alloc (.cells #[.int .u8 (c.toNat : Int)] 5)) (g + 1) 27 ty 5 i0 _ 1 1 Try.underlying27 hi hz0 hz1 hz2 rfl (by decide) (.slice a b.length cap) b.length (Lib.byteCells b) hrow5 ⟨w.heap.size, 0, none⟩ 1 1 [.int .u8 (c.toNat : Int)] rfl hnews (by simp [Value.oneCell']) (by unfold maxLen; omega) (by omega) (by have := HW.out.lt; simp; omega)
    obtain ⟨v6, w6, hr6, ho6, hg6, _, hv6⟩ := hrun 27
    have hr6 : ∀ ty, (Builtin.append_ #[27, 27] ty #[.slice a b.length cap, .slice (some ⟨w.heap.size, 0, none⟩) 1 1]).run Try.prog (w.alloc (.cells #[.int .u8 (c.toNat : Int)] 5)) = .ok v6 w6 := fun ty => hr6
    have hlt := HW.out.lt
    have hrow0 := World.ownsRow.lt HI.out
    have k5 : (w.alloc (.cells #[.int .u8 (c.toNat : Int)] 5)).heap[g]? = w.heap[g]? := HB.out.block g hlt
    have k6 : w6.heap[g]? = w.heap[g]? := (hg6.block g (by have := HB.out.size; omega) (fun e => by have := hrow0 g e.symm; omega)).trans k5
    have q0 : w6.cell? ⟨g, 0, none⟩ = some (.slice a b.length cap) := (World.cell?_of_block (a := ⟨g, 0, none⟩) k6).trans g1
    have q1 : w6.frozen? ⟨g, 0, none⟩ = false := (World.frozen?_of_block (a := ⟨g, 0, none⟩) k6).trans f0
    have HE : Hid (WEnd g r w (out ++ [c]) (.returned (.tuple #[])) (w6.setCell ⟨g, 0, none⟩ v6)) := by
      refine ⟨rfl, HW.out.put g1 g2 HI.out H4.out HB6.out HB7.out HB.out hg6 hv6 (e := [c]) ?_ (by rw [List.length_append]; simp; omega)⟩
      have e1 : Lib.byteCells (b ++ [c]) = Lib.byteCells b ++ [.int .u8 (c.toNat : Int)] := by rw [Lib.byteCells_append]; rfl
      rw [e1]
      exact ho6
    obtain ⟨a6, cap6, rfl⟩ := own_slice ho6
    clear hrun ho6 hg6 hv6 k5 k6 hrow0 hnews hrow5
    go_enter Try.func27, Try.ntmps27
    go_wp2_with (at_builtin; refine Lib.wpList_append_run _ rfl _ _ _ _ rfl _ _ rfl rfl _ _ (hr6 _) ?_)
    go_end0
    exact HE.out
/-- append(own, text...): where the row is then. -/
theorem run_text_own {P : Program} (w : World) (base : Nat) (t u ty e : TypeId) (i : TypeInfo) (ht : P.underlying t = some (.slice e)) (hu : P.underlying u = some .string) (hi : P.info? e = some i) (hz : i.zero = some (.int .u8 0)) (hsize : i.size = 1) (hby : i.bytes = 1)
    (v : Value) (n : Nat) (xs : List Value) (hown : w.ownsRow base e 1 v n xs) (s : ByteArray) (hbytes : n + s.size ≤ 140737488355328) (hbase : base ≤ w.heap.size) :
    ∃ v' w', (Builtin.append_ #[t, u] ty #[v, .string s]).run P w = .ok v' w' ∧ w'.ownsRow base e 1 v' (n + s.size) (xs ++ Lib.byteCells s.data.toList) ∧ w.grownBy w' v.ownBlock ∧ (v'.ownBlock = v.ownBlock ∨ v'.ownBlock = some w.heap.size) := by
  obtain ⟨v', w', hr, h1, h2, h3⟩ := Lib.run_append_own_string (P := P) w base t u ty e i ht hu hi hz hsize hby v n xs hown s (by unfold maxLen; omega) hbytes hbase
  refine ⟨v', w', hr, h1, h2, ?_⟩
  have hsrc : ∀ W : World, Src P i.size u (.string s) s.size (byteCells s) W := fun W => by rw [hsize]; exact Src.ofString W hu s
  rcases hown.2 with ⟨rfl, rfl⟩ | ⟨q, cap, cur, rfl, hq, hg, hn, hcm, hcs, htk⟩
  · by_cases h0 : s.size = 0
    · obtain rfl := h3.2 ⟨rfl, h0⟩
      exact .inl rfl
    · have hr2 := run_append_grow_src (P := P) w t u ty e i _ ht hi hz none 0 0 [] (run_firstCells_none w.drew i.size 0 0 0) (.string s) s.size (byteCells s) (hsrc w) (by omega) (by omega) (by
        have := nextslicecap_le (need := 0 + s.size) (old := 0) (by omega)
        rw [hby]; omega)
      rw [hr] at hr2
      injection hr2 with e1 e2
      rw [e1]
      exact .inr rfl
  · by_cases hroom : n + s.size ≤ cap
    · have hr2 := run_append_room_src (P := P) w t u ty e i ht hi q 0 n cap (.string s) s.size (byteCells s) (hsrc w) hroom (fun j hj => by
          rw [byteCells_length] at hj
          rw [cell_of_row _ _ _ _ _ _ hg, hsize, Array.getElem?_eq_getElem (by omega)]; rfl) (fun j hj => by
          rw [byteCells_length] at hj
          simp [World.frozen?, hg])
      rw [hr] at hr2
      injection hr2 with e1 e2
      rw [e1]
      exact .inl rfl
    · have holds : (Builtin.firstCells i.size n (.slice (some ⟨q, 0, none⟩) n cap)).run P w.drew = .ok xs.toArray w.drew := by
        rw [hsize]
        have hxl := hown.1
        exact run_firstCells_some w.drew 1 n ⟨q, 0, none⟩ n cap xs (by rw [hxl]) (fun j x hj => by
          have := World.ownsRow.cells hown (g := q) rfl j x hj
          simpa using this)
      have hr2 := run_append_grow_src (P := P) w t u ty e i _ ht hi hz (some ⟨q, 0, none⟩) n cap xs holds (.string s) s.size (byteCells s) (hsrc w) (by omega) (by omega) (by
        have := nextslicecap_le (need := n + s.size) (old := cap) (by omega)
        rw [hby]; omega)
      rw [hr] at hr2
      injection hr2 with e1 e2
      rw [e1]
      exact .inr rfl
end Go.Proofs.Ytgaipfkblfommaa
