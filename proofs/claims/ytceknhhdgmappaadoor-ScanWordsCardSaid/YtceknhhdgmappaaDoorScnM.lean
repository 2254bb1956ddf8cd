/- All tokens: the code's. -/
import Derived.Test.YtceknhhdgmappaaDoorScnL
import Derived.Test.YtceknhhdgmappaaDoorPakZ0
set_option linter.unusedVariables false
set_option linter.unusedSimpArgs false
namespace Go.Proofs.YtceknhhdgmappaaDoor
set_option maxRecDepth 100000
open Go.RowKit

/-- Tokens in cells. -/
def tok0 : Tok := ⟨0, 0, ⟨#[]⟩⟩
def tcells (ts : List Tok) : List Value := ts.flatMap fun x => [.int .i64 x.kind, .int .i64 (x.at' : Int), .string x.text]
theorem tcells_append (xs ys : List Tok) : tcells (xs ++ ys) = tcells xs ++ tcells ys := by simp [tcells]
theorem tcells_get : ∀ (xs : List Tok) (i : Nat), i < xs.length → (tcells xs)[i * 3]? = some (.int .i64 (xs.getD i tok0).kind) ∧ (tcells xs)[i * 3 + 1]? = some (.int .i64 ((xs.getD i tok0).at' : Int)) ∧ (tcells xs)[i * 3 + 2]? = some (.string (xs.getD i tok0).text)
  | [], i, h => absurd h (Nat.not_lt_zero i)
  | x :: xs, 0, _ => ⟨rfl, rfl, rfl⟩
  | x :: xs, i + 1, h => by
    have := tcells_get xs i (by simpa using h)
    rw [show (i + 1) * 3 = i * 3 + 3 by omega, show i * 3 + 3 + 1 = i * 3 + 1 + 3 by omega, show i * 3 + 3 + 2 = i * 3 + 2 + 3 by omega]
    exact this
/-- A row of tokens of the call's own. -/
def TRow (B : Nat) (ts : List Tok) (v : Value) (w : World) : Prop := w.ownsRow B 37 3 v ts.length (tcells ts)
theorem TRow.nil (B : Nat) (w : World) : TRow B [] (.slice none 0 0) w := World.ownsRow_nil _ _ _ _
theorem TRow.below {B : Nat} {ts : List Tok} {v : Value} {w w' : World} (h : TRow B ts v w) (hb : Below w.heap.size w w') : TRow B ts v w' :=
  World.ownsRow.kept (row := none) h ⟨hb.os, hb.tape, hb.output, hb.size, fun q hq _ => hb.block q hq⟩ (by cases v.ownBlock <;> simp)
theorem TRow.slice {B : Nat} {ts : List Tok} {v : Value} {w : World} (h : TRow B ts v w) : ∃ a cap, v = .slice a ts.length cap := Pak.own_slice h
/-- Tokens that lie. -/
def TLies (B : Nat) (w : World) (a : Option Addr) (ts : List Tok) : Prop :=
  ∀ i, i < ts.length → ∃ b off, a = some ⟨b, off, none⟩ ∧ b < B ∧ w.cell? ⟨b, off + i * 3, none⟩ = some (.int .i64 (ts.getD i tok0).kind) ∧ w.cell? ⟨b, off + i * 3 + 1, none⟩ = some (.int .i64 ((ts.getD i tok0).at' : Int)) ∧ w.cell? ⟨b, off + i * 3 + 2, none⟩ = some (.string (ts.getD i tok0).text)
theorem TLies.below {B : Nat} {w w' : World} {a : Option Addr} {ts : List Tok} (h : TLies B w a ts) (hb : Below B w w') : TLies B w' a ts := fun i hi => by
  obtain ⟨b, off, ha, hlt, h1, h2, h3⟩ := h i hi
  exact ⟨b, off, ha, hlt, (hb.cell (p := ⟨b, _, none⟩) hlt).trans h1, (hb.cell (p := ⟨b, _, none⟩) hlt).trans h2, (hb.cell (p := ⟨b, _, none⟩) hlt).trans h3⟩
theorem TRow.lies {B : Nat} {ts : List Tok} {v : Value} {w : World} (hr : TRow B ts v w) : ∃ a cap, v = .slice a ts.length cap ∧ TLies w.heap.size w a ts := by
  have hc := fun g => World.ownsRow.cells hr (g := g)
  have hlt := World.ownsRow.lt hr
  obtain ⟨_, h1 | ⟨g, cap, cur, hv, h2⟩⟩ := hr
  · refine ⟨none, 0, by rw [h1.1, h1.2], fun i hi => ?_⟩
    omega
  · subst hv
    refine ⟨some ⟨g, 0, none⟩, cap, rfl, fun i hi => ?_⟩
    obtain ⟨g1, g2, g3⟩ := tcells_get ts i hi
    have c1 := hc g rfl _ _ g1
    have c2 := hc g rfl _ _ g2
    have c3 := hc g rfl _ _ g3
    have ea : ∀ k, (⟨g, 0, none⟩ : Addr).add k = ⟨g, 0 + k, none⟩ := fun k => by unfold Addr.add; split <;> simp_all
    rw [ea] at c1 c2 c3
    exact ⟨g, 0, rfl, (hlt g rfl).2, c1, c2, c3⟩
def resR (R : Res) : Int × Int × List Tok := match R with
  | .ok ts => (0, -1, ts)
  | .bad c i => (c, i, [])
def resOf (s : ByteArray) : Int × Int × List Tok := if 65536 < s.size then (2, -1, []) else resR (scanF s.data.toList.length s.data.toList 0 [])
def ScanEnd (r : Int × Int × List Tok) (w : World) (e : Ending) (w' : World) : Prop :=
  ∃ v er, e = .returned (.tuple #[v, er]) ∧ TRow w.heap.size r.2.2 v w' ∧ ErrIs w.heap.size r.1 r.2.1 er w' ∧ Below w.heap.size w w'
theorem Tryd.infoTok : (Tryd.prog.info? 37).map (fun i => (i.zero, i.size, i.bytes)) = some (some (.agg #[.int .i64 0, .int .i64 0, .string ByteArray.empty]), 3, 32) := by kernel_rfl
theorem info_parts {p : Option TypeInfo} {a : Option Value} {b c : Nat} (h : p.map (fun i => (i.zero, i.size, i.bytes)) = some (a, b, c)) : ∃ i, p = some i ∧ i.zero = a ∧ i.size = b ∧ i.bytes = c := by
  cases p with
  | none => cases h
  | some i => simp at h; exact ⟨i, rfl, h.1, h.2.1, h.2.2⟩
theorem text_of {t : ByteArray} {l : List UInt8} (h : t.data.toList = l) : t = ⟨l.toArray⟩ := by
  rw [← h, Lib.mk_data]
theorem stp_bad {l : List UInt8} {c : Int} (h : stp l = .bad c) : c = 2 ∨ c = 5 ∨ c = 10 := by
  cases l with
  | nil => cases h
  | cons x r =>
    rw [stp] at h
    unfold numS at h
    repeat' split at h
    all_goals first | (cases h; done) | (injection h with h; omega)
theorem spot_tok {B : Nat} (i : Nat) (c : Int) (hc : c ≠ 0) (W : World) (h : B ≤ W.heap.size) : ErrIs B c i (.iface 43 (.pointer (some ⟨W.heap.size, 0, none⟩))) (W.alloc (.cells #[.int .i64 i, .iface 39 (.int .i64 c)] 45)) := by
  have hn := heap_alloc_new W (.cells #[.int .i64 i, .iface 39 (.int .i64 c)] 45)
  refine ⟨fun h => by omega, fun _ => ⟨W.heap.size, rfl, h, by simp, (cell_of_row _ _ _ _ _ _ hn).trans rfl, (cell_of_row _ _ _ _ _ _ hn).trans (by rw [codeV_ne hc]; rfl)⟩⟩
/-- What the loop of both scans knows. -/
structure At (s : ByteArray) (R : Res) (i : Nat) (ts : List Tok) : Prop where
  le : i ≤ s.size
  eq : ScanEq s.data.toList i ts R
  few : ts.length ≤ i
theorem At.start (s : ByteArray) : At s (scanF s.data.toList.length s.data.toList 0 []) 0 [] := ⟨Nat.zero_le _, ScanEq.start _, Nat.le_refl _⟩
theorem At.fin {s : ByteArray} {R : Res} {i : Nat} {ts : List Tok} (h : At s R i ts) (hi : ¬ i < s.size) : R = .ok ts := h.eq.fin (by rw [size_l]; omega)
theorem At.skips {s : ByteArray} {R : Res} {i b : Nat} {ts : List Tok} (h : At s R i ts) (hb : Skips (s.data.toList.drop i) b) : At s R (i + b) ts := by
  have := hb.le
  rw [List.length_drop, size_l] at this
  have := h.le
  exact ⟨by omega, h.eq.skips (by rw [size_l]; exact h.le) hb, by have := h.few; omega⟩
theorem At.tok {s t : ByteArray} {R : Res} {i n : Nat} {k : Int} {ts : List Tok} (h : At s R i ts) (hi : i < s.size) (hs : stp (s.data.toList.drop i) = .tok k n) (h1 : 1 ≤ n) (h2 : n ≤ (s.data.toList.drop i).length) (ht : t.data.toList = (s.data.toList.drop i).take n) : At s R (i + n) (ts ++ [⟨k, i, t⟩]) := by
  have e := h.eq.tok (by rw [size_l]; exact hi) hs h1
  rw [List.length_drop, size_l] at h2
  rw [text_of ht]
  exact ⟨by omega, e, by rw [List.length_append, List.length_singleton]; have := h.few; omega⟩
theorem At.bad {s : ByteArray} {R : Res} {i : Nat} {c : Int} {ts : List Tok} (h : At s R i ts) (hi : i < s.size) (hs : stp (s.data.toList.drop i) = .bad c) : R = .bad c i := h.eq.bad (by rw [size_l]; exact hi) hs
theorem TRow.step {B : Nat} {ts : List Tok} {x : Tok} {g cap : Nat} {w : World} (h : w.ownsRow B 37 3 (.slice (some ⟨g, 0, none⟩) (ts.length + 1) cap) (ts.length + 1) (tcells ts ++ [.int .i64 x.kind, .int .i64 (x.at' : Int), .string x.text])) : TRow B (ts ++ [x]) (.slice (some ⟨g, 0, none⟩) (ts.length + 1) cap) w := by
  unfold TRow
  rw [tcells_append, List.length_append, List.length_singleton]
  exact h
theorem slice_from {s : ByteArray} {a : Nat} {x : Int} (W : World) (hx : x = a) (hb : a ≤ s.size) :
    (Instr.slice 9 (.string s) (some (.int .i64 x)) none none).run Tryd.prog W = .ok (.string (s.extract a s.size)) W := by
  subst hx
  rw [run_slice_string_from_if W _ s .i64 a Tryd.underlying9, if_pos ⟨by omega, by omega⟩]
  rfl
end Go.Proofs.YtceknhhdgmappaaDoor
