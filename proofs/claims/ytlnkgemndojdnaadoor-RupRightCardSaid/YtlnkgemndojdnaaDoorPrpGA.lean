/- Copies of rows of numbers; rows of rows of the call's own. -/
import Derived.Test.YtlnkgemndojdnaaDoorPrpU
import Derived.Deep.AppendLies
import Derived.Deep.AppendSrc
set_option linter.unusedVariables false
set_option linter.unusedSimpArgs false
namespace Go.Proofs.YtlnkgemndojdnaaDoor
set_option maxRecDepth 100000
open Go.RowKit

def LiesG (S : Nat → Prop) (w : World) (a : Option Addr) (l : List Int) : Prop :=
  ∀ i, i < l.length → ∃ b off, a = some ⟨b, off, none⟩ ∧ S b ∧ w.cell? ⟨b, off + i, none⟩ = some (.int .i64 (l.getD i 0))
theorem LiesG.nums {S : Nat → Prop} {w : World} {B : Nat} {a : Option Addr} {l : List Int} (hS : ∀ b, S b → b < B) (h : LiesG S w a l) : Nums B w a l := fun i hi => by
  obtain ⟨b, off, e, hb, r⟩ := h i hi
  exact ⟨b, off, e, hS b hb, r⟩
theorem LiesG.keep {S S' : Nat → Prop} {w w' : World} {a : Option Addr} {l : List Int} (hS : ∀ b, S b → S' b) (hk : ∀ b o, S b → w'.cell? ⟨b, o, none⟩ = w.cell? ⟨b, o, none⟩) (h : LiesG S w a l) : LiesG S' w' a l := fun i hi => by
  obtain ⟨b, off, e, hb, r⟩ := h i hi
  exact ⟨b, off, e, hS b hb, (hk _ _ hb).trans r⟩
/-- append([]int{}, xs...): a copy. -/
theorem run_append_copy {P : Program} (w : World) (t ty e : TypeId) (i : TypeInfo) (z : Value) (ht : P.underlying t = some (.slice e)) (hi : P.info? e = some i) (hz : i.zero = some z) (hs : i.size = 1) (hby : i.bytes = 8) (hzs : z.cells.size = 1)
    (g : Nat) (a : Option Addr) (n cap : Nat) (zs : List Int) (hn : zs.length = n) (hl : Nums w.heap.size w a zs) (hsz : n * 8 ≤ 140737488351232) :
    ∃ a' cap' w', (Builtin.append_ #[t, t] ty #[.slice (some ⟨g, 0, none⟩) 0 0, .slice a n cap]).run P w = .ok (.slice a' n cap') w' ∧ Below w.heap.size w w' ∧ LiesG (fun b => w.heap.size ≤ b ∧ b < w'.heap.size) w' a' zs := by
  have h2 : maxLen = 9223372036854775807 := rfl
  have key : ∀ (x : Value), Src P i.size t x n (zs.map (Value.int .i64)) w → ∃ a' cap' w', (Builtin.append_ #[t, t] ty #[.slice (some ⟨g, 0, none⟩) 0 0, x]).run P w = .ok (.slice a' n cap') w' ∧ Below w.heap.size w w' ∧ LiesG (fun b => w.heap.size ≤ b ∧ b < w'.heap.size) w' a' zs := fun x hsrc => by
    by_cases h0 : n = 0
    · have hz0 : zs = [] := List.eq_nil_of_length_eq_zero (by omega)
      subst hz0
      subst h0
      have hr := run_append_room_src (P := P) w t t ty e i ht hi g 0 0 0 x 0 [] hsrc (Nat.le_refl _) (fun j hj => absurd hj (Nat.not_lt_zero _)) (fun j hj => absurd hj (Nat.not_lt_zero _))
      exact ⟨_, _, _, hr, Below.refl _ _, fun i hi => absurd hi (Nat.not_lt_zero _)⟩
    · have holds : (Builtin.firstCells i.size 0 (.slice (some ⟨g, 0, none⟩) 0 0)).run P w.drew = .ok ([] : List Value).toArray w.drew := run_firstCells_some w.drew i.size 0 ⟨g, 0, none⟩ 0 0 [] (by simp) (fun j v h => by cases h)
      have hr := run_append_grow_src (P := P) w t t ty e i z ht hi hz (some ⟨g, 0, none⟩) 0 0 [] holds x n (zs.map (Value.int .i64)) hsrc (by omega) (by omega) (by
        have := nextslicecap_le (need := 0 + n) (old := 0) (by omega)
        rw [hby]; omega)
      have hnew := heap_alloc_new w.drew (.cells ((([] : List Value) ++ zs.map (Value.int .i64)).toArray ++ Builtin.zeroCells z.cells (grownCap w (0 + n) 0 e - (0 + n))) e)
      rw [Nat.zero_add] at hr hnew
      have hcl2 := fun j => cell_of_row (w.drew.alloc (.cells ((([] : List Value) ++ zs.map (Value.int .i64)).toArray ++ Builtin.zeroCells z.cells (grownCap w n 0 e - n)) e)) w.heap.size j _ e _ hnew
      refine ⟨some ⟨w.heap.size, 0, none⟩, _, _, hr, ?_, ?_⟩
      · exact ⟨rfl, rfl, rfl, by simp, fun k hk => heap_alloc_old w.drew _ hk⟩
      · intro j hj
        refine ⟨w.heap.size, 0, rfl, ⟨Nat.le_refl _, by simp⟩, ?_⟩
        rw [Nat.zero_add, hcl2 j, List.nil_append, Array.getElem?_append_left (by simp; omega), List.getElem?_toArray, List.getElem?_map, List.getElem?_eq_getElem hj]
        simp [List.getD_eq_getElem?_getD, hj]
  cases a with
  | none =>
    have hz0 : zs = [] := by
      cases zs with
      | nil => rfl
      | cons y r => obtain ⟨_, _, e, _⟩ := hl 0 (by simp); cases e
    subst hz0
    simp only [List.length_nil] at hn
    subst hn
    exact key _ (Src.ofNil w ht cap)
  | some a =>
    refine key _ (Src.ofSlice w ht a n cap _ (by rw [hs, List.length_map, hn]; omega) (fun j u hj => ?_) (fun u hu => ?_))
    · have hjl : j < zs.length := by have := (List.getElem?_eq_some_iff.1 hj).1; simpa using this
      obtain ⟨b, off, e1, hlt, hc⟩ := hl j hjl
      injection e1 with e1
      subst e1
      rw [List.getElem?_map, List.getElem?_eq_getElem hjl] at hj
      obtain rfl := Option.some.inj hj
      have e2 : (⟨b, off, none⟩ : Addr).add j = ⟨b, off + j, none⟩ := by unfold Addr.add; split <;> simp_all
      rw [e2, hc]
      simp [List.getD_eq_getElem?_getD, hjl]
    · obtain ⟨y, _, rfl⟩ := List.mem_map.1 hu
      rfl
theorem wpList_append_copy {P : Program} {w : World} {ops : Array Oper} {rest : List Oper} {o : Oper} {a0 : Act} {K : Exit → Act → World → Prop} (hgd : o.guard = none) (s x : Operand) (t : TypeId)
    (ho : o.op = .call { callee := .builtin .append, args := #[s, x], argTypes := #[t, t] }) (e : TypeId) (i : TypeInfo) (z : Value) (ht : P.underlying t = some (.slice e)) (hi : P.info? e = some i) (hz : i.zero = some z) (hs : i.size = 1) (hby : i.bytes = 8) (hzs : z.cells.size = 1)
    (g : Nat) (hv : a0.eval s = .slice (some ⟨g, 0, none⟩) 0 0) (a : Option Addr) (n cap : Nat) (hx : a0.eval x = .slice a n cap) (zs : List Int) (hn : zs.length = n) (hl : Nums w.heap.size w a zs) (hsz : n * 8 ≤ 140737488351232)
    (hK : ∀ a' cap' w', Below w.heap.size w w' → LiesG (fun b => w.heap.size ≤ b ∧ b < w'.heap.size) w' a' zs → wpList P ops K rest (a0.put o.dst (.slice a' n cap')) w') : wpList P ops K (o :: rest) a0 w := by
  refine wpList_plain hgd fun K' hK' => ?_
  obtain ⟨a', cap', w', hrun, h1, h2⟩ := run_append_copy (P := P) w t o.type e i z ht hi hz hs hby hzs g a n cap zs hn hl hsz
  unfold Oper.wp
  simp [execOp, ho, resolve, invoke, builtin, hv, hx, hrun, Result.andThen]
  exact hK' _ _ (hK a' cap' w' h1 h2)
/-- A row of rows. -/
structure GT where
  a : Option Addr
  cap : Nat
  l : List Int
def gcells (xs : List GT) : List Value := xs.map fun x => .slice x.a x.l.length x.cap
def gforms (xs : List GT) : List (List Int) := xs.map fun x => x.l
structure GRow (B : Nat) (xs : List GT) (v : Value) (w : World) : Prop where
  row : w.ownsRow B 34 1 v xs.length (gcells xs)
  lies : ∀ x ∈ xs, LiesG (fun b => b < w.heap.size ∧ v.ownBlock ≠ some b) w x.a x.l
theorem GRow.nil (B : Nat) (w : World) : GRow B [] (.slice none 0 0) w := ⟨World.ownsRow_nil _ _ _ _, fun x hx => by cases hx⟩
theorem GRow.below {B : Nat} {xs : List GT} {v : Value} {w w' : World} (h : GRow B xs v w) (hb : Below w.heap.size w w') : GRow B xs v w' :=
  ⟨World.ownsRow.kept (row := none) h.row ⟨hb.os, hb.tape, hb.output, hb.size, fun q hq _ => hb.block q hq⟩ (by cases v.ownBlock <;> simp), fun x hx => (h.lies x hx).keep (fun b ⟨h2, h3⟩ => ⟨Nat.lt_of_lt_of_le h2 hb.size, h3⟩) (fun b o ⟨h2, _⟩ => hb.cell (p := ⟨b, o, none⟩) h2)⟩
theorem GRow.step {B : Nat} {xs : List GT} {x : GT} {v v6 : Value} {w w5 w6 : World} {g H : Nat} (h : GRow B xs v w) (hb5 : Below w.heap.size w w5) (hx : LiesG (fun b => w.heap.size ≤ b ∧ b < w5.heap.size) w5 x.a x.l) (hg : w5.grownBy w6 v.ownBlock) (hH : w5.heap.size ≤ H)
    (hv : v6.ownBlock = some g) (hat : v.ownBlock = some g ∨ g = H) (hr : w6.ownsRow B 34 1 v6 (xs.length + 1) (gcells xs ++ [.slice x.a x.l.length x.cap])) : GRow B (xs ++ [x]) v6 w6 := by
  have hvb : ∀ b, v.ownBlock = some b → b < w.heap.size := fun b e => (World.ownsRow.lt h.row b e).2
  have hk : ∀ b o, b < w5.heap.size → v.ownBlock ≠ some b → w6.cell? ⟨b, o, none⟩ = w5.cell? ⟨b, o, none⟩ := fun b o hb hne => World.cell?_of_block (hg.block b hb (fun e => hne e.symm))
  have hne6 : ∀ b, b < w5.heap.size → v.ownBlock ≠ some b → v6.ownBlock ≠ some b := fun b hb hne e => by
    rw [hv] at e
    rcases hat with hat | hat
    · exact hne (hat.trans e)
    · injection e with e; omega
  refine ⟨?_, fun y hy => ?_⟩
  · rw [List.length_append]
    show w6.ownsRow B 34 1 v6 (xs.length + 1) (gcells (xs ++ [x]))
    rw [show gcells (xs ++ [x]) = gcells xs ++ [.slice x.a x.l.length x.cap] by simp [gcells]]
    exact hr
  · rcases List.mem_append.1 hy with hy | hy
    · refine (h.lies y hy).keep (fun b ⟨h2, h3⟩ => ?_) (fun b o ⟨h2, h3⟩ => ?_)
      · have h5 := Nat.lt_of_lt_of_le h2 hb5.size
        exact ⟨Nat.lt_of_lt_of_le h5 hg.size, hne6 b h5 h3⟩
      · exact (hk b o (Nat.lt_of_lt_of_le h2 hb5.size) h3).trans (hb5.cell (p := ⟨b, o, none⟩) h2)
    · rw [List.mem_singleton] at hy
      subst hy
      refine hx.keep (fun b ⟨h1, h2⟩ => ?_) (fun b o ⟨h1, h2⟩ => ?_)
      · have hne : v.ownBlock ≠ some b := fun e => by have := hvb b e; omega
        exact ⟨Nat.lt_of_lt_of_le h2 hg.size, hne6 b h2 hne⟩
      · exact hk b o h2 (fun e => by have := hvb b e; omega)
theorem GRow.clies {B : Nat} {xs : List GT} {v : Value} {w : World} (h : GRow B xs v w) : ∃ a cap, v = .slice a xs.length cap ∧ CLies w.heap.size w a (gforms xs) := by
  have hr := h.row
  have hc := fun g => World.ownsRow.cells hr (g := g)
  have hlt := World.ownsRow.lt hr
  obtain ⟨_, h1 | ⟨g, cap, cur, hv, h2⟩⟩ := hr
  · refine ⟨none, 0, by rw [h1.1, h1.2], fun i hi => ?_⟩
    simp [gforms] at hi; omega
  · have hl := h.lies
    subst hv
    refine ⟨some ⟨g, 0, none⟩, cap, rfl, fun i hi => ?_⟩
    have hi : i < xs.length := by simpa [gforms] using hi
    have e : (gforms xs).getD i [] = xs[i].l := by simp [gforms, List.getD_eq_getElem?_getD, hi]
    have e2 : (gcells xs)[i]? = some (.slice xs[i].a xs[i].l.length xs[i].cap) := by simp [gcells, hi]
    rw [e]
    refine ⟨g, 0, xs[i].a, xs[i].cap, rfl, (hlt g rfl).2, ?_, (hl _ (List.getElem_mem hi)).nums (fun b hb => hb.1)⟩
    have := hc g rfl i _ e2
    rwa [show (⟨g, 0, none⟩ : Addr).add i = ⟨g, 0 + i, none⟩ by unfold Addr.add; split <;> simp_all] at this
end Go.Proofs.YtlnkgemndojdnaaDoor
