/- The follower in memory: rows of numbers in blocks, the queue, an append to it. -/
import Derived.Test.YtlnkgemndojdnaaDoorPrpA
import Derived.Deep.AppendSrc
import Derived.Lib.Hide
import Derived.Below
import Derived.Laws.AppendOwn
set_option linter.unusedVariables false
set_option linter.unusedSimpArgs false
namespace Go.Proofs.YtlnkgemndojdnaaDoor
set_option maxRecDepth 100000
open Go.RowKit

def Arr (w : World) (b n : Nat) (f : Nat → Int) : Prop := ∀ i, i < n → w.cell? ⟨b, i, none⟩ = some (.int .i64 (f i))
theorem Arr.set {w : World} {b n i : Nat} {f : Nat → Int} (h : Arr w b n f) (hi : i < n) (v : Int) : Arr (w.setCell ⟨b, i, none⟩ (.int .i64 v)) b n (upd f i v) := fun j hj => by
  by_cases e : j = i
  · subst e; rw [upd_same]; exact World.cell?_setCell_same _ _ _ (h j hj)
  · rw [upd_ne e, World.cell?_setCell_other _ _ _ _ (by simp <;> omega)]; exact h j hj
theorem Arr.other {w : World} {b n : Nat} {f : Nat → Int} (h : Arr w b n f) {p : Addr} (hp : p.block ≠ b) (v : Value) : Arr (w.setCell p v) b n f := fun j hj => by
  rw [World.cell?_setCell_other _ _ _ _ (by intro e; subst e; exact hp rfl)]; exact h j hj
theorem Arr.kept {w w' : World} {b n : Nat} {f : Nat → Int} (h : Arr w b n f) (hk : w'.heap[b]? = w.heap[b]?) : Arr w' b n f := fun j hj => (World.cell?_of_block (a := ⟨b, j, none⟩) hk).trans (h j hj)

/-- The queue: numbers behind an address, in a block of the call's own that is none of X. -/
structure QRow (B : Nat) (X : Nat → Prop) (w : World) (v : Value) (Q : List Int) : Prop where
  ex : ∃ ao cap, v = .slice ao Q.length cap ∧ Q.length ≤ cap ∧ (ao = none → cap = 0) ∧ ∀ a, ao = some a → ∃ b off, a = ⟨b, off, none⟩ ∧ B ≤ b ∧ ¬ X b ∧ b < w.heap.size ∧
    (∀ i, i < Q.length → w.cell? ⟨b, off + i, none⟩ = some (.int .i64 (Q.getD i 0))) ∧ ∀ j, j < cap → (w.cell? ⟨b, off + j, none⟩).isSome = true ∧ w.frozen? ⟨b, off + j, none⟩ = false
theorem QRow.nil (B : Nat) (X : Nat → Prop) (w : World) : QRow B X w (.slice none 0 0) [] := ⟨none, 0, rfl, Nat.le_refl _, fun _ => rfl, fun a h => by cases h⟩
theorem QRow.kept {B : Nat} {X : Nat → Prop} {w w' : World} {v : Value} {Q : List Int} (h : QRow B X w v Q) (hs : w.heap.size ≤ w'.heap.size) (hk : ∀ b, B ≤ b → b < w.heap.size → ¬ X b → w'.heap[b]? = w.heap[b]?) : QRow B X w' v Q := by
  obtain ⟨ao, cap, e1, e2, e3, h⟩ := h.ex
  refine ⟨ao, cap, e1, e2, e3, fun a ha => ?_⟩
  obtain ⟨b, off, e, hB, hX, hlt, h1, h2⟩ := h a ha
  have hb := hk b hB hlt hX
  refine ⟨b, off, e, hB, hX, Nat.lt_of_lt_of_le hlt hs, fun i hi => (World.cell?_of_block (a := ⟨b, _, none⟩) hb).trans (h1 i hi), fun j hj => ?_⟩
  obtain ⟨g1, g2⟩ := h2 j hj
  exact ⟨by rw [World.cell?_of_block (a := ⟨b, _, none⟩) hb]; exact g1, (World.frozen?_of_block (a := ⟨b, _, none⟩) hb).trans g2⟩
/-- The first is taken off. -/
theorem QRow.tail {B : Nat} {X : Nat → Prop} {w : World} {ao : Option Addr} {n cap : Nat} {q : Int} {Q : List Int} (h : QRow B X w (.slice ao n cap) (q :: Q)) :
    ∃ b off, ao = some ⟨b, off, none⟩ ∧ n = Q.length + 1 ∧ n ≤ cap ∧ w.cell? ⟨b, off, none⟩ = some (.int .i64 q) ∧ QRow B X w (.slice (some ⟨b, off + 1, none⟩) Q.length (cap - 1)) Q ∧ (cap - 1 = 0 → QRow B X w (.slice (some ⟨b, off, none⟩) Q.length (cap - 1)) Q) := by
  obtain ⟨ao', cap', e1, e2, e3, h⟩ := h.ex
  injection e1 with e11 e12 e13
  subst e11 e12 e13
  simp only [List.length_cons] at e2
  cases ao with
  | none => have := e3 rfl; omega
  | some a =>
    obtain ⟨b, off, rfl, hB, hX, hlt, h1, h2⟩ := h a rfl
    refine ⟨b, off, rfl, rfl, by simpa using e2, h1 0 (by simp), ⟨_, _, rfl, by omega, (fun e => by cases e), fun a ha => ⟨b, off + 1, (Option.some.inj ha).symm, hB, hX, hlt, fun i hi => ?_, fun j hj => ?_⟩⟩, fun hc => ⟨_, _, rfl, by omega, (fun e => by cases e), fun a ha => ⟨b, off, (Option.some.inj ha).symm, hB, hX, hlt, fun i hi => by omega, fun j hj => by omega⟩⟩⟩
    · have := h1 (i + 1) (by simp <;> omega)
      rw [Nat.add_assoc, Nat.add_comm 1 i]
      simpa using this
    · have := h2 (j + 1) (by omega)
      rw [Nat.add_assoc, Nat.add_comm 1 j]
      exact this

theorem run_append_q {P : Program} (w : World) (t ty e : TypeId) (i : TypeInfo) (z : Value) (ht : P.underlying t = some (.slice e)) (hi : P.info? e = some i) (hz : i.zero = some z) (hs : i.size = 1) (hby : i.bytes = 8) (hzs : z.cells.size = 1)
    {B : Nat} {X : Nat → Prop} {v : Value} {Q : List Int} (h : QRow B X w v Q) (hB : B ≤ w.heap.size) (hX : ∀ x, X x → x < w.heap.size) (hq : Q.length ≤ 1000000) (a : Addr) (c : Nat) (l : Int) (ha : w.cell? a = some (.int .i64 l)) :
    ∃ v' w', (Builtin.append_ #[t, t] ty #[v, .slice (some a) 1 c]).run P w = .ok v' w' ∧ QRow B X w' v' (Q ++ [l]) ∧ Below B w w' ∧ ∀ x, X x → w'.heap[x]? = w.heap[x]? := by
  have hsrc : Src P i.size t (.slice (some a) 1 c) 1 [.int .i64 l] w := Src.ofSlice w ht a 1 c _ (by rw [hs]; rfl) (fun j u hj => by
    match j, hj with
    | 0, hj => obtain rfl : Value.int .i64 l = u := by simpa using hj
               simpa [Addr.add] using ha) (fun u hu => by obtain rfl := List.mem_singleton.1 hu; rfl)
  obtain ⟨ao, cap, rfl, hle, hno, hao⟩ := h.ex
  by_cases hroom : Q.length + 1 ≤ cap
  · cases ao with
    | none => have := hno rfl; omega
    | some a0 =>
      obtain ⟨b, off, rfl, hBb, hXb, hlt, h1, h2⟩ := hao a0 rfl
      have hr := run_append_room_src (P := P) w t t ty e i ht hi b off Q.length cap (.slice (some a) 1 c) 1 [.int .i64 l] hsrc hroom
        (fun j hj => by rw [hs]; have := (h2 (Q.length + j) (by simp at hj; omega)).1; rwa [Nat.mul_one, Nat.add_assoc]) (fun j hj => by rw [hs]; have := (h2 (Q.length + j) (by simp at hj; omega)).2; rwa [Nat.mul_one, Nat.add_assoc])
      rw [hs, Nat.mul_one] at hr
      have hset : w.setCells b (off + Q.length) [.int .i64 l] = w.setCell ⟨b, off + Q.length, none⟩ (.int .i64 l) := rfl
      rw [hset] at hr
      have hk : ∀ x, x ≠ b → (w.setCell ⟨b, off + Q.length, none⟩ (.int .i64 l)).heap[x]? = w.heap[x]? := fun x hx => Below.heap_setCell _ _ _ _ hx
      have hsome := (h2 Q.length (by omega)).1
      refine ⟨_, _, hr, ⟨_, cap, by rw [List.length_append]; rfl, by simpa using hroom, (fun e => by cases e), fun a1 ha1 => ⟨b, off, (Option.some.inj ha1).symm, hBb, hXb, by rw [World.size_setCell]; exact hlt, fun k hk => ?_, fun j hj => ?_⟩⟩, (Below.refl _ _).setCell (p := ⟨b, _, none⟩) hBb _, fun x hx => hk x (fun e => hXb (e ▸ hx))⟩
      · by_cases ek : k = Q.length
        · subst ek
          rw [World.cell?_setCell_same' _ _ _ hsome]
          simp
        · have hk2 : k < Q.length := by simp at hk; omega
          rw [World.cell?_setCell_other _ _ _ _ (by simp <;> omega), h1 k hk2]
          simp [List.getD_eq_getElem?_getD, List.getElem?_append_left hk2]
      · obtain ⟨g1, g2⟩ := h2 j hj
        refine ⟨?_, by rw [World.frozen?_setCell]; exact g2⟩
        by_cases ej : j = Q.length
        · subst ej; rw [World.cell?_setCell_same' _ _ _ hsome]; rfl
        · rw [World.cell?_setCell_other _ _ _ _ (by simp <;> omega)]; exact g1
  · have hcl : cap = Q.length := by omega
    have holds : (Builtin.firstCells i.size Q.length (.slice ao Q.length cap)).run P w.drew = .ok (Q.map (Value.int .i64)).toArray w.drew := by
      cases ao with
      | none =>
        have := hno rfl
        have hQ : Q = [] := List.eq_nil_of_length_eq_zero (by omega)
        subst hQ
        exact run_firstCells_none w.drew _ _ _ _
      | some a0 =>
        obtain ⟨b, off, rfl, hBb, hXb, hlt, h1, h2⟩ := hao a0 rfl
        refine run_firstCells_some w.drew i.size Q.length ⟨b, off, none⟩ Q.length cap _ (by rw [hs, List.length_map, Nat.mul_one]) (fun j u hj => ?_)
        have hjl : j < Q.length := by have := (List.getElem?_eq_some_iff.1 hj).1; simpa using this
        have h3 := h1 j hjl
        rw [List.getElem?_map] at hj
        obtain ⟨x, hx, rfl⟩ := Option.map_eq_some_iff.1 hj
        have e1 : Q.getD j 0 = x := by rw [List.getD_eq_getElem?_getD, hx]; rfl
        rw [e1] at h3
        have e2 : (⟨b, off, none⟩ : Addr).add j = ⟨b, off + j, none⟩ := by unfold Addr.add; split <;> simp_all
        rw [e2]
        exact h3
    have hr := run_append_grow_src (P := P) w t t ty e i z ht hi hz ao Q.length cap (Q.map (Value.int .i64)) holds (.slice (some a) 1 c) 1 [.int .i64 l] hsrc (by omega) (by omega) (by
      have := nextslicecap_le (need := Q.length + 1) (old := cap) (by omega)
      rw [hby]; omega)
    have hge := grownCap_ge w (Q.length + 1) cap e
    have hbk : ∀ x, x < w.heap.size → (w.drew.alloc (.cells ((Q.map (Value.int .i64) ++ [Value.int .i64 l]).toArray ++ Builtin.zeroCells z.cells (grownCap w (Q.length + 1) cap e - (Q.length + 1))) e)).heap[x]? = w.heap[x]? := fun x hx => heap_alloc_old w.drew _ hx
    have hnew := heap_alloc_new w.drew (.cells ((Q.map (Value.int .i64) ++ [Value.int .i64 l]).toArray ++ Builtin.zeroCells z.cells (grownCap w (Q.length + 1) cap e - (Q.length + 1))) e)
    have hcl2 := fun j => cell_of_row (w.drew.alloc (.cells ((Q.map (Value.int .i64) ++ [Value.int .i64 l]).toArray ++ Builtin.zeroCells z.cells (grownCap w (Q.length + 1) cap e - (Q.length + 1))) e)) w.heap.size j _ e _ hnew
    have hsz : (((Q.map (Value.int .i64) ++ [Value.int .i64 l]).toArray ++ Builtin.zeroCells z.cells (grownCap w (Q.length + 1) cap e - (Q.length + 1)))).size = grownCap w (Q.length + 1) cap e := by
      rw [Array.size_append, size_zeroCells, hzs]; simp; omega
    refine ⟨_, _, hr, ⟨_, grownCap w (Q.length + 1) cap e, by rw [List.length_append]; rfl, by simpa using hge, (fun e => by cases e), fun a1 ha1 => ⟨w.heap.size, 0, (Option.some.inj ha1).symm, hB, fun hx => by have := hX _ hx; omega, by simp, fun k hk => ?_, fun j hj => ⟨?_, frozen_of_row _ _ _ _ _ hnew⟩⟩⟩, ⟨rfl, rfl, rfl, by simp, fun k hk => hbk k (Nat.lt_of_lt_of_le hk hB)⟩, fun x hx => hbk x (hX x hx)⟩
    · rw [hcl2]
      have hk2 : k < Q.length + 1 := by simpa using hk
      rw [Nat.zero_add, Array.getElem?_append_left (by simp <;> omega), List.getElem?_toArray]
      by_cases ek : k = Q.length
      · subst ek; simp
      · have hk3 : k < Q.length := by omega
        rw [List.getElem?_append_left (by simpa using hk3)]
        simp [List.getD_eq_getElem?_getD, List.getElem?_append_left hk3, hk3]
    · rw [hcl2, Array.getElem?_eq_getElem (by rw [hsz]; omega)]; rfl
theorem wpList_append_q {P : Program} {w : World} {ops : Array Oper} {rest : List Oper} {o : Oper} {a : Act} {K : Exit → Act → World → Prop} (hgd : o.guard = none) (s x : Operand) (t : TypeId)
    (ho : o.op = .call { callee := .builtin .append, args := #[s, x], argTypes := #[t, t] }) (e : TypeId) (i : TypeInfo) (z : Value) (ht : P.underlying t = some (.slice e)) (hi : P.info? e = some i) (hz : i.zero = some z) (hs : i.size = 1) (hby : i.bytes = 8) (hzs : z.cells.size = 1)
    {B : Nat} {X : Nat → Prop} {v : Value} {Q : List Int} (hv : a.eval s = v) (h : QRow B X w v Q) (hB : B ≤ w.heap.size) (hX : ∀ x, X x → x < w.heap.size) (hq : Q.length ≤ 1000000) (ad : Addr) (c : Nat) (l : Int) (hx : a.eval x = .slice (some ad) 1 c) (ha : w.cell? ad = some (.int .i64 l))
    (hK : ∀ v' w', QRow B X w' v' (Q ++ [l]) → Below B w w' → (∀ x, X x → w'.heap[x]? = w.heap[x]?) → wpList P ops K rest (a.put o.dst v') w') : wpList P ops K (o :: rest) a w := by
  refine wpList_plain hgd fun K' hK' => ?_
  obtain ⟨v', w', hrun, h1, h2, h3⟩ := run_append_q (P := P) w t o.type e i z ht hi hz hs hby hzs h hB hX hq ad c l ha
  unfold Oper.wp
  simp [execOp, ho, resolve, invoke, builtin, hv, hx, hrun, Result.andThen]
  exact hK' _ _ (hK v' w' h1 h2 h3)

/-- Where the follower's parts lie. -/
structure FolS where
  F : Nat
  I : Nat
  W : Nat
  H : Nat
  T : Nat
  S : Nat
  ca : Option Addr
  ccap : Nat
  G : Nat
  gv : Value
def FolS.In (p : FolS) (b : Nat) : Prop := b = p.F ∨ b = p.I ∨ b = p.W ∨ b = p.H ∨ b = p.T ∨ b = p.S ∨ b = p.G
structure FolS.Ok (p : FolS) : Prop where
  fi : p.F ≠ p.I
  fw : p.F ≠ p.W
  fh : p.F ≠ p.H
  ft : p.F ≠ p.T
  fs : p.F ≠ p.S
  iw : p.I ≠ p.W
  ih : p.I ≠ p.H
  it : p.I ≠ p.T
  is' : p.I ≠ p.S
  wh : p.W ≠ p.H
  wt : p.W ≠ p.T
  ws : p.W ≠ p.S
  ht : p.H ≠ p.T
  hs : p.H ≠ p.S
  ts : p.T ≠ p.S
  gi : p.I ≠ p.G
  gw : p.W ≠ p.G
  gh : p.H ≠ p.G
  gt : p.T ≠ p.G
  gs : p.S ≠ p.G
structure Fol (B n m : Nat) (p : FolS) (w : World) (A Wd H T S : Nat → Int) (Q : List Int) : Prop where
  ok : p.Ok
  c0 : w.cell? ⟨p.F, 0, none⟩ = some (.slice p.ca m p.ccap)
  c1 : w.cell? ⟨p.F, 1, none⟩ = some (.slice (some ⟨p.I, 0, none⟩) (n + 1) (n + 1))
  c2 : w.cell? ⟨p.F, 2, none⟩ = some (.slice (some ⟨p.W, 0, none⟩) (2 * m) (2 * m))
  c3 : w.cell? ⟨p.F, 3, none⟩ = some (.slice (some ⟨p.H, 0, none⟩) (2 * n + 2) (2 * n + 2))
  c4 : w.cell? ⟨p.F, 4, none⟩ = some (.slice (some ⟨p.T, 0, none⟩) (2 * m) (2 * m))
  c5 : w.cell? ⟨p.F, 5, none⟩ = some (.slice (some ⟨p.S, 0, none⟩) m m)
  c6 : ∃ v, w.cell? ⟨p.F, 6, none⟩ = some v ∧ QRow B p.In w v Q
  aI : Arr w p.I (n + 1) A
  aW : Arr w p.W (2 * m) Wd
  aH : Arr w p.H (2 * n + 2) H
  aT : Arr w p.T (2 * m) T
  aS : Arr w p.S m S
  fr : ∀ b, p.In b → ∀ o, w.frozen? ⟨b, o, none⟩ = false
  lo : ∀ b, p.In b → B ≤ b ∧ b < w.heap.size
  cg : w.cell? ⟨p.G, 0, none⟩ = some p.gv
theorem FolS.inF (p : FolS) : p.In p.F := .inl rfl
theorem FolS.inI (p : FolS) : p.In p.I := .inr (.inl rfl)
theorem FolS.inW (p : FolS) : p.In p.W := .inr (.inr (.inl rfl))
theorem FolS.inH (p : FolS) : p.In p.H := .inr (.inr (.inr (.inl rfl)))
theorem FolS.inT (p : FolS) : p.In p.T := .inr (.inr (.inr (.inr (.inl rfl))))
theorem FolS.inS (p : FolS) : p.In p.S := .inr (.inr (.inr (.inr (.inr (.inl rfl)))))
theorem FolS.inG (p : FolS) : p.In p.G := .inr (.inr (.inr (.inr (.inr (.inr rfl)))))
section
variable {B n m : Nat} {p : FolS} {w w' : World} {A Wd H T S : Nat → Int} {Q Q' : List Int}
/-- What is made beside it, and the queue's own block, leave it as it is. -/
theorem Fol.kept {Q' : List Int} (h : Fol B n m p w A Wd H T S Q) (hs : w.heap.size ≤ w'.heap.size) (hk : ∀ b, p.In b → w'.heap[b]? = w.heap[b]?) (hq : ∀ v, QRow B p.In w v Q → QRow B p.In w' v Q') : Fol B n m p w' A Wd H T S Q' := by
  have hF := hk _ p.inF
  have hc : ∀ o, w'.cell? ⟨p.F, o, none⟩ = w.cell? ⟨p.F, o, none⟩ := fun o => World.cell?_of_block (a := ⟨p.F, o, none⟩) hF
  obtain ⟨v, h6, h7⟩ := h.c6
  exact ⟨h.ok, (hc 0).trans h.c0, (hc 1).trans h.c1, (hc 2).trans h.c2, (hc 3).trans h.c3, (hc 4).trans h.c4, (hc 5).trans h.c5, ⟨v, (hc 6).trans h6, hq v h7⟩,
    h.aI.kept (hk _ p.inI), h.aW.kept (hk _ p.inW), h.aH.kept (hk _ p.inH), h.aT.kept (hk _ p.inT), h.aS.kept (hk _ p.inS),
    fun b hb o => (World.frozen?_of_block (a := ⟨b, o, none⟩) (hk b hb)).trans (h.fr b hb o), fun b hb => ⟨(h.lo b hb).1, Nat.lt_of_lt_of_le (h.lo b hb).2 hs⟩, (World.cell?_of_block (a := ⟨p.G, 0, none⟩) (hk _ p.inG)).trans h.cg⟩
theorem Fol.below (h : Fol B n m p w A Wd H T S Q) (hb : Below w.heap.size w w') : Fol B n m p w' A Wd H T S Q :=
  h.kept hb.size (fun b hx => hb.block b (h.lo b hx).2) (fun v hv => hv.kept hb.size (fun b _ hlt _ => hb.block b hlt))
/-- One cell of a row is written. -/
theorem Fol.kept2 (h : Fol B n m p w A Wd H T S Q) {b o : Nat} (hb : p.In b) (hne : b ≠ p.F) (x : Value) :
    (∀ k, (w.setCell ⟨b, o, none⟩ x).cell? ⟨p.F, k, none⟩ = w.cell? ⟨p.F, k, none⟩) ∧ (∃ v, w.cell? ⟨p.F, 6, none⟩ = some v ∧ QRow B p.In (w.setCell ⟨b, o, none⟩ x) v Q) ∧
    (∀ b', p.In b' → ∀ k, (w.setCell ⟨b, o, none⟩ x).frozen? ⟨b', k, none⟩ = false) ∧ (∀ b', p.In b' → B ≤ b' ∧ b' < (w.setCell ⟨b, o, none⟩ x).heap.size) ∧ (b ≠ p.G → (w.setCell ⟨b, o, none⟩ x).cell? ⟨p.G, 0, none⟩ = some p.gv) := by
  obtain ⟨v, h6, h7⟩ := h.c6
  refine ⟨fun k => World.cell?_setCell_other _ _ _ _ (by simp [hne]), ⟨v, h6, h7.kept (by rw [World.size_setCell]; exact Nat.le_refl _) (fun b' _ _ hn => Below.heap_setCell _ _ _ _ (fun e => hn (by rw [e]; exact hb)))⟩, fun b' hb' k => (World.frozen?_setCell _ _ _ _).trans (h.fr b' hb' k), fun b' hb' => ?_, fun hg => (World.cell?_setCell_other _ _ _ _ (by simp [hg])).trans h.cg⟩
  rw [World.size_setCell]; exact h.lo b' hb'
theorem Fol.setI (h : Fol B n m p w A Wd H T S Q) {i : Nat} (hi : i < n + 1) (v : Int) : Fol B n m p (w.setCell ⟨p.I, i, none⟩ (.int .i64 v)) (upd A i v) Wd H T S Q := by
  obtain ⟨k1, ⟨q, k2, k3⟩, k4, k5, k6⟩ := h.kept2 (o := i) p.inI (fun e => h.ok.fi e.symm) (.int .i64 v)
  exact ⟨h.ok, (k1 0).trans h.c0, (k1 1).trans h.c1, (k1 2).trans h.c2, (k1 3).trans h.c3, (k1 4).trans h.c4, (k1 5).trans h.c5, ⟨q, (k1 6).trans k2, k3⟩,
    h.aI.set hi v, h.aW.other h.ok.iw _, h.aH.other h.ok.ih _, h.aT.other h.ok.it _, h.aS.other h.ok.is' _, k4, k5, k6 h.ok.gi⟩
theorem Fol.setW (h : Fol B n m p w A Wd H T S Q) {i : Nat} (hi : i < 2 * m) (v : Int) : Fol B n m p (w.setCell ⟨p.W, i, none⟩ (.int .i64 v)) A (upd Wd i v) H T S Q := by
  obtain ⟨k1, ⟨q, k2, k3⟩, k4, k5, k6⟩ := h.kept2 (o := i) p.inW (fun e => h.ok.fw e.symm) (.int .i64 v)
  exact ⟨h.ok, (k1 0).trans h.c0, (k1 1).trans h.c1, (k1 2).trans h.c2, (k1 3).trans h.c3, (k1 4).trans h.c4, (k1 5).trans h.c5, ⟨q, (k1 6).trans k2, k3⟩,
    h.aI.other (fun e => h.ok.iw e.symm) _, h.aW.set hi v, h.aH.other h.ok.wh _, h.aT.other h.ok.wt _, h.aS.other h.ok.ws _, k4, k5, k6 h.ok.gw⟩
theorem Fol.setH (h : Fol B n m p w A Wd H T S Q) {i : Nat} (hi : i < 2 * n + 2) (v : Int) : Fol B n m p (w.setCell ⟨p.H, i, none⟩ (.int .i64 v)) A Wd (upd H i v) T S Q := by
  obtain ⟨k1, ⟨q, k2, k3⟩, k4, k5, k6⟩ := h.kept2 (o := i) p.inH (fun e => h.ok.fh e.symm) (.int .i64 v)
  exact ⟨h.ok, (k1 0).trans h.c0, (k1 1).trans h.c1, (k1 2).trans h.c2, (k1 3).trans h.c3, (k1 4).trans h.c4, (k1 5).trans h.c5, ⟨q, (k1 6).trans k2, k3⟩,
    h.aI.other (fun e => h.ok.ih e.symm) _, h.aW.other (fun e => h.ok.wh e.symm) _, h.aH.set hi v, h.aT.other h.ok.ht _, h.aS.other h.ok.hs _, k4, k5, k6 h.ok.gh⟩
theorem Fol.setT (h : Fol B n m p w A Wd H T S Q) {i : Nat} (hi : i < 2 * m) (v : Int) : Fol B n m p (w.setCell ⟨p.T, i, none⟩ (.int .i64 v)) A Wd H (upd T i v) S Q := by
  obtain ⟨k1, ⟨q, k2, k3⟩, k4, k5, k6⟩ := h.kept2 (o := i) p.inT (fun e => h.ok.ft e.symm) (.int .i64 v)
  exact ⟨h.ok, (k1 0).trans h.c0, (k1 1).trans h.c1, (k1 2).trans h.c2, (k1 3).trans h.c3, (k1 4).trans h.c4, (k1 5).trans h.c5, ⟨q, (k1 6).trans k2, k3⟩,
    h.aI.other (fun e => h.ok.it e.symm) _, h.aW.other (fun e => h.ok.wt e.symm) _, h.aH.other (fun e => h.ok.ht e.symm) _, h.aT.set hi v, h.aS.other h.ok.ts _, k4, k5, k6 h.ok.gt⟩
theorem Fol.setS (h : Fol B n m p w A Wd H T S Q) {i : Nat} (hi : i < m) (v : Int) : Fol B n m p (w.setCell ⟨p.S, i, none⟩ (.int .i64 v)) A Wd H T (upd S i v) Q := by
  obtain ⟨k1, ⟨q, k2, k3⟩, k4, k5, k6⟩ := h.kept2 (o := i) p.inS (fun e => h.ok.fs e.symm) (.int .i64 v)
  exact ⟨h.ok, (k1 0).trans h.c0, (k1 1).trans h.c1, (k1 2).trans h.c2, (k1 3).trans h.c3, (k1 4).trans h.c4, (k1 5).trans h.c5, ⟨q, (k1 6).trans k2, k3⟩,
    h.aI.other (fun e => h.ok.is' e.symm) _, h.aW.other (fun e => h.ok.ws e.symm) _, h.aH.other (fun e => h.ok.hs e.symm) _, h.aT.other (fun e => h.ok.ts e.symm) _, h.aS.set hi v, k4, k5, k6 h.ok.gs⟩
/-- Another queue is stored. -/
theorem Fol.setQ {Q' : List Int} (h : Fol B n m p w A Wd H T S Q) (hk : ∀ b, p.In b → w'.heap[b]? = w.heap[b]?) (hs : w.heap.size ≤ w'.heap.size) {v' : Value} (hq : QRow B p.In w' v' Q') : Fol B n m p (w'.setCell ⟨p.F, 6, none⟩ v') A Wd H T S Q' := by
  have hc : ∀ o, o ≠ 6 → (w'.setCell ⟨p.F, 6, none⟩ v').cell? ⟨p.F, o, none⟩ = w.cell? ⟨p.F, o, none⟩ := fun o ho => (World.cell?_setCell_other _ _ _ _ (by simp <;> omega)).trans (World.cell?_of_block (a := ⟨p.F, o, none⟩) (hk _ p.inF))
  obtain ⟨v, h6, _⟩ := h.c6
  have h6' : w'.cell? ⟨p.F, 6, none⟩ = some v := (World.cell?_of_block (a := ⟨p.F, 6, none⟩) (hk _ p.inF)).trans h6
  exact ⟨h.ok, (hc 0 (by decide)).trans h.c0, (hc 1 (by decide)).trans h.c1, (hc 2 (by decide)).trans h.c2, (hc 3 (by decide)).trans h.c3, (hc 4 (by decide)).trans h.c4, (hc 5 (by decide)).trans h.c5,
    ⟨v', World.cell?_setCell_same _ _ _ h6', hq.kept (by rw [World.size_setCell]; exact Nat.le_refl _) (fun b _ _ hn => Below.heap_setCell _ _ _ _ (fun e => hn (by rw [e]; exact p.inF)))⟩,
    (h.aI.kept (hk _ p.inI)).other h.ok.fi _, (h.aW.kept (hk _ p.inW)).other h.ok.fw _, (h.aH.kept (hk _ p.inH)).other h.ok.fh _, (h.aT.kept (hk _ p.inT)).other h.ok.ft _, (h.aS.kept (hk _ p.inS)).other h.ok.fs _,
    fun b hb o => (World.frozen?_setCell _ _ _ _).trans ((World.frozen?_of_block (a := ⟨b, o, none⟩) (hk b hb)).trans (h.fr b hb o)), fun b hb => ⟨(h.lo b hb).1, by rw [World.size_setCell]; exact Nat.lt_of_lt_of_le (h.lo b hb).2 hs⟩, (World.cell?_setCell_other _ _ _ _ (by simp)).trans ((World.cell?_of_block (a := ⟨p.G, 0, none⟩) (hk _ p.inG)).trans h.cg)⟩
/-- A variable of one cell is made, and guarded. -/
theorem Fol.guard (h : Fol B n m p w A Wd H T S Q) (hB : B ≤ w.heap.size) (v : Value) (t : TypeId) : Fol B n m { p with G := w.heap.size, gv := v } (w.alloc (.cells #[v] t)) A Wd H T S Q := by
  have hb : Below w.heap.size w (w.alloc (.cells #[v] t)) := (Below.refl _ w).alloc (Nat.le_refl _) _
  have h1 := h.below hb
  have hn := heap_alloc_new w (.cells #[v] t)
  have hlt : ∀ b, p.In b → b ≠ w.heap.size := fun b hb e => by have := (h.lo b hb).2; omega
  obtain ⟨q, c6, ao, cap, e1, e2, e3, hq⟩ := h.c6
  obtain ⟨q', c6', hq'⟩ := h1.c6
  refine ⟨⟨h.ok.fi, h.ok.fw, h.ok.fh, h.ok.ft, h.ok.fs, h.ok.iw, h.ok.ih, h.ok.it, h.ok.is', h.ok.wh, h.ok.wt, h.ok.ws, h.ok.ht, h.ok.hs, h.ok.ts, hlt _ p.inI, hlt _ p.inW, hlt _ p.inH, hlt _ p.inT, hlt _ p.inS⟩, h1.c0, h1.c1, h1.c2, h1.c3, h1.c4, h1.c5, ⟨q, (hb.cell (p := ⟨p.F, 6, none⟩) (h.lo _ p.inF).2).trans c6, ao, cap, e1, e2, e3, fun a ha => ?_⟩, h1.aI, h1.aW, h1.aH, h1.aT, h1.aS, ?_, ?_, (cell_of_row _ _ _ _ _ _ hn).trans rfl⟩
  · obtain ⟨b, off, g1, g2, g3, g4, g5, g6⟩ := hq a ha
    have hbk := hb.block b g4
    refine ⟨b, off, g1, g2, ?_, Nat.lt_of_lt_of_le g4 hb.size, fun i hi => (World.cell?_of_block (a := ⟨b, _, none⟩) hbk).trans (g5 i hi), fun j hj => ⟨by rw [World.cell?_of_block (a := ⟨b, _, none⟩) hbk]; exact (g6 j hj).1, (World.frozen?_of_block (a := ⟨b, _, none⟩) hbk).trans (g6 j hj).2⟩⟩
    rintro (r | r | r | r | r | r | r)
    · exact g3 (.inl r)
    · exact g3 (.inr (.inl r))
    · exact g3 (.inr (.inr (.inl r)))
    · exact g3 (.inr (.inr (.inr (.inl r))))
    · exact g3 (.inr (.inr (.inr (.inr (.inl r)))))
    · exact g3 (.inr (.inr (.inr (.inr (.inr (.inl r))))))
    · have : b = w.heap.size := r
      omega
  · rintro b (r | r | r | r | r | r | r) o
    · subst r; exact h1.fr _ p.inF o
    · subst r; exact h1.fr _ p.inI o
    · subst r; exact h1.fr _ p.inW o
    · subst r; exact h1.fr _ p.inH o
    · subst r; exact h1.fr _ p.inT o
    · subst r; exact h1.fr _ p.inS o
    · have : b = w.heap.size := r
      subst this; exact frozen_of_row _ _ _ _ _ hn
  · rintro b (r | r | r | r | r | r | r)
    · subst r; exact h1.lo _ p.inF
    · subst r; exact h1.lo _ p.inI
    · subst r; exact h1.lo _ p.inW
    · subst r; exact h1.lo _ p.inH
    · subst r; exact h1.lo _ p.inT
    · subst r; exact h1.lo _ p.inS
    · have : b = w.heap.size := r
      subst this; exact ⟨hB, by simp⟩
end
end Go.Proofs.YtlnkgemndojdnaaDoor
