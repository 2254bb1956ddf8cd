/- The document's reader: what its loops keep. -/
import Derived.Test.YtgaipfkblfommaaPakYc
import Derived.Test.YtgaipfkblfommaaPakT
set_option linter.unusedVariables false
set_option linter.unusedSimpArgs false
namespace Go.Proofs.Ytgaipfkblfommaa
set_option maxRecDepth 100000
open Go.RowKit

theorem DR.low {g B : Nat} {l : List UInt8} {at' : Nat} {bad : Bool} {w w' : World} (h : DR g l at' bad w) (hb : Below B w w') (hg : g < B) : DR g l at' bad w' := by
  obtain ⟨a, c, h1, h2, h3, h4, h5, h6⟩ := h.st
  exact ⟨⟨a, c, (hb.cell (p := ⟨g, 0, none⟩) hg).trans h1, (hb.cell (p := ⟨g, 1, none⟩) hg).trans h2, (hb.cell (p := ⟨g, 2, none⟩) hg).trans h3, h4.up (hb.mono (Nat.le_of_lt hg)), h5, h6⟩, fun j => (hb.frozen (p := ⟨g, j, none⟩) hg).trans (h.fr j), Nat.lt_of_lt_of_le h.lt hb.size, h.len, h.le⟩
theorem DRt.low {g B : Nat} {l : List UInt8} {st : Option (List UInt8)} {w w' : World} (h : DRt g l st w) (hb : Below B w w') (hg : g < B) : DRt g l st w' := by
  cases st with
  | some r => obtain ⟨k, e, h⟩ := h; exact ⟨k, e, h.low hb hg⟩
  | none => obtain ⟨k, h⟩ := h; exact ⟨k, h.low hb hg⟩
theorem DRt.flag {g : Nat} {l : List UInt8} {st : Option (List UInt8)} {w : World} (h : DRt g l st w) : w.cell? ⟨g, 2, none⟩ = some (.bool st.isNone) ∧ w.frozen? ⟨g, 2, none⟩ = false := by
  cases st with
  | some r => obtain ⟨k, e, h⟩ := h; obtain ⟨a, c, h1, h2, h3, _⟩ := h.st; exact ⟨h3, h.fr 2⟩
  | none => obtain ⟨k, h⟩ := h; obtain ⟨a, c, h1, h2, h3, _⟩ := h.st; exact ⟨h3, h.fr 2⟩
theorem DR.of_beh {T : Type} {g : Nat} {l : List UInt8} {o : Option (T × List UInt8)} {x : T} {at' : Nat} {bad : Bool} {w : World} (h : DR g l at' bad w) (hb : Beh l o x at' bad) : DRt g l (o.map Prod.snd) w := by
  cases o with
  | none => have hb : bad = true := hb; subst hb; exact ⟨at', h⟩
  | some q =>
    obtain ⟨rfl, rfl, e⟩ : x = q.1 ∧ bad = false ∧ q.2 = l.drop at' := hb
    exact ⟨at', e, h⟩
/-- How far a loop has come. -/
structure Lp {T : Type} (p : Ps T) (o : Option (Nat × List UInt8)) (n k : Nat) (xs : List T) (sk : Option (List UInt8)) : Prop where
  go : (o.bind fun q => pGo p k (some q.2)) = sk.map fun l => (xs, l)
  len : xs.length ≤ k
  le : k ≤ n
  num : ∀ q, o = some q → q.1 = n
theorem Lp.start {T : Type} (p : Ps T) {l : List UInt8} {o : Option (Nat × List UInt8)} {n at' : Nat} {bad : Bool} (hb : Beh l o n at' bad) : Lp p o n 0 [] (o.map Prod.snd) := by
  refine ⟨?_, Nat.le_refl _, Nat.zero_le _, fun q e => ?_⟩
  · cases o with
    | none => rfl
    | some q => rfl
  · subst e
    exact (show n = q.1 ∧ _ from hb).1.symm
theorem Lp.step {T : Type} {p : Ps T} {o : Option (Nat × List UInt8)} {n k : Nat} {xs : List T} {l : List UInt8} (h : Lp p o n k xs (some l)) (hk : k < n) {x : T} (hx : ∀ y r, (some l).bind p = some (y, r) → x = y) : Lp p o n (k + 1) (xs ++ [x]) (nxt p (some l)) := by
  refine ⟨?_, by rw [List.length_append]; have := h.len; simp; omega, hk, h.num⟩
  have hg := h.go
  cases o with
  | none => cases hg
  | some q =>
    have hg : pGo p k (some q.2) = some (xs, l) := hg
    show pGo p (k + 1) (some q.2) = _
    unfold pGo
    rw [hg]
    show (p l).map _ = (((some l).bind p).map Prod.snd).map _
    cases hp : p l with
    | none => simp [hp]
    | some q =>
      have := hx q.1 q.2 hp
      subst this
      simp [hp]
theorem each_bind {T : Type} (p : Ps T) (st : Option (List UInt8)) : st.bind (pEach p) = (st.bind pMany).bind fun q => pGo p q.1 (some q.2) := by
  cases st with
  | none => rfl
  | some l =>
    show pEach p l = (pMany l).bind _
    unfold pEach
    cases pMany l <;> rfl
theorem Lp.fin {T : Type} {p : Ps T} {st : Option (List UInt8)} {n k : Nat} {xs : List T} {sk : Option (List UInt8)} (h : Lp p (st.bind pMany) n k xs sk) (hf : k = n ∨ sk = none) : st.bind (pEach p) = sk.map fun l => (xs, l) := by
  rw [each_bind]
  have hg := h.go
  have hn := h.num
  cases ho : st.bind pMany with
  | none => rw [ho] at hg; exact hg
  | some q =>
    rw [ho] at hg
    have e := hn q ho
    have hg : pGo p k (some q.2) = sk.map fun l => (xs, l) := hg
    show pGo p q.1 (some q.2) = _
    rw [e]
    rcases hf with rfl | rfl
    · exact hg
    · exact go_none hg n h.le
theorem Lp.nxt {T : Type} {p : Ps T} {st : Option (List UInt8)} {n k : Nat} {xs : List T} {sk : Option (List UInt8)} (h : Lp p (st.bind pMany) n k xs sk) (hf : k = n ∨ sk = none) : nxt (pEach p) st = sk ∧ ∀ y r, st.bind (pEach p) = some (y, r) → xs = y := by
  have e := h.fin hf
  unfold Proofs.Ytgaipfkblfommaa.nxt
  rw [e]
  refine ⟨by cases sk <;> rfl, fun y r e => ?_⟩
  cases sk with
  | none => cases e
  | some l => simp at e; exact e.1
section
variable {T : Type}
/-- A loop over a variable. -/
structure Ds (sh : Sh T) (e : TypeId) (p : Ps T) (g : Nat) (l : List UInt8) (w : World) (o : Option (Nat × List UInt8)) (n k : Nat) (xs : List T) (sk : Option (List UInt8)) (u : Value) (wr : World) : Prop where
  rs : DRt g l sk wr
  own : Own sh e w.heap.size xs u wr
  kept : KeptG g w wr
  lp : Lp p o n k xs sk
theorem Ds.step {P : Program} {sh : Sh T} {t e : TypeId} (ht : P.underlying t = some (.slice e)) {by' : Nat} (hin : (P.info? e).map (fun i => (i.zero.map fun z => z.cells.size, i.size, i.bytes)) = some (some sh.k, sh.k, by')) (hk0 : 0 < sh.k) (hby : by' ≤ 100)
    {p : Ps T} {g : Nat} {l : List UInt8} {w : World} {o : Option (Nat × List UInt8)} {n k : Nat} {xs : List T} {r : List UInt8} {u : Value} {wr : World} (h : Ds sh e p g l w o n k xs (some r) u wr) (hk : k < n) (hn : n ≤ 4194304) (hg : g < w.heap.size)
    {w5 : World} (hst : DRt g l (nxt p (some r)) w5) {x : T} (hx : ∀ y r', (some r).bind p = some (y, r') → x = y) (hk5 : KeptG g wr w5) {cs : List Value} (hR : sh.rel (fun b => wr.heap.size ≤ b ∧ b < w5.heap.size) w5 cs x) :
    ∃ v6 w6, (∀ ty, (Builtin.append_ #[t, t] ty #[u, .slice (some ⟨w5.heap.size, 0, none⟩) 1 1]).run P (w5.alloc (.cells cs.toArray e)) = .ok v6 w6) ∧ Ds sh e p g l w o n (k + 1) (xs ++ [x]) (nxt p (some r)) v6 w6 := by
  have hsz := h.kept.size
  have hov := h.own.lt
  have hlen := h.lp.len
  obtain ⟨v6, w6, hr6, ho6, hb6⟩ := Own.snoc (P := P) (t := t) (cs := cs) ht hin hk0 hby (h.own.keptG hk5 hg) (by omega) (Nat.le_trans hsz hk5.size) (x := x) (Sh.keep sh (fun b ⟨a1, a2⟩ => ⟨Nat.le_trans hsz a1, a2, fun e => by have := hov b e; omega⟩) (fun _ _ _ => rfl) hR)
  exact ⟨v6, w6, hr6, hst.low hb6 hg, ho6, (h.kept.trans hk5).trans_low hb6 (Nat.le_trans hsz hk5.size), h.lp.step hk hx⟩
theorem Ds.done {sh : Sh T} {e : TypeId} {p : Ps T} {g : Nat} {l : List UInt8} {w : World} {st : Option (List UInt8)} {n k : Nat} {xs : List T} {sk : Option (List UInt8)} {u : Value} {wr : World} (h : Ds sh e p g l w (st.bind pMany) n k xs sk u wr) (hn : n ≤ 4194304) (hf : k = n ∨ sk = none) : DEnd (Vr sh) (pEach p) g l st w (.returned u) wr := by
  obtain ⟨e1, e2⟩ := h.lp.nxt hf
  have h1 := h.lp.len
  have h2 := h.lp.le
  exact ⟨_, xs, rfl, h.own.sits (by omega), by rw [e1]; exact h.rs, e2, h.kept⟩
/-- All but the reader and one block. -/
structure KeptH (g h : Nat) (w w' : World) : Prop where
  os : w'.os = w.os
  tape : w'.tape = w.tape
  output : w'.output = w.output
  size : w.heap.size ≤ w'.heap.size
  block : ∀ q, q < w.heap.size → q ≠ g → q ≠ h → w'.heap[q]? = w.heap[q]?
theorem KeptH.refl (g h : Nat) (w : World) : KeptH g h w w := ⟨rfl, rfl, rfl, Nat.le_refl _, fun _ _ _ _ => rfl⟩
theorem KeptH.trans {g h : Nat} {a b c : World} (k1 : KeptH g h a b) (k2 : KeptH g h b c) : KeptH g h a c :=
  ⟨k2.os.trans k1.os, k2.tape.trans k1.tape, k2.output.trans k1.output, Nat.le_trans k1.size k2.size, fun q h1 h2 h3 => (k2.block q (Nat.lt_of_lt_of_le h1 k1.size) h2 h3).trans (k1.block q h1 h2 h3)⟩
theorem KeptG.toH {g h : Nat} {w w' : World} (k : KeptG g w w') : KeptH g h w w' := ⟨k.os, k.tape, k.output, k.size, fun q h1 h2 _ => k.block q h1 h2⟩
theorem KeptH.of_far {g h : Nat} {w w' : World} (k : Far h w w') : KeptH g h w w' := ⟨k.os, k.tape, k.output, Nat.le_of_eq k.size.symm, fun q _ _ h3 => k.block q h3⟩
theorem KeptH.to {g h : Nat} {a b c : World} (k1 : KeptG g a b) (k2 : KeptH g h b c) (hh : a.heap.size ≤ h) : KeptG g a c :=
  ⟨k2.os.trans k1.os, k2.tape.trans k1.tape, k2.output.trans k1.output, Nat.le_trans k1.size k2.size, fun q h1 h2 => (k2.block q (Nat.lt_of_lt_of_le h1 k1.size) h2 (by omega)).trans (k1.block q h1 h2)⟩
/-- A loop over a cell. -/
structure Dc (sh : Sh T) (e : TypeId) (p : Ps T) (g : Nat) (l : List UInt8) (h j : Nat) (w : World) (o : Option (Nat × List UInt8)) (n k : Nat) (xs : List T) (sk : Option (List UInt8)) (u : Value) (wr : World) : Prop where
  rs : DRt g l sk wr
  own : Own sh e w.heap.size xs u wr
  cell : wr.cell? ⟨h, j, none⟩ = some u
  fr : ∀ i, wr.frozen? ⟨h, i, none⟩ = false
  oth : ∀ i, i ≠ j → wr.cell? ⟨h, i, none⟩ = w.cell? ⟨h, i, none⟩
  kept : KeptH g h w wr
  lp : Lp p o n k xs sk
  lt : h < w.heap.size
  ne : g < h
theorem Dc.step {P : Program} {sh : Sh T} {t e : TypeId} (ht : P.underlying t = some (.slice e)) {by' : Nat} (hin : (P.info? e).map (fun i => (i.zero.map fun z => z.cells.size, i.size, i.bytes)) = some (some sh.k, sh.k, by')) (hk0 : 0 < sh.k) (hby : by' ≤ 100)
    {p : Ps T} {g : Nat} {l : List UInt8} {h j : Nat} {w : World} {o : Option (Nat × List UInt8)} {n k : Nat} {xs : List T} {r : List UInt8} {u : Value} {wr : World} (H : Dc sh e p g l h j w o n k xs (some r) u wr) (hk : k < n) (hn : n ≤ 4194304)
    {w5 : World} (hst : DRt g l (nxt p (some r)) w5) {x : T} (hx : ∀ y r', (some r).bind p = some (y, r') → x = y) (hk5 : KeptG g wr w5) {cs : List Value} (hR : sh.rel (fun b => wr.heap.size ≤ b ∧ b < w5.heap.size) w5 cs x) :
    ∃ v6 w6, (∀ ty, (Builtin.append_ #[t, t] ty #[u, .slice (some ⟨w5.heap.size, 0, none⟩) 1 1]).run P (w5.alloc (.cells cs.toArray e)) = .ok v6 w6) ∧ w5.cell? ⟨h, j, none⟩ = some u ∧ w6.cell? ⟨h, j, none⟩ = some u ∧ w6.frozen? ⟨h, j, none⟩ = false ∧ Dc sh e p g l h j w o n (k + 1) (xs ++ [x]) (nxt p (some r)) v6 (w6.setCell ⟨h, j, none⟩ v6) := by
  have hsz := H.kept.size
  have hov := H.own.lt
  have hlen := H.lp.len
  have hlt := H.lt
  have hne := H.ne
  obtain ⟨v6, w6, hr6, ho6, hb6⟩ := Own.snoc (P := P) (t := t) (cs := cs) ht hin hk0 hby (H.own.keptG hk5 (by omega)) (by omega) (by have := hk5.size; omega) (x := x) (Sh.keep sh (fun b ⟨a1, a2⟩ => ⟨by omega, a2, fun e => by have := hov b e; omega⟩) (fun _ _ _ => rfl) hR)
  have c5 : ∀ i, w5.cell? ⟨h, i, none⟩ = wr.cell? ⟨h, i, none⟩ := fun i => hk5.cell (by omega) (by omega) i
  have c6 : ∀ i, w6.cell? ⟨h, i, none⟩ = wr.cell? ⟨h, i, none⟩ := fun i => (hb6.cell (p := ⟨h, i, none⟩) hlt).trans (c5 i)
  have f6 : ∀ i, w6.frozen? ⟨h, i, none⟩ = false := fun i => ((hb6.frozen (p := ⟨h, i, none⟩) hlt).trans (hk5.frozen (by omega) (by omega) i)).trans (H.fr i)
  have FR : Far h w6 (w6.setCell ⟨h, j, none⟩ v6) := (Far.refl _ _).set _
  have k5 : KeptH g h w w5 := H.kept.trans hk5.toH
  have k6 : KeptH g h w w6 := ⟨hb6.os.trans k5.os, hb6.tape.trans k5.tape, hb6.output.trans k5.output, Nat.le_trans k5.size hb6.size, fun q h1 h2 h3 => (hb6.block q h1).trans (k5.block q h1 h2 h3)⟩
  refine ⟨v6, w6, hr6, (c5 j).trans H.cell, (c6 j).trans H.cell, f6 j, ?_, ?_, ?_, ?_, ?_, ?_, H.lp.step hk hx, hlt, hne⟩
  · exact (hst.low hb6 (by omega)).low (FR.below (Nat.le_refl h)) hne
  · exact ho6.keptG KeptG.set hlt
  · exact World.cell?_setCell_same' _ _ _ (by rw [c6 j, H.cell]; rfl)
  · intro i; rw [World.frozen?_setCell]; exact f6 i
  · intro i hi
    exact (World.cell?_setCell_other w6 ⟨h, j, none⟩ ⟨h, i, none⟩ v6 (by first | (simp; done) | (simp; exact fun e => hi e.symm))).trans ((c6 i).trans (H.oth i hi))
  · exact k6.trans (KeptH.of_far FR)
end
end Go.Proofs.Ytgaipfkblfommaa
