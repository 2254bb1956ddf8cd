/- Copies of premises; what stays while they are turned. CutStays: the walk. -/
import Derived.Test.YtmjhjacbhflcpaaMs09
import Derived.Test.YtmjhjacbhflcpaaMs10
import Derived.SizedLaws
import Derived.Deep.RegionHeld3
import Derived.Deep.AppendLies
import Derived.Deep.DrawnRows
import Derived.Lib.QuietBelow
import Derived.BigQuiet
set_option linter.unusedVariables false
set_option linter.unusedSimpArgs false
namespace Go.Proofs.Ytmjhjacbhflcpaa
open Go.ChangeShapes Go.WideShapes Go.ChangeAt Go.RowKit Go.Deep

theorem run_append_none {P : Program} (w : World) (base : Nat) (t ty e : TypeId) (i : TypeInfo) (size : Nat) (ht : P.underlying t = some (.slice e)) (hi : P.info? e = some i)
    (v : Value) (n : Nat) (xs : List Value) (hown : w.ownsRow base e size v n xs) (c : Nat) :
    (Builtin.append_ #[t, t] ty #[v, .slice none 0 c]).run P w = .ok v w := by
  rcases hown.2 with ⟨rfl, rfl⟩ | ⟨g, cap, cur, rfl, _, _, hnc, _⟩
  · simp [Builtin.append_, run_underlying ht, sizeOf, typeInfo, hi, Builtin.lenOf, Builtin.firstCells]
  · simp [Builtin.append_, run_underlying ht, sizeOf, typeInfo, hi, Builtin.lenOf, Builtin.firstCells, hnc, storeCells]

/-- append of a list that lies somewhere to an own empty one, in a drawn region. -/
theorem step_append_src {w : World} {ops : Array Oper} {o : Oper} {a : Act} {K : Act → World → Prop} {Q : Exit → Act → World → Prop} {E : Prop} (hgd : o.guard = none) (s x : Operand)
    (ho : o.op = .call { callee := .builtin .append, args := #[s, x], argTypes := #[33, 33] })
    (B Bx : Nat) (v : Value) (hs : a.eval s = v) (h : Row B [] v w) (ad : Option Addr) (n cap : Nat) (l : List (Int × Int)) (hx : a.eval x = .slice ad n cap) (hl : Lies Bx w ad l) (hn : l.length = n)
    (hbytes : n * 16 ≤ 140737488351232) (hB : B ≤ w.heap.size)
    (hK : ∀ a' cap' w', Row B l (.slice a' n cap') w' → w.grownBy w' v.ownBlock → ((Value.slice a' n cap').ownBlock = v.ownBlock ∨ (Value.slice a' n cap').ownBlock = some w.heap.size) → K (a.put o.dst (.slice a' n cap')) w') :
    if Region.wanted o (yielded ops a.tmps) = true then Oper.wp Try.prog o a w K Q else E := by
  have hw : Region.wanted o (yielded ops a.tmps) = true := by simp [Region.wanted, hgd]
  rw [if_pos hw]
  obtain ⟨i0, hi, hz0, hz1, hz2⟩ := info_parts Try.infoMono
  obtain ⟨v', w', hr, h3, h4, h5⟩ : ∃ v' w', (Builtin.append_ #[33, 33] o.type #[v, .slice ad n cap]).run Try.prog w = .ok v' w' ∧ Row B l v' w' ∧ w.grownBy w' v.ownBlock ∧ (v'.ownBlock = v.ownBlock ∨ v'.ownBlock = some w.heap.size) := by
    cases ad with
    | none =>
      have h0 : l = [] := by
        cases l with
        | nil => rfl
        | cons m r =>
          obtain ⟨_, _, e, _⟩ := hl 0 (by simp)
          cases e
      subst h0
      obtain rfl : n = 0 := by simpa using hn.symm
      exact ⟨v, w, run_append_none w B _ o.type _ i0 2 Try.underlying33 hi v _ _ h cap, h, World.grownBy.refl w _, .inl rfl⟩
    | some ad =>
      obtain ⟨v', w', hr, h3, h4, _, h6⟩ := run_append_own_at w B 33 o.type 41 i0 _ 2 16 Try.underlying33 hi hz0 hz1 hz2 rfl (by decide) v 0 [] h ad n cap (flat l) (by rw [flat_len, hn]) hl.news (flat_cells l) (by unfold maxLen; omega) (by omega) hB
      refine ⟨v', w', hr, ?_, h4, h6⟩
      unfold Row
      rw [hn]
      simpa using h3
  obtain ⟨a', cap', rfl, _, _⟩ := h3.lies
  rw [hn] at hr h3 h5
  unfold Oper.wp execOp
  simp only [ho, resolve, invoke, builtin, Sem.run_bind, Sem.run_pure, Result.andThen_ok, List.map_toArray, List.map_cons, List.map_nil, hs, hx, hr]
  exact hK _ _ _ h3 h4 h5
theorem row_fresh (B : Nat) (W : World) (hB : B ≤ W.heap.size) : Row B [] (.slice (some ⟨W.heap.size, 0, none⟩) 0 0) (W.alloc (.cells #[] 41)).drew := by
  have h : (W.alloc (.cells #[] 41)).ownsRow B 41 2 (.slice (some ⟨W.heap.size, 0, none⟩) 0 0) 0 [] := World.ownsRow_made W #[] 0 hB (by decide) rfl
  exact h
theorem Row.froz {B : Nat} {l : List (Int × Int)} {a : Option Addr} {n cap : Nat} {w : World} (h : Row B l (.slice a n cap) w) (b off : Nat) (e : a = some ⟨b, off, none⟩) : B ≤ b ∧ b < w.heap.size ∧ ∀ o, w.frozen? ⟨b, o, none⟩ = false := by
  subst e
  rcases h.2 with ⟨h1, _⟩ | ⟨g, cap', cur, hv, hb, hg, _⟩
  · cases h1
  · simp only [Value.slice.injEq, Option.some.injEq, Addr.mk.injEq] at hv
    obtain ⟨⟨rfl, _, _⟩, _, _⟩ := hv
    exact ⟨hb, lt_of_some hg, fun o => frozen_of_row _ _ _ _ _ hg⟩

/-- Copies of premises in blocks of the call's own that may be written. -/
structure CRow (B : Nat) (xs : List LT) (v : Value) (w : World) : Prop where
  l : LRow B xs v w
  fr : ∀ x ∈ xs, ∀ b off, x.a = some ⟨b, off, none⟩ → B ≤ b ∧ b < w.heap.size ∧ v.ownBlock ≠ some b ∧ ∀ o, w.frozen? ⟨b, o, none⟩ = false
theorem CRow.nil (B : Nat) (w : World) : CRow B [] (.slice none 0 0) w := ⟨LRow.nil B w, fun x hx => by cases hx⟩
theorem CRow.step {B : Nat} {xs : List LT} {x : LT} {v v6 : Value} {w w5 w6 : World} {g H : Nat} (h : CRow B xs v w) (hB : B ≤ w.heap.size) (hb5 : Below w.heap.size w w5) (hx : LiesS (fun b => w.heap.size ≤ b ∧ b < w5.heap.size) w5 x.a x.t)
    (hf : ∀ b off, x.a = some ⟨b, off, none⟩ → w.heap.size ≤ b ∧ b < w5.heap.size ∧ ∀ o, w5.frozen? ⟨b, o, none⟩ = false) (hg : w5.grownBy w6 v.ownBlock) (hH : w5.heap.size ≤ H)
    (hv : v6.ownBlock = some g) (hat : v.ownBlock = some g ∨ g = H) (hr : w6.ownsRow B 35 2 v6 (xs.length + 1) (lcells xs ++ [.int .i64 x.c, .slice x.a x.t.length x.cap])) : CRow B (xs ++ [x]) v6 w6 := by
  refine ⟨h.l.step hB hb5 hx hg hH hv hat hr, fun y hy b off e => ?_⟩
  have hvb : ∀ b, v.ownBlock = some b → b < w.heap.size := fun b e => (World.ownsRow.lt h.l.row b e).2
  have hne6 : ∀ b, b < w5.heap.size → v.ownBlock ≠ some b → v6.ownBlock ≠ some b := fun b hb hne e => by
    rw [hv] at e
    rcases hat with hat | hat
    · exact hne (hat.trans e)
    · injection e with e; omega
  have hfk : ∀ b o, b < w5.heap.size → v.ownBlock ≠ some b → w6.frozen? ⟨b, o, none⟩ = w5.frozen? ⟨b, o, none⟩ := fun b o hb hne => World.frozen?_of_block (hg.block b hb (fun e => hne e.symm))
  rcases List.mem_append.1 hy with hy | hy
  · obtain ⟨h1, h2, h3, h4⟩ := h.fr y hy b off e
    have h5 := Nat.lt_of_lt_of_le h2 hb5.size
    exact ⟨h1, Nat.lt_of_lt_of_le h5 hg.size, hne6 b h5 h3, fun o => (hfk b o h5 h3).trans ((hb5.frozen (p := ⟨b, o, none⟩) h2).trans (h4 o))⟩
  · rw [List.mem_singleton] at hy
    subst hy
    obtain ⟨h1, h2, h4⟩ := hf b off e
    have h3 : v.ownBlock ≠ some b := fun e => by have := hvb b e; omega
    exact ⟨by omega, Nat.lt_of_lt_of_le h2 hg.size, hne6 b h2 h3, fun o => (hfk b o h2 h3).trans (h4 o)⟩
/-- Rows above a bound stay while what lies below it is written. -/
structure Above (B : Nat) (w w' : World) : Prop where
  size : w'.heap.size = w.heap.size
  block : ∀ b, B ≤ b → w'.heap[b]? = w.heap[b]?
theorem Above.refl (B : Nat) (w : World) : Above B w w := ⟨rfl, fun _ _ => rfl⟩
theorem Above.set {B : Nat} {w w' : World} (h : Above B w w') {b o : Nat} (hb : b < B) (v : Value) : Above B w (w'.setCell ⟨b, o, none⟩ v) :=
  ⟨(World.size_setCell _ _ _).trans h.size, fun q hq => (Below.heap_setCell _ _ _ _ (by show q ≠ b; omega)).trans (h.block q hq)⟩
theorem LRow.above {B : Nat} {xs : List LT} {v : Value} {w w' : World} (h : LRow B xs v w) (ha : Above B w w') : LRow B xs v w' := by
  refine ⟨?_, fun x hx => (h.lies x hx).keep (fun b ⟨h1, h2, h3⟩ => ⟨h1, by rw [ha.size]; exact h2, h3⟩) (fun b o ⟨h1, _, _⟩ => World.cell?_of_block (ha.block b h1))⟩
  obtain ⟨h0, h1 | ⟨g, cap, cur, hv, hb, hg, h2⟩⟩ := h.row
  · exact ⟨h0, .inl h1⟩
  · exact ⟨h0, .inr ⟨g, cap, cur, hv, hb, (ha.block g hb).trans hg, h2⟩⟩
/-- Of copies that are written: their row, and that their coefficients may be written. -/
structure Writ (B M : Nat) (xs : List LT) (v : Value) (w : World) : Prop where
  row : w.ownsRow B 35 2 v xs.length (lcells xs)
  can : ∀ x ∈ xs, ∀ i, i < x.t.length → ∃ b off, x.a = some ⟨b, off, none⟩ ∧ B ≤ b ∧ b < M ∧ v.ownBlock ≠ some b ∧ (∃ z, w.cell? ⟨b, off + i * 2 + 1, none⟩ = some z) ∧ ∀ o, w.frozen? ⟨b, o, none⟩ = false
theorem CRow.writ {B : Nat} {xs : List LT} {v : Value} {w : World} (h : CRow B xs v w) : Writ B w.heap.size xs v w := by
  refine ⟨h.l.row, fun x hx i hi => ?_⟩
  obtain ⟨b, off, e, _, _, h2⟩ := h.l.lies x hx i hi
  obtain ⟨g1, g2, g3, g4⟩ := h.fr x hx b off e
  exact ⟨b, off, e, g1, g2, g3, ⟨_, h2⟩, g4⟩
theorem Writ.below {B M : Nat} {xs : List LT} {v : Value} {w w' : World} (h : Writ B M xs v w) (hM : M = w.heap.size) (hb : Below M w w') : Writ B M xs v w' := by
  subst hM
  refine ⟨World.ownsRow.kept (row := none) h.row ⟨hb.os, hb.tape, hb.output, hb.size, fun q hq _ => hb.block q hq⟩ (by cases v.ownBlock <;> simp), fun x hx i hi => ?_⟩
  obtain ⟨b, off, e, h1, h2, h3, ⟨z, h4⟩, h5⟩ := h.can x hx i hi
  exact ⟨b, off, e, h1, h2, h3, ⟨z, (hb.cell (p := ⟨b, _, none⟩) h2).trans h4⟩, fun o => (hb.frozen (p := ⟨b, o, none⟩) h2).trans (h5 o)⟩
theorem Writ.set {B M : Nat} {xs : List LT} {v : Value} {w : World} (h : Writ B M xs v w) {b o : Nat} (hne : v.ownBlock ≠ some b) (u : Value) : Writ B M xs v (w.setCell ⟨b, o, none⟩ u) := by
  have k : w.grownBy (w.setCell ⟨b, o, none⟩ u) (some b) := ⟨rfl, rfl, rfl, Nat.le_of_eq (World.size_setCell _ _ _).symm, fun q _ hq => Below.heap_setCell _ _ _ _ (fun e => hq (by rw [e]))⟩
  refine ⟨World.ownsRow.kept h.row k (.inr hne), fun x hx i hi => ?_⟩
  obtain ⟨b', off, e, h1, h2, h3, ⟨z, h4⟩, h5⟩ := h.can x hx i hi
  refine ⟨b', off, e, h1, h2, h3, ?_, fun o' => (World.frozen?_setCell _ _ _ _).trans (h5 o')⟩
  by_cases e2 : (⟨b', off + i * 2 + 1, none⟩ : Addr) = ⟨b, o, none⟩
  · rw [e2] at h4 ⊢
    exact ⟨u, World.cell?_setCell_same _ _ _ h4⟩
  · exact ⟨z, (World.cell?_setCell_other _ _ _ _ (fun h => e2 h.symm)).trans h4⟩
theorem Writ.llen {B M : Nat} {xs : List LT} {v : Value} {w : World} (h : Writ B M xs v w) : ∃ a cap, v = .slice a xs.length cap ∧ ∀ i, i < xs.length → ∃ b off, a = some ⟨b, off, none⟩ ∧ w.cell? ⟨b, off + i * 2, none⟩ = some (.int .i64 (xs.getD i ⟨0, none, 0, []⟩).c) ∧ w.cell? ⟨b, off + i * 2 + 1, none⟩ = some (.slice (xs.getD i ⟨0, none, 0, []⟩).a (xs.getD i ⟨0, none, 0, []⟩).t.length (xs.getD i ⟨0, none, 0, []⟩).cap) := by
  have hr := h.row
  have hc := fun g => World.ownsRow.cells hr (g := g)
  obtain ⟨_, h1 | ⟨g, cap, cur, hv, h2⟩⟩ := hr
  · exact ⟨none, 0, by rw [h1.1, h1.2], fun i hi => by omega⟩
  · subst hv
    refine ⟨some ⟨g, 0, none⟩, cap, rfl, fun i hi => ⟨g, 0, rfl, ?_⟩⟩
    have hx : xs[i]? = some xs[i] := List.getElem?_eq_getElem hi
    obtain ⟨g1, g2⟩ := lcells_get xs i _ hx
    rw [show xs.getD i ⟨0, none, 0, []⟩ = xs[i] by simp [List.getD_eq_getElem?_getD, hi]]
    refine ⟨?_, ?_⟩
    · have := hc g rfl (i * 2) _ g1
      rwa [show (⟨g, 0, none⟩ : Addr).add (i * 2) = ⟨g, 0 + i * 2, none⟩ by unfold Addr.add; split <;> simp_all] at this
    · have := hc g rfl (i * 2 + 1) _ g2
      rwa [show (⟨g, 0, none⟩ : Addr).add (i * 2 + 1) = ⟨g, 0 + i * 2 + 1, none⟩ by unfold Addr.add; simp] at this
end Go.Proofs.Ytmjhjacbhflcpaa

namespace Go.Proofs.Ytmjhjacbhflcpaa
open Go.RowKit Go.Maps

theorem Try.eqNilNil (w : World) : (binOp .eql 28 .nilIface .nilIface).run Try.prog w = .ok (.bool true) w := by simp [go_sem]
theorem Try.eqIfNil (t : TypeId) (v : Value) (w : World) : (binOp .eql 28 (.iface t v) .nilIface).run Try.prog w = .ok (.bool false) w := by simp [go_sem]
/-- Is it no error? -/
theorem ErrIs.eqNil {B : Nat} {x at' : Int} {er : Value} {w : World} (h : ErrIs B x at' er w) (hx : x = 0 → at' = -1) (W : World) : (binOp .eql 28 er .nilIface).run Try.prog W = .ok (.bool (decide (x = 0))) W := by
  by_cases h0 : x = 0
  · rw [h.1 (by rw [hx h0]; decide), h0, codeV_zero, Try.eqNilNil]; rfl
  · obtain ⟨t, v, rfl⟩ := h.iface h0
    rw [Try.eqIfNil, decide_eq_false h0]

theorem LinesIs.small {ls ss x at' L} (h : LinesIs ls ss x at' L) : L.length ≤ 8192 ∧ ∀ i, i < L.length → (L.getD i (0, [])).2.length ≤ 9223372036854775807 := by
  cases h with
  | long _ => exact ⟨by decide, fun i hi => absurd hi (Nat.not_lt_zero _)⟩
  | prem _ => exact ⟨by decide, fun i hi => absurd hi (Nat.not_lt_zero _)⟩
  | step _ => exact ⟨by decide, fun i hi => absurd hi (Nat.not_lt_zero _)⟩
  | ok g1 g2 g3 g4 => exact ⟨by rw [lnL_len]; omega, fun i hi => by have := (snd_iff.1 (lnL_ok g3 _ g4 i hi)).2.1; omega⟩

set_option maxRecDepth 100000 in
set_option maxHeartbeats 2000000 in
theorem cutStays_any (hup : UpSaid4) (a : Option Addr) (n cap : Nat) (ls : List (Int × List (Int × Int))) (sa : Option Addr) (sn scap : Nat) (ss : List (List (Int × Int) × Int)) (w : World) (h : Given w.heap.size w a n ls sa sn ss) (hr1 : n * 32 ≤ 140737488351232) (hr2 : ∀ i, i < n → (ls.getD i (0, [])).2.length * 16 ≤ 140737488351232) :
    Calls Try.prog 4 #[.slice a n cap, .slice sa sn scap] w fun e w' => e = .returned (.bool true) ∧ Below w.heap.size w w' := by
  obtain ⟨x, at', L, hL⟩ := lines_is ls ss
  have HUP := Lib.hid (fun W => hup W)
  have HLI := Lib.hid (fun W (hb : Below w.heap.size w W) => light_any a n cap ls sa sn scap ss W ((h.below hb).mono hb.size))
  have HLN := Lib.hid (fun W (hb : Below w.heap.size w W) => lines_any a n cap ls sa sn scap ss W ((h.below hb).mono hb.size) x at' L hL)
  have HG := Lib.hid h
  have HR2 := Lib.hid hr2
  have HIS := Lib.hid hL
  have hnm := h.nm
  obtain ⟨i0, hi, hz0, hz1, hz2⟩ := info_parts Try.infoLin
  clear hup h hL hr2
  go_enter Try.func4, Try.ntmps4
  go_wp2_with fail
  refine (HUP.out _).mono ?_
  rintro e w1 ⟨rfl, hb1⟩
  have B1 := Lib.hid hb1
  clear hb1
  go_wp2_with fail
  refine (HLI.out _ B1.out).mono ?_
  rintro e w2 ⟨b, rfl, rfl⟩
  clear HUP HLI
  cases b with
  | false =>
    go_wp2_with fail
    go_ret
    exact ⟨rfl, B1.out⟩
  | true =>
    go_wp2_with fail
    go_loopw [7, 8] (fun v i wr => ∃ (k : Nat) (xs : List LT), k ≤ n ∧ i = .int .i64 k ∧ Hid (CRow w.heap.size xs v wr) ∧ Hid (lforms xs = ls.take k) ∧ Hid (Below w.heap.size w wr)) (fun _ i _ => n - (intOf i).toNat)
    case atStart => exact ⟨0, [], Nat.zero_le _, rfl, CRow.nil _ _, rfl, B1⟩
    case round =>
      clear B1
      obtain ⟨k, xs, hk, rfl, hrow, hfs, hb⟩ := hrel
      obtain ⟨wo, rfl⟩ : ∃ wo : World, wo = wr := ⟨_, rfl⟩
      have hxl : xs.length ≤ n := by rw [← lforms_len, hfs.out, List.length_take]; omega
      by_cases hlt : k < n
      · obtain ⟨b, off, ta, tcap, rfl, hblt, c0, c1, hli⟩ := HG.out.ll k (by rw [HG.out.ln]; exact hlt)
        have hbel := hb.out
        rw [← hbel.cell (p := ⟨b, _, none⟩) hblt] at c0 c1
        have hr := HR2.out k hlt
        have HFS1 : Hid (ls.take (k + 1) = ls.take k ++ [ls.getD k (0, [])]) := take_snocL ls k (by rw [HG.out.ln]; exact hlt)
        obtain ⟨ce, te⟩ : ∃ z, z = ls.getD k (0, []) := ⟨_, rfl⟩
        rw [← te] at c0 c1 hli hr HFS1
        clear te
        obtain ⟨c, t⟩ := ce
        simp only at c0 c1 hli hr
        have HLW := Lib.hid (fun W (hb : Below w.heap.size w W) => hli.below hb)
        have HBY := Lib.hid hr
        have HX1 : xs.length * 32 ≤ 140737488351232 := by omega
        have W0 : Hid (Below wo.heap.size wo wo.drew) := (Below.refl _ wo).drew
        have WA : Hid (Below wo.heap.size wo (wo.alloc (.cells #[] 41)).drew) := ((Below.refl _ wo).alloc (Nat.le_refl _) _).drew
        have HWZ := Lib.hid hbel.size
        have HCW : Hid (∀ W, Below w.heap.size wo W → W.cell? ⟨b, off + k * 2, none⟩ = some (.int .i64 c) ∧ W.cell? ⟨b, off + k * 2 + 1, none⟩ = some (.slice ta t.length tcap)) := fun W h => ⟨(h.cell (p := ⟨b, _, none⟩) hblt).trans c0, (h.cell (p := ⟨b, _, none⟩) hblt).trans c1⟩
        have HR0 : Hid (Row wo.heap.size [] (.slice (some ⟨wo.heap.size, 0, none⟩) 0 0) (wo.alloc (.cells #[] 41)).drew) := row_fresh _ wo (Nat.le_refl _)
        have HLA : Hid (Lies w.heap.size (wo.alloc (.cells #[] 41)).drew ta t) := HLW.out _ (hbel.trans (WA.out.mono hbel.size))
        have HZA : Hid (wo.heap.size ≤ (wo.alloc (.cells #[] 41)).drew.heap.size) := WA.out.size
        clear hli hr
        go_wp2_with fail
        go_region_held3 (fun w' => w'.cell? ⟨b, off + k * 2, none⟩ = some (.int .i64 c) ∧ w'.cell? ⟨b, off + k * 2 + 1, none⟩ = some (.slice ta t.length tcap))
          (first
            | with_reducible exact HCW.out _ W6.out
            | with_reducible exact HCW.out _ (W3.out.mono HWZ.out)
            | with_reducible exact HCW.out _ (WA.out.mono HWZ.out)
            | with_reducible exact HCW.out _ (W0.out.mono HWZ.out)
            | go_keep)
          (first
            | (refine step_append_lies _ (by rfl) _ _ _ (by rfl) w.heap.size 35 i0 _ 2 32 Try.underlying22 hi hz0 hz1 hz2 rfl (by omega) u7 xs.length (lcells xs) (by rfl) HRW.out
                 ⟨w3.heap.size, 0, none⟩ 1 1 [.int .i64 c, .slice a3 t.length cap3] (by rfl) (by rfl) NEWS.out (lin_one _ _ _ _) (by omega) (by unfold maxLen; omega) (by omega) HBZ.out (w3.heap.size + 1) (by simp) ?_
               intro gg cap6 w6 hown6 hgrow6 hat6 hlt6
               have W6 : Hid (Below w.heap.size wo w6) := ((W3.out.mono HWZ.out).alloc (Nat.le_trans HWZ.out W3.out.size) _).grown hgrow6 HBZ.out (fun g hg => (World.ownsRow.lt hrow.out.l.row g hg).1))
            | (refine step_append_src (by rfl) _ _ (by rfl) wo.heap.size w.heap.size (.slice (some ⟨wo.heap.size, 0, none⟩) 0 0) (by rfl) HR0.out ta t.length tcap t (by rfl) HLA.out rfl HBY.out HZA.out ?_
               intro a3 cap3 w3 hrow3 hgrow3 hat3
               have W3 : Hid (Below wo.heap.size wo w3) := WA.out.grown hgrow3 HZA.out (fun g hg => (World.ownsRow.lt HR0.out g hg).1)
               have HRW : Hid ((w3.alloc (.cells #[.int .i64 c, .slice a3 t.length cap3] 35)).ownsRow w.heap.size 35 2 u7 xs.length (lcells xs)) := World.ownsRow.alloc (hrow.out.l.below W3.out).row _
               have NEWS := Lib.hid (lin_new w3 c a3 t.length cap3 35 w3.heap.size rfl)
               have HBZ : Hid (w.heap.size ≤ (w3.alloc (.cells #[.int .i64 c, .slice a3 t.length cap3] 35)).heap.size) := Nat.le_trans (Nat.le_trans hb.out.size W3.out.size) ((Below.refl w3.heap.size w3).alloc (Nat.le_refl _) _).size
               have HROW3 := Lib.hid hrow3))
        all_goals
          have BA5 : Below w3.heap.size w3 (w3.alloc (.cells #[.int .i64 c, .slice a3 t.length cap3] 35)) := (Below.refl _ w3).alloc (Nat.le_refl _) _
          have HL5 : LiesS (fun b => wo.heap.size ≤ b ∧ b < w3.heap.size) w3 a3 t := by
            obtain ⟨a4, cap4, e4, hl4⟩ := HROW3.out.liesS
            injection e4 with e41 e42 e43
            subst e41
            exact hl4
          have RN : Hid (CRow w.heap.size (xs ++ [⟨c, a3, cap3, t⟩]) (.slice (some ⟨gg, 0, none⟩) (xs.length + 1) cap6) w6) :=
            CRow.step (x := ⟨c, a3, cap3, t⟩) (w5 := w3.alloc (.cells #[.int .i64 c, .slice a3 t.length cap3] 35)) (g := gg) (H := w3.heap.size + 1) hrow.out HWZ.out (W3.out.trans (BA5.mono W3.out.size)) (HL5.keep (fun b ⟨h1, h2⟩ => ⟨h1, Nat.lt_of_lt_of_le h2 BA5.size⟩) (fun b o ⟨h1, h2⟩ => BA5.cell (p := ⟨b, o, none⟩) h2))
              (fun b off e => by
                obtain ⟨g1, g2, g3⟩ := HROW3.out.froz b off e
                exact ⟨g1, Nat.lt_of_lt_of_le g2 BA5.size, fun o => (BA5.frozen (p := ⟨b, o, none⟩) g2).trans (g3 o)⟩) hgrow6 (by simp) rfl hat6 hown6
          have BN : Hid (Below w.heap.size w w6) := hb.out.trans W6.out
          have FN : Hid (lforms (xs ++ [⟨c, a3, cap3, t⟩]) = ls.take (k + 1)) := by
            show _ = _
            rw [lforms_append, hfs.out, HFS1.out]; rfl
          clear BA5 hown6 hgrow6 hat6 hlt6 HRW NEWS HBZ HL5 W3 WA W0 W6 HCW HR0 HLA HZA HROW3 c0 c1 hrow3 hgrow3 hat3
          go_wp2_with fail
          refine ⟨⟨k + 1, _, by omega, by go_num, RN, FN, BN⟩, by simp [intOf]; omega⟩
      · obtain rfl : k = n := by omega
        have HXE : Hid (lforms xs = ls) := by
          show _ = _
          rw [hfs.out, List.take_of_length_le (by rw [HG.out.ln]; exact Nat.le_refl _)]
        have hxl2 : xs.length = k := by rw [← lforms_len, HXE.out, HG.out.ln]
        obtain ⟨oa, ocap, hu7, holl⟩ := hrow.out.l.llies
        rw [HXE.out] at holl
        have HOL := Lib.hid holl
        have HWR := Lib.hid hrow.out.writ
        have HXN := Lib.hid hxl2
        have HXM : Hid (∀ x ∈ xs, x.t.length ≤ 9223372036854775807) := fun x hx => by
          obtain ⟨i, hi, rfl⟩ := List.getElem_of_mem hx
          have h9 := HG.out.lm i (by omega)
          rw [← HXE.out] at h9
          simpa [lforms, List.getD_eq_getElem?_getD, hi] using h9
        have GO : Hid (Given wo.heap.size wo oa k ls sa sn ss) := ⟨HG.out.ln, holl, HG.out.lm, HG.out.sl, (HG.out.sll.below hb.out).mono hb.out.size, HG.out.nm, HG.out.sm⟩
        rw [hxl2] at hu7
        subst hu7
        have HLO := Lib.hid (lines_any oa k ocap ls sa sn scap ss wo GO.out x at' L HIS.out)
        clear holl hrow hxl hfs hxl2
        go_wp2_with fail
        refine HLO.out.mono ?_
        rintro e w3 ⟨v3, er3, ys, rfl, hrow3, hfs3, her3, hb3⟩
        have RY := Lib.hid hrow3
        have FY := Lib.hid hfs3
        have EY := Lib.hid her3
        have BY := Lib.hid hb3
        clear hrow3 hfs3 her3 hb3 HLO
        have HSM := Lib.hid (rsames_any oa k ocap ls a k cap ls w3 HG.out.ln HG.out.ln hnm hnm ((HOL.out.below BY.out).mono BY.out.size) HG.out.lm ((HG.out.ll.below (hb.out.trans (BY.out.mono hb.out.size))).mono (Nat.le_trans hb.out.size BY.out.size)) HG.out.lm)
        rw [decide_eq_true rfl] at HSM
        go_wp2_with fail
        refine HSM.out.mono ?_
        rintro e w4 ⟨rfl, hb4⟩
        have B4 : Hid (Below wo.heap.size wo w4) := BY.out.trans (hb4.mono BY.out.size)
        have R4 := Lib.hid (RY.out.below hb4)
        have WR4 := Lib.hid (HWR.out.below rfl B4.out)
        have BW4 : Hid (Below w.heap.size w w4) := hb.out.trans (B4.out.mono hb.out.size)
        have HWO := Lib.hid hb.out.size
        clear hb4 HSM RY BY HOL GO B4 hb hi hz0 hz1 hz2
        go_wp2_with fail
        go_loopw [12] (fun i wr => ∃ (j : Nat), j ≤ k ∧ i = .int .i64 j ∧ Hid (Writ w.heap.size wo.heap.size xs (.slice oa k ocap) wr) ∧ Hid (Above wo.heap.size w4 wr) ∧ Hid (Below w.heap.size w wr)) (fun i _ => k - (intOf i).toNat)
        case atStart => exact ⟨0, Nat.zero_le _, rfl, WR4, Above.refl _ _, BW4⟩
        case round =>
          clear WR4 BW4 HWR
          obtain ⟨j, hj, rfl, hwr, hab, hbw⟩ := hrel
          by_cases hjt : j < k
          · have hmem : xs.getD j ⟨0, none, 0, []⟩ ∈ xs := by
              have hjx : j < xs.length := by have := HXN.out; omega
              rw [List.getD_eq_getElem?_getD, List.getElem?_eq_getElem hjx]; exact List.getElem_mem hjx
            have HMEM := Lib.hid hmem
            have hlen : (xs.getD j ⟨0, none, 0, []⟩).t.length ≤ 9223372036854775807 := HXM.out _ hmem
            have HCE : Hid (∀ W, Writ w.heap.size wo.heap.size xs (.slice oa k ocap) W → ∃ b off, oa = some ⟨b, off, none⟩ ∧ W.cell? ⟨b, off + j * 2 + 1, none⟩ = some (.slice (xs.getD j ⟨0, none, 0, []⟩).a (xs.getD j ⟨0, none, 0, []⟩).t.length (xs.getD j ⟨0, none, 0, []⟩).cap)) := fun W h => by
              obtain ⟨a9, cap9, e9, h9⟩ := h.llen
              injection e9 with e91 e92 e93
              subst e91
              obtain ⟨b, off, e, _, h2⟩ := h9 j (by omega)
              exact ⟨b, off, e, h2⟩
            have HCAN : Hid (∀ W, Writ w.heap.size wo.heap.size xs (.slice oa k ocap) W → ∀ i, i < (xs.getD j ⟨0, none, 0, []⟩).t.length → ∃ b off, (xs.getD j ⟨0, none, 0, []⟩).a = some ⟨b, off, none⟩ ∧ w.heap.size ≤ b ∧ b < wo.heap.size ∧ (Value.slice oa k ocap).ownBlock ≠ some b ∧ (∃ z, W.cell? ⟨b, off + i * 2 + 1, none⟩ = some z) ∧ ∀ o, W.frozen? ⟨b, o, none⟩ = false) := fun W h i hi => h.can _ HMEM.out i hi
            clear hmem HMEM
            generalize (xs.getD j ⟨0, none, 0, []⟩).a = ta at HCE HCAN
            generalize (xs.getD j ⟨0, none, 0, []⟩).t.length = tn at HCE HCAN hlen
            generalize (xs.getD j ⟨0, none, 0, []⟩).cap = tcap at HCE
            go_wp2_with fail
            go_loopw [13] (fun i wr => ∃ (m : Nat), m ≤ tn ∧ i = .int .i64 m ∧ Hid (Writ w.heap.size wo.heap.size xs (.slice oa k ocap) wr) ∧ Hid (Above wo.heap.size w4 wr) ∧ Hid (Below w.heap.size w wr)) (fun i _ => tn - (intOf i).toNat)
            case atStart => exact ⟨0, Nat.zero_le _, rfl, hwr, hab, hbw⟩
            case round =>
              clear hwr hab hbw
              obtain ⟨m, hm, rfl, hwr, hab, hbw⟩ := hrel
              obtain ⟨b, off, rfl, c1⟩ := HCE.out _ hwr.out
              by_cases hmt : m < tn
              · obtain ⟨tb, toff, rfl, h1, h2, h3, ⟨z, hz⟩, hf⟩ := HCAN.out _ hwr.out m hmt
                have WN := Lib.hid (hwr.out.set (b := tb) (o := toff + m * 2 + 1) h3 (.int .i64 7))
                have AN := Lib.hid (hab.out.set (b := tb) (o := toff + m * 2 + 1) h2 (.int .i64 7))
                have BN := Lib.hid (hbw.out.setCell (p := ⟨tb, toff + m * 2 + 1, none⟩) h1 (.int .i64 7))
                clear h1 h2 h3 hwr hab hbw
                go_wp2_with fail
                refine ⟨⟨m + 1, by omega, by go_num, WN, AN, BN⟩, by simp [intOf]; omega⟩
              · go_wp2_with fail
                refine ⟨⟨j + 1, by omega, by go_num, hwr, hab, hbw⟩, by simp [intOf]; omega⟩
          · obtain rfl : j = k := by omega
            have R5 := Lib.hid (R4.out.above hab.out)
            clear R4 hab hwr
            go_wp2_with fail
            refine (HLN.out _ hbw.out).mono ?_
            rintro e w6 ⟨v6, er6, zs, rfl, hrow6, hfs6, her6, hb6⟩
            have HEE : Hid ((er3 = .nilIface ∧ er6 = .nilIface) ∨ ∃ t3 v3 t6 v6, er3 = .iface t3 v3 ∧ er6 = .iface t6 v6) := by
              by_cases h0 : x = 0
              · have ha := (HIS.out.zero h0).1
                exact .inl ⟨by rw [EY.out.1 (by rw [ha]; decide), h0, codeV_zero], by rw [her6.1 (by rw [ha]; decide), h0, codeV_zero]⟩
              · obtain ⟨t3, v3, e3⟩ := EY.out.iface h0
                obtain ⟨t6, v6, e6⟩ := her6.iface h0
                exact .inr ⟨t3, v3, t6, v6, e3, e6⟩
            have q1 := fun W => Try.eqNilNil W
            have q2 := fun t v W => Try.eqIfNil t v W
            obtain ⟨ya, ycap, rfl, hyl⟩ := (R5.out.below hb6).llies
            obtain ⟨za, zcap, rfl, hzl⟩ := hrow6.llies
            rw [FY.out] at hyl
            rw [hfs6] at hzl
            have hyn : L.length = ys.length := by rw [← FY.out, lforms_len]
            have hzn : L.length = zs.length := by rw [← hfs6, lforms_len]
            obtain ⟨hL8, hLs⟩ := HIS.out.small
            have HSM := Lib.hid (fun W (hb : Below w6.heap.size w6 W) => rsames_any ya ys.length ycap L za zs.length zcap L W hyn hzn (by omega) (by omega) ((hyl.below hb).mono hb.size) (fun i hi => hLs i (by omega)) ((hzl.below hb).mono hb.size) (fun i hi => hLs i (by omega)))
            rw [decide_eq_true rfl] at HSM
            have B6 := Lib.hid (hbw.out.trans (hb6.mono hbw.out.size))
            have cS := fun p os => Calls.regrown_of (HSM.out _ (regrown_trans (Below.refl w6.heap.size w6) (Nat.le_refl _) p os))
            have e3 : ∀ (z : Bool) (W : World), (binOp .eql 4 (.bool z) (.bool z)).run Try.prog W = .ok (.bool true) W := fun z W => by simp [go_sem]
            clear hyl hzl hyn hzn hrow6 hfs6 her6 hb6 HIS HLN EY R5 FY HWO hbw
            rcases HEE.out with ⟨rfl, rfl⟩ | ⟨t3, v3, t6, v6, rfl, rfl⟩
            · go_wp2_with fail
              refine wp_region_quiet_below (by kernel_rfl) (by kernel_rfl) ?_
              repeat (go_big_quiet_step (with_reducible exact cS _ _))
              refine wpQuiet_nil ?_
              intro _ hw'
              obtain ⟨⟨dq, osq⟩, hw''⟩ := hw'
              subst hw''
              go_wp2_with fail
              go_ret
              exact ⟨rfl, regrown_trans B6.out B6.out.size dq osq⟩
            · go_wp2_with fail
              refine wp_region_quiet_below (by kernel_rfl) (by kernel_rfl) ?_
              repeat (go_big_quiet_step (with_reducible exact cS _ _))
              refine wpQuiet_nil ?_
              intro _ hw'
              obtain ⟨⟨dq, osq⟩, hw''⟩ := hw'
              subst hw''
              go_wp2_with fail
              go_ret
              exact ⟨rfl, regrown_trans B6.out B6.out.size dq osq⟩
end Go.Proofs.Ytmjhjacbhflcpaa
