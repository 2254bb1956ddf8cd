/- The document's reader: a reply. -/
import Derived.Test.YtgaipfkblfommaaPakZs
import Derived.Test.YtgaipfkblfommaaPakUc
import Derived.Deep.RegionLaw
set_option linter.unusedVariables false
set_option linter.unusedSimpArgs false
namespace Go.Proofs.Ytgaipfkblfommaa
set_option maxRecDepth 100000
open Go.RowKit

theorem step_append_run {P : Program} {ops : Array Oper} {o : Oper} {a : Act} {w : World} {K : Act → World → Prop} {Q : Exit → Act → World → Prop} {E : Prop}
    (hg : o.guard = none) (s x : Operand) (t : TypeId) (hop : o.op = Op.call { callee := Callee.builtin Builtin.append, args := #[s, x], argTypes := #[t, t] })
    (v1 v2 v' : Value) (w' : World) (h1 : a.eval s = v1) (h2 : a.eval x = v2) (hr : ∀ ty, (Builtin.append_ #[t, t] ty #[v1, v2]).run P w = .ok v' w') (hK : K (a.put o.dst v') w') :
    if Region.wanted o (yielded ops a.tmps) = true then Oper.wp P o a w K Q else E := by
  have hw : Region.wanted o (yielded ops a.tmps) = true := by simp [Region.wanted, hg]
  rw [if_pos hw]
  unfold Oper.wp
  simp [execOp, hop, resolve, invoke, builtin, h1, h2, hr, Result.andThen]
  exact hK
theorem DRt.drew {g : Nat} {l : List UInt8} {st : Option (List UInt8)} {w : World} (h : DRt g l st w) : DRt g l st w.drew := h.below ((Below.refl _ w).drew)
theorem KeptH.drew {g h : Nat} {a b : World} (k : KeptH g h a b) : KeptH g h a b.drew := ⟨k.os, k.tape, k.output, k.size, k.block⟩
theorem Dc.drew {T : Type} {sh : Sh T} {e : TypeId} {p : Ps T} {g h j : Nat} {l : List UInt8} {w : World} {o : Option (Nat × List UInt8)} {n k : Nat} {xs : List T} {sk : Option (List UInt8)} {u : Value} {wr : World} (H : Dc sh e p g l h j w o n k xs sk u wr) : Dc sh e p g l h j w o n k xs sk u wr.drew :=
  ⟨H.rs.drew, H.own.below ((Below.refl _ wr).drew), H.cell, H.fr, H.oth, H.kept.drew, H.lp, H.lt, H.ne⟩
/-- The answer's cells, the reader behind them. -/
structure Rb (r : Nat) (w : World) : Prop where
  c0 : ∃ z, w.cell? ⟨r, 0, none⟩ = some z
  c1 : ∃ z, w.cell? ⟨r, 1, none⟩ = some z
  c2 : ∃ z, w.cell? ⟨r, 2, none⟩ = some z
  fr : ∀ j, w.frozen? ⟨r, j, none⟩ = false
  lt : r < w.heap.size
theorem Rb.kept {g r : Nat} {w w' : World} (h : Rb r w) (k : KeptG g w w') (hr : r ≠ g) : Rb r w' := by
  obtain ⟨z0, h0⟩ := h.c0
  obtain ⟨z1, h1⟩ := h.c1
  obtain ⟨z2, h2⟩ := h.c2
  exact ⟨⟨z0, (k.cell h.lt hr 0).trans h0⟩, ⟨z1, (k.cell h.lt hr 1).trans h1⟩, ⟨z2, (k.cell h.lt hr 2).trans h2⟩, fun j => (k.frozen h.lt hr j).trans (h.fr j), Nat.lt_of_lt_of_le h.lt k.size⟩
def set3 (w : World) (r : Nat) (a b c : Value) : World := ((w.setCell ⟨r, 0, none⟩ a).setCell ⟨r, 1, none⟩ b).setCell ⟨r, 2, none⟩ c
theorem far3 (w : World) (r : Nat) (a b c : Value) : Far r w (((w.setCell ⟨r, 0, none⟩ a).setCell ⟨r, 1, none⟩ b).setCell ⟨r, 2, none⟩ c) := (((Far.refl _ _).set _).set _).set _
theorem bare_end {g : Nat} {l : List UInt8} {st : Option (List UInt8)} {w V : World} (hst : DRt g l (nxt pReply st) V) (hx : ∀ y r, st.bind pReply = some (y, r) → y = ⟨false, [], []⟩) (hk : KeptG g w V) (hg : g < w.heap.size) (a b c : Value) (o : Obj) :
    DEnd (Va replySh) pReply g l st w (.returned (.agg #[.bool false, .slice none 0 0, .slice none 0 0])) ((((V.setCell ⟨w.heap.size, 0, none⟩ a).setCell ⟨w.heap.size, 1, none⟩ b).setCell ⟨w.heap.size, 2, none⟩ c).alloc o) := by
  have FR := far3 V w.heap.size a b c
  have HB : Below (((V.setCell ⟨w.heap.size, 0, none⟩ a).setCell ⟨w.heap.size, 1, none⟩ b).setCell ⟨w.heap.size, 2, none⟩ c).heap.size (((V.setCell ⟨w.heap.size, 0, none⟩ a).setCell ⟨w.heap.size, 1, none⟩ b).setCell ⟨w.heap.size, 2, none⟩ c) ((((V.setCell ⟨w.heap.size, 0, none⟩ a).setCell ⟨w.heap.size, 1, none⟩ b).setCell ⟨w.heap.size, 2, none⟩ c).alloc o) := (Below.refl _ _).alloc (Nat.le_refl _) _
  exact ⟨_, ⟨false, [], []⟩, rfl, ⟨[.bool false, .slice none 0 0, .slice none 0 0], rfl, _, _, rfl, ⟨none, 0, rfl, Sits.nil _ _ _ _⟩, ⟨none, 0, rfl, Sits.nil _ _ _ _⟩⟩, (hst.low (FR.below (B := w.heap.size) (Nat.le_refl _)) hg).below HB, fun y r e => (hx y r e).symm, (hk.far FR (Nat.le_refl _)).trans (KeptG.of_below HB)⟩
theorem bare_res {V : World} {r : Nat} (a b c : Value) (o : Obj) (h : Rb r V) : ((((V.setCell ⟨r, 0, none⟩ a).setCell ⟨r, 1, none⟩ b).setCell ⟨r, 2, none⟩ c).alloc o).cell? ⟨r, 0, none⟩ = some a ∧ ((((V.setCell ⟨r, 0, none⟩ a).setCell ⟨r, 1, none⟩ b).setCell ⟨r, 2, none⟩ c).alloc o).cell? ⟨r, 1, none⟩ = some b ∧ ((((V.setCell ⟨r, 0, none⟩ a).setCell ⟨r, 1, none⟩ b).setCell ⟨r, 2, none⟩ c).alloc o).cell? ⟨r, 2, none⟩ = some c := by
  obtain ⟨z0, h0⟩ := h.c0
  obtain ⟨z1, h1⟩ := h.c1
  obtain ⟨z2, h2⟩ := h.c2
  obtain ⟨k0, k1, k2⟩ := res3 a b c h0 h1 h2
  have FR := far3 V r a b c
  have HB : Below (((V.setCell ⟨r, 0, none⟩ a).setCell ⟨r, 1, none⟩ b).setCell ⟨r, 2, none⟩ c).heap.size (((V.setCell ⟨r, 0, none⟩ a).setCell ⟨r, 1, none⟩ b).setCell ⟨r, 2, none⟩ c) ((((V.setCell ⟨r, 0, none⟩ a).setCell ⟨r, 1, none⟩ b).setCell ⟨r, 2, none⟩ c).alloc o) := (Below.refl _ _).alloc (Nat.le_refl _) _
  have hl : r < (((V.setCell ⟨r, 0, none⟩ a).setCell ⟨r, 1, none⟩ b).setCell ⟨r, 2, none⟩ c).heap.size := by rw [FR.size]; exact h.lt
  exact ⟨(HB.cell (p := ⟨r, 0, none⟩) hl).trans k0, (HB.cell (p := ⟨r, 1, none⟩) hl).trans k1, (HB.cell (p := ⟨r, 2, none⟩) hl).trans k2⟩
theorem full_end {g : Nat} {l : List UInt8} {st sk : Option (List UInt8)} {w V : World} {ls : List Lem} {cs : List (List Int)} {u1 u2 : Value} (hst : DRt g l sk V) (hn : nxt pReply st = sk) (hx : ∀ y r, st.bind pReply = some (y, r) → y = ⟨true, ls, cs⟩) (hk : KeptG g w V) (hg : g < w.heap.size) (B : Nat) (hB : w.heap.size < B) (h1 : Slot lemSh (fun b => B ≤ b ∧ b < V.heap.size) V u1 ls) (h2 : Slot clauseSh (fun b => B ≤ b ∧ b < V.heap.size) V u2 cs) (a b c : Value) :
    DEnd (Va replySh) pReply g l st w (.returned (.agg #[.bool true, u1, u2])) (((V.setCell ⟨w.heap.size, 0, none⟩ a).setCell ⟨w.heap.size, 1, none⟩ b).setCell ⟨w.heap.size, 2, none⟩ c) := by
  have FR := far3 V w.heap.size a b c
  have hs := FR.size
  exact ⟨_, ⟨true, ls, cs⟩, rfl, ⟨[.bool true, u1, u2], rfl, _, _, rfl, h1.far FR (fun b ⟨b1, b2⟩ => ⟨by omega, by omega⟩) (fun b ⟨b1, b2⟩ => by omega), h2.far FR (fun b ⟨b1, b2⟩ => ⟨by omega, by omega⟩) (fun b ⟨b1, b2⟩ => by omega)⟩, by rw [hn]; exact hst.low (FR.below (B := w.heap.size) (Nat.le_refl _)) hg, fun y r e => (hx y r e).symm, hk.far FR (Nat.le_refl _)⟩
set_option maxHeartbeats 16000000 in
theorem dreply_any (g : Nat) (l : List UInt8) (st : Option (List UInt8)) (w : World) (h : DRt g l st w) :
    Calls Try.prog 26 #[.pointer (some ⟨g, 0, none⟩)] w (DEnd (Va replySh) pReply g l st w) := by
  have HA : Hid (Below w.heap.size w (w.alloc (.cells #[.bool false, .slice none 0 0, .slice none 0 0] 50))) := (Below.refl _ _).alloc (Nat.le_refl _) _
  have hgw := h.lt
  have hne : w.heap.size ≠ g := by omega
  have HRB0 : Hid (Rb w.heap.size (w.alloc (.cells #[.bool false, .slice none 0 0, .slice none 0 0] 50))) := Lib.hid ⟨⟨_, (cell_of_row _ w.heap.size 0 _ _ _ (heap_alloc_new w _)).trans rfl⟩, ⟨_, (cell_of_row _ w.heap.size 1 _ _ _ (heap_alloc_new w _)).trans rfl⟩, ⟨_, (cell_of_row _ w.heap.size 2 _ _ _ (heap_alloc_new w _)).trans rfl⟩, fun j => frozen_new w _ _ j, by simp⟩
  have HN := Lib.hid (one_any g l st (w.alloc (.cells #[.bool false, .slice none 0 0, .slice none 0 0] 50)) (h.below HA.out))
  clear h
  go_enter Try.func26, Try.ntmps26
  go_wp2_with fail
  refine HN.out.mono ?_
  rintro e w1 ⟨v1, x1, rfl, rfl, hst1, hx1, hk1⟩
  have HX1 := Lib.hid hx1
  have HK1 : Hid (KeptG g w w1) := Lib.hid ((KeptG.of_below HA.out).trans hk1)
  have HR1 : Hid (Rb w.heap.size w1) := Lib.hid (HRB0.out.kept hk1 hne)
  have hg1 : g < w1.heap.size := hst1.lt
  have hneo : w1.heap.size ≠ g := by omega
  have hw1 : w.heap.size < w1.heap.size := HR1.out.lt
  have HST1 := Lib.hid hst1
  obtain ⟨f2, ff2⟩ := hst1.flag
  obtain ⟨xb, hxb⟩ : ∃ xb, x1.toNat = xb := ⟨_, rfl⟩
  rw [hxb]
  clear HRB0 HA HN hst1 hx1 hk1
  by_cases hgt : (1 : Int) < (xb : Int)
  · have hb1 : ((xb : Int) == 1) = false := by simp; omega
    have hb3 : ((xb : Int) != 1) = true := by simp; omega
    have hb2 : ¬ ((xb : Int) = 1) := by omega
    have HKV : Hid (KeptG g w1 (w1.setCell ⟨g, 2, none⟩ (.bool true))) := Lib.hid KeptG.set
    have hnone : st.bind pReply = none := reply_else HX1.out (by rw [hxb]; omega) (by rw [hxb]; omega)
    have HSV : Hid (DRt g l (nxt pReply st) (w1.setCell ⟨g, 2, none⟩ (.bool true)) ∧ ∀ y r, st.bind pReply = some (y, r) → y = ⟨false, [], []⟩) := Lib.hid ⟨by
      unfold nxt
      rw [hnone]
      have hh := HST1.out
      cases hs : nxt pTake st with
      | none => rw [hs] at hh; obtain ⟨k, hh⟩ := hh; exact hh.fail
      | some r => rw [hs] at hh; obtain ⟨k, _, hh⟩ := hh; exact hh.fail, fun y r e => by rw [hnone] at e; cases e⟩
    clear hnone HST1
    have HE := Lib.hid (bare_end (l := l) (st := st) (w := w) HSV.out.1 HSV.out.2 (HK1.out.trans HKV.out) hgw (.bool false) (.slice none 0 0) (.slice none 0 0) (.cells #[.bool false, .slice none 0 0, .slice none 0 0] 50))
    have HKK := Lib.hid (bare_res (.bool false) (.slice none 0 0) (.slice none 0 0) (.cells #[.bool false, .slice none 0 0, .slice none 0 0] 50) (HR1.out.kept HKV.out hne))
    obtain ⟨z0, q0⟩ := HR1.out.c0
    obtain ⟨z1, q1⟩ := HR1.out.c1
    obtain ⟨z2, q2⟩ := HR1.out.c2
    have qf0 := HR1.out.fr 0
    have qf1 := HR1.out.fr 1
    have qf2 := HR1.out.fr 2
    clear HSV HX1 HK1 HR1 HKV
    go_wp2_with fail
    refine bodyPost_ret (v := .agg #[.bool false, .slice none 0 0, .slice none 0 0]) ?_ rfl HE.out
    obtain ⟨k0, k1, k2⟩ := HKK.out
    simp [results, Try.results26, go_sem, k0, k1, k2]
  · by_cases hb1' : xb = 1
    · have hb1 : ((xb : Int) == 1) = true := by rw [hb1']; rfl
      have hb3 : ((xb : Int) != 1) = false := by rw [hb1']; rfl
      have hb2 : ((xb : Int) = 1) := by omega
      have HRO := Lib.hid (reply_one HX1.out (by rw [hxb]; exact hb1'))
      have HB : Hid (Below w1.heap.size w1 (w1.alloc (.cells #[.bool true, .slice none 0 0, .slice none 0 0] 50))) := (Below.refl _ _).alloc (Nat.le_refl _) _
      have z0 := cell_of_row (w1.alloc (.cells #[.bool true, .slice none 0 0, .slice none 0 0] 50)) w1.heap.size 0 _ _ _ (heap_alloc_new w1 _)
      have z1 := cell_of_row (w1.alloc (.cells #[.bool true, .slice none 0 0, .slice none 0 0] 50)) w1.heap.size 1 _ _ _ (heap_alloc_new w1 _)
      have z2 := cell_of_row (w1.alloc (.cells #[.bool true, .slice none 0 0, .slice none 0 0] 50)) w1.heap.size 2 _ _ _ (heap_alloc_new w1 _)
      have zf := fun j => frozen_new w1 #[.bool true, .slice none 0 0, .slice none 0 0] 50 j
      have hsz : (w1.alloc (.cells #[.bool true, .slice none 0 0, .slice none 0 0] 50)).heap.size = w1.heap.size + 1 := by simp
      have HM2 := Lib.hid (many_any g l _ _ (HST1.out.below HB.out))
      have HZ := Lib.hid (And.intro z0 (And.intro z1 (And.intro z2 (And.intro zf hsz))))
      clear z0 z1 z2 zf hsz HST1 HX1 f2 ff2
      go_wp2_with fail
      refine HM2.out.mono ?_
      rintro e w2 ⟨m1, at2, bad2, rfl, hdr2, hle2, hk2, hbeh2⟩
      obtain ⟨z0, z1, z2, zf, hsz⟩ := HZ.out
      have hmb1 : m1 ≤ 4194304 := by have := hdr2.len; omega
      have hs2 := hk2.size
      have HSA : Hid (w1.heap.size < w2.heap.size ∧ w.heap.size < w1.heap.size) := Lib.hid ⟨by omega, hw1⟩
      have HK2 : Hid (KeptG g w1 w2) := Lib.hid ((KeptG.of_below HB.out).trans hk2)
      have y0 := (hk2.cell (h := w1.heap.size) (by omega) hneo 0).trans (z0.trans rfl)
      have y2 := (hk2.cell (h := w1.heap.size) (by omega) hneo 2).trans (z2.trans rfl)
      have HO2 : Hid (w2.cell? ⟨w1.heap.size, 0, none⟩ = some (.bool true) ∧ w2.cell? ⟨w1.heap.size, 2, none⟩ = some (.slice none 0 0)) := Lib.hid ⟨y0, y2⟩
      obtain ⟨st1, hst1⟩ : ∃ st1, st1 = nxt pTake st := ⟨_, rfl⟩
      rw [← hst1] at hbeh2 HRO
      have HDC : Hid (Dc lemSh 77 pLem g l w1.heap.size 1 w2 (st1.bind pMany) m1 0 [] ((st1.bind pMany).map Prod.snd) (.slice none 0 0) w2) := Lib.hid ⟨hdr2.of_beh hbeh2, Own.nil _ _ _ _, (hk2.cell (h := w1.heap.size) (by omega) hneo 1).trans (z1.trans rfl), fun j => (hk2.frozen (h := w1.heap.size) (by omega) hneo j).trans (zf j), fun _ _ => rfl, KeptH.refl _ _ _, Lp.start pLem hbeh2, HSA.out.1, hg1⟩
      clear hdr2 hle2 hk2 hbeh2 z0 z1 z2 zf hsz hs2 HZ HB HM2 y0 y2 hst1
      go_wp2_with fail
      go_loopw [6] (fun i wr => ∃ (j : Nat) (ls : List Lem) (sk1 : Option (List UInt8)) (u1 : Value), i = .int .i64 j ∧ j ≤ m1 ∧ Hid (Dc lemSh 77 pLem g l w1.heap.size 1 w2 (st1.bind pMany) m1 j ls sk1 u1 wr)) (fun i _ => m1 - (intOf i).toNat)
      case atStart => exact ⟨0, [], _, _, rfl, Nat.zero_le _, HDC⟩
      case round =>
        clear HDC
        rename World => w3
        obtain ⟨j1, ls, sk1, u1, rfl, hj1, HI1⟩ := hrel
        by_cases hltj1 : j1 < m1
        · have hltj1i : (j1 : Int) < (m1 : Int) := by omega
          have g2 := HI1.out.rs.flag.1
          cases hsk1 : sk1 with
          | none =>
            rw [hsk1] at g2
            have hf1 : j1 = m1 ∨ sk1 = none := .inr hsk1
            clear hsk1
            -- behind the lemmas
            have hs13 := HI1.out.kept.size
            have HSL1a := Lib.hid (HI1.out.slot hmb1)
            have HN1 := Lib.hid (HI1.out.lp.nxt hf1)
            have hk3 : KeptG g w1 w3 := KeptH.to HK2.out HI1.out.kept (Nat.le_refl _)
            have p0 := (HI1.out.oth 0 (by decide)).trans HO2.out.1
            have p2 := (HI1.out.oth 2 (by decide)).trans HO2.out.2
            have p1 := HI1.out.cell
            have pf := HI1.out.fr
            have hlo3 : w1.heap.size < w3.heap.size := by have := HSA.out; omega
            have HM4 := Lib.hid (many_any g l _ w3 HI1.out.rs)
            have HP3 := Lib.hid (And.intro p0 (And.intro p1 (And.intro p2 (And.intro pf (And.intro hlo3 (And.intro hk3 hs13))))))
            clear HI1 p0 p1 p2 pf hlo3 hk3 hs13
            go_wp2_with fail
            refine HM4.out.mono ?_
            rintro e w4 ⟨m2, at4, bad4, rfl, hdr4, hle4, hk4, hbeh4⟩
            obtain ⟨p0, p1, p2, pf, hlo3, hk3, hs13⟩ := HP3.out
            have hmb2 : m2 ≤ 4194304 := by have := hdr4.len; omega
            have hs4 := hk4.size
            have HSZ : Hid (w.heap.size < w2.heap.size ∧ w1.heap.size < w2.heap.size ∧ g < w1.heap.size ∧ w2.heap.size ≤ w4.heap.size ∧ w2.heap.size ≤ w3.heap.size) := Lib.hid ⟨by have := HSA.out; omega, HSA.out.1, hg1, by omega, hs13⟩
            have HO4 : Hid (w4.cell? ⟨w1.heap.size, 0, none⟩ = some (.bool true) ∧ w4.cell? ⟨w1.heap.size, 1, none⟩ = some u1 ∧ True) := Lib.hid ⟨(hk4.cell hlo3 hneo 0).trans p0, (hk4.cell hlo3 hneo 1).trans p1, trivial⟩
            have HK4 : Hid (KeptG g w1 w4) := Lib.hid (hk3.trans hk4)
            have HSL1 : Hid (Slot lemSh (fun b => w2.heap.size ≤ b ∧ b < w4.heap.size) w4 u1 ls) := Lib.hid (HSL1a.out.keep (fun b ⟨a1, a2⟩ => ⟨a1, Nat.lt_of_lt_of_le a2 hs4⟩) (fun b o ⟨a1, a2⟩ => World.cell?_of_block (hk4.block b a2 (by have := HSZ.out; omega))))
            have HDC : Hid (Dc clauseSh 74 pClause g l w1.heap.size 2 w4 (sk1.bind pMany) m2 0 [] ((sk1.bind pMany).map Prod.snd) (.slice none 0 0) w4) := Lib.hid ⟨hdr4.of_beh hbeh4, Own.nil _ _ _ _, (hk4.cell hlo3 hneo 2).trans p2, fun j => (hk4.frozen hlo3 hneo j).trans (pf j), fun _ _ => rfl, KeptH.refl _ _ _, Lp.start pClause hbeh4, by omega, hg1⟩
            clear hdr4 hle4 hk4 hbeh4 p0 p1 p2 pf hlo3 hk3 hs13 hs4 HP3 HM4 HSL1a HO2 HK2
            go_wp2_with fail
            go_loopw [8] (fun i wr => ∃ (j : Nat) (rs : List (List Int)) (si : Option (List UInt8)) (u2 : Value), i = .int .i64 j ∧ j ≤ m2 ∧ Hid (Dc clauseSh 74 pClause g l w1.heap.size 2 w4 (sk1.bind pMany) m2 j rs si u2 wr)) (fun i _ => m2 - (intOf i).toNat)
            case atStart => exact ⟨0, [], _, _, rfl, Nat.zero_le _, HDC⟩
            case round =>
              clear HDC
              rename World => w5
              obtain ⟨j2, rs, si2, u2, rfl, hj2, HI2⟩ := hrel
              by_cases hltj : j2 < m2
              · have hltji : (j2 : Int) < (m2 : Int) := by omega
                have g2 := HI2.out.rs.flag.1
                cases si2 with
                | none =>
                  have HSL2 := HI2.out.slot hmb2
                  obtain ⟨n1, n2⟩ := HI2.out.lp.nxt (.inr rfl)
                  have hk5 : KeptG g w1 w5 := KeptH.to HK4.out HI2.out.kept (Nat.le_refl _)
                  have o0 := (HI2.out.oth 0 (by decide)).trans HO4.out.1
                  have o1 := (HI2.out.oth 1 (by decide)).trans HO4.out.2.1
                  have o2 := HI2.out.cell
                  have hsl1 : Slot lemSh (fun b => w2.heap.size ≤ b ∧ b < w5.heap.size) w5 u1 ls := (HSL1.out.keep (S' := fun b => w2.heap.size ≤ b ∧ b < w4.heap.size) (fun b ⟨a1, a2⟩ => ⟨a1, a2⟩) (fun b o _ => rfl)).keep (fun b ⟨a1, a2⟩ => ⟨a1, Nat.lt_of_lt_of_le a2 HI2.out.kept.size⟩) (fun b o ⟨a1, a2⟩ => World.cell?_of_block (HI2.out.kept.block b a2 (by have := HSZ.out; omega) (by have := HSZ.out; omega)))
                  have hsl2 : Slot clauseSh (fun b => w2.heap.size ≤ b ∧ b < w5.heap.size) w5 u2 rs := HSL2.keep (fun b ⟨a1, a2⟩ => ⟨by have := HSZ.out; omega, a2⟩) (fun _ _ _ => rfl)
                  have HE := Lib.hid (full_end (l := l) (st := st) (w := w) HI2.out.rs (by rw [HRO.out.1]; show nxt (pSeq (pEach pLem) (pEach pClause) Prod.mk) _ = _; rw [seq_nxt, HN1.out.1]; exact n1) (fun y r e => by
                      obtain ⟨c, e1, e2⟩ := HRO.out.2 y r e
                      have e3 := seq_end (p1 := pEach pLem) (p2 := pEach pClause) (f := Prod.mk) HN1.out.2 (by rw [HN1.out.1]; exact n2) c r e1
                      rw [e2, ← e3]) (HK1.out.trans hk5) hgw w2.heap.size (by have := HSZ.out; omega) hsl1 hsl2 (.bool true) u1 u2)
                  have HRB := HR1.out.kept hk5 hne
                  obtain ⟨z0, q0⟩ := HRB.c0
                  obtain ⟨z1, q1⟩ := HRB.c1
                  obtain ⟨z2, q2⟩ := HRB.c2
                  have qf0 := HRB.fr 0
                  have qf1 := HRB.fr 1
                  have qf2 := HRB.fr 2
                  obtain ⟨k0, k1, k2⟩ := res3 (.bool true) u1 u2 q0 q1 q2
                  obtain ⟨a1, c1, rfl, _⟩ := hsl1
                  obtain ⟨a2, c2, rfl, _⟩ := hsl2
                  clear hk5 HSL2 HRB HI2 HSL1 HN1 HRO HK4 HO4 HK1
                  go_wp2_with fail
                  refine bodyPost_ret (v := .agg #[.bool true, .slice a1 ls.length c1, .slice a2 rs.length c2]) ?_ rfl HE.out
                  clear q0 q1 q2 qf0 qf1 qf2 HE o0 o1 o2
                  simp [results, Try.results26, go_sem, k0, k1, k2]
                | some r2 =>
                  obtain ⟨ai, capi, rfl, _⟩ := HI2.out.slot hmb2
                  have HID := Lib.hid HI2.out.drew
                  have HC := Lib.hid (dclause_any g l (some r2) w5.drew HID.out.rs)
                  have c2 := HI2.out.cell
                  clear HI2
                  go_wp2_with fail
                  go_region_law (first
                    | (refine step_append_run (by rfl) _ _ _ (by rfl) _ _ (.slice av rs'.length cv) w6 (by rfl) (by rfl) hr6 ?_)
                    | (go_simp
                       go_at_call 43
                       refine HC.out.mono ?_
                       rintro e w7 ⟨v7, y7, rfl, ⟨a7, c7, rfl, hs7⟩, hst7, hx7, hk7⟩
                       obtain ⟨v6, w6, hr6, s5, s6, sf6, hd6⟩ := HID.out.step (P := Try.prog) (t := 46) Try.underlying46 Try.eachClauseInfo (by decide) (by decide) hltj hmb2 hst7 hx7 hk7 (cs := [.slice a7 y7.length c7]) ⟨_, rfl, a7, c7, rfl, hs7⟩
                       have s5a : (w7.alloc (.cells #[.slice a7 y7.length c7] 74)).cell? ⟨w1.heap.size, 2, none⟩ = some (.slice ai rs.length capi) := (((Below.refl _ w7).alloc (Nat.le_refl _) _).cell (p := ⟨w1.heap.size, 2, none⟩) (by show w1.heap.size < w7.heap.size; have := hk7.size; have := HID.out.lt; have := HID.out.kept.size; omega)).trans s5
                       generalize hrs : rs ++ [y7] = rs' at hd6
                       obtain ⟨av, cv, hv6, _⟩ := hd6.slot hmb2
                       subst hv6
                       have HEG := Lib.hid hd6
                       clear hs7 hst7 hx7 hk7 hd6))
                  all_goals
                    clear c2 s5 s5a hr6 HC HID
                    go_wp2_with fail
                    go_roundw
                    case rel => exact ⟨j2 + 1, _, _, _, by go_num, by omega, HEG⟩
                    case measure => simp [intOf]; omega
              · have hltji : ¬ (j2 : Int) < (m2 : Int) := by omega
                obtain rfl : j2 = m2 := by omega
                have HSL2 := HI2.out.slot hmb2
                obtain ⟨n1, n2⟩ := HI2.out.lp.nxt (.inl rfl)
                have hk5 : KeptG g w1 w5 := KeptH.to HK4.out HI2.out.kept (Nat.le_refl _)
                have o0 := (HI2.out.oth 0 (by decide)).trans HO4.out.1
                have o1 := (HI2.out.oth 1 (by decide)).trans HO4.out.2.1
                have o2 := HI2.out.cell
                have hsl1 : Slot lemSh (fun b => w2.heap.size ≤ b ∧ b < w5.heap.size) w5 u1 ls := (HSL1.out.keep (S' := fun b => w2.heap.size ≤ b ∧ b < w4.heap.size) (fun b ⟨a1, a2⟩ => ⟨a1, a2⟩) (fun b o _ => rfl)).keep (fun b ⟨a1, a2⟩ => ⟨a1, Nat.lt_of_lt_of_le a2 HI2.out.kept.size⟩) (fun b o ⟨a1, a2⟩ => World.cell?_of_block (HI2.out.kept.block b a2 (by have := HSZ.out; omega) (by have := HSZ.out; omega)))
                have hsl2 : Slot clauseSh (fun b => w2.heap.size ≤ b ∧ b < w5.heap.size) w5 u2 rs := HSL2.keep (fun b ⟨a1, a2⟩ => ⟨by have := HSZ.out; omega, a2⟩) (fun _ _ _ => rfl)
                have HE := Lib.hid (full_end (l := l) (st := st) (w := w) HI2.out.rs (by rw [HRO.out.1]; show nxt (pSeq (pEach pLem) (pEach pClause) Prod.mk) _ = _; rw [seq_nxt, HN1.out.1]; exact n1) (fun y r e => by
                    obtain ⟨c, e1, e2⟩ := HRO.out.2 y r e
                    have e3 := seq_end (p1 := pEach pLem) (p2 := pEach pClause) (f := Prod.mk) HN1.out.2 (by rw [HN1.out.1]; exact n2) c r e1
                    rw [e2, ← e3]) (HK1.out.trans hk5) hgw w2.heap.size (by have := HSZ.out; omega) hsl1 hsl2 (.bool true) u1 u2)
                have HRB := HR1.out.kept hk5 hne
                obtain ⟨z0, q0⟩ := HRB.c0
                obtain ⟨z1, q1⟩ := HRB.c1
                obtain ⟨z2, q2⟩ := HRB.c2
                have qf0 := HRB.fr 0
                have qf1 := HRB.fr 1
                have qf2 := HRB.fr 2
                obtain ⟨k0, k1, k2⟩ := res3 (.bool true) u1 u2 q0 q1 q2
                obtain ⟨a1, c1, rfl, _⟩ := hsl1
                obtain ⟨a2, c2, rfl, _⟩ := hsl2
                clear hk5 HSL2 HRB HI2 HSL1 HN1 HRO HK4 HO4 HK1
                go_wp2_with fail
                refine bodyPost_ret (v := .agg #[.bool true, .slice a1 ls.length c1, .slice a2 rs.length c2]) ?_ rfl HE.out
                clear q0 q1 q2 qf0 qf1 qf2 HE o0 o1 o2
                simp [results, Try.results26, go_sem, k0, k1, k2]
          | some r1 =>
            subst hsk1
            obtain ⟨ai, capi, rfl, _⟩ := HI1.out.slot hmb1
            have HA3 : Hid (Below w3.heap.size w3 (w3.alloc (.cells #[.slice none 0 0, .slice none 0 0] 77))) := (Below.refl _ _).alloc (Nat.le_refl _) _
            have hgw3 := HI1.out.rs.lt
            have hne3 : w3.heap.size ≠ g := by omega
            have y0 := cell_of_row (w3.alloc (.cells #[.slice none 0 0, .slice none 0 0] 77)) w3.heap.size 0 _ _ _ (heap_alloc_new w3 _)
            have y1 := cell_of_row (w3.alloc (.cells #[.slice none 0 0, .slice none 0 0] 77)) w3.heap.size 1 _ _ _ (heap_alloc_new w3 _)
            have yf := fun j => frozen_new w3 #[.slice none 0 0, .slice none 0 0] 77 j
            have ysz : (w3.alloc (.cells #[.slice none 0 0, .slice none 0 0] 77)).heap.size = w3.heap.size + 1 := by simp
            have HN := Lib.hid (dclause_any g l (some r1) _ (HI1.out.rs.below HA3.out))
            have HY := Lib.hid (And.intro y0 (And.intro y1 (And.intro yf ysz)))
            clear y0 y1 yf ysz
            go_wp2_with fail
            refine HN.out.mono ?_
            rintro e w4 ⟨v4, x1, rfl, ⟨a4, c4, rfl, hs4⟩, hst4, hx4, hk4⟩
            obtain ⟨y0, y1, yf, ysz⟩ := HY.out
            have hsz4 := hk4.size
            have q0 := (hk4.cell (h := w3.heap.size) (by omega) hne3 0).trans (y0.trans rfl)
            have q1 := (hk4.cell (h := w3.heap.size) (by omega) hne3 1).trans (y1.trans rfl)
            have qf0 := (hk4.frozen (h := w3.heap.size) (by omega) hne3 0).trans (yf 0)
            have qf1 := (hk4.frozen (h := w3.heap.size) (by omega) hne3 1).trans (yf 1)
            have FR4 : Far w3.heap.size w4 (w4.setCell ⟨w3.heap.size, 0, none⟩ (.slice a4 x1.length c4)) := (Far.refl _ _).set _
            have hst4' := hst4.low (FR4.below (B := w3.heap.size) (Nat.le_refl _)) hgw3
            have HN2 := Lib.hid (dsteps_any g l _ _ hst4')
            have HX4 := Lib.hid hx4
            have p0 : (w4.setCell ⟨w3.heap.size, 0, none⟩ (.slice a4 x1.length c4)).cell? ⟨w3.heap.size, 0, none⟩ = some (.slice a4 x1.length c4) := World.cell?_setCell_same' _ _ _ (by rw [q0]; rfl)
            have p1 : (w4.setCell ⟨w3.heap.size, 0, none⟩ (.slice a4 x1.length c4)).cell? ⟨w3.heap.size, 1, none⟩ = some (.slice none 0 0) := (World.cell?_setCell_other _ ⟨w3.heap.size, 0, none⟩ ⟨w3.heap.size, 1, none⟩ _ (by simp)).trans q1
            have pf1 : (w4.setCell ⟨w3.heap.size, 0, none⟩ (.slice a4 x1.length c4)).frozen? ⟨w3.heap.size, 1, none⟩ = false := by rw [World.frozen?_setCell]; exact qf1
            have HP := Lib.hid (And.intro p0 (And.intro p1 (And.intro pf1 (show w3.heap.size < (w4.setCell ⟨w3.heap.size, 0, none⟩ (.slice a4 x1.length c4)).heap.size by rw [FR4.size]; omega))))
            have HK4 : Hid (KeptG g w3 (w4.setCell ⟨w3.heap.size, 0, none⟩ (.slice a4 x1.length c4))) := Lib.hid (((KeptG.of_below HA3.out).trans hk4).far FR4 (Nat.le_refl _))
            have HS4 : Hid (Slot intSh (fun b => w3.heap.size < b ∧ b < (w4.setCell ⟨w3.heap.size, 0, none⟩ (.slice a4 x1.length c4)).heap.size) (w4.setCell ⟨w3.heap.size, 0, none⟩ (.slice a4 x1.length c4)) (.slice a4 x1.length c4) x1) := Lib.hid (Slot.far ⟨a4, c4, rfl, hs4⟩ FR4 (fun b ⟨b1, b2⟩ => ⟨by omega, by rw [FR4.size]; exact b2⟩) (fun b ⟨b1, b2⟩ => by omega))
            clear hst4 hx4 hk4 hst4' y0 y1 yf ysz q1 qf1 p0 p1 pf1 FR4 HY HN HA3 hs4 hsz4
            go_wp2_with fail
            generalize w4.setCell ⟨w3.heap.size, 0, none⟩ (.slice a4 x1.length c4) = w5 at *
            clear q0 qf0
            refine HN2.out.mono ?_
            rintro e w7 ⟨v7, x2, rfl, ⟨a7, c7, rfl, hs7⟩, hst7, hx7, hk7⟩
            obtain ⟨p0, p1, pf1, plt⟩ := HP.out
            have hsz7 := hk7.size
            have q0 := (hk7.cell plt hne3 0).trans p0
            have q1 := (hk7.cell plt hne3 1).trans p1
            have qf1 := (hk7.frozen plt hne3 1).trans pf1
            have FR7 : Far w3.heap.size w7 (w7.setCell ⟨w3.heap.size, 1, none⟩ (.slice a7 x2.length c7)) := (Far.refl _ _).set _
            have hf7 := FR7.size
            have e1 : (w7.setCell ⟨w3.heap.size, 1, none⟩ (.slice a7 x2.length c7)).cell? ⟨w3.heap.size, 1, none⟩ = some (.slice a7 x2.length c7) := World.cell?_setCell_same' _ _ _ (by rw [q1]; rfl)
            have e0 : (w7.setCell ⟨w3.heap.size, 1, none⟩ (.slice a7 x2.length c7)).cell? ⟨w3.heap.size, 0, none⟩ = some (.slice a4 x1.length c4) := (World.cell?_setCell_other _ ⟨w3.heap.size, 1, none⟩ ⟨w3.heap.size, 0, none⟩ _ (by simp)).trans q0
            have hs4f : Slot intSh (fun b => w3.heap.size ≤ b ∧ b < (w7.setCell ⟨w3.heap.size, 1, none⟩ (.slice a7 x2.length c7)).heap.size) (w7.setCell ⟨w3.heap.size, 1, none⟩ (.slice a7 x2.length c7)) (.slice a4 x1.length c4) x1 := (HS4.out.keep (S' := fun b => w3.heap.size < b ∧ b < w7.heap.size) (fun b ⟨b1, b2⟩ => ⟨b1, by omega⟩) (fun b o ⟨b1, b2⟩ => World.cell?_of_block (hk7.block b b2 (by omega)))).far FR7 (fun b ⟨b1, b2⟩ => ⟨by omega, by omega⟩) (fun b ⟨b1, b2⟩ => by omega)
            have hs7f : Slot stepSh (fun b => w3.heap.size ≤ b ∧ b < (w7.setCell ⟨w3.heap.size, 1, none⟩ (.slice a7 x2.length c7)).heap.size) (w7.setCell ⟨w3.heap.size, 1, none⟩ (.slice a7 x2.length c7)) (.slice a7 x2.length c7) x2 := Slot.far ⟨a7, c7, rfl, hs7⟩ FR7 (fun b ⟨b1, b2⟩ => ⟨by omega, by omega⟩) (fun b ⟨b1, b2⟩ => by omega)
            obtain ⟨v6, w6, hr6, s5, s6, sf6, hd6⟩ := HI1.out.step (P := Try.prog) (t := 45) Try.underlying45 Try.eachLemInfo (by decide) (by decide) hltj1 hmb1 (w5 := w7.setCell ⟨w3.heap.size, 1, none⟩ (.slice a7 x2.length c7)) (x := ⟨x1, x2⟩) (by
                have e : nxt pLem (some r1) = nxt (pEach pStep) (nxt pClause (some r1)) := seq_nxt pClause (pEach pStep) Lem.mk (some r1)
                rw [e]
                exact hst7.low (FR7.below (B := w3.heap.size) (Nat.le_refl _)) hgw3) (seq_end HX4.out hx7) ((HK4.out.trans hk7).far FR7 (Nat.le_refl _)) (cs := [.slice a4 x1.length c4, .slice a7 x2.length c7]) ⟨_, _, rfl, hs4f, hs7f⟩
            rw [hf7] at hr6
            generalize ls ++ [(⟨x1, x2⟩ : Lem)] = ls' at hd6
            obtain ⟨av, cv, rfl, _⟩ := hd6.slot hmb1
            have HEG := Lib.hid hd6
            clear hst7 hx7 hk7 HI1 hd6 FR7 p0 p1 pf1 q0 HN2 HX4 HK4 HP hs7 hs4f hs7f HS4 hsz7
            go_wp2_with (at_builtin; refine Lib.wpList_append_run _ rfl _ _ _ _ rfl _ _ rfl rfl _ _ (hr6 _) ?_)
            go_roundw
            case rel => exact ⟨j1 + 1, _, _, _, by go_num, by omega, HEG⟩
            case measure => simp [intOf]; omega
        · have hltj1i : ¬ (j1 : Int) < (m1 : Int) := by omega
          obtain rfl : j1 = m1 := by omega
          have hf1 : j1 = j1 ∨ sk1 = none := .inl rfl
          -- behind the lemmas
          have hs13 := HI1.out.kept.size
          have HSL1a := Lib.hid (HI1.out.slot hmb1)
          have HN1 := Lib.hid (HI1.out.lp.nxt hf1)
          have hk3 : KeptG g w1 w3 := KeptH.to HK2.out HI1.out.kept (Nat.le_refl _)
          have p0 := (HI1.out.oth 0 (by decide)).trans HO2.out.1
          have p2 := (HI1.out.oth 2 (by decide)).trans HO2.out.2
          have p1 := HI1.out.cell
          have pf := HI1.out.fr
          have hlo3 : w1.heap.size < w3.heap.size := by have := HSA.out; omega
          have HM4 := Lib.hid (many_any g l _ w3 HI1.out.rs)
          have HP3 := Lib.hid (And.intro p0 (And.intro p1 (And.intro p2 (And.intro pf (And.intro hlo3 (And.intro hk3 hs13))))))
          clear HI1 p0 p1 p2 pf hlo3 hk3 hs13
          go_wp2_with fail
          refine HM4.out.mono ?_
          rintro e w4 ⟨m2, at4, bad4, rfl, hdr4, hle4, hk4, hbeh4⟩
          obtain ⟨p0, p1, p2, pf, hlo3, hk3, hs13⟩ := HP3.out
          have hmb2 : m2 ≤ 4194304 := by have := hdr4.len; omega
          have hs4 := hk4.size
          have HSZ : Hid (w.heap.size < w2.heap.size ∧ w1.heap.size < w2.heap.size ∧ g < w1.heap.size ∧ w2.heap.size ≤ w4.heap.size ∧ w2.heap.size ≤ w3.heap.size) := Lib.hid ⟨by have := HSA.out; omega, HSA.out.1, hg1, by omega, hs13⟩
          have HO4 : Hid (w4.cell? ⟨w1.heap.size, 0, none⟩ = some (.bool true) ∧ w4.cell? ⟨w1.heap.size, 1, none⟩ = some u1 ∧ True) := Lib.hid ⟨(hk4.cell hlo3 hneo 0).trans p0, (hk4.cell hlo3 hneo 1).trans p1, trivial⟩
          have HK4 : Hid (KeptG g w1 w4) := Lib.hid (hk3.trans hk4)
          have HSL1 : Hid (Slot lemSh (fun b => w2.heap.size ≤ b ∧ b < w4.heap.size) w4 u1 ls) := Lib.hid (HSL1a.out.keep (fun b ⟨a1, a2⟩ => ⟨a1, Nat.lt_of_lt_of_le a2 hs4⟩) (fun b o ⟨a1, a2⟩ => World.cell?_of_block (hk4.block b a2 (by have := HSZ.out; omega))))
          have HDC : Hid (Dc clauseSh 74 pClause g l w1.heap.size 2 w4 (sk1.bind pMany) m2 0 [] ((sk1.bind pMany).map Prod.snd) (.slice none 0 0) w4) := Lib.hid ⟨hdr4.of_beh hbeh4, Own.nil _ _ _ _, (hk4.cell hlo3 hneo 2).trans p2, fun j => (hk4.frozen hlo3 hneo j).trans (pf j), fun _ _ => rfl, KeptH.refl _ _ _, Lp.start pClause hbeh4, by omega, hg1⟩
          clear hdr4 hle4 hk4 hbeh4 p0 p1 p2 pf hlo3 hk3 hs13 hs4 HP3 HM4 HSL1a HO2 HK2
          go_wp2_with fail
          go_loopw [8] (fun i wr => ∃ (j : Nat) (rs : List (List Int)) (si : Option (List UInt8)) (u2 : Value), i = .int .i64 j ∧ j ≤ m2 ∧ Hid (Dc clauseSh 74 pClause g l w1.heap.size 2 w4 (sk1.bind pMany) m2 j rs si u2 wr)) (fun i _ => m2 - (intOf i).toNat)
          case atStart => exact ⟨0, [], _, _, rfl, Nat.zero_le _, HDC⟩
          case round =>
            clear HDC
            rename World => w5
            obtain ⟨j2, rs, si2, u2, rfl, hj2, HI2⟩ := hrel
            by_cases hltj : j2 < m2
            · have hltji : (j2 : Int) < (m2 : Int) := by omega
              have g2 := HI2.out.rs.flag.1
              cases si2 with
              | none =>
                have HSL2 := HI2.out.slot hmb2
                obtain ⟨n1, n2⟩ := HI2.out.lp.nxt (.inr rfl)
                have hk5 : KeptG g w1 w5 := KeptH.to HK4.out HI2.out.kept (Nat.le_refl _)
                have o0 := (HI2.out.oth 0 (by decide)).trans HO4.out.1
                have o1 := (HI2.out.oth 1 (by decide)).trans HO4.out.2.1
                have o2 := HI2.out.cell
                have hsl1 : Slot lemSh (fun b => w2.heap.size ≤ b ∧ b < w5.heap.size) w5 u1 ls := (HSL1.out.keep (S' := fun b => w2.heap.size ≤ b ∧ b < w4.heap.size) (fun b ⟨a1, a2⟩ => ⟨a1, a2⟩) (fun b o _ => rfl)).keep (fun b ⟨a1, a2⟩ => ⟨a1, Nat.lt_of_lt_of_le a2 HI2.out.kept.size⟩) (fun b o ⟨a1, a2⟩ => World.cell?_of_block (HI2.out.kept.block b a2 (by have := HSZ.out; omega) (by have := HSZ.out; omega)))
                have hsl2 : Slot clauseSh (fun b => w2.heap.size ≤ b ∧ b < w5.heap.size) w5 u2 rs := HSL2.keep (fun b ⟨a1, a2⟩ => ⟨by have := HSZ.out; omega, a2⟩) (fun _ _ _ => rfl)
                have HE := Lib.hid (full_end (l := l) (st := st) (w := w) HI2.out.rs (by rw [HRO.out.1]; show nxt (pSeq (pEach pLem) (pEach pClause) Prod.mk) _ = _; rw [seq_nxt, HN1.out.1]; exact n1) (fun y r e => by
                    obtain ⟨c, e1, e2⟩ := HRO.out.2 y r e
                    have e3 := seq_end (p1 := pEach pLem) (p2 := pEach pClause) (f := Prod.mk) HN1.out.2 (by rw [HN1.out.1]; exact n2) c r e1
                    rw [e2, ← e3]) (HK1.out.trans hk5) hgw w2.heap.size (by have := HSZ.out; omega) hsl1 hsl2 (.bool true) u1 u2)
                have HRB := HR1.out.kept hk5 hne
                obtain ⟨z0, q0⟩ := HRB.c0
                obtain ⟨z1, q1⟩ := HRB.c1
                obtain ⟨z2, q2⟩ := HRB.c2
                have qf0 := HRB.fr 0
                have qf1 := HRB.fr 1
                have qf2 := HRB.fr 2
                obtain ⟨k0, k1, k2⟩ := res3 (.bool true) u1 u2 q0 q1 q2
                obtain ⟨a1, c1, rfl, _⟩ := hsl1
                obtain ⟨a2, c2, rfl, _⟩ := hsl2
                clear hk5 HSL2 HRB HI2 HSL1 HN1 HRO HK4 HO4 HK1
                go_wp2_with fail
                refine bodyPost_ret (v := .agg #[.bool true, .slice a1 ls.length c1, .slice a2 rs.length c2]) ?_ rfl HE.out
                clear q0 q1 q2 qf0 qf1 qf2 HE o0 o1 o2
                simp [results, Try.results26, go_sem, k0, k1, k2]
              | some r2 =>
                obtain ⟨ai, capi, rfl, _⟩ := HI2.out.slot hmb2
                have HID := Lib.hid HI2.out.drew
                have HC := Lib.hid (dclause_any g l (some r2) w5.drew HID.out.rs)
                have c2 := HI2.out.cell
                clear HI2
                go_wp2_with fail
                go_region_law (first
                  | (refine step_append_run (by rfl) _ _ _ (by rfl) _ _ (.slice av rs'.length cv) w6 (by rfl) (by rfl) hr6 ?_)
                  | (go_simp
                     go_at_call 43
                     refine HC.out.mono ?_
                     rintro e w7 ⟨v7, y7, rfl, ⟨a7, c7, rfl, hs7⟩, hst7, hx7, hk7⟩
                     obtain ⟨v6, w6, hr6, s5, s6, sf6, hd6⟩ := HID.out.step (P := Try.prog) (t := 46) Try.underlying46 Try.eachClauseInfo (by decide) (by decide) hltj hmb2 hst7 hx7 hk7 (cs := [.slice a7 y7.length c7]) ⟨_, rfl, a7, c7, rfl, hs7⟩
                     have s5a : (w7.alloc (.cells #[.slice a7 y7.length c7] 74)).cell? ⟨w1.heap.size, 2, none⟩ = some (.slice ai rs.length capi) := (((Below.refl _ w7).alloc (Nat.le_refl _) _).cell (p := ⟨w1.heap.size, 2, none⟩) (by show w1.heap.size < w7.heap.size; have := hk7.size; have := HID.out.lt; have := HID.out.kept.size; omega)).trans s5
                     generalize hrs : rs ++ [y7] = rs' at hd6
                     obtain ⟨av, cv, hv6, _⟩ := hd6.slot hmb2
                     subst hv6
                     have HEG := Lib.hid hd6
                     clear hs7 hst7 hx7 hk7 hd6))
                all_goals
                  clear c2 s5 s5a hr6 HC HID
                  go_wp2_with fail
                  go_roundw
                  case rel => exact ⟨j2 + 1, _, _, _, by go_num, by omega, HEG⟩
                  case measure => simp [intOf]; omega
            · have hltji : ¬ (j2 : Int) < (m2 : Int) := by omega
              obtain rfl : j2 = m2 := by omega
              have HSL2 := HI2.out.slot hmb2
              obtain ⟨n1, n2⟩ := HI2.out.lp.nxt (.inl rfl)
              have hk5 : KeptG g w1 w5 := KeptH.to HK4.out HI2.out.kept (Nat.le_refl _)
              have o0 := (HI2.out.oth 0 (by decide)).trans HO4.out.1
              have o1 := (HI2.out.oth 1 (by decide)).trans HO4.out.2.1
              have o2 := HI2.out.cell
              have hsl1 : Slot lemSh (fun b => w2.heap.size ≤ b ∧ b < w5.heap.size) w5 u1 ls := (HSL1.out.keep (S' := fun b => w2.heap.size ≤ b ∧ b < w4.heap.size) (fun b ⟨a1, a2⟩ => ⟨a1, a2⟩) (fun b o _ => rfl)).keep (fun b ⟨a1, a2⟩ => ⟨a1, Nat.lt_of_lt_of_le a2 HI2.out.kept.size⟩) (fun b o ⟨a1, a2⟩ => World.cell?_of_block (HI2.out.kept.block b a2 (by have := HSZ.out; omega) (by have := HSZ.out; omega)))
              have hsl2 : Slot clauseSh (fun b => w2.heap.size ≤ b ∧ b < w5.heap.size) w5 u2 rs := HSL2.keep (fun b ⟨a1, a2⟩ => ⟨by have := HSZ.out; omega, a2⟩) (fun _ _ _ => rfl)
              have HE := Lib.hid (full_end (l := l) (st := st) (w := w) HI2.out.rs (by rw [HRO.out.1]; show nxt (pSeq (pEach pLem) (pEach pClause) Prod.mk) _ = _; rw [seq_nxt, HN1.out.1]; exact n1) (fun y r e => by
                  obtain ⟨c, e1, e2⟩ := HRO.out.2 y r e
                  have e3 := seq_end (p1 := pEach pLem) (p2 := pEach pClause) (f := Prod.mk) HN1.out.2 (by rw [HN1.out.1]; exact n2) c r e1
                  rw [e2, ← e3]) (HK1.out.trans hk5) hgw w2.heap.size (by have := HSZ.out; omega) hsl1 hsl2 (.bool true) u1 u2)
              have HRB := HR1.out.kept hk5 hne
              obtain ⟨z0, q0⟩ := HRB.c0
              obtain ⟨z1, q1⟩ := HRB.c1
              obtain ⟨z2, q2⟩ := HRB.c2
              have qf0 := HRB.fr 0
              have qf1 := HRB.fr 1
              have qf2 := HRB.fr 2
              obtain ⟨k0, k1, k2⟩ := res3 (.bool true) u1 u2 q0 q1 q2
              obtain ⟨a1, c1, rfl, _⟩ := hsl1
              obtain ⟨a2, c2, rfl, _⟩ := hsl2
              clear hk5 HSL2 HRB HI2 HSL1 HN1 HRO HK4 HO4 HK1
              go_wp2_with fail
              refine bodyPost_ret (v := .agg #[.bool true, .slice a1 ls.length c1, .slice a2 rs.length c2]) ?_ rfl HE.out
              clear q0 q1 q2 qf0 qf1 qf2 HE o0 o1 o2
              simp [results, Try.results26, go_sem, k0, k1, k2]
    · have hb1 : ((xb : Int) == 1) = false := by simp; omega
      have hb3 : ((xb : Int) != 1) = true := by simp; omega
      have hb2 : ¬ ((xb : Int) = 1) := by omega
      have hr0 := reply_zero HX1.out (by rw [hxb]; omega)
      have HSV : Hid (DRt g l (nxt pReply st) w1 ∧ ∀ y r, st.bind pReply = some (y, r) → y = ⟨false, [], []⟩) := Lib.hid ⟨by rw [hr0.1]; exact HST1.out, hr0.2⟩
      have HKV : Hid (KeptG g w1 w1) := Lib.hid (KeptG.refl _ _)
      clear hr0 HST1
      have HE := Lib.hid (bare_end (l := l) (st := st) (w := w) HSV.out.1 HSV.out.2 (HK1.out.trans HKV.out) hgw (.bool false) (.slice none 0 0) (.slice none 0 0) (.cells #[.bool false, .slice none 0 0, .slice none 0 0] 50))
      have HKK := Lib.hid (bare_res (.bool false) (.slice none 0 0) (.slice none 0 0) (.cells #[.bool false, .slice none 0 0, .slice none 0 0] 50) (HR1.out.kept HKV.out hne))
      obtain ⟨z0, q0⟩ := HR1.out.c0
      obtain ⟨z1, q1⟩ := HR1.out.c1
      obtain ⟨z2, q2⟩ := HR1.out.c2
      have qf0 := HR1.out.fr 0
      have qf1 := HR1.out.fr 1
      have qf2 := HR1.out.fr 2
      clear HSV HX1 HK1 HR1 HKV
      go_wp2_with fail
      refine bodyPost_ret (v := .agg #[.bool false, .slice none 0 0, .slice none 0 0]) ?_ rfl HE.out
      obtain ⟨k0, k1, k2⟩ := HKK.out
      simp [results, Try.results26, go_sem, k0, k1, k2]
end Go.Proofs.Ytgaipfkblfommaa
