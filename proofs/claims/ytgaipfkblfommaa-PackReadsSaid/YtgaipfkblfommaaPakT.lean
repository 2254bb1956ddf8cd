/- The reader: a part, parts. -/
import Derived.Test.YtgaipfkblfommaaPakS
set_option linter.unusedVariables false
set_option linter.unusedSimpArgs false
namespace Go.Proofs.Ytgaipfkblfommaa
set_option maxRecDepth 100000
open Go.RowKit

theorem seq_nxt {A B C : Type} (p1 : Ps A) (p2 : Ps B) (f : A → B → C) (st : Option (List UInt8)) : nxt (pSeq p1 p2 f) st = nxt p2 (nxt p1 st) := by
  cases st with
  | none => rfl
  | some l =>
    show ((pSeq p1 p2 f l).map Prod.snd) = ((((p1 l).map Prod.snd).bind p2).map Prod.snd)
    unfold pSeq
    cases p1 l with
    | none => rfl
    | some q => cases h : p2 q.2 <;> simp [h]
theorem seq_val {A B C : Type} {p1 : Ps A} {p2 : Ps B} {f : A → B → C} {st : Option (List UInt8)} {y : C} {r : List UInt8} (h : st.bind (pSeq p1 p2 f) = some (y, r)) : ∃ a b r1, st.bind p1 = some (a, r1) ∧ (nxt p1 st).bind p2 = some (b, r) ∧ y = f a b := by
  cases st with
  | none => cases h
  | some l =>
    have h : pSeq p1 p2 f l = some (y, r) := h
    unfold pSeq at h
    show ∃ a b r1, p1 l = some (a, r1) ∧ ((p1 l).map Prod.snd).bind p2 = some (b, r) ∧ y = f a b
    cases hp : p1 l with
    | none => rw [hp] at h; cases h
    | some q =>
      rw [hp] at h
      simp only at h
      cases hq : p2 q.2 with
      | none => rw [hq] at h; cases h
      | some q2 =>
        rw [hq] at h
        simp at h
        exact ⟨q.1, q2.1, q.2, rfl, by simp [hq, ← h.2], h.1.symm⟩
/-- Another block alone was written. -/
structure Far (h : Nat) (w w' : World) : Prop where
  os : w'.os = w.os
  tape : w'.tape = w.tape
  output : w'.output = w.output
  size : w'.heap.size = w.heap.size
  block : ∀ q, q ≠ h → w'.heap[q]? = w.heap[q]?
theorem Far.refl (h : Nat) (w : World) : Far h w w := ⟨rfl, rfl, rfl, rfl, fun _ _ => rfl⟩
theorem Far.set {h j : Nat} {w w' : World} (k : Far h w w') (v : Value) : Far h w (w'.setCell ⟨h, j, none⟩ v) :=
  ⟨k.os, k.tape, k.output, by simpa [World.setCell] using k.size, fun q hq => (Below.heap_setCell _ _ _ _ hq).trans (k.block q hq)⟩
theorem Far.below {h B : Nat} {w w' : World} (k : Far h w w') (hB : B ≤ h) : Below B w w' := ⟨k.os, k.tape, k.output, Nat.le_of_eq k.size.symm, fun q hq => k.block q (by omega)⟩
theorem RSt.low {g B : Nat} {st : Option (List UInt8)} {w w' : World} (h : RSt g st w) (hb : Below B w w') (hg : g < B) : RSt g st w' := by
  cases st with
  | some r => exact RS.low h hb hg
  | none => obtain ⟨r, h⟩ := h; exact ⟨r, h.low hb hg⟩
theorem KeptG.far {g h : Nat} {a b c : World} (k : KeptG g a b) (f : Far h b c) (hh : a.heap.size ≤ h) : KeptG g a c :=
  ⟨f.os.trans k.os, f.tape.trans k.tape, f.output.trans k.output, by rw [f.size]; exact k.size, fun q h1 h2 => (f.block q (by omega)).trans (k.block q h1 h2)⟩
theorem KeptG.cell {g h : Nat} {a b : World} (k : KeptG g a b) (hl : h < a.heap.size) (hn : h ≠ g) (j : Nat) : b.cell? ⟨h, j, none⟩ = a.cell? ⟨h, j, none⟩ := World.cell?_of_block (k.block h hl hn)
theorem KeptG.frozen {g h : Nat} {a b : World} (k : KeptG g a b) (hl : h < a.heap.size) (hn : h ≠ g) (j : Nat) : b.frozen? ⟨h, j, none⟩ = a.frozen? ⟨h, j, none⟩ := World.frozen?_of_block (k.block h hl hn)
theorem res2 {w : World} {h : Nat} {z0 z1 : Value} (a b : Value) (c0 : w.cell? ⟨h, 0, none⟩ = some z0) (c1 : w.cell? ⟨h, 1, none⟩ = some z1) :
    ((w.setCell ⟨h, 0, none⟩ a).setCell ⟨h, 1, none⟩ b).cell? ⟨h, 0, none⟩ = some a ∧ ((w.setCell ⟨h, 0, none⟩ a).setCell ⟨h, 1, none⟩ b).cell? ⟨h, 1, none⟩ = some b := by
  have e1 : (w.setCell ⟨h, 0, none⟩ a).cell? ⟨h, 1, none⟩ = some z1 := (World.cell?_setCell_other w ⟨h, 0, none⟩ ⟨h, 1, none⟩ a (by simp)).trans c1
  have e0 : (w.setCell ⟨h, 0, none⟩ a).cell? ⟨h, 0, none⟩ = some a := World.cell?_setCell_same' _ _ _ (by rw [c0]; rfl)
  exact ⟨(World.cell?_setCell_other _ ⟨h, 1, none⟩ ⟨h, 0, none⟩ b (by simp)).trans e0, World.cell?_setCell_same' _ _ _ (by rw [e1]; rfl)⟩
theorem frozen_new (w : World) (cs : Array Value) (t : TypeId) (j : Nat) : (w.alloc (.cells cs t)).frozen? ⟨w.heap.size, j, none⟩ = false := by
  have := World.frozen?_alloc_mark w cs t 0 0 j
  rw [this]
  simp
theorem Slot.far {T : Type} {sh : Sh T} {S S' : Nat → Prop} {h : Nat} {w w' : World} {v : Value} {xs : List T} (k : Slot sh S w v xs) (f : Far h w w') (hS : ∀ b, S b → S' b) (hh : ∀ b, S b → b ≠ h) : Slot sh S' w' v xs :=
  k.keep hS (fun b o hb => World.cell?_of_block (f.block b (hh b hb)))
set_option maxHeartbeats 4000000 in
theorem rdpart_any (g : Nat) (st : Option (List UInt8)) (w : World) (h : RSt g st w) :
    Calls Try.prog 57 #[.pointer (some ⟨g, 0, none⟩)] w (PEnd (Va partSh) pPart g st w) := by
  have HA : Hid (Below w.heap.size w (w.alloc (.cells #[.int .i64 0, .int .i64 0] 99))) := (Below.refl _ _).alloc (Nat.le_refl _) _
  have hgl := h.lt
  have hne : w.heap.size ≠ g := by omega
  have hsz : (w.alloc (.cells #[.int .i64 0, .int .i64 0] 99)).heap.size = w.heap.size + 1 := by simp
  have z0 := cell_of_row (w.alloc (.cells #[.int .i64 0, .int .i64 0] 99)) w.heap.size 0 _ _ _ (heap_alloc_new w _)
  have z1 := cell_of_row (w.alloc (.cells #[.int .i64 0, .int .i64 0] 99)) w.heap.size 1 _ _ _ (heap_alloc_new w _)
  have zf := fun j => frozen_new w #[.int .i64 0, .int .i64 0] 99 j
  have HN := Lib.hid (rdnum_any g st (w.alloc (.cells #[.int .i64 0, .int .i64 0] 99)) (h.below HA.out))
  have HZ := Lib.hid (And.intro z0 (And.intro z1 (And.intro zf hsz)))
  clear h z0 z1 zf hsz
  go_enter Try.func57, Try.ntmps57
  go_wp2_with fail
  refine HN.out.mono ?_
  rintro e w1 ⟨v1, x1, rfl, hV1, hst1, hx1, hk1⟩
  have HN2 := Lib.hid (rdnum_any g _ w1 hst1)
  have HX1 := Lib.hid hx1
  have HK1 := Lib.hid hk1
  obtain ⟨rfl, hV1⟩ := hV1
  have HV1 := Lib.hid hV1
  clear hst1 hx1 hk1 HN hV1
  go_wp2_with fail
  refine HN2.out.mono ?_
  rintro e w2 ⟨v2, x2, rfl, hV2, hst2, hx2, hk2⟩
  obtain ⟨z0, z1, zf, hsz⟩ := HZ.out
  have hs1 := HK1.out.size
  have hs2 := hk2.size
  have q0 := (hk2.cell (h := w.heap.size) (by omega) hne 0).trans ((HK1.out.cell (h := w.heap.size) (by omega) hne 0).trans z0)
  have q1 := (hk2.cell (h := w.heap.size) (by omega) hne 1).trans ((HK1.out.cell (h := w.heap.size) (by omega) hne 1).trans z1)
  have qf := fun j => (hk2.frozen (h := w.heap.size) (by omega) hne j).trans ((HK1.out.frozen (h := w.heap.size) (by omega) hne j).trans (zf j))
  have qf0 := qf 0
  have qf1 := qf 1
  obtain ⟨rfl, hV2⟩ := hV2
  have FR : Far w.heap.size w2 ((w2.setCell ⟨w.heap.size, 0, none⟩ (.int .i64 x1)).setCell ⟨w.heap.size, 1, none⟩ (.int .i64 x2)) := ((Far.refl _ _).set _).set _
  have HE : Hid (PEnd (Va partSh) pPart g st w (.returned (.agg #[.int .i64 x1, .int .i64 x2])) ((w2.setCell ⟨w.heap.size, 0, none⟩ (.int .i64 x1)).setCell ⟨w.heap.size, 1, none⟩ (.int .i64 x2))) := by
    have hV1 := HV1.out
    have hsf := FR.size
    refine ⟨_, ⟨x1, x2⟩, rfl, ⟨[.int .i64 x1, .int .i64 x2], rfl, ?_⟩, ?_, fun y r e => ?_, ((KeptG.of_below HA.out).trans (HK1.out.trans hk2)).far FR (Nat.le_refl _)⟩
    · exact ⟨rfl, hV1, hV2⟩
    · have e : nxt pPart st = _ := seq_nxt pNum pNum Part.mk st
      rw [e]
      exact hst2.low (FR.below (B := w.heap.size) (Nat.le_refl _)) hgl
    · obtain ⟨a, b, r1, e1, e2, rfl⟩ := seq_val (show st.bind (pSeq pNum pNum Part.mk) = some (y, r) from e)
      rw [HX1.out a r1 e1, hx2 b r e2]
  obtain ⟨e0, e1⟩ := res2 (.int .i64 x1) (.int .i64 x2) (q0.trans rfl) (q1.trans rfl)
  clear hV2 hst2 hx2 hk2 FR HV1 HX1 HK1 qf z0 z1 zf
  go_wp2_with fail
  refine bodyPost_ret (v := .agg #[.int .i64 x1, .int .i64 x2]) ?_ rfl HE.out
  clear q0 q1 qf0 qf1 HE
  simp [results, Try.results57, go_sem, e0, e1]
theorem Try.eachPartInfo : (Try.prog.info? 99).map (fun i => (i.zero.map fun z => z.cells.size, i.size, i.bytes)) = some (some 2, 2, 16) := by kernel_rfl
set_option maxHeartbeats 8000000 in
theorem eachPart_any (g : Nat) (st : Option (List UInt8)) (w : World) (h : RSt g st w) :
    Calls Try.prog 56 #[.pointer (some ⟨g, 0, none⟩), .func (.func 57) #[.pointer (some ⟨g, 0, none⟩)] #[]] w (PEnd (Vr partSh) (pEach pPart) g st w) := by
  have HNU := Lib.hid (rdnum_any g st w h)
  have hgw := h.lt
  clear h
  go_enter Try.func56, Try.ntmps56
  go_wp2_with fail
  refine HNU.out.mono ?_
  rintro e w1 ⟨v1, x, rfl, ⟨rfl, hx⟩, hst1, hx1, hk1⟩
  by_cases hgo : ∃ r, nxt pNum st = some r ∧ 0 ≤ x ∧ x ≤ r.length
  · obtain ⟨r, hnx, h0, hxl⟩ := hgo
    obtain ⟨y, hy⟩ := nxt_some hnx
    obtain rfl := hx1 _ _ hy
    obtain ⟨n, rfl⟩ := Int.eq_ofNat_of_zero_le h0
    have hn : n ≤ r.length := by omega
    rw [hnx] at hst1
    have hrs : RS g r false w1 := hst1
    have HY := Lib.hid hy
    have hrl := hrs.len
    have HEG : Hid (Eg partSh 99 pPart g w r 0 [] (some r) (.slice none 0 0) w1) := ⟨hrs, Own.nil _ _ _ _, hk1, Nat.zero_le _, rfl⟩
    obtain ⟨a, c, g1, g2, _⟩ := hrs.st
    have hb1 : ¬ ((n : Int) < 0) := by omega
    have hb2 : ¬ ((r.length : Int) < (n : Int)) := by omega
    have hb3 : ¬ r.length < n := by omega
    clear hst1 hx1 hk1 hnx hx h0 hxl hrs HNU hy
    go_wp2_with fail
    go_loopw [6, 7] (fun u i wr => ∃ (k : Nat) (xs : List Part) (sk : Option (List UInt8)), i = .int .i64 k ∧ k ≤ n ∧ Hid (Eg partSh 99 pPart g w r k xs sk u wr)) (fun _ i _ => n - (intOf i).toNat)
    case atStart => exact ⟨0, [], some r, rfl, Nat.zero_le _, HEG⟩
    case round =>
      clear HEG g1 g2
      obtain ⟨k, xs, sk, rfl, hk, hE⟩ := hrel
      have hxl : xs.length ≤ 4194304 := by have := hE.out.len; omega
      by_cases hlt : k < n
      · have hlti : (k : Int) < (n : Int) := by omega
        cases sk with
        | none =>
          have HE := Lib.hid (hE.out.bad hk HY.out hn hxl)
          obtain ⟨rest, hrs⟩ := hE.out.rs
          obtain ⟨_, _, _, g2, _⟩ := hrs.st
          clear hrs hE HY
          go_wp2_with fail
          go_ret
          exact HE.out
        | some l =>
          have hrs : RS g l false wr := hE.out.rs
          obtain ⟨_, _, _, g2, _⟩ := hrs.st
          have HC := Lib.hid (rdpart_any g (some l) wr hE.out.rs)
          clear hrs
          go_wp2_with fail
          refine HC.out.mono ?_
          rintro e w5 ⟨v5, x, rfl, hV, hst5, hx5, hk5⟩
          have hsz5 := hk5.size
          have hown5 := hE.out.own.keptG hk5 hgw
          have hov := hE.out.own.lt
          have hszr := hE.out.kept.size
          obtain ⟨cs, rfl, hV⟩ := hV
          have hR := hV
          obtain ⟨rfl, _⟩ := hV
          have hV := hR
          obtain ⟨v6, w6, hr6, ho6, hb6⟩ := Own.snoc (P := Try.prog) (t := 78) (cs := [.int .i64 x.line, .int .i64 x.times]) Try.underlying78 Try.eachPartInfo (by decide) (by decide) hown5 hxl (Nat.le_trans hszr hsz5) (x := x) (by
            have hV := hR
            exact Sh.keep partSh (fun b ⟨a1, a2⟩ => ⟨Nat.le_trans hszr a1, a2, fun e => by have := hov b e; omega⟩) (fun _ _ _ => rfl) hV)
          have HEG : Hid (Eg partSh 99 pPart g w r (k + 1) (xs ++ [x]) (nxt pPart (some l)) v6 w6) := by
            refine ⟨?_, ho6, ?_, by rw [List.length_append]; have := hE.out.len; simp; omega, ?_⟩
            · have hlt5 := hst5.lt
              cases hnn : nxt pPart (some l) with
              | none =>
                rw [hnn] at hst5
                obtain ⟨rest, hrs⟩ := hst5
                exact ⟨rest, hrs.low hb6 hgw⟩
              | some l2 =>
                rw [hnn] at hst5
                exact RS.low hst5 hb6 hgw
            · exact (hE.out.kept.trans hk5).trans_low hb6 (Nat.le_trans hszr hsz5)
            · have hg := hE.out.go
              show pGo pPart (k + 1) (some r) = _
              unfold pGo
              rw [hg]
              show (pPart l).map _ = (((some l).bind pPart).map Prod.snd).map _
              cases hp : pPart l with
              | none => simp [hp]
              | some q =>
                have := hx5 q.1 q.2 hp
                subst this
                simp [hp]
          clear hV hR hst5 hx5 hk5 hE ho6 hb6 HC hown5 hov
          go_wp2_with (at_builtin; refine Lib.wpList_append_run _ rfl _ _ _ _ rfl _ _ rfl rfl _ _ (hr6 _) ?_)
          go_roundw
          case rel => exact ⟨k + 1, _, _, by go_num, by omega, HEG⟩
          case measure => simp [intOf]; omega
      · have hlti : ¬ (k : Int) < (n : Int) := by omega
        obtain rfl : k = n := by omega
        have HE := Lib.hid (hE.out.done HY.out hn hxl)
        clear hE HY
        go_wp2_with fail
        go_ret
        exact HE.out
  · have hn : st.bind (pEach pPart) = none := by
      cases hnx : nxt pNum st with
      | none => exact each_none _ (nxt_none hnx)
      | some r =>
        obtain ⟨y, hy⟩ := nxt_some hnx
        obtain rfl := hx1 _ _ hy
        refine each_bad _ hy ?_
        by_cases h0 : x < 0
        · exact .inl h0
        · exact .inr (Int.not_le.1 fun h4 => hgo ⟨r, hnx, by omega, h4⟩)
    obtain ⟨rest, bad, hrs, hbd⟩ : ∃ rest bad, RS g rest bad w1 ∧ (bad = true ∨ x < 0 ∨ (rest.length : Int) < x) := by
      cases hnx : nxt pNum st with
      | none =>
        rw [hnx] at hst1
        obtain ⟨rest, hrs⟩ := hst1
        exact ⟨rest, true, hrs, .inl rfl⟩
      | some r =>
        rw [hnx] at hst1
        refine ⟨r, false, hst1, .inr ?_⟩
        by_cases h0 : x < 0
        · exact .inl h0
        · exact .inr (Int.not_le.1 fun h4 => hgo ⟨r, hnx, by omega, h4⟩)
    have HE2 : Hid (PEnd (Vr partSh) (pEach pPart) g st w (.returned (.slice none 0 0)) (w1.setCell ⟨g, 1, none⟩ (.bool true))) := ⟨_, [], rfl, ⟨none, 0, rfl, Sits.nil _ _ _ _⟩, by unfold nxt; rw [hn]; exact hrs.fail, fun y r e => (by rw [hn] at e; cases e), hk1.trans KeptG.set⟩
    have f1 := hrs.fr 1
    obtain ⟨a, c, g1, g2, _⟩ := hrs.st
    by_cases h0 : x < 0
    · have hx0 : ¬ (0 : Int) < x := by omega
      clear hst1 hx1 hk1 hrs hn hgo hbd hx HNU
      go_wp2_with fail
      go_loopw [6, 7] (fun u i wr => u = .slice none 0 0 ∧ i = .int .i64 0 ∧ (w1.setCell ⟨g, 1, none⟩ (.bool true)) = wr) (fun _ _ _ => 0)
      case atStart => exact ⟨rfl, rfl, rfl⟩
      case round =>
        obtain ⟨rfl, rfl, rfl⟩ := hrel
        go_wp2_with fail
        go_ret
        exact HE2.out
    · by_cases h1 : (rest.length : Int) < x
      · have hx0 : (0 : Int) < x := by omega
        clear hst1 hx1 hk1 hrs hn hgo hbd hx HNU
        go_wp2_with fail
        go_loopw [6, 7] (fun u i wr => u = .slice none 0 0 ∧ i = .int .i64 0 ∧ (w1.setCell ⟨g, 1, none⟩ (.bool true)) = wr) (fun _ _ _ => 0)
        case atStart => exact ⟨rfl, rfl, rfl⟩
        case round =>
          obtain ⟨rfl, rfl, rfl⟩ := hrel
          go_wp2_with fail
          go_ret
          exact HE2.out
      · obtain rfl : bad = true := by rcases hbd with h | h | h; exact h; exact absurd h h0; exact absurd h h1
        have HE1 : Hid (PEnd (Vr partSh) (pEach pPart) g st w (.returned (.slice none 0 0)) w1) := ⟨_, [], rfl, ⟨none, 0, rfl, Sits.nil _ _ _ _⟩, by unfold nxt; rw [hn]; exact ⟨rest, hrs⟩, fun y r e => (by rw [hn] at e; cases e), hk1⟩
        by_cases hx0 : (0 : Int) < x
        · clear hst1 hx1 hk1 hrs hn hgo hbd hx HNU HE2
          go_wp2_with fail
          go_loopw [6, 7] (fun u i wr => u = .slice none 0 0 ∧ i = .int .i64 0 ∧ w1 = wr) (fun _ _ _ => 0)
          case atStart => exact ⟨rfl, rfl, rfl⟩
          case round =>
            obtain ⟨rfl, rfl, rfl⟩ := hrel
            go_wp2_with fail
            go_ret
            exact HE1.out
        · clear hst1 hx1 hk1 hrs hn hgo hbd hx HNU HE2
          go_wp2_with fail
          go_loopw [6, 7] (fun u i wr => u = .slice none 0 0 ∧ i = .int .i64 0 ∧ w1 = wr) (fun _ _ _ => 0)
          case atStart => exact ⟨rfl, rfl, rfl⟩
          case round =>
            obtain ⟨rfl, rfl, rfl⟩ := hrel
            go_wp2_with fail
            go_ret
            exact HE1.out
end Go.Proofs.Ytgaipfkblfommaa
