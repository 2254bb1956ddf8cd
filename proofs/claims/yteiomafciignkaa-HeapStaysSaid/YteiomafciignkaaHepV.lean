/- slices.insertionSortCmpFunc: its walk. -/
import Derived.Test.YteiomafciignkaaHepU
import Derived.Test.YteiomafciignkaaHepJ
set_option linter.unusedVariables false
set_option linter.unusedSimpArgs false
namespace Go.Proofs.Yteiomafciignkaa
set_option maxRecDepth 100000
open Go.RowKit

theorem regrown_trans {w : World} {B : Nat} {W : World} (h : Below B w W) (hB : B ≤ W.heap.size) (d : Nat) (os : Array Obj) : Below B w (Go.Sort.grow (redrawn W d) os) := h.trans ((below_regrown W d os).mono hB)
def SegEnd (B g n cap : Nat) (xs : List HC) (a b : Nat) (W : World) (e : Ending) (w' : World) : Prop := e = .returned (.tuple #[]) ∧ ∃ ys, RowAt B g n cap ys w' ∧ Seg xs ys a b ∧ SortedSeg ys a b ∧ Below B W w'
theorem ifacts (j : Nat) (h : j < 1000) : IntKind.i64.wrap (((j + 1 : Nat) : Int) - 1) = (j : Int) ∧ IntKind.i64.wrap ((j : Int) + 1 - 1) = (j : Int) ∧ IntKind.i64.wrap (j : Int) = (j : Int) ∧ wrap64 (j : Int) = (j : Int) ∧ IntKind.i64.wrap ((j : Int) + 1) = (j : Int) + 1 ∧ wrap64 ((j : Int) + 1) = (j : Int) + 1 := by
  have e1 : ((j + 1 : Nat) : Int) - 1 = (j : Int) := by omega
  have e2 : (j : Int) + 1 - 1 = (j : Int) := by omega
  have e3 : IntKind.i64.wrap (j : Int) = (j : Int) := IntWalk.i64_in _ (by omega)
  exact ⟨by rw [e1]; exact e3, by rw [e2]; exact e3, e3, by unfold wrap64; omega, IntWalk.i64_in _ (by omega), by unfold wrap64; omega⟩
set_option maxHeartbeats 8000000 in
theorem isort_any (B g n cap : Nat) (xs : List HC) (a b : Nat) (w : World) (h : RowAt B g n cap xs w) (hab : a ≤ b) (hbn : b ≤ n) (hn : n ≤ 200) :
    Calls Try.prog 41 #[.slice (some ⟨g, 0, none⟩) n cap, .int .i64 a, .int .i64 b, .func (.func 30) #[] #[]] w (SegEnd B g n cap xs a b w) := by
  have HH := Lib.hid h
  have HJ := Lib.hid (fun x y W => jcmp_any x y W)
  clear h
  have hwa : IntKind.i64.wrap ((a : Int) + 1) = (a : Int) + 1 := IntWalk.i64_in _ (by omega)
  go_enter Try.func41, Try.ntmps41
  go_wp2_with fail
  go_loopw [8] (fun i wr => ∃ (k : Nat) (ys : List HC), i = .int .i64 ((k : Int) + 1) ∧ a ≤ k ∧ Hid (k = a ∨ k < b) ∧ Hid (RowAt B g n cap ys wr ∧ Seg xs ys a b ∧ SortedSeg ys a (k + 1) ∧ Below B w wr)) (fun i _ => b - (intOf i).toNat)
  case atStart => exact ⟨a, xs, rfl, Nat.le_refl _, .inl rfl, HH.out, Seg.refl _ _ _, fun p q h1 h2 h3 => by omega, Below.refl _ _⟩
  case round =>
    obtain ⟨k, ys, rfl, hak, hkb, hrel⟩ := hrel
    by_cases hlt : k + 1 < b
    · have hlti : (k : Int) + 1 < (b : Int) := by omega
      obtain ⟨h1, h2, h3, h4⟩ := hrel.out
      have hst := Lib.hid (Ins.start h3)
      have hr0 : Hid (RowAt B g n cap ys wr ∧ Seg xs ys a b ∧ Ins ys a (k + 1) (k + 1) ∧ Below B w wr) := ⟨h1, h2, hst.out, h4⟩
      clear h1 h2 h3 h4 hst hrel hkb
      have hkn : k + 1 < n := by omega
      clear hwa
      go_wp2_with fail
      go_loopw [9] (fun j wr => ∃ (q : Nat) (zs : List HC), j = .int .i64 q ∧ a ≤ q ∧ q ≤ k + 1 ∧ Hid (RowAt B g n cap zs wr ∧ Seg xs zs a b ∧ Ins zs a (k + 1) q ∧ Below B w wr)) (fun j _ => (intOf j).toNat)
      case atStart => exact ⟨k + 1, ys, by go_num, by omega, Nat.le_refl _, hr0⟩
      case round =>
        obtain ⟨q, zs, rfl, haq, hqk, hrel⟩ := hrel
        clear hr0
        have HEX : Hid ((q = a ∨ le (at' zs (q - 1)) (at' zs q)) → RowAt B g n cap zs wr ∧ Seg xs zs a b ∧ SortedSeg zs a (k + 1 + 1) ∧ Below B w wr) := fun hx => ⟨hrel.out.1, hrel.out.2.1, hrel.out.2.2.1.done haq hqk hx, hrel.out.2.2.2⟩
        by_cases hqa : q = a
        · have hqi : ¬ (q : Int) > (a : Int) := by omega
          have hqj : ¬ (a : Int) < (q : Int) := by omega
          have HE2 := Lib.hid (HEX.out (.inl hqa))
          clear HEX hrel
          go_wp2_with fail
          refine wp_region_quiet_below (by kernel_rfl) (by kernel_rfl) ?_
          repeat (go_big_quiet_step (fail))
          refine wpQuiet_nil ?_
          intro _ hw'
          obtain ⟨⟨dq, osq⟩, hw''⟩ := hw'
          subst hw''
          have HE3 : Hid (RowAt B g n cap zs (Go.Sort.grow (redrawn wr dq) osq) ∧ Seg xs zs a b ∧ SortedSeg zs a (k + 1 + 1) ∧ Below B w (Go.Sort.grow (redrawn wr dq) osq)) := by
            obtain ⟨r1, r2, r3, r4⟩ := HE2.out
            exact ⟨r1.below (below_regrown _ _ _), r2, r3, regrown_trans r4 (Nat.le_of_lt (Nat.lt_of_le_of_lt r1.low.1 r1.low.2)) _ _⟩
          clear HE2
          go_wp2_with fail
          go_roundw
          case rel => exact ⟨k + 1, zs, by go_num, by omega, .inr hlt, HE3⟩
          case measure => simp [intOf]; omega
        · obtain ⟨q, rfl⟩ : ∃ q', q = q' + 1 := ⟨q - 1, by omega⟩
          have hqi : ((q + 1 : Nat) : Int) > (a : Int) := by omega
          have hqj : (a : Int) < (q : Int) + 1 := by omega
          have hqn : q + 1 < n := by omega
          have hqni : (q : Int) + 1 < (n : Int) := by omega
          have hqn2 : (q : Int) < (n : Int) := by omega
          have hq0 : (0 : Int) ≤ (q : Int) + 1 := by omega
          have hq1 : ¬ ((q : Int) + 1 < 0) := by omega
          obtain ⟨c1, c2, c3⟩ := hrel.out.1.cells (i := q + 1) hqn
          obtain ⟨d1, d2, d3⟩ := hrel.out.1.cells (i := q) (by omega)
          have HSW : Hid (∀ W, RowAt B g n cap zs W → RowAt B g n cap (swp zs (q + 1) q) (put3 (put3 W g (q + 1) (at' zs q)) g q (at' zs (q + 1))) ∧ Below B W (put3 (put3 W g (q + 1) (at' zs q)) g q (at' zs (q + 1)))) := fun W hW => hW.swap (i := q + 1) (j := q) hqn (by omega)
          have HLT : Hid (ordK (hkey (at' zs (q + 1))) (hkey (at' zs q)) < 0 → ∀ W, RowAt B g n cap (swp zs (q + 1) q) W → Below B wr W → RowAt B g n cap (swp zs (q + 1) q) W ∧ Seg xs (swp zs (q + 1) q) a b ∧ Ins (swp zs (q + 1) q) a (k + 1) q ∧ Below B w W) := fun hl W hR hB =>
            ⟨hR, hrel.out.2.1.swap (by rw [hrel.out.1.len]; omega) (by rw [hrel.out.1.len]; omega) ⟨by omega, by omega⟩ ⟨by omega, by omega⟩, hrel.out.2.2.1.step (by rw [hrel.out.1.len]; omega) (by omega) hqk (ordK_lt.1 hl), hrel.out.2.2.2.trans hB⟩
          have HGE : Hid (¬ ordK (hkey (at' zs (q + 1))) (hkey (at' zs q)) < 0 → RowAt B g n cap zs wr ∧ Seg xs zs a b ∧ SortedSeg zs a (k + 1 + 1) ∧ Below B w wr) := fun hl => HEX.out (.inr (by rw [Nat.add_sub_cancel]; exact fun h => hl (ordK_lt.2 h)))
          have HBL : Hid (B ≤ wr.heap.size) := Nat.le_of_lt (Nat.lt_of_le_of_lt hrel.out.1.low.1 hrel.out.1.low.2)
          have HRO := Lib.hid hrel.out.1
          have HC := Lib.hid (HJ.out (at' zs (q + 1)) (at' zs q))
          have HC : Hid (∀ W, Calls Try.prog 30 #[.agg #[.int .i64 (at' zs (q + 1)).a, .string (at' zs (q + 1)).f, .int .i64 (at' zs (q + 1)).v], .agg #[.int .i64 (at' zs q).a, .string (at' zs q).f, .int .i64 (at' zs q).v]] W fun e w' => e = .returned (.int .i64 (ordK (hkey (at' zs (q + 1))) (hkey (at' zs q)))) ∧ Below W.heap.size W w') := HC.out
          clear hrel HEX
          generalize ordK (hkey (at' zs (q + 1))) (hkey (at' zs q)) = o at HC HLT HGE
          generalize at' zs (q + 1) = x at c1 c2 c3 HC HSW
          generalize at' zs q = y at d1 d2 d3 HC HSW
          obtain ⟨xa, xf, xv⟩ := x
          obtain ⟨ya, yf, yv⟩ := y
          simp only at c1 c2 c3 d1 d2 d3
          have hq1000 : q < 1000 := by omega
          have i1 : ∀ k : Nat, k < 1000 → IntKind.i64.wrap (((k + 1 : Nat) : Int) - 1) = (k : Int) := fun k h => (ifacts k h).1
          have i2 : ∀ k : Nat, k < 1000 → IntKind.i64.wrap ((k : Int) + 1 - 1) = (k : Int) := fun k h => (ifacts k h).2.1
          have i3 : ∀ k : Nat, k < 1000 → IntKind.i64.wrap (k : Int) = (k : Int) := fun k h => (ifacts k h).2.2.1
          have i4 : ∀ k : Nat, k < 1000 → wrap64 (k : Int) = (k : Int) := fun k h => (ifacts k h).2.2.2.1
          have cJ := fun d os => Calls.regrown_of (HC.out (Go.Sort.grow (redrawn wr d) os))
          have r1 := fun d os => cell_regrown c1 d os
          have r2 := fun d os => cell_regrown c2 d os
          have r3 := fun d os => cell_regrown c3 d os
          have r4 := fun d os => cell_regrown d1 d os
          have r5 := fun d os => cell_regrown d2 d os
          have r6 := fun d os => cell_regrown d3 d os
          have HKW : Hid (IntKind.i64.wrap ((k : Int) + 1 + 1) = (k : Int) + 1 + 1) := IntWalk.i64_in _ (by omega)
          have HFA : Hid (a ≤ q ∧ q ≤ k + 1 ∧ a ≤ k + 1 ∧ k + 1 < b) := ⟨by omega, by omega, by omega, by omega⟩
          clear hn hbn hab hak hqk hqa hlti hlt hkn haq
          go_wp2_with fail
          refine wp_region_quiet_below (by kernel_rfl) (by kernel_rfl) ?_
          repeat (go_big_quiet_step (with_reducible exact cJ _ _))
          refine wpQuiet_nil ?_
          intro _ hw'
          obtain ⟨⟨dq, osq⟩, hw''⟩ := hw'
          subst hw''
          have HBG : Hid (Below B wr (Go.Sort.grow (redrawn wr dq) osq)) := (below_regrown wr dq osq).mono HBL.out
          have HRG := Lib.hid (HRO.out.below (below_regrown wr dq osq))
          have q1 := r1 dq osq
          have q2 := r2 dq osq
          have q3 := r3 dq osq
          have q4 := r4 dq osq
          have q5 := r5 dq osq
          have q6 := r6 dq osq
          clear r1 r2 r3 r4 r5 r6 cJ HC c1 c2 c3 d1 d2 d3 HRO
          by_cases ho : o < 0
          · have HL2 := Lib.hid (HLT.out ho)
            clear HLT HGE
            generalize Go.Sort.grow (redrawn wr dq) osq = W0 at HBG HRG q1 q2 q3 q4 q5 q6 ⊢
            have f1 := HRG.out.frozen
            obtain ⟨s1, s2⟩ := HSW.out W0 HRG.out
            have HFIN := Lib.hid (HL2.out _ (s1.below (Below.refl _ _).drew) (HBG.out.trans s2).drew)
            clear s1 s2 HL2 HSW HRG HBG
            go_wp2_with fail
            go_region
            all_goals
              clear f1 i1 i2 i3 i4 q1 q2 q3 q4 q5 q6
              go_wp2_with fail
              go_roundw
              case rel => exact ⟨q, _, by go_num, HFA.out.1, HFA.out.2.1, HFIN⟩
              case measure => simp [intOf]
          · have HE3 : Hid (RowAt B g n cap zs (Go.Sort.grow (redrawn wr dq) osq) ∧ Seg xs zs a b ∧ SortedSeg zs a (k + 1 + 1) ∧ Below B w (Go.Sort.grow (redrawn wr dq) osq)) := by
              obtain ⟨e1, e2, e3, e4⟩ := HGE.out (by first | exact ho | omega)
              exact ⟨HRG.out, e2, e3, e4.trans HBG.out⟩
            have hkw : IntKind.i64.wrap ((k : Int) + 1 + 1) = (k : Int) + 1 + 1 := HKW.out
            clear HLT HGE HRG q1 q2 q3 q4 q5 q6 i1 i2 i3 i4
            go_wp2_with fail
            go_roundw
            case rel => exact ⟨k + 1, zs, by simp, HFA.out.2.2.1, .inr HFA.out.2.2.2, HE3⟩
            case measure => have h9 := HFA.out; clear hkw; simp [intOf]; omega
    · have hlti : ¬ (k : Int) + 1 < (b : Int) := by omega
      have HE : Hid (∀ W, Below wr.heap.size wr W → SegEnd B g n cap xs a b w (.returned (.tuple #[])) W) := fun W hW => by
        obtain ⟨h1, h2, h3, h4⟩ := hrel.out
        exact ⟨rfl, ys, h1.below hW, h2, fun p q e1 e2 e3 => h3 p q e1 e2 (by omega), h4.trans (hW.mono (Nat.le_of_lt (Nat.lt_of_le_of_lt h1.low.1 h1.low.2)))⟩
      clear hrel
      go_wp2_with fail
      go_end0
      exact HE.out _ (Below.refl _ _)
end Go.Proofs.Yteiomafciignkaa
