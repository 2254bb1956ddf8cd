/- norm.both. -/
import Derived.Test.YtelndcmfddbgiaaDoorCt37
set_option linter.unusedVariables false
set_option linter.unusedSimpArgs false
namespace Go.Proofs.YtelndcmfddbgiaaDoor
open Go.RowKit

theorem scale_get (x : Int) (l : List (Int × Int)) (k : Nat) (h : k < l.length) : (scale x l).getD k (0, 0) = ((l.getD k (0, 0)).1, x * (l.getD k (0, 0)).2) := by
  unfold scale
  simp [List.getD_eq_getElem?_getD, h]
theorem scale_last (x : Int) (l : List (Int × Int)) (i : Nat) (h : i < l.length) : lastAt (scale x l) i = lastAt l i := by
  unfold lastAt
  by_cases h0 : i = 0
  · rw [if_pos h0, if_pos h0]
  · rw [if_neg h0, if_neg h0, scale_get x l (i - 1) (by omega)]
theorem snd_neg {c : Int} {l : List (Int × Int)} (hs : snd c l = true) : snd (-c) (scale (-1) l) = true := by
  obtain ⟨hwc, h64, hall⟩ := snd_iff.1 hs
  have hcb : -1073741824 ≤ c ∧ c ≤ 1073741824 := by unfold wi at hwc; simpa using hwc
  refine snd_iff.2 ⟨wi_t (by omega), by rw [scale_len]; exact h64, fun i hi => ?_⟩
  rw [scale_len] at hi
  obtain ⟨h1, h2, h3, h4, h5, h6⟩ := okAt_in (hall i hi)
  refine okAt_mkG ?_
  rw [scale_last _ _ _ hi, scale_get _ _ _ hi]
  refine ⟨h1, ?_, h3, h4, ?_, ?_⟩
  · show -1 * (l.getD i (0, 0)).2 ≠ 0
    omega
  · show -1073741824 ≤ -1 * (l.getD i (0, 0)).2
    omega
  · show -1 * (l.getD i (0, 0)).2 ≤ 1073741824
    omega
theorem neg_sumR {c : Int} {l : List (Int × Int)} (hs : snd c l = true) : IsSum (scale (-1) l ++ scale 0 []) (scale (-1) l) := by
  have h := neg_sum hs
  rw [show scale 1 [] = [] from rfl, List.nil_append] at h
  rw [show scale 0 [] = [] from rfl, List.append_nil]
  exact h
theorem neg_add (c : Int) (a : Option Addr) (n cap : Nat) (l : List (Int × Int)) (w : World) (hn : l.length = n) (hl : Lies w.heap.size w a l) (hs : snd c l = true) :
    Calls Tryd.prog 69 #[.agg #[.int .i64 c, .slice a n cap], .agg #[.int .i64 0, .slice none 0 0], .int .i64 (-1), .int .i64 0] w (LinOk w.heap.size (-c) (scale (-1) l) w) := by
  have h64 := (snd_iff.1 hs).2.1
  obtain ⟨hs1, hs2⟩ := both_terms (cb := 0) (x := -1) (y := 0) (lb := []) hs (by decide) (by omega) (by omega)
  have hn' := (snd_iff.1 (snd_neg hs)).1
  have e : (-1 : Int) * c + 0 * 0 = -c := by omega
  have := add_ok c 0 (-1) 0 a none n 0 cap 0 l [] (scale (-1) l) w hn rfl hl (fun i hi => absurd hi (Nat.not_lt_zero i)) hs (by decide) (by omega) (by omega)
    (fun a n cap W B hn hrow hB hm => gather_ok _ a n cap B _ (scale (-1) l) W hn hrow hB hm hs1 hs2 (neg_sumR hs) (by rw [e]; exact hn') (neg_wi hs) (by rw [scale_len]; omega))
  rw [e] at this
  exact this

/-- Two that lie in one array. -/
theorem pair_lies {S : Nat → Prop} {w : World} {n g : Nat} {k : Int} {f1 f2 : FT} {x0 x1 x2 x3 y0 y1 y2 y3 : Value} (h1 : FLiesQ S w n f1 [x0, x1, x2, x3]) (h2 : FLiesQ S w n f2 [y0, y1, y2, y3]) (hg : S g) (hb : w.heap[g]? = some (.cells #[x0, x1, x2, x3, y0, y1, y2, y3] 27 (0, 0))) :
    FLiesQ S w (n + 1) (.mk k 0 [] [f1, f2]) [.int .i64 k, .int .i64 0, .slice none 0 0, .slice (some ⟨g, 0, none⟩) 2 2] := by
  refine ⟨none, 0, some ⟨g, 0, none⟩, 2, rfl, fun i hi => absurd hi (Nat.not_lt_zero i), by simp [FT.t], by simp [FT.ks], fun i hi => ?_⟩
  have hi2 : i < 2 := by simpa [FT.ks] using hi
  have hc : ∀ o, w.cell? ⟨g, o, none⟩ = #[x0, x1, x2, x3, y0, y1, y2, y3][o]? := fun o => cell_of_row _ _ _ _ _ _ hb
  match i, hi2 with
  | 0, _ => exact ⟨g, 0, x0, x1, x2, x3, rfl, hg, (hc _).trans rfl, (hc _).trans rfl, (hc _).trans rfl, (hc _).trans rfl, h1⟩
  | 1, _ => exact ⟨g, 0, y0, y1, y2, y3, rfl, hg, (hc _).trans rfl, (hc _).trans rfl, (hc _).trans rfl, (hc _).trans rfl, h2⟩


theorem Ret.drew {w V : World} {m : Nat} {f : FT} {x0 x1 x2 x3 : Value} (h : Ret w V m f x0 x1 x2 x3) : Ret w V.drew m f x0 x1 x2 x3 :=
  ⟨FLiesQ.keep (S := fun b => w.heap.size ≤ b ∧ b < V.heap.size) (w := V) (w' := V.drew) (fun _ h => h) (fun _ _ _ => rfl) h.lies, h.bel.drew, h.e0, h.e1, h.e2, h.e3⟩
/-- A pair, answered. -/
theorem ret_pair0 {S : Nat → Prop} {w W : World} {n : Nat} {J : Int} {f1 f2 : FT} {x0 x1 x2 x3 y0 y1 y2 y3 : Value} (hF : FB W (w.heap.size + 1)) (hB : Below w.heap.size w W) (hz : w.heap.size + 1 < W.heap.size) (h1 : FLiesQ S W n f1 [x0, x1, x2, x3]) (h2 : FLiesQ S W n f2 [y0, y1, y2, y3])
    (hS : ∀ b, S b → w.heap.size ≤ b ∧ b ≠ w.heap.size + 1 ∧ b < W.heap.size) :
    Ret w (((((W.setCell ⟨w.heap.size + 1, 0, none⟩ (.int .i64 J)).setCell ⟨w.heap.size + 1, 1, none⟩ (.int .i64 0)).setCell ⟨w.heap.size + 1, 2, none⟩ (.slice none 0 0)).setCell ⟨w.heap.size + 1, 3, none⟩ (.slice (some ⟨W.heap.size, 0, none⟩) 2 2)).alloc (.cells #[x0, x1, x2, x3, y0, y1, y2, y3] 27)) (n + 1) (.mk J 0 [] [f1, f2]) (.int .i64 J) (.int .i64 0) (.slice none 0 0) (.slice (some ⟨W.heap.size, 0, none⟩) 2 2) := by
  obtain ⟨e0, e1, e2, e3⟩ := res4 hF (.int .i64 J) (.int .i64 0) (.slice none 0 0) (.slice (some ⟨W.heap.size, 0, none⟩) 2 2)
  have hs := four_size W (w.heap.size + 1) (.int .i64 J) (.int .i64 0) (.slice none 0 0) (.slice (some ⟨W.heap.size, 0, none⟩) 2 2)
  have h1' := h1.set (No := w.heap.size + 1) (fun b hb => (hS b hb).2.1) (fun b hb => hb) (.int .i64 J) (.int .i64 0) (.slice none 0 0) (.slice (some ⟨W.heap.size, 0, none⟩) 2 2)
  have h2' := h2.set (No := w.heap.size + 1) (fun b hb => (hS b hb).2.1) (fun b hb => hb) (.int .i64 J) (.int .i64 0) (.slice none 0 0) (.slice (some ⟨W.heap.size, 0, none⟩) 2 2)
  have hb4 := below4 hB (Nat.le_succ _) (.int .i64 J) (.int .i64 0) (.slice none 0 0) (.slice (some ⟨W.heap.size, 0, none⟩) 2 2)
  generalize (((W.setCell ⟨w.heap.size + 1, 0, none⟩ (.int .i64 J)).setCell ⟨w.heap.size + 1, 1, none⟩ (.int .i64 0)).setCell ⟨w.heap.size + 1, 2, none⟩ (.slice none 0 0)).setCell ⟨w.heap.size + 1, 3, none⟩ (.slice (some ⟨W.heap.size, 0, none⟩) 2 2) = V at e0 e1 e2 e3 hs h1' h2' hb4 ⊢
  have hba : Below V.heap.size V (V.alloc (.cells #[x0, x1, x2, x3, y0, y1, y2, y3] 27)) := (Below.refl _ _).alloc (Nat.le_refl _) _
  have hn := heap_alloc_new V (.cells #[x0, x1, x2, x3, y0, y1, y2, y3] 27)
  have hl := lt_of_some hn
  have hbs := hb4.size
  rw [hs] at hn hl
  have hk : ∀ b o, b < W.heap.size → (V.alloc (.cells #[x0, x1, x2, x3, y0, y1, y2, y3] 27)).cell? ⟨b, o, none⟩ = V.cell? ⟨b, o, none⟩ := fun b o hb => hba.cell (p := ⟨b, o, none⟩) (by show b < _; omega)
  refine ⟨pair_lies (h1'.keep (fun b hb => ⟨(hS b hb).1, by have := (hS b hb).2.2; omega⟩) (fun b o hb => hk b o (hS b hb).2.2)) (h2'.keep (fun b hb => ⟨(hS b hb).1, by have := (hS b hb).2.2; omega⟩) (fun b o hb => hk b o (hS b hb).2.2)) ⟨by omega, hl⟩ hn, hb4.trans (hba.mono hbs), (hk _ _ hz).trans e0, (hk _ _ hz).trans e1, (hk _ _ hz).trans e2, (hk _ _ hz).trans e3⟩

/-- A pair, answered. -/
theorem ret_pair {S : Nat → Prop} {w W : World} {n : Nat} {J : Int} {f1 f2 : FT} {x0 x1 x2 x3 y0 y1 y2 y3 : Value} (hF : FB W (w.heap.size + 1)) (hB : Below w.heap.size w W) (hz : w.heap.size + 1 < W.heap.size) (h1 : FLiesQ S W n f1 [x0, x1, x2, x3]) (h2 : FLiesQ S W n f2 [y0, y1, y2, y3])
    (hS : ∀ b, S b → w.heap.size ≤ b ∧ b ≠ w.heap.size + 1 ∧ b < W.heap.size) :
    Ret w (((((W.setCell ⟨w.heap.size + 1, 0, none⟩ (.int .i64 J)).setCell ⟨w.heap.size + 1, 1, none⟩ (.int .i64 0)).setCell ⟨w.heap.size + 1, 2, none⟩ (.slice none 0 0)).setCell ⟨w.heap.size + 1, 3, none⟩ (.slice (some ⟨W.heap.size, 0, none⟩) 2 2)).alloc (.cells #[x0, x1, x2, x3, y0, y1, y2, y3] 27)).drew (n + 1) (.mk J 0 [] [f1, f2]) (.int .i64 J) (.int .i64 0) (.slice none 0 0) (.slice (some ⟨W.heap.size, 0, none⟩) 2 2) :=
  (ret_pair0 hF hB hz h1 h2 hS).drew
theorem pair_keep {W : World} {M1 M2 No : Nat} {x0 x1 x2 x3 p0 p1 p2 p3 q0 q1 q2 q3 : Value} {o : Obj}
    (hp : W.cell? ⟨M1, 0, none⟩ = some p0 ∧ W.cell? ⟨M1, 1, none⟩ = some p1 ∧ W.cell? ⟨M1, 2, none⟩ = some p2 ∧ W.cell? ⟨M1, 3, none⟩ = some p3)
    (hq : W.cell? ⟨M2, 0, none⟩ = some q0 ∧ W.cell? ⟨M2, 1, none⟩ = some q1 ∧ W.cell? ⟨M2, 2, none⟩ = some q2 ∧ W.cell? ⟨M2, 3, none⟩ = some q3) (h1 : M1 < W.heap.size) (h2 : M2 < W.heap.size) (n1 : M1 ≠ No) (n2 : M2 ≠ No) :
    ((((((W.setCell ⟨No, 0, none⟩ x0).setCell ⟨No, 1, none⟩ x1).setCell ⟨No, 2, none⟩ x2).setCell ⟨No, 3, none⟩ x3).alloc o).drew.cell? ⟨M1, 0, none⟩ = some p0 ∧ (((((W.setCell ⟨No, 0, none⟩ x0).setCell ⟨No, 1, none⟩ x1).setCell ⟨No, 2, none⟩ x2).setCell ⟨No, 3, none⟩ x3).alloc o).drew.cell? ⟨M1, 1, none⟩ = some p1 ∧ (((((W.setCell ⟨No, 0, none⟩ x0).setCell ⟨No, 1, none⟩ x1).setCell ⟨No, 2, none⟩ x2).setCell ⟨No, 3, none⟩ x3).alloc o).drew.cell? ⟨M1, 2, none⟩ = some p2 ∧ (((((W.setCell ⟨No, 0, none⟩ x0).setCell ⟨No, 1, none⟩ x1).setCell ⟨No, 2, none⟩ x2).setCell ⟨No, 3, none⟩ x3).alloc o).drew.cell? ⟨M1, 3, none⟩ = some p3) ∧
    ((((((W.setCell ⟨No, 0, none⟩ x0).setCell ⟨No, 1, none⟩ x1).setCell ⟨No, 2, none⟩ x2).setCell ⟨No, 3, none⟩ x3).alloc o).drew.cell? ⟨M2, 0, none⟩ = some q0 ∧ (((((W.setCell ⟨No, 0, none⟩ x0).setCell ⟨No, 1, none⟩ x1).setCell ⟨No, 2, none⟩ x2).setCell ⟨No, 3, none⟩ x3).alloc o).drew.cell? ⟨M2, 1, none⟩ = some q1 ∧ (((((W.setCell ⟨No, 0, none⟩ x0).setCell ⟨No, 1, none⟩ x1).setCell ⟨No, 2, none⟩ x2).setCell ⟨No, 3, none⟩ x3).alloc o).drew.cell? ⟨M2, 2, none⟩ = some q2 ∧ (((((W.setCell ⟨No, 0, none⟩ x0).setCell ⟨No, 1, none⟩ x1).setCell ⟨No, 2, none⟩ x2).setCell ⟨No, 3, none⟩ x3).alloc o).drew.cell? ⟨M2, 3, none⟩ = some q3) := by
  have hk : ∀ b j, b < W.heap.size → b ≠ No → (((((W.setCell ⟨No, 0, none⟩ x0).setCell ⟨No, 1, none⟩ x1).setCell ⟨No, 2, none⟩ x2).setCell ⟨No, 3, none⟩ x3).alloc o).drew.cell? ⟨b, j, none⟩ = W.cell? ⟨b, j, none⟩ := fun b j hb hne => by
    have h4 := set4_far W No x0 x1 x2 x3 b j hne
    have hs := set4_size W No x0 x1 x2 x3
    unfold set4 at h4 hs
    generalize (((W.setCell ⟨No, 0, none⟩ x0).setCell ⟨No, 1, none⟩ x1).setCell ⟨No, 2, none⟩ x2).setCell ⟨No, 3, none⟩ x3 = X at h4 hs ⊢
    have hba := (Below.refl X.heap.size X).alloc (Nat.le_refl _) o
    rw [← h4]
    exact hba.cell (p := ⟨b, j, none⟩) (by rw [hs]; exact hb)
  obtain ⟨a0, a1, a2, a3⟩ := hp
  obtain ⟨b0, b1, b2, b3⟩ := hq
  exact ⟨⟨(hk _ _ h1 n1).trans a0, (hk _ _ h1 n1).trans a1, (hk _ _ h1 n1).trans a2, (hk _ _ h1 n1).trans a3⟩, (hk _ _ h2 n2).trans b0, (hk _ _ h2 n2).trans b1, (hk _ _ h2 n2).trans b2, (hk _ _ h2 n2).trans b3⟩

set_option maxRecDepth 100000 in
set_option maxHeartbeats 4000000 in
theorem both_far1 (c : Int) (a : Option Addr) (n cap : Nat) (l : List (Int × Int)) (w : World) (hn : l.length = n) (hl : Lies w.heap.size w a l) (hs : snd c l = true) (h1 : litK c l = 3) (so : Bool) :
    Calls Tryd.prog 56 #[.agg #[.int .i64 c, .slice a n cap], .bool so] w (LitEnd w.heap.size (.mk 0 0 [] []) (.iface 43 (.int .i64 3)) w) := by
  have h64 := (snd_iff.1 hs).2.1
  have HAD := Lib.hid (fun W (hb : Below w.heap.size w W) => neg_add c a n cap l W hn ((hl.below hb).mono hb.size) hs)
  have HL1 := Lib.hid (fun W (hb : Below w.heap.size w W) => nliteral_far c a n cap l W hn (by omega) ((hl.below hb).mono hb.size) h1 so)
  have hsl : (scale (-1) l).length = n := by rw [scale_len]; exact hn
  have ST := Lib.hid (lin_start w c a n cap)
  clear hl hn hs h64 h1
  generalize scale (-1) l = R at HAD hsl
  have n0 := fun W => Tryd.neNil W
  have n3 := fun W => Tryd.neCode 3 W
  obtain ⟨l0, l1⟩ := ST.out.1
  generalize hW : (w.alloc (.cells #[.int .i64 c, .slice a n cap] 24)).alloc (.cells #[.int .i64 0, .int .i64 0, .slice none 0 0, .slice none 0 0] 27) = W0 at ST l0 l1
  have Z0 := ST.out.2.2.2
  go_enter Tryd.func56, Tryd.ntmps56
  go_wp2_with fail
  clear hW
  refine (HAD.out _ ST.out.2.1).mono ?_
  rintro e w3 ⟨v3, rfl, hrow3, hb3⟩
  obtain ⟨a3, cap3, rfl, hl3, _⟩ := hrow3.lies
  rw [hsl]
  have hz3 := hb3.size
  have hba3 : Below w3.heap.size w3 (w3.alloc (.cells #[.int .i64 (-c), .slice a3 n cap3] 24)) := (Below.refl _ _).alloc (Nat.le_refl _) _
  have HL3 := Lib.hid ((hl3.below hba3).mono hba3.size)
  have Z4 : w3.heap.size + 1 = (w3.alloc (.cells #[.int .i64 (-c), .slice a3 n cap3] 24)).heap.size := by simp
  have hb4 : Below W0.heap.size W0 (w3.alloc (.cells #[.int .i64 (-c), .slice a3 n cap3] 24)) := hb3.trans (hba3.mono hz3)
  have B4 := Lib.hid (ST.out.2.1.trans (hb4.mono (by omega)))
  have F4 := Lib.hid (ST.out.2.2.1.below hb4 (by omega))
  have m0 : (w3.alloc (.cells #[.int .i64 (-c), .slice a3 n cap3] 24)).cell? ⟨w.heap.size, 0, none⟩ = some (.int .i64 c) := (hb4.cell (p := ⟨w.heap.size, 0, none⟩) (by show w.heap.size < _; omega)).trans l0
  have m1 : (w3.alloc (.cells #[.int .i64 (-c), .slice a3 n cap3] 24)).cell? ⟨w.heap.size, 1, none⟩ = some (.slice a n cap) := (hb4.cell (p := ⟨w.heap.size, 1, none⟩) (by show w.heap.size < _; omega)).trans l1
  have P4 : Hid ((w3.alloc (.cells #[.int .i64 (-c), .slice a3 n cap3] 24)).cell? ⟨w3.heap.size, 0, none⟩ = some (.int .i64 (-c)) ∧ (w3.alloc (.cells #[.int .i64 (-c), .slice a3 n cap3] 24)).cell? ⟨w3.heap.size, 1, none⟩ = some (.slice a3 n cap3)) := ⟨by simp, by simp⟩
  clear l0 l1 hrow3 hb3 hba3 hb4 hl3 HAD
  go_wp2_with fail
  refine (HL1.out _ B4.out).mono ?_
  rintro e w5 ⟨cs5, rfl, hf5, hb5⟩
  have HF5 := Lib.hid hf5
  obtain ⟨fk, fc, ta, tn, tcap, ka, kn, kcap, rfl⟩ := hf5.form
  have hz5 := hb5.size
  have hba5 : Below w5.heap.size w5 (w5.alloc (.cells #[.int .i64 fk, .int .i64 fc, .slice ta tn tcap, .slice ka kn kcap] 27)) := (Below.refl _ _).alloc (Nat.le_refl _) _
  have Z6 : w5.heap.size + 1 = (w5.alloc (.cells #[.int .i64 fk, .int .i64 fc, .slice ta tn tcap, .slice ka kn kcap] 27)).heap.size := by simp
  generalize w3.alloc (.cells #[.int .i64 (-c), .slice a3 n cap3] 24) = w4 at HL3 Z4 B4 F4 m0 m1 P4 HF5 hb5 hz5 ⊢
  generalize hN3 : w3.heap.size = N3 at Z4 hz3 P4 ⊢
  clear hN3
  have F5 := Lib.hid (F4.out.below hb5 (by omega))
  have F6 := Lib.hid (F5.out.below hba5 (by omega))
  have B6 := Lib.hid (B4.out.trans ((hb5.trans (hba5.mono hz5)).mono (by omega)))
  have RT := Lib.hid (ret_set (m := 2) (f := .mk 0 0 [] []) (S := fun _ => False) F6.out B6.out flies_flat (fun b h => h.elim))
  clear m0 m1 P4 hb5 hba5 hf5
  obtain ⟨r0, r1, r2, r3, rf⟩ := F6.out
  go_wp2_with fail
  clear r0 r1 r2 r3 rf
  refine bodyPost_ret (v := .tuple #[.agg #[.int .i64 0, .int .i64 0, .slice none 0 0, .slice none 0 0], .iface 43 (.int .i64 3)]) ?_ rfl ⟨_, rfl, RT.out.lies.up (by omega), RT.out.bel⟩
  obtain ⟨_, _, e0, e1, e2, e3⟩ := RT.out
  simp [results, Tryd.results56, go_sem, e0, e1, e2, e3]

set_option maxRecDepth 100000 in
set_option maxHeartbeats 4000000 in
theorem both_far2 (c : Int) (a : Option Addr) (n cap : Nat) (l : List (Int × Int)) (w : World) (hn : l.length = n) (hl : Lies w.heap.size w a l) (hs : snd c l = true) (h1 : litK c l = 0) (h2 : litK (-c) (scale (-1) l) = 3) (so : Bool) :
    Calls Tryd.prog 56 #[.agg #[.int .i64 c, .slice a n cap], .bool so] w (LitEnd w.heap.size (.mk 0 0 [] []) (.iface 43 (.int .i64 3)) w) := by
  have h64 := (snd_iff.1 hs).2.1
  have HAD := Lib.hid (fun W (hb : Below w.heap.size w W) => neg_add c a n cap l W hn ((hl.below hb).mono hb.size) hs)
  have HL1 := Lib.hid (fun W (hb : Below w.heap.size w W) => nliteral_ok c a n cap l W hn (by omega) ((hl.below hb).mono hb.size) h1 so)
  have HL2 := Lib.hid (fun (b : Option Addr) capb W (hlb : Lies W.heap.size W b (scale (-1) l)) => nliteral_far (-c) b n capb (scale (-1) l) W (by rw [scale_len]; exact hn) (by omega) hlb h2 so)
  have hsl : (scale (-1) l).length = n := by rw [scale_len]; exact hn
  have ST := Lib.hid (lin_start w c a n cap)
  clear hl hn hs h64 h1 h2
  generalize scale (-1) l = R at HAD hsl HL2
  have n0 := fun W => Tryd.neNil W
  have n3 := fun W => Tryd.neCode 3 W
  obtain ⟨l0, l1⟩ := ST.out.1
  generalize hW : (w.alloc (.cells #[.int .i64 c, .slice a n cap] 24)).alloc (.cells #[.int .i64 0, .int .i64 0, .slice none 0 0, .slice none 0 0] 27) = W0 at ST l0 l1
  have Z0 := ST.out.2.2.2
  go_enter Tryd.func56, Tryd.ntmps56
  go_wp2_with fail
  clear hW
  refine (HAD.out _ ST.out.2.1).mono ?_
  rintro e w3 ⟨v3, rfl, hrow3, hb3⟩
  obtain ⟨a3, cap3, rfl, hl3, _⟩ := hrow3.lies
  rw [hsl]
  have hz3 := hb3.size
  have hba3 : Below w3.heap.size w3 (w3.alloc (.cells #[.int .i64 (-c), .slice a3 n cap3] 24)) := (Below.refl _ _).alloc (Nat.le_refl _) _
  have HL3 := Lib.hid ((hl3.below hba3).mono hba3.size)
  have Z4 : w3.heap.size + 1 = (w3.alloc (.cells #[.int .i64 (-c), .slice a3 n cap3] 24)).heap.size := by simp
  have hb4 : Below W0.heap.size W0 (w3.alloc (.cells #[.int .i64 (-c), .slice a3 n cap3] 24)) := hb3.trans (hba3.mono hz3)
  have B4 := Lib.hid (ST.out.2.1.trans (hb4.mono (by omega)))
  have F4 := Lib.hid (ST.out.2.2.1.below hb4 (by omega))
  have m0 : (w3.alloc (.cells #[.int .i64 (-c), .slice a3 n cap3] 24)).cell? ⟨w.heap.size, 0, none⟩ = some (.int .i64 c) := (hb4.cell (p := ⟨w.heap.size, 0, none⟩) (by show w.heap.size < _; omega)).trans l0
  have m1 : (w3.alloc (.cells #[.int .i64 (-c), .slice a3 n cap3] 24)).cell? ⟨w.heap.size, 1, none⟩ = some (.slice a n cap) := (hb4.cell (p := ⟨w.heap.size, 1, none⟩) (by show w.heap.size < _; omega)).trans l1
  have P4 : Hid ((w3.alloc (.cells #[.int .i64 (-c), .slice a3 n cap3] 24)).cell? ⟨w3.heap.size, 0, none⟩ = some (.int .i64 (-c)) ∧ (w3.alloc (.cells #[.int .i64 (-c), .slice a3 n cap3] 24)).cell? ⟨w3.heap.size, 1, none⟩ = some (.slice a3 n cap3)) := ⟨by simp, by simp⟩
  clear l0 l1 hrow3 hb3 hba3 hb4 hl3 HAD
  go_wp2_with fail
  refine (HL1.out _ B4.out).mono ?_
  rintro e w5 ⟨cs5, rfl, hf5, hb5⟩
  have HF5 := Lib.hid hf5
  obtain ⟨fk, fc, ta, tn, tcap, ka, kn, kcap, rfl⟩ := hf5.form
  have hz5 := hb5.size
  have hba5 : Below w5.heap.size w5 (w5.alloc (.cells #[.int .i64 fk, .int .i64 fc, .slice ta tn tcap, .slice ka kn kcap] 27)) := (Below.refl _ _).alloc (Nat.le_refl _) _
  have Z6 : w5.heap.size + 1 = (w5.alloc (.cells #[.int .i64 fk, .int .i64 fc, .slice ta tn tcap, .slice ka kn kcap] 27)).heap.size := by simp
  generalize w3.alloc (.cells #[.int .i64 (-c), .slice a3 n cap3] 24) = w4 at HL3 Z4 B4 F4 m0 m1 P4 HF5 hb5 hz5 ⊢
  generalize hN3 : w3.heap.size = N3 at Z4 hz3 P4 ⊢
  clear hN3
  have F5 := Lib.hid (F4.out.below hb5 (by omega))
  have hb6 : Below w4.heap.size w4 (w5.alloc (.cells #[.int .i64 fk, .int .i64 fc, .slice ta tn tcap, .slice ka kn kcap] 27)) := hb5.trans (hba5.mono hz5)
  have HL6 := Lib.hid ((HL3.out.below hb6).mono hb6.size)
  have B6 := Lib.hid (B4.out.trans (hb6.mono (by omega)))
  have F6 := Lib.hid (F4.out.below hb6 (by omega))
  have q0 : (w5.alloc (.cells #[.int .i64 fk, .int .i64 fc, .slice ta tn tcap, .slice ka kn kcap] 27)).cell? ⟨N3, 0, none⟩ = some (.int .i64 (-c)) := (hb6.cell (p := ⟨N3, 0, none⟩) (by show N3 < _; omega)).trans P4.out.1
  have q1 : (w5.alloc (.cells #[.int .i64 fk, .int .i64 fc, .slice ta tn tcap, .slice ka kn kcap] 27)).cell? ⟨N3, 1, none⟩ = some (.slice a3 n cap3) := (hb6.cell (p := ⟨N3, 1, none⟩) (by show N3 < _; omega)).trans P4.out.2
  have HB6 := Lib.hid (heap_alloc_new w5 (.cells #[.int .i64 fk, .int .i64 fc, .slice ta tn tcap, .slice ka kn kcap] 27))
  have HF6 : Hid (FLiesQ (fun b => w.heap.size + 2 ≤ b ∧ b < w5.heap.size) (w5.alloc (.cells #[.int .i64 fk, .int .i64 fc, .slice ta tn tcap, .slice ka kn kcap] 27)) 2 _ [.int .i64 fk, .int .i64 fc, .slice ta tn tcap, .slice ka kn kcap]) :=
    HF5.out.keep (fun b ⟨h1, h2⟩ => ⟨by omega, h2⟩) (fun b o ⟨h1, h2⟩ => hba5.cell (p := ⟨b, o, none⟩) h2)
  clear m0 m1 P4 hb5 hba5 hf5 hb6 HL3
  go_wp2_with fail
  refine (HL2.out _ _ _ HL6.out).mono ?_
  rintro e w7 ⟨cs7, rfl, hf7, hb7⟩
  have HF7 := Lib.hid hf7
  obtain ⟨gk, gc, ua, un, ucap, va, vn, vcap, rfl⟩ := hf7.form
  have hz7 := hb7.size
  have hba7 : Below w7.heap.size w7 (w7.alloc (.cells #[.int .i64 gk, .int .i64 gc, .slice ua un ucap, .slice va vn vcap] 27)) := (Below.refl _ _).alloc (Nat.le_refl _) _
  have Z8 : w7.heap.size + 1 = (w7.alloc (.cells #[.int .i64 gk, .int .i64 gc, .slice ua un ucap, .slice va vn vcap] 27)).heap.size := by simp
  generalize w5.alloc (.cells #[.int .i64 fk, .int .i64 fc, .slice ta tn tcap, .slice ka kn kcap] 27) = w6 at HL6 Z6 B6 F6 q0 q1 HB6 HF6 HF7 hb7 hz7 ⊢
  generalize hN5 : w5.heap.size = N5 at Z6 hz5 HB6 HF6 ⊢
  clear hN5 F5 HF5
  have F7 := Lib.hid (F6.out.below hb7 (by omega))
  have B7 := Lib.hid (B6.out.trans (hb7.mono (by omega)))
  have F8 := Lib.hid (F7.out.below hba7 (by omega))
  have B8 := Lib.hid (B7.out.trans (hba7.mono (by omega)))
  have RT := Lib.hid (ret_set (m := 2) (f := .mk 0 0 [] []) (S := fun _ => False) F8.out B8.out flies_flat (fun b h => h.elim))
  clear q0 q1 hb7 hba7 hf7
  obtain ⟨r0, r1, r2, r3, rf⟩ := F8.out
  go_wp2_with fail
  clear r0 r1 r2 r3 rf
  refine bodyPost_ret (v := .tuple #[.agg #[.int .i64 0, .int .i64 0, .slice none 0 0, .slice none 0 0], .iface 43 (.int .i64 3)]) ?_ rfl ⟨_, rfl, RT.out.lies.up (by omega), RT.out.bel⟩
  obtain ⟨_, _, e0, e1, e2, e3⟩ := RT.out
  simp [results, Tryd.results56, go_sem, e0, e1, e2, e3]

set_option maxRecDepth 100000 in
set_option maxHeartbeats 4000000 in
theorem both_ok (c : Int) (a : Option Addr) (n cap : Nat) (l : List (Int × Int)) (w : World) (hn : l.length = n) (hl : Lies w.heap.size w a l) (hs : snd c l = true) (h1 : litK c l = 0) (h2 : litK (-c) (scale (-1) l) = 0) (so : Bool) :
    Calls Tryd.prog 56 #[.agg #[.int .i64 c, .slice a n cap], .bool so] w (fun e w' => ∃ cs, e = .returned (.tuple #[.agg cs.toArray, .nilIface]) ∧ FLiesQ (fun b => w.heap.size ≤ b ∧ b < w'.heap.size) w' 3 (.mk (if so = true then 5 else 11 - 5) 0 [] [if so then litT c l else oppF (litT c l), if so then litT (-c) (scale (-1) l) else oppF (litT (-c) (scale (-1) l))]) cs ∧ Below w.heap.size w w') := by
  have h64 := (snd_iff.1 hs).2.1
  have HAD := Lib.hid (fun W (hb : Below w.heap.size w W) => neg_add c a n cap l W hn ((hl.below hb).mono hb.size) hs)
  have HL1 := Lib.hid (fun W (hb : Below w.heap.size w W) => nliteral_ok c a n cap l W hn (by omega) ((hl.below hb).mono hb.size) h1 so)
  have HL2 := Lib.hid (fun (b : Option Addr) capb W (hlb : Lies W.heap.size W b (scale (-1) l)) => nliteral_ok (-c) b n capb (scale (-1) l) W (by rw [scale_len]; exact hn) (by omega) hlb h2 so)
  have HJ := Lib.hid (fun W => joint_any 5 so W ⟨by omega, by omega⟩)
  generalize (if so = true then (5 : Int) else 11 - 5) = J at HJ ⊢
  generalize (if so = true then litT c l else oppF (litT c l)) = A at HL1 ⊢
  generalize (if so = true then litT (-c) (scale (-1) l) else oppF (litT (-c) (scale (-1) l))) = B at HL2 ⊢
  have hsl : (scale (-1) l).length = n := by rw [scale_len]; exact hn
  have ST := Lib.hid (lin_start w c a n cap)
  clear hl hn hs h64 h1 h2
  generalize scale (-1) l = R at HAD hsl HL2
  have n0 := fun W => Tryd.neNil W
  have n3 := fun W => Tryd.neCode 3 W
  obtain ⟨l0, l1⟩ := ST.out.1
  generalize hW : (w.alloc (.cells #[.int .i64 c, .slice a n cap] 24)).alloc (.cells #[.int .i64 0, .int .i64 0, .slice none 0 0, .slice none 0 0] 27) = W0 at ST l0 l1
  have Z0 := ST.out.2.2.2
  go_enter Tryd.func56, Tryd.ntmps56
  go_wp2_with fail
  clear hW
  refine (HAD.out _ ST.out.2.1).mono ?_
  rintro e w3 ⟨v3, rfl, hrow3, hb3⟩
  obtain ⟨a3, cap3, rfl, hl3, _⟩ := hrow3.lies
  rw [hsl]
  have hz3 := hb3.size
  have hba3 : Below w3.heap.size w3 (w3.alloc (.cells #[.int .i64 (-c), .slice a3 n cap3] 24)) := (Below.refl _ _).alloc (Nat.le_refl _) _
  have HL3 := Lib.hid ((hl3.below hba3).mono hba3.size)
  have Z4 : w3.heap.size + 1 = (w3.alloc (.cells #[.int .i64 (-c), .slice a3 n cap3] 24)).heap.size := by simp
  have hb4 : Below W0.heap.size W0 (w3.alloc (.cells #[.int .i64 (-c), .slice a3 n cap3] 24)) := hb3.trans (hba3.mono hz3)
  have B4 := Lib.hid (ST.out.2.1.trans (hb4.mono (by omega)))
  have F4 := Lib.hid (ST.out.2.2.1.below hb4 (by omega))
  have m0 : (w3.alloc (.cells #[.int .i64 (-c), .slice a3 n cap3] 24)).cell? ⟨w.heap.size, 0, none⟩ = some (.int .i64 c) := (hb4.cell (p := ⟨w.heap.size, 0, none⟩) (by show w.heap.size < _; omega)).trans l0
  have m1 : (w3.alloc (.cells #[.int .i64 (-c), .slice a3 n cap3] 24)).cell? ⟨w.heap.size, 1, none⟩ = some (.slice a n cap) := (hb4.cell (p := ⟨w.heap.size, 1, none⟩) (by show w.heap.size < _; omega)).trans l1
  have P4 : Hid ((w3.alloc (.cells #[.int .i64 (-c), .slice a3 n cap3] 24)).cell? ⟨w3.heap.size, 0, none⟩ = some (.int .i64 (-c)) ∧ (w3.alloc (.cells #[.int .i64 (-c), .slice a3 n cap3] 24)).cell? ⟨w3.heap.size, 1, none⟩ = some (.slice a3 n cap3)) := ⟨by simp, by simp⟩
  clear l0 l1 hrow3 hb3 hba3 hb4 hl3 HAD
  go_wp2_with fail
  refine (HL1.out _ B4.out).mono ?_
  rintro e w5 ⟨cs5, rfl, hf5, hb5⟩
  have HF5 := Lib.hid hf5
  obtain ⟨fk, fc, ta, tn, tcap, ka, kn, kcap, rfl⟩ := hf5.form
  have hz5 := hb5.size
  have hba5 : Below w5.heap.size w5 (w5.alloc (.cells #[.int .i64 fk, .int .i64 fc, .slice ta tn tcap, .slice ka kn kcap] 27)) := (Below.refl _ _).alloc (Nat.le_refl _) _
  have Z6 : w5.heap.size + 1 = (w5.alloc (.cells #[.int .i64 fk, .int .i64 fc, .slice ta tn tcap, .slice ka kn kcap] 27)).heap.size := by simp
  generalize w3.alloc (.cells #[.int .i64 (-c), .slice a3 n cap3] 24) = w4 at HL3 Z4 B4 F4 m0 m1 P4 HF5 hb5 hz5 ⊢
  generalize hN3 : w3.heap.size = N3 at Z4 hz3 P4 ⊢
  clear hN3
  have F5 := Lib.hid (F4.out.below hb5 (by omega))
  have hb6 : Below w4.heap.size w4 (w5.alloc (.cells #[.int .i64 fk, .int .i64 fc, .slice ta tn tcap, .slice ka kn kcap] 27)) := hb5.trans (hba5.mono hz5)
  have HL6 := Lib.hid ((HL3.out.below hb6).mono hb6.size)
  have B6 := Lib.hid (B4.out.trans (hb6.mono (by omega)))
  have F6 := Lib.hid (F4.out.below hb6 (by omega))
  have q0 : (w5.alloc (.cells #[.int .i64 fk, .int .i64 fc, .slice ta tn tcap, .slice ka kn kcap] 27)).cell? ⟨N3, 0, none⟩ = some (.int .i64 (-c)) := (hb6.cell (p := ⟨N3, 0, none⟩) (by show N3 < _; omega)).trans P4.out.1
  have q1 : (w5.alloc (.cells #[.int .i64 fk, .int .i64 fc, .slice ta tn tcap, .slice ka kn kcap] 27)).cell? ⟨N3, 1, none⟩ = some (.slice a3 n cap3) := (hb6.cell (p := ⟨N3, 1, none⟩) (by show N3 < _; omega)).trans P4.out.2
  have HB6 := Lib.hid (heap_alloc_new w5 (.cells #[.int .i64 fk, .int .i64 fc, .slice ta tn tcap, .slice ka kn kcap] 27))
  have HF6 : Hid (FLiesQ (fun b => w.heap.size + 2 ≤ b ∧ b < w5.heap.size) (w5.alloc (.cells #[.int .i64 fk, .int .i64 fc, .slice ta tn tcap, .slice ka kn kcap] 27)) 2 _ [.int .i64 fk, .int .i64 fc, .slice ta tn tcap, .slice ka kn kcap]) :=
    HF5.out.keep (fun b ⟨h1, h2⟩ => ⟨by omega, h2⟩) (fun b o ⟨h1, h2⟩ => hba5.cell (p := ⟨b, o, none⟩) h2)
  clear m0 m1 P4 hb5 hba5 hf5 hb6 HL3
  go_wp2_with fail
  refine (HL2.out _ _ _ HL6.out).mono ?_
  rintro e w7 ⟨cs7, rfl, hf7, hb7⟩
  have HF7 := Lib.hid hf7
  obtain ⟨gk, gc, ua, un, ucap, va, vn, vcap, rfl⟩ := hf7.form
  have hz7 := hb7.size
  have hba7 : Below w7.heap.size w7 (w7.alloc (.cells #[.int .i64 gk, .int .i64 gc, .slice ua un ucap, .slice va vn vcap] 27)) := (Below.refl _ _).alloc (Nat.le_refl _) _
  have Z8 : w7.heap.size + 1 = (w7.alloc (.cells #[.int .i64 gk, .int .i64 gc, .slice ua un ucap, .slice va vn vcap] 27)).heap.size := by simp
  generalize w5.alloc (.cells #[.int .i64 fk, .int .i64 fc, .slice ta tn tcap, .slice ka kn kcap] 27) = w6 at HL6 Z6 B6 F6 q0 q1 HB6 HF6 HF7 hb7 hz7 ⊢
  generalize hN5 : w5.heap.size = N5 at Z6 hz5 HB6 HF6 ⊢
  clear hN5 F5 HF5
  have F7 := Lib.hid (F6.out.below hb7 (by omega))
  have B7 := Lib.hid (B6.out.trans (hb7.mono (by omega)))
  have hb8 : Below w6.heap.size w6 (w7.alloc (.cells #[.int .i64 gk, .int .i64 gc, .slice ua un ucap, .slice va vn vcap] 27)) := hb7.trans (hba7.mono hz7)
  obtain ⟨t0, t1, t2, t3⟩ := form_cells ((hb8.block _ (by omega)).trans HB6.out)
  obtain ⟨v0, v1, v2, v3⟩ := form_cells (heap_alloc_new w7 (.cells #[.int .i64 gk, .int .i64 gc, .slice ua un ucap, .slice va vn vcap] 27))
  have HF8 : Hid (FLiesQ (fun b => w.heap.size + 2 ≤ b ∧ b < w7.heap.size) (w7.alloc (.cells #[.int .i64 gk, .int .i64 gc, .slice ua un ucap, .slice va vn vcap] 27)) 2 _ [.int .i64 gk, .int .i64 gc, .slice ua un ucap, .slice va vn vcap]) :=
    HF7.out.keep (fun b ⟨h1, h2⟩ => ⟨by omega, h2⟩) (fun b o ⟨h1, h2⟩ => hba7.cell (p := ⟨b, o, none⟩) h2)
  have HF9 : Hid (FLiesQ (fun b => w.heap.size + 2 ≤ b ∧ b < w7.heap.size) (w7.alloc (.cells #[.int .i64 gk, .int .i64 gc, .slice ua un ucap, .slice va vn vcap] 27)) 2 _ [.int .i64 fk, .int .i64 fc, .slice ta tn tcap, .slice ka kn kcap]) :=
    HF6.out.keep (fun b ⟨h1, h2⟩ => ⟨h1, by omega⟩) (fun b o ⟨h1, h2⟩ => hb8.cell (p := ⟨b, o, none⟩) (by show b < _; omega))
  have B8 := Lib.hid (B6.out.trans (hb8.mono (by omega)))
  have F8 := Lib.hid (F6.out.below hb8 (by omega))
  have hz5b : N5 < (w7.alloc (.cells #[.int .i64 gk, .int .i64 gc, .slice ua un ucap, .slice va vn vcap] 27)).heap.size := by omega
  have hz7b : w7.heap.size < (w7.alloc (.cells #[.int .i64 gk, .int .i64 gc, .slice ua un ucap, .slice va vn vcap] 27)).heap.size := by omega
  have hzN : w.heap.size + 1 < (w7.alloc (.cells #[.int .i64 gk, .int .i64 gc, .slice ua un ucap, .slice va vn vcap] 27)).heap.size := by omega
  clear q0 q1 hb7 hba7 hf7 hb8 HF7 F7 B7
  generalize hN7 : w7.heap.size = N7 at HF8 HF9 hz7b v0 v1 v2 v3
  generalize hW8 : w7.alloc (.cells #[.int .i64 gk, .int .i64 gc, .slice ua un ucap, .slice va vn vcap] 27) = W8 at HF8 HF9 B8 F8 t0 t1 t2 t3 v0 v1 v2 v3 hz5b hz7b hzN
  have RT := Lib.hid (ret_pair (J := J) F8.out B8.out hzN HF9.out HF8.out (fun b ⟨h1, h2⟩ => ⟨by omega, by omega, by omega⟩))
  have TT : Hid ((_ ∧ _ ∧ _ ∧ _) ∧ (_ ∧ _ ∧ _ ∧ _)) := pair_keep (No := w.heap.size + 1) (x0 := .int .i64 J) (x1 := .int .i64 0) (x2 := .slice none 0 0) (x3 := .slice (some ⟨W8.heap.size, 0, none⟩) 2 2) (o := .cells #[.int .i64 fk, .int .i64 fc, .slice ta tn tcap, .slice ka kn kcap, .int .i64 gk, .int .i64 gc, .slice ua un ucap, .slice va vn vcap] 27) ⟨t0, t1, t2, t3⟩ ⟨v0, v1, v2, v3⟩ hz5b hz7b (by omega) (by omega)
  obtain ⟨r0, r1, r2, r3, rf⟩ := F8.out
  go_wp2_with fail
  clear hN7 hW8
  go_region_held3 (fun w' => (w'.cell? ⟨N5, 0, none⟩ = some (.int .i64 fk) ∧ w'.cell? ⟨N5, 1, none⟩ = some (.int .i64 fc) ∧ w'.cell? ⟨N5, 2, none⟩ = some (.slice ta tn tcap) ∧ w'.cell? ⟨N5, 3, none⟩ = some (.slice ka kn kcap)) ∧
      (w'.cell? ⟨N7, 0, none⟩ = some (.int .i64 gk) ∧ w'.cell? ⟨N7, 1, none⟩ = some (.int .i64 gc) ∧ w'.cell? ⟨N7, 2, none⟩ = some (.slice ua un ucap) ∧ w'.cell? ⟨N7, 3, none⟩ = some (.slice va vn vcap)))
    (first
      | with_reducible exact TT.out
      | go_keep)
    (first
      | (go_at_call 70
         refine (HJ.out _).mono ?_
         rintro e w9 ⟨rfl, rfl⟩))
  all_goals
    clear r0 r1 r2 r3 rf TT t0 t1 t2 t3 v0 v1 v2 v3
    go_wp2_with fail
    refine bodyPost_ret (v := .tuple #[.agg #[.int .i64 J, .int .i64 0, .slice none 0 0, .slice (some ⟨W8.heap.size, 0, none⟩) 2 2], .nilIface]) ?_ rfl ⟨_, rfl, RT.out.lies, RT.out.bel⟩
    obtain ⟨_, _, e0, e1, e2, e3⟩ := RT.out
    simp [results, Tryd.results56, go_sem, e0, e1, e2, e3]

end Go.Proofs.YtelndcmfddbgiaaDoor
