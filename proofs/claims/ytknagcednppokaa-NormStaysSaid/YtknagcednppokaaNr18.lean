/- The document's Same, of one formula in two places. The walk of NormLiterals. What a formula becomes: its literals, the opposite, normalized. The statements' own weighing of a formula: what is light has few parts. What the model knows of a formula's type. -/
import Derived.Test.YtknagcednppokaaNr02
import Derived.Test.YtknagcednppokaaNr04
import Derived.Test.YtknagcednppokaaNr05
import Derived.Test.YtknagcednppokaaNr09
import Derived.Test.YtknagcednppokaaNr16
import Derived.Test.YtknagcednppokaaNr17
import Derived.Deep.RegionHeld3
import Derived.OwnWalk
set_option linter.unusedVariables false
set_option linter.unusedSimpArgs false
namespace Go.Proofs.Ytknagcednppokaa
open Go.RowKit


theorem same_self (c : Int) (l : List (Int × Int)) : same c c l l = true := by unfold same; simp

set_option maxRecDepth 100000 in
set_option maxHeartbeats 2000000 in
theorem same2_any : ∀ (n : Nat) (f : FT) (csa csb : List Value) (w : World), FLies w.heap.size w n f csa → FLies w.heap.size w n f csb →
    Calls Try.prog 12 #[.agg csa.toArray, .agg csb.toArray] w fun e w' => e = .returned (.bool true) ∧ Below w.heap.size w w'
  | 0, _, _, _, _, h, _ => h.elim
  | n + 1, f, csa, csb, w, ha, hb => by
    have IH := same2_any n
    obtain ⟨ta, tcap, ka, kcap, rfl, hlta, ht4, hk4, hksa⟩ := ha
    obtain ⟨tb, tcapb, kb, kcapb, rfl, hltb, _, _, hksb⟩ := hb
    have hsz : (w.alloc (.cells #[.int .i64 f.kind, .int .i64 f.c, .slice ta f.t.length tcap, .slice ka f.ks.length kcap] 28)).heap.size = w.heap.size + 1 := by simp
    have hbB := box_start (w.alloc (.cells #[.int .i64 f.kind, .int .i64 f.c, .slice ta f.t.length tcap, .slice ka f.ks.length kcap] 28)) f.kind f.c tb kb f.t.length tcapb f.ks.length kcapb
    rw [hsz] at hbB
    have B0 := Lib.hid (And.intro ((box_start w f.kind f.c ta ka f.t.length tcap f.ks.length kcap).below hbB.bel (Nat.lt_succ_self _)) hbB)
    have HS := Lib.hid (fun W (hb : Below w.heap.size w W) => same_any f.c f.c ta tb f.t.length f.t.length tcap tcapb f.t f.t W rfl rfl ht4 ht4 ((hlta.below hb).mono hb.size) ((hltb.below hb).mono hb.size))
    rw [same_self] at HS
    have HI := Lib.hid IH
    have HA := Lib.hid hksa
    have HB := Lib.hid hksb
    have e1 : (f.kind != f.kind) = false := by simp
    have e2 : ((f.ks.length : Int) != (f.ks.length : Int)) = false := by simp
    clear IH hksa hksb hlta hltb hsz hbB
    generalize f.kind = fk at B0 e1
    generalize f.c = fc at B0 HS
    generalize f.t.length = ft at B0 HS ht4
    generalize hl : f.ks.length = len at B0 HA HB hk4 e2
    clear hl
    generalize hw1 : w.alloc (.cells #[.int .i64 fk, .int .i64 fc, .slice ta ft tcap, .slice ka len kcap] 28) = w1 at B0
    have L0 := B0.out.2.lt
    obtain ⟨_, p0, p1, p2, p3, bela⟩ := B0.out.1
    obtain ⟨_, r0, r1, r2, r3, _⟩ := B0.out.2
    have BA := Lib.hid bela
    clear bela
    subst hw1
    go_enter Try.func12, Try.ntmps12
    go_wp2_with fail
    refine (HS.out _ BA.out).mono ?_
    rintro e w2 ⟨rfl, hb2⟩
    have T2 := Lib.hid (And.intro (B0.out.1.below hb2 (Nat.lt_of_succ_lt L0)) (B0.out.2.below hb2 L0))
    clear hb2 p0 p1 p2 p3 r0 r1 r2 r3 HS
    generalize w.alloc (.cells #[.int .i64 fk, .int .i64 fc, .slice ta ft tcap, .slice ka len kcap] 28) = w1 at B0 T2 BA
    go_wp2_with fail
    go_loopw [5] (fun i wr => ∃ (k : Nat), k ≤ len ∧ i = .int .i64 k ∧ Hid (Box w wr w.heap.size fk fc ta ft tcap ka len kcap ∧ Box w1 wr (w.heap.size + 1) fk fc tb ft tcapb kb len kcapb)) (fun i _ => len - (intOf i).toNat)
    case atStart => exact ⟨0, Nat.zero_le _, rfl, T2⟩
    case round =>
      obtain ⟨k, hk, rfl, hbx⟩ := hrel
      obtain ⟨bz, _, _, _, q3, hb⟩ := hbx.out.1
      obtain ⟨bz2, _, _, _, s3, _⟩ := hbx.out.2
      by_cases hlt : k < len
      · obtain ⟨ba, offa, c0, c1, c2, c3, rfl, hba, g0, g1, g2, g3, hfa⟩ := HA.out k hlt
        obtain ⟨bb, offb, d0, d1, d2, d3, rfl, hbb, h0, h1, h2, h3, hfb⟩ := HB.out k hlt
        rw [← hb.cell (p := ⟨ba, _, none⟩) hba] at g0 g1 g2 g3
        rw [← hb.cell (p := ⟨bb, _, none⟩) hbb] at h0 h1 h2 h3
        obtain ⟨ck, cc, cta, ctn, ctcap, cka, ckn, ckcap, rfl, rfl, rfl, rfl⟩ := hfa.form
        obtain ⟨dk, dc, dta, dtn, dtcap, dka, dkn, dkcap, rfl, rfl, rfl, rfl⟩ := hfb.form
        have HIH := Lib.hid (fun W (hb : Below w.heap.size w W) => HI.out (f.ks.getD k default) _ _ W ((hfa.below hb).mono hb.size) ((hfb.below hb).mono hb.size))
        have K5 : Hid (∀ W' : World, (∀ b' o, b' ≤ w.heap.size + 1 → W'.cell? ⟨b', o, none⟩ = wr.cell? ⟨b', o, none⟩) → W'.cell? ⟨w.heap.size, 3, none⟩ = some (.slice (some ⟨ba, offa, none⟩) len kcap) ∧ W'.cell? ⟨w.heap.size + 1, 3, none⟩ = some (.slice (some ⟨bb, offb, none⟩) len kcapb) ∧
            W'.cell? ⟨ba, offa + k * 4, none⟩ = some (.int .i64 ck) ∧ W'.cell? ⟨ba, offa + k * 4 + 1, none⟩ = some (.int .i64 cc) ∧ W'.cell? ⟨ba, offa + k * 4 + 2, none⟩ = some (.slice cta ctn ctcap) ∧ W'.cell? ⟨ba, offa + k * 4 + 3, none⟩ = some (.slice cka ckn ckcap) ∧
            W'.cell? ⟨bb, offb + k * 4, none⟩ = some (.int .i64 dk) ∧ W'.cell? ⟨bb, offb + k * 4 + 1, none⟩ = some (.int .i64 dc) ∧ W'.cell? ⟨bb, offb + k * 4 + 2, none⟩ = some (.slice dta dtn dtcap) ∧ W'.cell? ⟨bb, offb + k * 4 + 3, none⟩ = some (.slice dka dkn dkcap)) :=
          fun W' h => ⟨(h _ _ (by omega)).trans q3, (h _ _ (by omega)).trans s3, (h _ _ (by omega)).trans g0, (h _ _ (by omega)).trans g1, (h _ _ (by omega)).trans g2, (h _ _ (by omega)).trans g3, (h _ _ (by omega)).trans h0, (h _ _ (by omega)).trans h1, (h _ _ (by omega)).trans h2, (h _ _ (by omega)).trans h3⟩
        clear hfa hfb
        go_wp2_with fail
        go_region_held3 (fun W' => W'.cell? ⟨w.heap.size, 3, none⟩ = some (.slice (some ⟨ba, offa, none⟩) len kcap) ∧ W'.cell? ⟨w.heap.size + 1, 3, none⟩ = some (.slice (some ⟨bb, offb, none⟩) len kcapb) ∧
            W'.cell? ⟨ba, offa + k * 4, none⟩ = some (.int .i64 ck) ∧ W'.cell? ⟨ba, offa + k * 4 + 1, none⟩ = some (.int .i64 cc) ∧ W'.cell? ⟨ba, offa + k * 4 + 2, none⟩ = some (.slice cta ctn ctcap) ∧ W'.cell? ⟨ba, offa + k * 4 + 3, none⟩ = some (.slice cka ckn ckcap) ∧
            W'.cell? ⟨bb, offb + k * 4, none⟩ = some (.int .i64 dk) ∧ W'.cell? ⟨bb, offb + k * 4 + 1, none⟩ = some (.int .i64 dc) ∧ W'.cell? ⟨bb, offb + k * 4 + 2, none⟩ = some (.slice dta dtn dtcap) ∧ W'.cell? ⟨bb, offb + k * 4 + 3, none⟩ = some (.slice dka dkn dkcap))
          (first
            | with_reducible exact T5.out
            | go_keep)
          (first
            | (go_at_call 12
               refine (HIH.out _ hb.drew).mono ?_
               rintro e w5 ⟨rfl, hb5⟩
               have HB5 : Hid (Below wr.heap.size wr w5) := (Below.refl _ wr).drew.trans hb5
               have T5 := Lib.hid (K5.out w5 (fun b' o h => HB5.out.cell (p := ⟨b', o, none⟩) (by show b' < _; omega)))))
        have BX5 := Lib.hid (And.intro (hbx.out.1.below HB5.out bz) (hbx.out.2.below HB5.out bz2))
        clear g0 g1 g2 g3 h0 h1 h2 h3 q3 s3 T5 HIH K5 hb5
        go_wp2_with fail
        go_roundw
        case rel => exact ⟨k + 1, by omega, by go_num, BX5⟩
        case measure => simp [intOf]; omega
      · go_wp2_with fail
        go_ret
        exact ⟨rfl, hb⟩
end Go.Proofs.Ytknagcednppokaa

namespace Go.Proofs.Ytknagcednppokaa
open Go.RowKit

/-- A form's literal, by both: one formula, one number of what is amiss. -/
theorem lit_total (c : Int) (a : Option Addr) (n cap : Nat) (l : List (Int × Int)) (w : World) (hn : l.length = n) (hm : n ≤ 9223372036854775807) (hl : Lies w.heap.size w a l) : ∃ (f : FT) (x : Value) (k : Int),
    (∀ W, Below w.heap.size w W → Calls Try.prog 10 #[.agg #[.int .i64 c, .slice a n cap]] W (LitEnd W.heap.size f x W)) ∧
    (∀ W, Below w.heap.size w W → Calls Try.prog 11 #[.agg #[.int .i64 c, .slice a n cap]] W (LitEnd W.heap.size f (.int .i64 k) W)) ∧
    (∀ W, Calls Try.prog 13 #[x] W fun e w' => e = .returned (.int .i64 k) ∧ W = w') := by
  have HL := fun W (hb : Below w.heap.size w W) => (hl.below hb).mono hb.size
  by_cases hs : snd c l = true
  · by_cases h0 : n = 0
    · subst h0
      obtain rfl : l = [] := List.eq_nil_of_length_eq_zero hn
      exact ⟨_, _, _, fun W hb => literal_none c a cap W hs _ rfl, fun W hb => rlit_none c a cap W hs _ rfl, fun W => code_nil W⟩
    · have h0' : 0 < n := by omega
      by_cases hp : 0 < (l.getD 0 (0, 0)).2.tdiv (gAt l n)
      · refine ⟨.mk 2 (upI c (gAt l n)) (redL (gAt l n) l) [], .nilIface, 0, fun W hb => (literal_pos c a n cap l W hn (HL W hb) hs h0' hp).mono fun e w' h => ?_, fun W hb => rlit_terms c a n cap l W hn (HL W hb) hs h0' _ _ ⟨fun _ => ⟨rfl, rfl⟩, fun h => absurd hp h, fun h => absurd hp h⟩, fun W => code_nil W⟩
        obtain ⟨v, rfl, hrow, hbl⟩ := h
        obtain ⟨a3, cap3, rfl, hl3⟩ := hrow.liesS
        have h64 := (snd_iff.1 hs).2.1
        exact ⟨_, rfl, flies_leafS (by rw [redL_len]; omega) hl3, hbl⟩
      · by_cases hw : wi (1 - upI c (gAt l n)) 1073741824 = true
        · exact ⟨_, _, _, fun W hb => (literal_neg c a n cap l W hn (HL W hb) hs h0' hp).1 hw, fun W hb => rlit_terms c a n cap l W hn (HL W hb) hs h0' _ _ ⟨fun h => absurd h hp, fun _ _ => ⟨rfl, rfl⟩, fun _ h => (by rw [hw] at h; cases h)⟩, fun W => code_nil W⟩
        · rw [Bool.not_eq_true] at hw
          exact ⟨_, _, _, fun W hb => (literal_neg c a n cap l W hn (HL W hb) hs h0' hp).2 hw, fun W hb => rlit_terms c a n cap l W hn (HL W hb) hs h0' _ _ ⟨fun h => absurd h hp, fun _ h => (by rw [hw] at h; cases h), fun _ _ => ⟨rfl, rfl⟩⟩, fun W => code_k 3 W (by omega) (by omega)⟩
  · rw [Bool.not_eq_true] at hs
    exact ⟨_, _, _, fun W hb => literal_bad c a n cap l W hn hm (HL W hb) hs, fun W hb => rlit_bad c a n cap l W hn hm (HL W hb) hs, fun W => code_k 5 W (by omega) (by omega)⟩

theorem form_cells {W : World} {b : Nat} {x0 x1 x2 x3 : Value} (h : W.heap[b]? = some (.cells #[x0, x1, x2, x3] 28 (0, 0))) : W.cell? ⟨b, 0, none⟩ = some x0 ∧ W.cell? ⟨b, 1, none⟩ = some x1 ∧ W.cell? ⟨b, 2, none⟩ = some x2 ∧ W.cell? ⟨b, 3, none⟩ = some x3 :=
  ⟨(cell_of_row _ _ _ _ _ _ h).trans rfl, (cell_of_row _ _ _ _ _ _ h).trans rfl, (cell_of_row _ _ _ _ _ _ h).trans rfl, (cell_of_row _ _ _ _ _ _ h).trans rfl⟩

set_option maxRecDepth 100000 in
set_option maxHeartbeats 2000000 in
theorem normLiterals_any (hup : UpSaid3) (c : Int) (a : Option Addr) (n cap : Nat) (l : List (Int × Int)) (w : World) (hn : l.length = n) (hm : n ≤ 9223372036854775807) (hl : Lies w.heap.size w a l) :
    Calls Try.prog 3 #[.agg #[.int .i64 c, .slice a n cap]] w fun e w' => e = .returned (.bool true) ∧ Below w.heap.size w w' := by
  obtain ⟨f, x, k, h1, h2, h3⟩ := lit_total c a n cap l w hn hm hl
  have H1 := Lib.hid h1
  have H2 := Lib.hid h2
  have H3 := Lib.hid h3
  have B0 : Hid (Below w.heap.size w (w.alloc (.cells #[.int .i64 c, .slice a n cap] 24))) := (Below.refl _ w).alloc (Nat.le_refl _) _
  have P0 : Hid (∀ W, Below (w.heap.size + 1) (w.alloc (.cells #[.int .i64 c, .slice a n cap] 24)) W → W.cell? ⟨w.heap.size, 0, none⟩ = some (.int .i64 c) ∧ W.cell? ⟨w.heap.size, 1, none⟩ = some (.slice a n cap)) := fun W hb =>
    ⟨by rw [hb.cell (p := ⟨w.heap.size, 0, none⟩) (Nat.lt_succ_self _)]; simp, by rw [hb.cell (p := ⟨w.heap.size, 1, none⟩) (Nat.lt_succ_self _)]; simp⟩
  have Z0 : (w.alloc (.cells #[.int .i64 c, .slice a n cap] 24)).heap.size = w.heap.size + 1 := by simp
  generalize hw1 : w.alloc (.cells #[.int .i64 c, .slice a n cap] 24) = w1 at B0 P0 Z0
  clear h1 h2 h3 hl hn hm
  go_enter Try.func3, Try.ntmps3
  go_wp2_with fail
  clear hw1
  refine (hup _).mono ?_
  rintro e w2 ⟨rfl, hb2⟩
  rw [Z0] at hb2
  obtain ⟨q0, q1⟩ := P0.out _ hb2
  have HB2 := Lib.hid hb2
  clear hb2
  have Z2 : w.heap.size + 1 ≤ w2.heap.size := by have := HB2.out.size; omega
  go_wp2_with fail
  refine (H1.out _ (B0.out.trans (HB2.out.mono (Nat.le_succ _)))).mono ?_
  rintro e w3 ⟨cs3, rfl, hfS3, hb3⟩
  have hf3 : FLies w3.heap.size w3 2 f cs3 := hfS3.lies (fun b h => h.2)
  clear hfS3
  have HF3 := Lib.hid hf3
  cases f with
  | mk fk fc ft fs =>
  obtain ⟨ta, tcap, ka, kcap, rfl, _⟩ := hf3
  simp only [FT.kind, FT.c, FT.t, FT.ks] at HF3 ⊢
  have HB3 := Lib.hid (HB2.out.trans (hb3.mono Z2))
  have Z3 : w.heap.size + 1 ≤ w3.heap.size := Nat.le_trans Z2 hb3.size
  have hba : Below w3.heap.size w3 (w3.alloc (.cells #[.int .i64 fk, .int .i64 fc, .slice ta ft.length tcap, .slice ka fs.length kcap] 28)) := (Below.refl _ _).alloc (Nat.le_refl _) _
  have HB4 := Lib.hid (HB3.out.trans (hba.mono Z3))
  have Z4 : w3.heap.size < (w3.alloc (.cells #[.int .i64 fk, .int .i64 fc, .slice ta ft.length tcap, .slice ka fs.length kcap] 28)).heap.size := by simp
  have HN3 := Lib.hid (heap_alloc_new w3 (.cells #[.int .i64 fk, .int .i64 fc, .slice ta ft.length tcap, .slice ka fs.length kcap] 28))
  have HF4 := Lib.hid ((HF3.out.below hba).mono hba.size)
  obtain ⟨s0, s1⟩ := P0.out _ HB4.out
  clear hb3 hba q0 q1
  go_wp2_with fail
  generalize w3.alloc (.cells #[.int .i64 fk, .int .i64 fc, .slice ta ft.length tcap, .slice ka fs.length kcap] 28) = w4 at HB4 Z4 HN3 HF4 s0 s1 ⊢
  generalize w3.heap.size = N3 at Z3 Z4 HN3 ⊢
  refine (H2.out _ (B0.out.trans (HB4.out.mono (Nat.le_succ _)))).mono ?_
  rintro e w5 ⟨cs5, rfl, hfS5, hb5⟩
  have hf5 : FLies w5.heap.size w5 2 (.mk fk fc ft fs) cs5 := hfS5.lies (fun b h => h.2)
  clear hfS5
  have HF5 := Lib.hid hf5
  obtain ⟨tb, tcapb, kb, kcapb, rfl, _⟩ := hf5
  simp only [FT.kind, FT.c, FT.t, FT.ks] at HF5 ⊢
  have hbb : Below w5.heap.size w5 (w5.alloc (.cells #[.int .i64 fk, .int .i64 fc, .slice tb ft.length tcapb, .slice kb fs.length kcapb] 28)) := (Below.refl _ _).alloc (Nat.le_refl _) _
  have Z5 : w4.heap.size ≤ w5.heap.size := hb5.size
  have HB6 := Lib.hid ((HB4.out.trans (hb5.mono (by omega))).trans (hbb.mono (by omega)))
  obtain ⟨t0, t1, t2, t3⟩ := form_cells (((hbb.block _ (by omega)).trans (hb5.block _ Z4)).trans HN3.out)
  obtain ⟨v0, v1, v2, v3⟩ := form_cells (heap_alloc_new w5 (.cells #[.int .i64 fk, .int .i64 fc, .slice tb ft.length tcapb, .slice kb fs.length kcapb] 28))
  have HSM := Lib.hid (same2_any 2 (.mk fk fc ft fs) _ _ _ ((((HF4.out.below hb5).mono hb5.size).below hbb).mono hbb.size) ((HF5.out.below hbb).mono hbb.size))
  have Z6 : w5.heap.size ≤ (w5.alloc (.cells #[.int .i64 fk, .int .i64 fc, .slice tb ft.length tcapb, .slice kb fs.length kcapb] 28)).heap.size := hbb.size
  clear hb5 hbb s0 s1
  go_wp2_with fail
  refine HSM.out.mono ?_
  rintro e w7 ⟨rfl, hb7⟩
  have HB7 := Lib.hid (HB6.out.trans (hb7.mono (by omega)))
  clear hb7 t0 t1 t2 t3 v0 v1 v2 v3
  go_wp2_with fail
  refine (H3.out _).mono ?_
  rintro e w8 ⟨rfl, rfl⟩
  go_wp2_with fail
  go_ret
  exact ⟨rfl, B0.out.trans (HB7.out.mono (Nat.le_succ _))⟩
end Go.Proofs.Ytknagcednppokaa

namespace Go.Proofs.Ytknagcednppokaa
open Go.RowKit

/-- A form's literal. -/
def litT (c : Int) (l : List (Int × Int)) : FT :=
  if snd c l = true then
    if l.length = 0 then .mk (if c ≤ 0 then 0 else 1) 0 [] []
    else if 0 < (l.getD 0 (0, 0)).2.tdiv (gAt l l.length) then .mk 2 (upI c (gAt l l.length)) (redL (gAt l l.length) l) []
    else if wi (1 - upI c (gAt l l.length)) 1073741824 = true then .mk 4 0 [] [.mk 2 (1 - upI c (gAt l l.length)) (scale (-1) (redL (gAt l l.length) l)) []]
    else .mk 0 0 [] []
  else .mk 0 0 [] []
/-- What is amiss with it. -/
def litK (c : Int) (l : List (Int × Int)) : Int :=
  if snd c l = true then
    if l.length = 0 then 0
    else if 0 < (l.getD 0 (0, 0)).2.tdiv (gAt l l.length) then 0
    else if wi (1 - upI c (gAt l l.length)) 1073741824 = true then 0
    else 3
  else 5
theorem litK_sound {c : Int} {l : List (Int × Int)} (h : snd c l = true) : litK c l = 0 ∨ litK c l = 3 := by
  unfold litK
  rw [if_pos h]
  split
  · exact .inl rfl
  · split
    · exact .inl rfl
    · split
      · exact .inl rfl
      · exact .inr rfl

/-- The literals. -/
inductive IsLit : FT → Prop where
  | yes : IsLit (.mk 0 0 [] [])
  | no : IsLit (.mk 1 0 [] [])
  | le (c : Int) (t : List (Int × Int)) : IsLit (.mk 2 c t [])
  | not (c : Int) (t : List (Int × Int)) : IsLit (.mk 4 0 [] [.mk 2 c t []])
theorem litT_is (c : Int) (l : List (Int × Int)) : IsLit (litT c l) := by
  unfold litT
  split
  · split
    · split
      · exact .yes
      · exact .no
    · split
      · exact .le _ _
      · split
        · exact .not _ _
        · exact .yes
  · exact .yes
/-- A literal's opposite. -/
def oppF : FT → FT
  | .mk k c t ks => if k = 0 then .mk 1 0 [] [] else if k = 1 then .mk 0 0 [] [] else if k = 4 then ks.getD 0 default else .mk 4 0 [] [.mk k c t ks]
theorem oppF_is {f : FT} (h : IsLit f) : IsLit (oppF f) := by
  cases h with
  | yes => exact .no
  | no => exact .yes
  | le c t => exact .not c t
  | not c t => exact .le c t

/-- The pair for a list: all kids', or none. -/
def bothT (f : FT) (so : Bool) : Option FT :=
  if litK f.c f.t = 0 then
    if litK (-f.c) (scale (-1) f.t) = 0 then
      some (if so then .mk 5 0 [] [litT f.c f.t, litT (-f.c) (scale (-1) f.t)] else .mk 6 0 [] [oppF (litT f.c f.t), oppF (litT (-f.c) (scale (-1) f.t))])
    else none
  else none
/-- Normalized, or, if it isn't so, normalized as not; none: a literal is too far. -/
def normF : Nat → FT → Bool → Option FT
  | 0, _, _ => none
  | n + 1, f, so =>
    if f.kind = 0 ∨ f.kind = 1 then some (if so then .mk f.kind 0 [] [] else oppF (.mk f.kind 0 [] []))
    else if f.kind = 2 then (if litK f.c f.t = 0 then some (if so then litT f.c f.t else oppF (litT f.c f.t)) else none)
    else if f.kind = 3 then bothT f so
    else if f.kind = 4 then normF n (f.ks.getD 0 default) (!so)
    else if (f.ks.all fun k => (normF n k so).isSome) = true then some (.mk (if so then f.kind else 11 - f.kind) 0 [] (f.ks.map fun k => (normF n k so).getD default))
    else none
/-- The formula that a list's rounds make. -/
def kidsT (n : Nat) (f : FT) (so : Bool) : FT := .mk (if so then f.kind else 11 - f.kind) 0 [] (f.ks.map fun k => (normF n k so).getD default)
theorem kidsT_get {n : Nat} {f : FT} {so : Bool} {j : Nat} {g : FT} (hj : j < f.ks.length) (h : normF n (f.ks.getD j default) so = some g) : (kidsT n f so).ks.getD j default = g := by
  show (f.ks.map fun k => (normF n k so).getD default).getD j default = g
  rw [List.getD_eq_getElem?_getD, List.getElem?_eq_getElem hj] at h
  simp only [Option.getD_some] at h
  simp [List.getD_eq_getElem?_getD, hj, h]
theorem kidsT_len (n : Nat) (f : FT) (so : Bool) : (kidsT n f so).ks.length = f.ks.length := by
  show (f.ks.map _).length = _
  rw [List.length_map]

/-- More layers. -/
theorem FLiesS.up {S : Nat → Prop} {w : World} : ∀ {n m : Nat} {f : FT} {cs : List Value}, FLiesS S w n f cs → n ≤ m → FLiesS S w m f cs
  | 0, _, _, _, h, _ => h.elim
  | n + 1, 0, _, _, _, hm => absurd hm (by omega)
  | n + 1, m + 1, f, cs, ⟨ta, tcap, ka, kcap, h1, h2, h3, h4, h5⟩, hm => ⟨ta, tcap, ka, kcap, h1, h2, h3, h4, fun i hi => by
    obtain ⟨b, off, c0, c1, c2, c3, e, hb, g0, g1, g2, g3, hf⟩ := h5 i hi
    exact ⟨b, off, c0, c1, c2, c3, e, hb, g0, g1, g2, g3, hf.up (by omega)⟩⟩

/-- What normalizing answers. -/
def NormEnd (B m : Nat) (o : Option FT) (x y : Value) (w : World) (e : Ending) (w' : World) : Prop :=
  ∃ cs, e = .returned (.tuple #[.agg cs.toArray, if o.isSome then x else y]) ∧ FLiesS (fun b => B ≤ b ∧ b < w'.heap.size) w' m (o.getD (.mk 0 0 [] [])) cs ∧ Below B w w'

/-- A form's literal, by the program and by the document. -/
theorem lit_both (c : Int) (a : Option Addr) (n cap : Nat) (l : List (Int × Int)) (w : World) (hn : l.length = n) (hm : n ≤ 9223372036854775807) (hl : Lies w.heap.size w a l) :
    Calls Try.prog 10 #[.agg #[.int .i64 c, .slice a n cap]] w (LitEnd w.heap.size (litT c l) (codeV (litK c l)) w) ∧
    Calls Try.prog 11 #[.agg #[.int .i64 c, .slice a n cap]] w (LitEnd w.heap.size (litT c l) (.int .i64 (litK c l)) w) := by
  unfold litT litK
  by_cases hs : snd c l = true
  · rw [if_pos hs, if_pos hs]
    by_cases h0 : n = 0
    · subst h0
      obtain rfl : l = [] := List.eq_nil_of_length_eq_zero hn
      exact ⟨literal_none c a cap w hs _ rfl, rlit_none c a cap w hs _ rfl⟩
    · have h0' : 0 < n := by omega
      subst hn
      rw [if_neg h0, if_neg h0]
      by_cases hp : 0 < (l.getD 0 (0, 0)).2.tdiv (gAt l l.length)
      · rw [if_pos hp, if_pos hp]
        refine ⟨(literal_pos c a _ cap l w rfl hl hs h0' hp).mono fun e w' h => ?_, rlit_terms c a _ cap l w rfl hl hs h0' _ _ ⟨fun _ => ⟨rfl, rfl⟩, fun h => absurd hp h, fun h => absurd hp h⟩⟩
        obtain ⟨v, rfl, hrow, hbl⟩ := h
        obtain ⟨a3, cap3, rfl, hl3⟩ := hrow.liesS
        have h64 := (snd_iff.1 hs).2.1
        exact ⟨_, rfl, flies_leafS (by rw [redL_len]; omega) hl3, hbl⟩
      · rw [if_neg hp, if_neg hp]
        by_cases hw : wi (1 - upI c (gAt l l.length)) 1073741824 = true
        · rw [if_pos hw, if_pos hw]
          exact ⟨(literal_neg c a _ cap l w rfl hl hs h0' hp).1 hw, rlit_terms c a _ cap l w rfl hl hs h0' _ _ ⟨fun h => absurd h hp, fun _ _ => ⟨rfl, rfl⟩, fun _ h => (by rw [hw] at h; cases h)⟩⟩
        · rw [if_neg hw, if_neg hw]
          rw [Bool.not_eq_true] at hw
          exact ⟨(literal_neg c a _ cap l w rfl hl hs h0' hp).2 hw, rlit_terms c a _ cap l w rfl hl hs h0' _ _ ⟨fun h => absurd h hp, fun _ h => (by rw [hw] at h; cases h), fun _ _ => ⟨rfl, rfl⟩⟩⟩
  · rw [if_neg hs, if_neg hs]
    rw [Bool.not_eq_true] at hs
    exact ⟨literal_bad c a n cap l w hn hm hl hs, rlit_bad c a n cap l w hn hm hl hs⟩
end Go.Proofs.Ytknagcednppokaa

namespace Go.Proofs.Ytknagcednppokaa
open Go.RowKit

/-- Few parts at each place. -/
def litF : Nat → FT → Prop
  | 0, _ => False
  | n + 1, f => f.t.length ≤ 1048576 ∧ f.ks.length ≤ 1048576 ∧ ∀ i, i < f.ks.length → litF n (f.ks.getD i default)
/-- An answer that is some number from -1 up to a bound; from 0 on the formula has few parts. -/
def SomeL (L : Prop) (B : Nat) (m : Int) (w : World) (e : Ending) (w' : World) : Prop := ∃ v : Int, e = .returned (.int .i64 v) ∧ -1 ≤ v ∧ v ≤ m ∧ (0 ≤ v → L) ∧ Below B w w'

set_option maxRecDepth 100000 in
set_option maxHeartbeats 1600000 in
theorem lit_any : ∀ (n : Nat) (f : FT) (cs : List Value) (m d : Int) (w : World), 0 ≤ m → m ≤ 1048576 → 0 ≤ d → d ≤ 1048576 → FLies w.heap.size w n f cs →
    Calls Try.prog 22 #[.agg cs.toArray, .int .i64 m, .int .i64 d] w (SomeL (litF n f) w.heap.size m w)
  | 0, _, _, _, _, _, _, _, _, _, h => h.elim
  | n + 1, f, cs, m, d, w, h0, h1, d0, d1, h => by
    have IH := lit_any n
    obtain ⟨ta, tcap, ka, kcap, rfl, _, ht4, hk4, hks⟩ := h
    have HI := Lib.hid IH
    have HK := Lib.hid hks
    have B0 := Lib.hid (box_start w f.kind f.c ta ka f.t.length tcap f.ks.length kcap)
    have HLT : Hid (f.t.length ≤ 1048576 → f.ks.length ≤ 1048576 → (∀ i, i < f.ks.length → litF n (f.ks.getD i default)) → litF (n + 1) f) := fun h1 h2 h3 => ⟨h1, h2, h3⟩
    clear IH hks
    generalize f.kind = fk at B0
    generalize f.c = fc at B0
    generalize f.t.length = ft at B0 ht4 HLT
    generalize hl : f.ks.length = len at B0 HK hk4 HLT
    clear hl
    have hno : ∀ r : Int, r = -1 → Hid (SomeL (litF (n + 1) f) w.heap.size m w (.returned (.int .i64 r)) (w.alloc (.cells #[.int .i64 fk, .int .i64 fc, .slice ta ft tcap, .slice ka len kcap] 28))) := fun r hr => ⟨r, rfl, by omega, by omega, fun h => by omega, B0.out.bel⟩
    by_cases hd : d = 0
    · have e1 : (d == 0) = true := by simpa using hd
      have hn := hno _ rfl
      clear hno HI HK hd
      go_enter Try.func22, Try.ntmps22
      go_wp2_with fail
      go_ret
      exact hn.out
    · have e1 : (d == 0) = false := by simpa using hd
      by_cases hm : m = 0
      · have e2 : decide (m - 1 < 0) = true := by simp; omega
        have hn := hno _ rfl
        clear hno HI HK hd
        go_enter Try.func22, Try.ntmps22
        go_wp2_with fail
        go_ret
        exact hn.out
      · have e2 : ¬ m - 1 < 0 := by omega
        by_cases ht : m - 1 < (ft : Int)
        · have hn := hno _ rfl
          clear hno HI HK hd
          go_enter Try.func22, Try.ntmps22
          go_wp2_with fail
          go_ret
          exact hn.out
        · by_cases hk : m - 1 < (len : Int)
          · have hn := hno _ rfl
            clear hno HI HK hd
            go_enter Try.func22, Try.ntmps22
            go_wp2_with fail
            go_ret
            exact hn.out
          · clear hno
            go_enter Try.func22, Try.ntmps22
            go_wp2_with fail
            go_loopw [1, 7] (fun s i wr => ∃ (k : Nat) (v : Int), k ≤ len ∧ i = .int .i64 k ∧ s = .int .i64 v ∧ 0 ≤ v ∧ v ≤ m - 1 ∧ Hid (∀ j, j < k → litF n (f.ks.getD j default)) ∧ Hid (Box w wr w.heap.size fk fc ta ft tcap ka len kcap)) (fun _ i _ => len - (intOf i).toNat)
            case atStart => exact ⟨0, m - 1 - ft, Nat.zero_le _, rfl, rfl, by omega, by omega, fun j hj => absurd hj (Nat.not_lt_zero j), B0⟩
            case round =>
              obtain ⟨k, v, hkk, rfl, rfl, hv1, hv2, hlit, hbx⟩ := hrel
              obtain ⟨bz, _, _, _, q3, hb⟩ := hbx.out
              by_cases hlt : k < len
              · obtain ⟨b, off, c0, c1, c2, c3, rfl, hblt, g0, g1, g2, g3, hf⟩ := HK.out k hlt
                rw [← hb.cell (p := ⟨b, _, none⟩) hblt] at g0 g1 g2 g3
                obtain ⟨ck, cc, cta, ctn, ctcap, cka, ckn, ckcap, rfl, rfl, rfl, rfl⟩ := hf.form
                have hih := HI.out (f.ks.getD k default) _ v (d - 1) wr (by omega) (by omega) (by omega) (by omega) ((hf.below hb).mono hb.size)
                clear hf
                go_wp2_with fail
                refine hih.mono ?_
                rintro e w1 ⟨u, rfl, hu1, hu2, hul, hb1⟩
                have HB1 := Lib.hid (hbx.out.below hb1 bz)
                clear g0 g1 g2 g3 hih hb1 hb hbx q3
                by_cases hun : u < 0
                · go_wp2_with fail
                  go_ret
                  exact ⟨-1, rfl, by omega, by omega, fun h => by omega, HB1.out.bel⟩
                · have hlit2 : Hid (∀ j, j < k + 1 → litF n (f.ks.getD j default)) := fun j hj => by
                    by_cases ej : j = k
                    · rw [ej]; exact hul (by omega)
                    · exact hlit.out j (by omega)
                  clear hul hlit
                  go_wp2_with fail
                  go_roundw
                  case rel => exact ⟨k + 1, u, by omega, by go_num, rfl, by omega, by omega, hlit2, HB1⟩
                  case measure => simp [intOf]; omega
              · clear HI HK
                go_wp2_with fail
                go_ret
                exact ⟨v, rfl, by omega, by omega, fun _ => HLT.out (by omega) (by omega) (fun i hi => hlit.out i (by omega)), hb⟩


end Go.Proofs.Ytknagcednppokaa

namespace Go.Proofs.Ytknagcednppokaa
open Go.RowKit

theorem Try.infoForm : (Try.prog.info? 28).map (fun i => (i.zero, i.size, i.bytes)) = some (some (.agg #[.int .i64 0, .int .i64 0, .slice none 0 0, .slice none 0 0]), 4, 64) := by kernel_rfl
end Go.Proofs.Ytknagcednppokaa
