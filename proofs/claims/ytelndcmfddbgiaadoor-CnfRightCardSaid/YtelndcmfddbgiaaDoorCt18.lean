/- The document's own Value; lin.Same. The document's At; its rows. The document's atoms. The document's atoms: of what is no atom; of any formula. -/
import Derived.Test.YtelndcmfddbgiaaDoorCt07
import Derived.Test.YtelndcmfddbgiaaDoorCt09
import Derived.Test.YtelndcmfddbgiaaDoorCt13
import Derived.Test.YtelndcmfddbgiaaDoorCt15
import Derived.Test.YtelndcmfddbgiaaDoorCt17
import Derived.Lib.QuietBelow
import Derived.BigQuiet
set_option linter.unusedVariables false
set_option linter.unusedSimpArgs false
namespace Go.Proofs.YtelndcmfddbgiaaDoor
open Go.RowKit

set_option maxHeartbeats 400000 in
theorem of_any (v : Int) (a : Option Addr) (n cap : Nat) (zs : List Int) (w : World) (hn : zs.length = n) (hm : n ≤ 9223372036854775807) (hv : 0 ≤ v) (hz : Nums w.heap.size w a zs) :
    Calls Tryd.prog 60 #[.slice a n cap, .int .i64 v] w fun e w' => e = .returned (.int .i64 (valOf zs v)) ∧ w = w' := by
  by_cases hlt : v < n
  · obtain ⟨i, rfl⟩ := Int.eq_ofNat_of_zero_le hv
    obtain ⟨b, off, rfl, hb, hc⟩ := hz i (by omega)
    have hx2 : valOf zs (i : Int) = zs.getD i 0 := by unfold valOf; rw [if_pos (by omega)]; simp
    rw [hx2]
    generalize zs.getD i 0 = x at hc ⊢
    clear hz hn hx2
    go_enter Tryd.func60, Tryd.ntmps60
    go_wp2
    go_ret
    exact ⟨rfl, rfl⟩
  · have hx2 : valOf zs v = 0 := by unfold valOf; rw [if_neg (by omega)]
    rw [hx2]
    clear hz hn hx2
    go_enter Tryd.func60, Tryd.ntmps60
    go_wp2
    go_ret
    exact ⟨rfl, rfl⟩

theorem sAt_eq (c : Int) (l : List (Int × Int)) (zs : List Int) (k : Nat) : sAt c l zs (k + 1) = sAt c l zs k + valOf zs (l.getD k (0, 0)).1 * (l.getD k (0, 0)).2 := by
  show sAt c l zs k + _ * _ = _
  rw [Int.mul_comm]

set_option maxHeartbeats 1000000 in
theorem rvalue_form (c : Int) (a : Option Addr) (n cap : Nat) (l : List (Int × Int)) (a2 : Option Addr) (n2 cap2 : Nat) (w : World) (hn : l.length = n) (hm : n ≤ 9223372036854775807) (hl : Lies w.heap.size w a l) (hs : snd c l = false) :
    Calls Tryd.prog 36 #[.agg #[.int .i64 c, .slice a n cap], .slice a2 n2 cap2] w fun e w' => e = .returned (.tuple #[.int .i64 0, .int .i64 5]) ∧ Below w.heap.size w w' := by
  have hb0 : Below w.heap.size w (w.alloc (.cells #[.int .i64 c, .slice a n cap] 24)) := (Below.refl _ w).alloc (Nat.le_refl _) _
  have hck := rcheck_any c a n cap l _ hn hm ((hl.below hb0).mono hb0.size)
  rw [hs] at hck
  have HB := Lib.hid hb0
  clear hn hs hl hb0
  go_enter Tryd.func36, Tryd.ntmps36
  go_wp2_with (go_at_call 61; refine hck.mono ?_; rintro e w1 ⟨rfl, hb1⟩)
  go_ret2
  exact ⟨rfl, HB.out.trans (hb1.mono (by simp))⟩

theorem val_mul {x k : Int} (hx : -16777216 ≤ x ∧ x ≤ 16777216) (hk : -1073741824 ≤ k ∧ k ≤ 1073741824) : -18014398509481984 ≤ x * k ∧ x * k ≤ 18014398509481984 := by
  have h1 : (x * k).natAbs ≤ 16777216 * 1073741824 := by
    rw [Int.natAbs_mul]; exact Nat.mul_le_mul (by omega) (by omega)
  omega

set_option maxHeartbeats 1600000 in
theorem rvalue_any (c : Int) (a : Option Addr) (n cap : Nat) (l : List (Int × Int)) (a2 : Option Addr) (n2 cap2 : Nat) (zs : List Int) (w : World) (hn : l.length = n) (hn2 : zs.length = n2) (hm2 : n2 ≤ 9223372036854775807) (hl : Lies w.heap.size w a l) (hz : Nums w.heap.size w a2 zs) (hs : snd c l = true)
    (v r : Int) (hr : (v = sAt c l zs n ∧ r = 0 ∧ ∀ i, i < n → near l zs i = true) ∨ (v = 0 ∧ r = 1 ∧ ¬ ∀ i, i < n → near l zs i = true)) :
    Calls Tryd.prog 36 #[.agg #[.int .i64 c, .slice a n cap], .slice a2 n2 cap2] w fun e w' => e = .returned (.tuple #[.int .i64 v, .int .i64 r]) ∧ Below w.heap.size w w' := by
  obtain ⟨hwc, h64, hall⟩ := snd_iff.1 hs
  have hcb : -1073741824 ≤ c ∧ c ≤ 1073741824 := by unfold wi at hwc; simpa using hwc
  have hb0 : Below w.heap.size w (w.alloc (.cells #[.int .i64 c, .slice a n cap] 24)) := (Below.refl _ w).alloc (Nat.le_refl _) _
  have hck := rcheck_any c a n cap l _ hn (by omega) ((hl.below hb0).mono hb0.size)
  rw [hs] at hck
  have hn64 : n ≤ 64 := by omega
  have HB := Lib.hid hb0
  have HN := Lib.hid hn
  have HN2 := Lib.hid hn2
  have HL := Lib.hid hl
  have HZ := Lib.hid hz
  have HR := Lib.hid hr
  have HK := Lib.hid (fun j (hj : j < n) => okAt_in (hall j (by omega)))
  have HSI := Lib.hid (fun k (hk : k ≤ n) hx => sAt_in c l zs hcb k (by omega) (fun j hj => (okAt_in (hall j (by omega))).2.2.2.2) hx)
  clear hn hn2 hl hz hr hall hwc hb0 hs h64 hcb
  go_enter Tryd.func36, Tryd.ntmps36
  go_wp2_with (go_at_call 61; refine hck.mono ?_; rintro e w1 ⟨rfl, hb1⟩; obtain ⟨hc1, hf1⟩ := bcell hb1; have hz1 : w.heap.size < w1.heap.size := (by have := hb1.size; simp at this; omega))
  have B1 := Lib.hid (HB.out.trans (hb1.mono (by simp)))
  have a0 : w1.cell? ⟨w.heap.size, 1, none⟩ = some (.slice a n cap) := by rw [hc1 _ _ (by simp)]; simp
  clear hc1 hf1 hb1 hck
  go_loop [7, 8, 9] (fun s i _ => ∃ k : Nat, k ≤ n ∧ i = .int .i64 k ∧ s = .int .i64 (sAt c l zs k) ∧ Hid (∀ j, j < k → near l zs j = true)) (fun _ i _ => n - (intOf i).toNat)
  case atStart => exact ⟨0, Nat.zero_le _, rfl, rfl, fun j hj => absurd hj (Nat.not_lt_zero j)⟩
  case round =>
    obtain ⟨k, hk, rfl, rfl, hok⟩ := hrel
    by_cases hlt : k < n
    · obtain ⟨b, off, rfl, hblt, c1, c2⟩ := (HL.out.below B1.out) k (by rw [HN.out]; exact hlt)
      have hkk := HK.out k hlt
      have hof := of_any (l.getD k (0, 0)).1 a2 n2 cap2 zs w1 HN2.out hm2 hkk.2.2.1 ((HZ.out.below B1.out).mono B1.out.size)
      have hss := HSI.out k hk (fun j hj => hok.out j hj)
      have hst := sAt_eq c l zs k
      by_cases hx : near l zs k = true
      · have hok2 : Hid (∀ j, j < k + 1 → near l zs j = true) := fun j hj => by
          by_cases ej : j = k
          · rw [ej]; exact hx
          · exact hok.out j (by omega)
        have hxb : -16777216 ≤ valOf zs (l.getD k (0, 0)).1 ∧ valOf zs (l.getD k (0, 0)).1 ≤ 16777216 := by unfold near wi at hx; simpa using hx
        have hm := val_mul hxb hkk.2.2.2.2
        have HST := Lib.hid hst
        clear hst hx hkk
        generalize hX : valOf zs (l.getD k (0, 0)).1 = X at hof hxb hm HST
        generalize (l.getD k (0, 0)).1 = v at c1 hof
        generalize (l.getD k (0, 0)).2 = u at c2 hm HST
        generalize hS : sAt c l zs k = S at hss HST
        clear hX hS
        go_wp2_with (go_at_call 60; refine hof.mono ?_; rintro e w' ⟨rfl, rfl⟩)
        go_round
        case rel => exact ⟨k + 1, by omega, by go_num, by rw [HST.out], hok2⟩
        case measure => simp [intOf]; omega
      · have HF : Hid (v = 0 ∧ r = 1) := by
          rcases HR.out with ⟨_, _, h3⟩ | ⟨h1, h2, _⟩
          · exact absurd (h3 k hlt) hx
          · exact ⟨h1, h2⟩
        have hxb : ¬ (-16777216 ≤ valOf zs (l.getD k (0, 0)).1 ∧ valOf zs (l.getD k (0, 0)).1 ≤ 16777216) := fun h => hx (by unfold near; exact wi_t h)
        clear hst hx hkk
        generalize hX : valOf zs (l.getD k (0, 0)).1 = X at hof hxb
        generalize (l.getD k (0, 0)).1 = v at c1 hof
        clear hX
        obtain ⟨rfl, rfl⟩ := HF.out
        by_cases hlo : X < -16777216
        · go_wp2_with (go_at_call 60; refine hof.mono ?_; rintro e w' ⟨rfl, rfl⟩)
          go_ret2
          exact ⟨rfl, B1.out⟩
        · have hhi : 16777216 < X := by omega
          go_wp2_with (go_at_call 60; refine hof.mono ?_; rintro e w' ⟨rfl, rfl⟩)
          go_ret2
          exact ⟨rfl, B1.out⟩
    · have hkn : n = k := by omega
      have HF : Hid (v = sAt c l zs k ∧ r = 0) := by
        rcases HR.out with ⟨h1, h2, _⟩ | ⟨_, _, h3⟩
        · rw [hkn] at h1; exact ⟨h1, h2⟩
        · exact absurd (fun i hi => hok.out i (by omega)) h3
      clear hkn HR
      obtain ⟨rfl, rfl⟩ := HF.out
      clear HF
      go_wp2
      go_ret2
      exact ⟨rfl, B1.out⟩

end Go.Proofs.YtelndcmfddbgiaaDoor

set_option linter.unusedVariables false
set_option linter.unusedSimpArgs false
namespace Go.Proofs.YtelndcmfddbgiaaDoor
set_option maxRecDepth 100000
open Go.RowKit

theorem atN_at : ∀ (am : List (Int × List (Int × Int))) (x : Int × List (Int × Int)) (k : Nat) (h : k < am.length), (∀ j (hj : j < k), am[j]'(by omega) ≠ x) → am[k] = x → atN am x = k + 1
  | a :: am, x, 0, h, _, e => by
    have e : a = x := e
    rw [atN, if_pos e]
  | a :: am, x, k + 1, h, hn, e => by
    have h0 : a ≠ x := hn 0 (by omega)
    have := atN_at am x k (by simp at h; omega) (fun j hj => hn (j + 1) (by omega)) e
    rw [atN, if_neg h0, this, if_neg (by omega)]
theorem atN_none : ∀ (am : List (Int × List (Int × Int))) (x : Int × List (Int × Int)), (∀ j (hj : j < am.length), am[j] ≠ x) → atN am x = 0
  | [], x, _ => rfl
  | a :: am, x, hn => by
    have h0 : a ≠ x := hn 0 (by simp)
    have := atN_none am x (fun j hj => hn (j + 1) (by simp; omega))
    rw [atN, if_neg h0, this, if_pos rfl]
theorem same_iff {c d : Int} {l m : List (Int × Int)} : same c d l m = decide ((c, l) = (d, m)) := by
  unfold same
  by_cases h1 : c = d <;> by_cases h2 : l = m <;> simp [h1, h2]
set_option maxHeartbeats 4000000 in
theorem at_any (S : Nat → Prop) (a : Option Addr) (n cap : Nat) (am : List (Int × List (Int × Int))) (c : Int) (ta : Option Addr) (tn tcap : Nat) (t : List (Int × Int)) (w : World) (hs : Pak.Sits linSh S w a am) (hS : ∀ b, S b → b < w.heap.size) (hn : am.length = n) (hl : ∀ y ∈ am, y.2.length ≤ 9223372036854775807) (ht : Lies w.heap.size w ta t) (htn : t.length = tn) (htm : tn ≤ 9223372036854775807) :
    Calls Tryd.prog 50 #[.slice a n cap, .agg #[.int .i64 c, .slice ta tn tcap]] w fun e w' => e = .returned (.int .i64 (atN am (c, t))) ∧ Below w.heap.size w w' := by
  have hA : Below w.heap.size w (w.alloc (.cells #[.int .i64 c, .slice ta tn tcap] 24)) := (Below.refl _ w).alloc (Nat.le_refl _) _
  have hnw := heap_alloc_new w (.cells #[.int .i64 c, .slice ta tn tcap] 24)
  have x0 : (w.alloc (.cells #[.int .i64 c, .slice ta tn tcap] 24)).cell? ⟨w.heap.size, 0, none⟩ = some (.int .i64 c) := (cell_of_row _ _ _ _ _ _ hnw).trans rfl
  have x1 : (w.alloc (.cells #[.int .i64 c, .slice ta tn tcap] 24)).cell? ⟨w.heap.size, 1, none⟩ = some (.slice ta tn tcap) := (cell_of_row _ _ _ _ _ _ hnw).trans rfl
  have hz : w.heap.size < (w.alloc (.cells #[.int .i64 c, .slice ta tn tcap] 24)).heap.size := by simp
  have HZ := Lib.hid hz
  have HX0 := Lib.hid x0
  have HX1 := Lib.hid x1
  have HA := Lib.hid hA
  have HS := Lib.hid hS
  have HL := Lib.hid hs.2
  have hnm : n ≤ 9223372036854775807 := by rw [← hn]; exact hs.1
  have HN := Lib.hid hn
  have HSM := Lib.hid (fun (b : Option Addr) (y : Int × List (Int × Int)) (bcap : Nat) (W : World) (hy : y ∈ am) (hb : Below w.heap.size w W) (hlb : Lies w.heap.size w b y.2) => same_any y.1 c b ta y.2.length tn bcap tcap y.2 t W rfl htn (hl y hy) htm ((hlb.below hb).mono hb.size) ((ht.below hb).mono hb.size))
  have HYES := Lib.hid (fun k h1 h2 h3 => atN_at am (c, t) k h1 h2 h3)
  have HNO := Lib.hid (fun h => atN_none am (c, t) h)
  clear hA hnw hz hS hs hl ht htn htm hn
  generalize atN am (c, t) = r at *
  go_enter Tryd.func50, Tryd.ntmps50
  go_wp2_with fail
  clear x0 x1
  generalize w.alloc (.cells #[.int .i64 c, .slice ta tn tcap] 24) = W1 at *
  go_loopw [5] (fun i wr => ∃ k : Nat, i = .int .i64 k ∧ k ≤ n ∧ Hid (∀ j (hj : j < k) (hj2 : j < am.length), am[j] ≠ (c, t)) ∧ Hid (Below W1.heap.size W1 wr)) (fun i _ => n - (intOf i).toNat)
  case atStart => exact ⟨0, rfl, Nat.zero_le _, fun j hj => absurd hj (Nat.not_lt_zero _), Below.refl _ _⟩
  case round =>
    obtain ⟨k, rfl, hk, hno, hb⟩ := hrel
    by_cases hlt : k < n
    · have hlti : (k : Int) < (n : Int) := by omega
      have hkl : k < am.length := by rw [HN.out]; exact hlt
      obtain ⟨b, off, cs, rfl, hSb, hc, ya, ycap, rfl, hly⟩ := HL.out k hkl
      have hB : Below w.heap.size w wr := HA.out.trans (hb.out.mono HA.out.size)
      have hbl := HS.out b hSb
      have ek : linSh.k = 2 := rfl
      have c0 := hc 0 _ rfl
      have c1 := hc 1 _ rfl
      rw [ek, Nat.add_zero] at c0
      rw [ek] at c1
      rw [← hB.cell (p := ⟨b, _, none⟩) hbl] at c0 c1
      have y0 := (hb.out.cell (p := ⟨w.heap.size, 0, none⟩) HZ.out).trans HX0.out
      have y1 := (hb.out.cell (p := ⟨w.heap.size, 1, none⟩) HZ.out).trans HX1.out
      have HSM2 := Lib.hid (fun W hW => HSM.out ya am[k] ycap W (List.getElem_mem hkl) hW (hly.lies HS.out))
      have HY2 := Lib.hid (HYES.out k hkl (fun j hj => hno.out j hj (by omega)))
      have HNX : Hid (am[k] ≠ (c, t) → ∀ j (hj : j < k + 1) (hj2 : j < am.length), am[j] ≠ (c, t)) := Lib.hid fun h j hj hj2 => by
        by_cases e : j = k
        · subst e; exact h
        · exact hno.out j (by omega) hj2
      clear hc hly ek hSb
      generalize am[k] = y at *
      obtain ⟨yc, yt⟩ := y
      have HB := Lib.hid hB
      have hzw : w.heap.size ≤ wr.heap.size := hB.size
      have cS := fun p os => Calls.regrown_of (HSM2.out _ (regrown_trans HB.out hzw p os))
      have HSI := Lib.hid (same_iff (c := yc) (d := c) (l := yt) (m := t))
      generalize same yc c yt t = z at *
      have q0 := fun d os => cell_regrown c0 d os
      have q1 := fun d os => cell_regrown c1 d os
      have q2 := fun d os => cell_regrown y0 d os
      have q3 := fun d os => cell_regrown y1 d os
      clear c0 c1 y0 y1
      go_wp2_with fail
      refine wp_region_quiet_below (by kernel_rfl) (by kernel_rfl) ?_
      repeat (go_big_quiet_step (with_reducible exact cS _ _))
      refine wpQuiet_nil ?_
      intro w9 hw'
      obtain ⟨⟨dq, osq⟩, hw''⟩ := hw'
      have HB9 : Hid (Below W1.heap.size W1 w9) := Lib.hid (by rw [hw'']; exact hb.out.trans ((below_regrown wr dq osq).mono hb.out.size))
      clear hw'' q0 q1 q2 q3 cS HSM2 HB
      cases z with
      | true =>
        have e := of_decide_eq_true HSI.out.symm
        have hr := HY2.out e
        have hw : IntKind.i64.wrap ((k : Int) + 1) = ((k + 1 : Nat) : Int) := by rw [IntWalk.i64_in _ (by omega)]; rfl
        have HE : Hid (Below w.heap.size w w9) := HA.out.trans (HB9.out.mono HA.out.size)
        clear HY2 HNX HSI e
        go_wp2_with fail
        go_ret
        exact ⟨by rw [hr]; rfl, HE.out⟩
      | false =>
        have HNN := Lib.hid (HNX.out (of_decide_eq_false HSI.out.symm))
        clear HY2 HNX HSI
        go_wp2_with fail
        go_roundw
        case rel => exact ⟨k + 1, by go_num, by omega, HNN, HB9⟩
        case measure => simp [intOf]; omega
    · have hlti : ¬ (k : Int) < (n : Int) := by omega
      obtain rfl : k = n := by omega
      have hr := HNO.out (fun j hj => hno.out j (by rw [HN.out] at hj; exact hj) hj)
      have HE : Hid (Below w.heap.size w wr) := HA.out.trans (hb.out.mono HA.out.size)
      clear hno hb
      go_wp2_with fail
      go_ret
      exact ⟨rfl, HE.out⟩
end Go.Proofs.YtelndcmfddbgiaaDoor

set_option linter.unusedVariables false
set_option linter.unusedSimpArgs false
namespace Go.Proofs.YtelndcmfddbgiaaDoor
set_option maxRecDepth 100000
open Go.RowKit

theorem grown_trans {r r' : Option Nat} {w w1 w2 : World} (hr : r' = r ∨ ∃ q, r' = some q ∧ w.heap.size ≤ q) (h : w.grownBy w1 r) (k : w1.grownBy w2 r') : w.grownBy w2 r :=
  ⟨k.os.trans h.os, k.tape.trans h.tape, k.output.trans h.output, Nat.le_trans h.size k.size, fun q hq hn => (k.block q (Nat.lt_of_lt_of_le hq h.size) (fun e => by
    rcases hr with rfl | ⟨p, rfl, hp⟩
    · exact hn e
    · injection e with e; omega)).trans (h.block q hq hn)⟩
theorem grown_of {r : Option Nat} {w w' : World} (h : Below w.heap.size w w') : w.grownBy w' r := ⟨h.os, h.tape, h.output, h.size, fun q hq _ => h.block q hq⟩
/-- What lies below the rows stands. -/
theorem grown_low {r : Option Nat} {w w' : World} {K : Nat} (h : w.grownBy w' r) (hK : K ≤ w.heap.size) (hr : ∀ q, r = some q → K ≤ q) : Below K w w' := ⟨h.os, h.tape, h.output, h.size, fun q hq => h.block q (by omega) (fun e => by have := hr q e.symm; omega)⟩
/-- A row that an append has told. -/
def RowTo {T : Type} (sh : Pak.Sh T) (ty : TypeId) (K : Nat) (S : Nat → Prop) (xs : List T) (v : Value) (w : World) (v' : Value) (w' : World) : Prop :=
  OwnP sh ty K S xs v' w' ∧ w.grownBy w' v.ownBlock ∧ (v'.ownBlock = v.ownBlock ∨ ∃ q, v'.ownBlock = some q ∧ w.heap.size ≤ q)
theorem RowTo.refl {T : Type} {sh : Pak.Sh T} {ty : TypeId} {K : Nat} {S : Nat → Prop} {xs : List T} {v : Value} {w : World} (h : OwnP sh ty K S xs v w) : RowTo sh ty K S xs v w v w := ⟨h, grown_of (Below.refl _ _), .inl rfl⟩
theorem RowTo.of {T : Type} {sh : Pak.Sh T} {ty : TypeId} {K : Nat} {S1 S2 : Nat → Prop} {xs xs1 : List T} {v v1 v2 : Value} {w w1 w2 : World} (h : RowTo sh ty K S1 xs1 v w v1 w1) (k : RowTo sh ty K S2 xs v1 w1 v2 w2) : RowTo sh ty K S2 xs v w v2 w2 :=
  ⟨k.1, grown_trans h.2.2 h.2.1 k.2.1, next_trans h.2.2 h.2.1.size k.2.2⟩
theorem RowTo.after {T : Type} {sh : Pak.Sh T} {ty : TypeId} {K : Nat} {S1 : Nat → Prop} {xs1 : List T} {v v1 : Value} {w w1 w2 : World} (h : RowTo sh ty K S1 xs1 v w v1 w1) (hb : Below w1.heap.size w1 w2) : RowTo sh ty K S1 xs1 v w v1 w2 :=
  ⟨h.1.below hb, grown_trans (.inl rfl) h.2.1 (grown_of hb), h.2.2⟩
theorem RowTo.before {T : Type} {sh : Pak.Sh T} {ty : TypeId} {K : Nat} {S1 : Nat → Prop} {xs1 : List T} {v v1 : Value} {w w1 w2 : World} (hb : Below w.heap.size w w1) (h : RowTo sh ty K S1 xs1 v w1 v1 w2) : RowTo sh ty K S1 xs1 v w v1 w2 :=
  ⟨h.1, grown_trans (.inl rfl) (grown_of hb) h.2.1, h.2.2.imp id (fun ⟨q, e, hq⟩ => ⟨q, e, Nat.le_trans hb.size hq⟩)⟩
abbrev ARow (B K : Nat) (am : List (Int × List (Int × Int))) (v : Value) (w : World) : Prop := OwnP linSh 24 K (fun b => b < B) am v w
def AEnd (B K : Nat) (am : List (Int × List (Int × Int))) (v : Value) (w : World) (e : Ending) (w' : World) : Prop := ∃ v', e = .returned v' ∧ RowTo linSh 24 K (fun b => b < B) am v w v' w'
def short (am : List (Int × List (Int × Int))) : Prop := ∀ y ∈ am, y.2.length ≤ 64
/-- What atoms says of formulas of n layers. -/
def RAtSaid (B K : Nat) (n : Nat) : Prop :=
  ∀ (f : FT) (cs : List Value) (am : List (Int × List (Int × Int))) (v : Value) (w : World), FLies B w n f cs → madeF n f = true → ARow B K am v w → K ≤ w.heap.size → short am → am.length + siz n f ≤ 100000 →
    Calls Tryd.prog 27 #[.agg cs.toArray, v] w (AEnd B K (gatF n f am) v w)
theorem short_gat : ∀ (n : Nat) (f : FT) (am : List (Int × List (Int × Int))), madeF n f = true → short am → short (gatF n f am)
  | 0, f, am, hm, _ => by cases hm
  | n + 1, f, am, hm, h => by
    have hto : ∀ i, i ≤ f.ks.length → short (gatTo n f.ks am i) := fun i => by
      induction i with
      | zero => exact fun _ => h
      | succ i ih =>
        intro hi
        rw [gatTo_succ n f.ks am i hi]
        exact short_gat n _ _ (made_kids hm i hi) (ih (by omega))
    rw [gatTo_len]
    split
    · rename_i h2
      unfold addA
      split
      · intro y hy
        rcases List.mem_append.1 hy with hy | hy
        · exact hto _ (Nat.le_refl _) y hy
        · rw [List.mem_singleton] at hy
          subst hy
          exact (snd_iff.1 (made_snd hm h2).1).2.1
      · exact hto _ (Nat.le_refl _)
    · exact hto _ (Nat.le_refl _)
theorem short_to (n : Nat) (ks : List FT) (am : List (Int × List (Int × Int))) (hm : ∀ i, i < ks.length → madeF n (ks.getD i default) = true) (h : short am) : ∀ i, i ≤ ks.length → short (gatTo n ks am i)
  | 0, _ => h
  | i + 1, hi => by
    rw [gatTo_succ n ks am i hi]
    exact short_gat n _ _ (hm i hi) (short_to n ks am hm h i (by omega))
set_option maxHeartbeats 16000000 in
theorem rat_2 (B K : Nat) (hB : B ≤ K) (n : Nat) (f : FT) (cs : List Value) (am : List (Int × List (Int × Int))) (v : Value) (w : World) (h : FLies B w (n + 1) f cs) (hm : madeF (n + 1) f = true) (hv : ARow B K am v w) (hK : K ≤ w.heap.size) (hsh : short am) (hb : am.length + siz (n + 1) f ≤ 100000) (h2 : f.kind = 2) :
    Calls Tryd.prog 27 #[.agg cs.toArray, v] w (AEnd B K (gatF (n + 1) f am) v w) := by
  obtain ⟨ta, tcap, ka, kcap, rfl, hT, _, _, _⟩ := h
  obtain ⟨hsn, hk0⟩ := made_snd hm h2
  have HG : gatF (n + 1) f am = addA am (f.c, f.t) := by rw [gatTo_len, if_pos h2, hk0, gatTo_zero]
  rw [HG]
  have ht64 := (snd_iff.1 hsn).2.1
  have hA : Below w.heap.size w (w.alloc (.cells #[.int .i64 f.kind, .int .i64 f.c, .slice ta f.t.length tcap, .slice ka f.ks.length kcap] 27)) := (Below.refl _ w).alloc (Nat.le_refl _) _
  have HB := box_start w f.kind f.c ta ka f.t.length tcap f.ks.length kcap
  obtain ⟨va, vc, hvf⟩ := hv.form
  obtain ⟨va', vc', hvf', hsit⟩ := (hv.below hA).slot (by omega)
  have hok := (hv.below hA).ok
  have hvl := (hv.below hA).lt
  have HAT := Lib.hid (at_any _ va' am.length vc' am f.c ta f.t.length tcap f.t _ hsit (fun b hb => by
    rcases hb with hb | hb
    · exact (hok b hb).1
    · exact (hvl b hb).2) rfl (fun y hy => by have := hsh y hy; omega) ((hT.below (hA.mono (by omega))).mono (Nat.le_trans (show B ≤ w.heap.size by omega) hA.size)) rfl (by omega))
  rw [← hvf'] at HAT
  have HV := Lib.hid hv
  have HA := Lib.hid hA
  have HT := Lib.hid hT
  have HBK := Lib.hid (And.intro hB hK)
  have hq1 : w.heap.size < (w.alloc (.cells #[.int .i64 f.kind, .int .i64 f.c, .slice ta f.t.length tcap, .slice ka f.ks.length kcap] 27)).heap.size := by simp
  have HQ1 := Lib.hid hq1
  have HAM := Lib.hid (show am.length ≤ 4194304 by omega)
  have b0 := HB.c0
  have b1 := HB.c1
  have b2 := HB.c2
  have b3 := HB.c3
  rw [h2] at *
  rw [hk0] at *
  clear h2 hk0 hsn hT hv hA HB hm hsh hB hb hq1 HG hok hvl hsit hvf' hK
  subst hvf
  generalize f.c = c at *
  generalize f.t = t at *
  generalize f.ks = fks at *
  go_enter Tryd.func27, Tryd.ntmps27
  go_wp2_with fail
  generalize w.alloc (.cells #[.int .i64 2, .int .i64 c, .slice ta t.length tcap, .slice ka 0 kcap] 27) = W1 at *
  refine HAT.out.mono ?_
  rintro e w2 ⟨rfl, hb2⟩
  have hk := fun j => hb2.cell (p := ⟨w.heap.size, j, none⟩) HQ1.out
  have c1 := (hk 1).trans b1
  have c2 := (hk 2).trans b2
  have c3 := (hk 3).trans b3
  have HB2 := Lib.hid (HA.out.trans (hb2.mono HA.out.size))
  clear hb2 hk b0 b1 b2 b3 HAT
  by_cases h0 : atN am (c, t) = 0
  · rw [h0]
    have hv2 := HV.out.below HB2.out
    obtain ⟨v6, w6, hr6, h6, g6, n6⟩ := hv2.put (P := Tryd.prog) (t := 30) (x := (c, t)) (cs := [.int .i64 c, .slice ta t.length tcap]) (Sx := fun b => b < B) Tryd.underlying30 (by' := 32) (by kernel_rfl) (by decide) (by decide) HAM.out (Nat.le_trans HBK.out.2 HB2.out.size) ⟨ta, tcap, rfl, (HT.out.below (HB2.out.mono (Nat.le_trans HBK.out.1 HBK.out.2))).liesS⟩ (fun b hb => ⟨by have := HBK.out; have := HB2.out.size; omega, fun e => by have := (hv2.lt b e).1; have := HBK.out; omega⟩)
    have HE : Hid (AEnd B K (addA am (c, t)) (.slice va am.length vc) w (.returned v6) w6) := Lib.hid ⟨v6, rfl, RowTo.before HB2.out ⟨by unfold addA; rw [if_pos h0]; exact h6.more (fun b hb => by rcases hb with hb | hb <;> exact hb) (fun b hb => h6.ok b (.inl hb)), g6, n6⟩⟩
    obtain ⟨x6, y6, e6⟩ := h6.form
    generalize (am ++ [(c, t)]).length = l6 at e6
    subst e6
    clear h6 g6 n6 hv2
    generalize am.length = al at *
    go_wp2_with (at_builtin; refine Lib.wpList_append_run _ rfl _ _ _ _ rfl _ _ rfl rfl _ _ (hr6 _) ?_)
    go_ret
    exact HE.out
  · have h01 : (((atN am (c, t) : Nat) : Int) == 0) = false := by simp [h0]
    have HE : Hid (AEnd B K (addA am (c, t)) (.slice va am.length vc) w (.returned (.slice va am.length vc)) w2) := Lib.hid ⟨_, rfl, by unfold addA; rw [if_neg h0]; exact (RowTo.refl HV.out).after HB2.out⟩
    clear h0
    generalize ((atN am (c, t) : Nat) : Int) = z at *
    generalize am.length = al at *
    go_wp2_with fail
    go_loopw [1, 5] (fun v i wr => v = .slice va al vc ∧ i = .int .i64 0 ∧ Hid (wr = w2)) (fun _ _ _ => 0)
    case atStart => exact ⟨rfl, rfl, rfl⟩
    case round =>
      obtain ⟨rfl, rfl, hw⟩ := hrel
      obtain rfl := hw.out
      clear hw
      go_wp2_with fail
      go_ret
      exact HE.out
end Go.Proofs.YtelndcmfddbgiaaDoor

set_option linter.unusedVariables false
set_option linter.unusedSimpArgs false
namespace Go.Proofs.YtelndcmfddbgiaaDoor
set_option maxRecDepth 100000
open Go.RowKit

set_option maxHeartbeats 16000000 in
theorem rat_x (B K : Nat) (hB : B ≤ K) (n : Nat) (IH : RAtSaid B K n) (f : FT) (cs : List Value) (am : List (Int × List (Int × Int))) (v : Value) (w : World) (h : FLies B w (n + 1) f cs) (hm : madeF (n + 1) f = true) (hv : ARow B K am v w) (hK : K ≤ w.heap.size) (hsh : short am) (hb : am.length + siz (n + 1) f ≤ 100000) (h2 : f.kind ≠ 2) :
    Calls Tryd.prog 27 #[.agg cs.toArray, v] w (AEnd B K (gatF (n + 1) f am) v w) := by
  obtain ⟨ta, tcap, ka, kcap, rfl, hT, hl1, hl2, hks⟩ := h
  rw [gat_snd h2]
  have hA : Below w.heap.size w (w.alloc (.cells #[.int .i64 f.kind, .int .i64 f.c, .slice ta f.t.length tcap, .slice ka f.ks.length kcap] 27)) := (Below.refl _ w).alloc (Nat.le_refl _) _
  have HB := box_start w f.kind f.c ta ka f.t.length tcap f.ks.length kcap
  have HM := Lib.hid (made_kids hm)
  have HTF := Lib.hid (fun i (hi : i ≤ f.ks.length) => gatTo_le n f.ks am i hi)
  have HSH := Lib.hid (short_to n f.ks am (made_kids hm) hsh)
  have HI := Lib.hid IH
  have HK := Lib.hid hks
  have HA := Lib.hid hA
  have HBK := Lib.hid (And.intro hB hK)
  have hsz := sizTo_len n f
  rw [hsz] at hb
  have HB1 := Lib.hid hb
  have HBX := Lib.hid HB
  have hq1 : w.heap.size < (w.alloc (.cells #[.int .i64 f.kind, .int .i64 f.c, .slice ta f.t.length tcap, .slice ka f.ks.length kcap] 27)).heap.size := by simp
  have HQ1 := Lib.hid hq1
  have HQ : Hid (v.ownBlock ≠ some w.heap.size) := Lib.hid fun e => by have := (hv.lt _ e).2; omega
  have HVL := Lib.hid (fun q (e : v.ownBlock = some q) => (hv.lt q e).1)
  have HR1 := Lib.hid (RowTo.refl (hv.below hA))
  have b0 := HB.c0
  have b3 := HB.c3
  obtain ⟨va, vc, hvf⟩ := hv.form
  have hk2 : (f.kind == 2) = false := by simp [h2]
  clear IH hks hT hv hA HB hm hsz hb hB hq1 hl1 hsh hK
  subst hvf
  generalize f.kind = fk at *
  generalize f.c = fc at *
  generalize f.t.length = ft at *
  generalize hlen : f.ks.length = len at *
  have HLEN := Lib.hid hlen
  clear hlen
  obtain ⟨al, hal⟩ : ∃ al, al = am.length := ⟨_, rfl⟩
  rw [← hal] at HQ HVL HR1 HB1 HTF ⊢
  clear hal
  go_enter Tryd.func27, Tryd.ntmps27
  go_wp2_with fail
  clear b0
  generalize w.alloc (.cells #[.int .i64 fk, .int .i64 fc, .slice ta ft tcap, .slice ka len kcap] 27) = W1 at *
  go_loopw [1, 5] (fun o i wr => ∃ (k ol oc : Nat) (oa : Option Addr), i = .int .i64 k ∧ k ≤ len ∧ o = .slice oa ol oc ∧ Hid (RowTo linSh 24 K (fun b => b < B) (gatTo n f.ks am k) (.slice va al vc) W1 (.slice oa ol oc) wr)) (fun _ i _ => len - (intOf i).toNat)
  case atStart => exact ⟨0, al, vc, va, rfl, Nat.zero_le _, rfl, HR1.out⟩
  case round =>
    clear HR1
    obtain ⟨k, ol, oc, oa, rfl, hk, rfl, hS⟩ := hrel
    have hg := hS.out.2.1
    have hbk := HBK.out
    have hMw : Below K w wr := (HA.out.mono hbk.2).trans (grown_low hg (Nat.le_trans hbk.2 HA.out.size) HVL.out)
    have HMW := Lib.hid hMw
    have hc := fun j => World.cell?_of_block (a := ⟨w.heap.size, j, none⟩) (hg.block w.heap.size HQ1.out (fun e => HQ.out e.symm))
    have x3 := (hc 3).trans b3
    clear hg hMw hc
    by_cases hlt : k < len
    · have hlti : (k : Int) < (len : Int) := by omega
      have hkl : k < f.ks.length := by rw [HLEN.out]; exact hlt
      obtain ⟨b, off, c0, c1, c2, c3, rfl, hbl, g0, g1, g2, g3, hf⟩ := HK.out k hlt
      have hblM : b < K := by omega
      rw [← HMW.out.cell (p := ⟨b, _, none⟩) hblM] at g0 g1 g2 g3
      obtain ⟨ck, cc, cta, ctn, ctcap, cka, ckn, ckcap, rfl, rfl, rfl, rfl⟩ := hf.form
      have hmk := HM.out k hlt
      have f1 := HTF.out k (by omega)
      have hs1 := sizTo_succ n f.ks k hkl
      have hs2 := sizTo_mono n f.ks (i := k + 1) (j := f.ks.length) hkl
      have hb1 := HB1.out
      have hl := HLEN.out
      rw [hl] at hs2
      have hih := HI.out (f.ks.getD k default) _ (gatTo n f.ks am k) _ wr (hf.below (HMW.out.mono hbk.1)) hmk hS.out.1 (Nat.le_trans hbk.2 HMW.out.size) (HSH.out k (by omega)) (by omega)
      have HIH := Lib.hid hih
      have HGT := Lib.hid (gatTo_succ n f.ks am k hkl)
      clear hmk f1 hs1 hs2 hb1 hl hih hf hbl hblM hbk
      go_wp2_with fail
      clear g0 g1 g2 g3
      refine HIH.out.mono ?_
      rintro e w3 ⟨v3, rfl, hR3⟩
      have HR3 : Hid (RowTo linSh 24 K (fun b => b < B) (gatTo n f.ks am (k + 1)) (.slice va al vc) W1 v3 w3) := Lib.hid (by
        rw [HGT.out]
        exact hS.out.of hR3)
      obtain ⟨a3, c3', e3⟩ := hR3.1.form
      generalize (gatF n (f.ks.getD k default) (gatTo n f.ks am k)).length = l3 at e3
      subst e3
      clear hR3 HIH hS
      go_wp2_with fail
      go_roundw
      case rel => exact ⟨k + 1, l3, c3', a3, by go_num, by omega, rfl, HR3⟩
      case measure => simp [intOf]; omega
    · have hlti : ¬ (k : Int) < (len : Int) := by omega
      obtain rfl : k = len := by omega
      have HE : Hid (AEnd B K (gatTo n f.ks am k) (.slice va al vc) w (.returned (.slice oa ol oc)) wr) := Lib.hid ⟨_, rfl, hS.out.before HA.out⟩
      clear hS hbk
      go_wp2_with fail
      go_ret
      exact HE.out
theorem rat_any (B K : Nat) (hB : B ≤ K) : ∀ n, RAtSaid B K n
  | 0 => fun f cs am v w h => h.elim
  | n + 1 => fun f cs am v w h hm hv hK hsh hb => by
    by_cases h2 : f.kind = 2
    · exact rat_2 B K hB n f cs am v w h hm hv hK hsh hb h2
    · exact rat_x B K hB n (rat_any B K hB n) f cs am v w h hm hv hK hsh hb h2
end Go.Proofs.YtelndcmfddbgiaaDoor
