/- The walk of LinValues. -/
import Derived.Test.YtnefolkhoeocjaaLinQ5
import Derived.Test.YtnefolkhoeocjaaLinVR
namespace Go.Proofs.Ytnefolkhoeocjaa
open Go.RowKit

theorem values_same (c : Int) (a : Option Addr) (n cap : Nat) (l : List (Int × Int)) (a2 : Option Addr) (n2 cap2 : Nat) (zs : List Int) (w : World) (hn : l.length = n) (hm : n ≤ 9223372036854775807) (hn2 : zs.length = n2) (hm2 : n2 ≤ 9223372036854775807) (hl : Lies w.heap.size w a l) (hz : Nums w.heap.size w a2 zs) :
    ∃ (v : Int) (x : Value) (r : Int), (∀ W, Below w.heap.size w W → Calls Try.prog 20 #[.agg #[.int .i64 c, .slice a n cap], .slice a2 n2 cap2] W fun e w' => e = .returned (.tuple #[.int .i64 v, x]) ∧ Below W.heap.size W w') ∧
      (∀ W, Below w.heap.size w W → Calls Try.prog 21 #[.agg #[.int .i64 c, .slice a n cap], .slice a2 n2 cap2] W fun e w' => e = .returned (.tuple #[.int .i64 v, .int .i64 r]) ∧ Below W.heap.size W w') ∧
      ∀ W, Calls Try.prog 17 #[x] W fun e w' => e = .returned (.int .i64 r) ∧ W = w' := by
  by_cases hs : snd c l = true
  · by_cases h : ∀ i, i < n → near l zs i = true
    · exact ⟨sAt c l zs n, .nilIface, 0, fun W hb => value_ok c a n cap l a2 n2 cap2 zs W hn hn2 ((hl.below hb).mono hb.size) ((hz.below hb).mono hb.size) hs h,
        fun W hb => rvalue_any c a n cap l a2 n2 cap2 zs W hn hn2 hm2 ((hl.below hb).mono hb.size) ((hz.below hb).mono hb.size) hs _ _ (.inl ⟨rfl, rfl, h⟩), fun W => code_nil W⟩
    · exact ⟨0, .iface 30 (.int .i64 1), 1, fun W hb => value_far c a n cap l a2 n2 cap2 zs W hn hn2 ((hl.below hb).mono hb.size) ((hz.below hb).mono hb.size) hs h,
        fun W hb => rvalue_any c a n cap l a2 n2 cap2 zs W hn hn2 hm2 ((hl.below hb).mono hb.size) ((hz.below hb).mono hb.size) hs _ _ (.inr ⟨rfl, rfl, h⟩), fun W => code_k 1 W (by omega) (by omega)⟩
  · have hs' : snd c l = false := by simpa using hs
    exact ⟨0, .iface 30 (.int .i64 5), 5, fun W hb => value_form c a n cap l a2 n2 cap2 W hn hm ((hl.below hb).mono hb.size) hs',
      fun W hb => rvalue_form c a n cap l a2 n2 cap2 W hn hm ((hl.below hb).mono hb.size) hs', fun W => code_k 5 W (by omega) (by omega)⟩

set_option maxHeartbeats 2000000 in
theorem linValues_any (hup : UpSaid) (c d : Int) (a b : Option Addr) (na nb capa capb : Nat) (l o : List (Int × Int)) (a2 : Option Addr) (n2 cap2 : Nat) (zs : List Int) (w : World) (hna : l.length = na) (hnb : o.length = nb) (hma : na ≤ 9223372036854775807) (hmb : nb ≤ 9223372036854775807) (hn2 : zs.length = n2) (hm2 : n2 ≤ 9223372036854775807)
    (hla : Lies w.heap.size w a l) (hlb : Lies w.heap.size w b o) (hz : Nums w.heap.size w a2 zs) :
    Calls Try.prog 6 #[.agg #[.int .i64 c, .slice a na capa], .agg #[.int .i64 d, .slice b nb capb], .slice a2 n2 cap2] w fun e w' => e = .returned (.bool true) ∧ Below w.heap.size w w' := by
  have T0 := Lib.hid (two_start w c d a b na nb capa capb)
  obtain ⟨v, x, r, hva, hrv, hco⟩ := values_same c a na capa l a2 n2 cap2 zs w hna hma hn2 hm2 hla hz
  have hls := fun W (hb : Below w.heap.size w W) => lsame_any c d a b na nb capa capb l o W hna hnb hma hmb ((hla.below hb).mono hb.size) ((hlb.below hb).mono hb.size)
  have hrs := fun W (hb : Below w.heap.size w W) => same_any c d a b na nb capa capb l o W hna hnb hma hmb ((hla.below hb).mono hb.size) ((hlb.below hb).mono hb.size)
  have hll := fun W (hb : Below w.heap.size w W) => lsame_any c c a a na na capa capa l l W hna hna hma hma ((hla.below hb).mono hb.size) ((hla.below hb).mono hb.size)
  have hsl : same c c l l = true := by unfold same; simp
  rw [hsl] at hll
  generalize same c d l o = s at hls hrs
  have HVA := Lib.hid hva
  have HRV := Lib.hid hrv
  have HLS := Lib.hid hls
  have HRS := Lib.hid hrs
  have HLL := Lib.hid hll
  have HCO := Lib.hid hco
  clear hva hrv hls hrs hll hsl hco hna hnb hla hlb hz hn2
  go_enter Try.func6, Try.ntmps6
  go_wp2_with fail
  refine (hup _).mono ?_
  rintro e w1 ⟨rfl, hb1⟩
  have T1 := Lib.hid (T0.out.below hb1 T0.out.lt)
  obtain ⟨l1, l10, a10, a11, b10, b11, _⟩ := T1.out
  clear hb1
  go_wp2_with fail
  refine (HVA.out _ T1.out.bel).mono ?_
  rintro e w2 ⟨rfl, hb2⟩
  have T2 := Lib.hid (T1.out.below hb2 T1.out.lt)
  clear hb2 a10 a11 b10 b11 l1 l10
  obtain ⟨l2, l20, a20, a21, b20, b21, _⟩ := T2.out
  go_wp2_with fail
  refine (HRV.out _ T2.out.bel).mono ?_
  rintro e w3 ⟨rfl, hb3⟩
  have T3 := Lib.hid (T2.out.below hb3 T2.out.lt)
  clear hb3 a20 a21 b20 b21 l2 l20
  obtain ⟨l3, l30, a30, a31, b30, b31, _⟩ := T3.out
  have cC := fun p os => Calls.regrown_of ((HCO.out (Go.Sort.grow (redrawn w3 p) os)).mono fun _ _ ⟨he, hw⟩ => ⟨he, by rw [← hw]; exact Below.refl _ _⟩)
  have cS := fun p os => Calls.regrown_of (HLS.out _ (regrown_trans T3.out.bel (Nat.le_of_lt l30) p os))
  have cR := fun p os => Calls.regrown_of (HRS.out _ (regrown_trans T3.out.bel (Nat.le_of_lt l30) p os))
  have cL := fun p os => Calls.regrown_of (HLL.out _ (regrown_trans T3.out.bel (Nat.le_of_lt l30) p os))
  have h0 := fun p os => cell_regrown a30 p os
  have h1 := fun p os => cell_regrown a31 p os
  have h2 := fun p os => cell_regrown b30 p os
  have h3 := fun p os => cell_regrown b31 p os
  have e1 : (v == v) = true := by simp
  have e2 : (r == r) = true := by simp
  have e3 : (s == s) = true := by simp
  clear a30 a31 b30 b31
  go_wp2_with fail
  refine wp_region_quiet_below (by kernel_rfl) (by kernel_rfl) ?_
  repeat (go_big_quiet_step (first | with_reducible exact cC _ _ | with_reducible exact cS _ _ | with_reducible exact cR _ _ | with_reducible exact cL _ _))
  refine wpQuiet_nil ?_
  intro _ hw'
  obtain ⟨⟨dq, osq⟩, hw''⟩ := hw'
  subst hw''
  go_wp2
  go_ret
  exact ⟨rfl, regrown_trans T3.out.bel (Nat.le_of_lt l30) dq osq⟩
end Go.Proofs.Ytnefolkhoeocjaa
