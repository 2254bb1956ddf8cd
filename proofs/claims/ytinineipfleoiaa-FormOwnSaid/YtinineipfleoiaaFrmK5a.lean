/- The walk of FormOwn, way by way. -/
import Derived.Test.YtinineipfleoiaaFrmO0
import Derived.Test.YtinineipfleoiaaFrmV0
import Derived.Test.YtinineipfleoiaaFrmK1
namespace Go.Proofs.Ytinineipfleoiaa
open Go.RowKit

set_option maxHeartbeats 1000000 in
theorem own_bad (hup : UpSaid2) (fk fc : Int) (ta ka : Option Addr) (ft tcap fl kcap : Nat) (a2 : Option Addr) (n2 cap2 : Nat) (z x : Int) (w : World) (o : Bool) (k : Int) (hsm : Hid (∀ W, Below w.heap.size w W → Calls Try.prog 10 #[.agg #[.int .i64 fk, .int .i64 fc, .slice ta ft tcap, .slice ka fl kcap]] W fun e w' => ∃ b : Bool, e = .returned (.bool b) ∧ Below W.heap.size W w')) (hva : Hid (∀ W, Below w.heap.size w W → Calls Try.prog 16 #[.agg #[.int .i64 fk, .int .i64 fc, .slice ta ft tcap, .slice ka fl kcap], .slice a2 n2 cap2] W fun e w' => e = .returned (.tuple #[.bool o, .iface 36 (.int .i64 k)]) ∧ Below W.heap.size W w')) : Calls Try.prog 7 #[.agg #[.int .i64 fk, .int .i64 fc, .slice ta ft tcap, .slice ka fl kcap], .slice a2 n2 cap2, .int .i64 z, .int .i64 x] w fun e w' => e = .returned (.bool true) ∧ Below w.heap.size w w' := by
  have T0 := Lib.hid (box_start w fk fc ta ka ft tcap fl kcap)
  have n1 := fun W => Try.neNil W
  have n2' := fun W => Try.neCode k W
  go_enter Try.func7, Try.ntmps7
  go_wp2_with fail
  refine (hup _).mono ?_
  rintro e w1 ⟨rfl, hb1⟩
  have T1 := Lib.hid (T0.out.below hb1 T0.out.lt)
  clear hb1
  obtain ⟨l1, p0, p1, p2, p3, _⟩ := T1.out
  go_wp2_with fail
  refine (hsm.out _ T1.out.bel).mono ?_
  rintro e w2 ⟨b, rfl, hb2⟩
  have T2 := Lib.hid (T1.out.below hb2 T1.out.lt)
  clear hb2 l1 p0 p1 p2 p3
  obtain ⟨l2, p0, p1, p2, p3, _⟩ := T2.out
  go_wp2_with fail
  refine (hva.out _ T2.out.bel).mono ?_
  rintro e w3 ⟨rfl, hb3⟩
  have T3 := Lib.hid (T2.out.below hb3 T2.out.lt)
  clear hb3 l2 p0 p1 p2 p3
  cases b
  all_goals
    go_wp2_with fail
    go_ret
    exact ⟨rfl, T3.out.bel⟩

set_option maxHeartbeats 1000000 in
theorem own_low (hup : UpSaid2) (fk fc : Int) (ta ka : Option Addr) (ft tcap fl kcap : Nat) (a2 : Option Addr) (n2 cap2 : Nat) (z x : Int) (w : World) (o : Bool) (hsm : Hid (∀ W, Below w.heap.size w W → Calls Try.prog 10 #[.agg #[.int .i64 fk, .int .i64 fc, .slice ta ft tcap, .slice ka fl kcap]] W fun e w' => ∃ b : Bool, e = .returned (.bool b) ∧ Below W.heap.size W w')) (hva : Hid (∀ W, Below w.heap.size w W → Calls Try.prog 16 #[.agg #[.int .i64 fk, .int .i64 fc, .slice ta ft tcap, .slice ka fl kcap], .slice a2 n2 cap2] W fun e w' => e = .returned (.tuple #[.bool o, .nilIface]) ∧ Below W.heap.size W w')) (hz : z < 0) : Calls Try.prog 7 #[.agg #[.int .i64 fk, .int .i64 fc, .slice ta ft tcap, .slice ka fl kcap], .slice a2 n2 cap2, .int .i64 z, .int .i64 x] w fun e w' => e = .returned (.bool true) ∧ Below w.heap.size w w' := by
  have T0 := Lib.hid (box_start w fk fc ta ka ft tcap fl kcap)
  have n1 := fun W => Try.neNil W
  go_enter Try.func7, Try.ntmps7
  go_wp2_with fail
  refine (hup _).mono ?_
  rintro e w1 ⟨rfl, hb1⟩
  have T1 := Lib.hid (T0.out.below hb1 T0.out.lt)
  clear hb1
  obtain ⟨l1, p0, p1, p2, p3, _⟩ := T1.out
  go_wp2_with fail
  refine (hsm.out _ T1.out.bel).mono ?_
  rintro e w2 ⟨b, rfl, hb2⟩
  have T2 := Lib.hid (T1.out.below hb2 T1.out.lt)
  clear hb2 l1 p0 p1 p2 p3
  obtain ⟨l2, p0, p1, p2, p3, _⟩ := T2.out
  go_wp2_with fail
  refine (hva.out _ T2.out.bel).mono ?_
  rintro e w3 ⟨rfl, hb3⟩
  have T3 := Lib.hid (T2.out.below hb3 T2.out.lt)
  clear hb3 l2 p0 p1 p2 p3
  cases b
  all_goals
    go_wp2_with fail
    go_ret
    exact ⟨rfl, T3.out.bel⟩

set_option maxHeartbeats 1000000 in
theorem own_high (hup : UpSaid2) (fk fc : Int) (ta ka : Option Addr) (ft tcap fl kcap : Nat) (a2 : Option Addr) (n2 cap2 : Nat) (z x : Int) (w : World) (o : Bool) (hsm : Hid (∀ W, Below w.heap.size w W → Calls Try.prog 10 #[.agg #[.int .i64 fk, .int .i64 fc, .slice ta ft tcap, .slice ka fl kcap]] W fun e w' => ∃ b : Bool, e = .returned (.bool b) ∧ Below W.heap.size W w')) (hva : Hid (∀ W, Below w.heap.size w W → Calls Try.prog 16 #[.agg #[.int .i64 fk, .int .i64 fc, .slice ta ft tcap, .slice ka fl kcap], .slice a2 n2 cap2] W fun e w' => e = .returned (.tuple #[.bool o, .nilIface]) ∧ Below W.heap.size W w')) (hz : 0 ≤ z ∧ (n2 : Int) ≤ z) (hm2 : n2 ≤ 9223372036854775807) : Calls Try.prog 7 #[.agg #[.int .i64 fk, .int .i64 fc, .slice ta ft tcap, .slice ka fl kcap], .slice a2 n2 cap2, .int .i64 z, .int .i64 x] w fun e w' => e = .returned (.bool true) ∧ Below w.heap.size w w' := by
  have T0 := Lib.hid (box_start w fk fc ta ka ft tcap fl kcap)
  have n1 := fun W => Try.neNil W
  go_enter Try.func7, Try.ntmps7
  go_wp2_with fail
  refine (hup _).mono ?_
  rintro e w1 ⟨rfl, hb1⟩
  have T1 := Lib.hid (T0.out.below hb1 T0.out.lt)
  clear hb1
  obtain ⟨l1, p0, p1, p2, p3, _⟩ := T1.out
  go_wp2_with fail
  refine (hsm.out _ T1.out.bel).mono ?_
  rintro e w2 ⟨b, rfl, hb2⟩
  have T2 := Lib.hid (T1.out.below hb2 T1.out.lt)
  clear hb2 l1 p0 p1 p2 p3
  obtain ⟨l2, p0, p1, p2, p3, _⟩ := T2.out
  go_wp2_with fail
  refine (hva.out _ T2.out.bel).mono ?_
  rintro e w3 ⟨rfl, hb3⟩
  have T3 := Lib.hid (T2.out.below hb3 T2.out.lt)
  clear hb3 l2 p0 p1 p2 p3
  cases b
  all_goals
    go_wp2_with fail
    go_ret
    exact ⟨rfl, T3.out.bel⟩

set_option maxHeartbeats 1000000 in
theorem own_has (hup : UpSaid2) (fk fc : Int) (ta ka : Option Addr) (ft tcap fl kcap : Nat) (a2 : Option Addr) (n2 cap2 : Nat) (z x : Int) (w : World) (o : Bool) (hsm : Hid (∀ W, Below w.heap.size w W → Calls Try.prog 10 #[.agg #[.int .i64 fk, .int .i64 fc, .slice ta ft tcap, .slice ka fl kcap]] W fun e w' => ∃ b : Bool, e = .returned (.bool b) ∧ Below W.heap.size W w')) (hva : Hid (∀ W, Below w.heap.size w W → Calls Try.prog 16 #[.agg #[.int .i64 fk, .int .i64 fc, .slice ta ft tcap, .slice ka fl kcap], .slice a2 n2 cap2] W fun e w' => e = .returned (.tuple #[.bool o, .nilIface]) ∧ Below W.heap.size W w')) (hha : Hid (∀ W, Below w.heap.size w W → Calls Try.prog 21 #[.agg #[.int .i64 fk, .int .i64 fc, .slice ta ft tcap, .slice ka fl kcap], .int .i64 z] W fun e w' => e = .returned (.bool true) ∧ Below W.heap.size W w')) (hz : 0 ≤ z ∧ z < (n2 : Int)) (hm2 : n2 ≤ 9223372036854775807) : Calls Try.prog 7 #[.agg #[.int .i64 fk, .int .i64 fc, .slice ta ft tcap, .slice ka fl kcap], .slice a2 n2 cap2, .int .i64 z, .int .i64 x] w fun e w' => e = .returned (.bool true) ∧ Below w.heap.size w w' := by
  have T0 := Lib.hid (box_start w fk fc ta ka ft tcap fl kcap)
  have n1 := fun W => Try.neNil W
  go_enter Try.func7, Try.ntmps7
  go_wp2_with fail
  refine (hup _).mono ?_
  rintro e w1 ⟨rfl, hb1⟩
  have T1 := Lib.hid (T0.out.below hb1 T0.out.lt)
  clear hb1
  obtain ⟨l1, p0, p1, p2, p3, _⟩ := T1.out
  go_wp2_with fail
  refine (hsm.out _ T1.out.bel).mono ?_
  rintro e w2 ⟨b, rfl, hb2⟩
  have T2 := Lib.hid (T1.out.below hb2 T1.out.lt)
  clear hb2 l1 p0 p1 p2 p3
  obtain ⟨l2, p0, p1, p2, p3, _⟩ := T2.out
  go_wp2_with fail
  refine (hva.out _ T2.out.bel).mono ?_
  rintro e w3 ⟨rfl, hb3⟩
  have T3 := Lib.hid (T2.out.below hb3 T2.out.lt)
  clear hb3 l2 p0 p1 p2 p3
  obtain ⟨l3, p0, p1, p2, p3, _⟩ := T3.out
  cases b with
  | false =>
    go_wp2_with fail
    go_ret
    exact ⟨rfl, T3.out.bel⟩
  | true =>
    go_wp2_with fail
    refine (hha.out _ T3.out.bel).mono ?_
    rintro e w4 ⟨rfl, hb4⟩
    have T4 := Lib.hid (T3.out.below hb4 T3.out.lt)
    clear hb4 l3 p0 p1 p2 p3
    go_wp2_with fail
    go_ret
    exact ⟨rfl, T4.out.bel⟩

set_option maxHeartbeats 2000000 in
theorem own_no (hup : UpSaid2) (fk fc : Int) (ta ka : Option Addr) (ft tcap fl kcap : Nat) (ad : Addr) (n2 cap2 A : Nat) (x : Int) (w : World) (zs : List Int) (o : Bool) (hsm : Hid (∀ W, Below w.heap.size w W → Calls Try.prog 10 #[.agg #[.int .i64 fk, .int .i64 fc, .slice ta ft tcap, .slice ka fl kcap]] W fun e w' => ∃ b : Bool, e = .returned (.bool b) ∧ Below W.heap.size W w')) (hva : Hid (∀ W, Below w.heap.size w W → Calls Try.prog 16 #[.agg #[.int .i64 fk, .int .i64 fc, .slice ta ft tcap, .slice ka fl kcap], .slice (some ad) n2 cap2] W fun e w' => e = .returned (.tuple #[.bool o, .nilIface]) ∧ Below W.heap.size W w')) (hha : Hid (∀ W, Below w.heap.size w W → Calls Try.prog 21 #[.agg #[.int .i64 fk, .int .i64 fc, .slice ta ft tcap, .slice ka fl kcap], .int .i64 A] W fun e w' => e = .returned (.bool false) ∧ Below W.heap.size W w'))
    (hv2 : Hid (∀ W a cap, Below w.heap.size w W → Nums W.heap.size W a (zs.set A x) → Calls Try.prog 16 #[.agg #[.int .i64 fk, .int .i64 fc, .slice ta ft tcap, .slice ka fl kcap], .slice a n2 cap] W fun e w' => e = .returned (.tuple #[.bool o, .nilIface]) ∧ Below W.heap.size W w'))
    (hz : A < n2) (hn2 : zs.length = n2) (hm2 : n2 * 8 ≤ 140737488351232) (hnz : Nums w.heap.size w (some ad) zs) : Calls Try.prog 7 #[.agg #[.int .i64 fk, .int .i64 fc, .slice ta ft tcap, .slice ka fl kcap], .slice (some ad) n2 cap2, .int .i64 A, .int .i64 x] w fun e w' => e = .returned (.bool true) ∧ Below w.heap.size w w' := by
  obtain ⟨i0, hi, hz0, hz1, hz2⟩ := parts_of Try.infoInt
  have T0 := Lib.hid (box_start w fk fc ta ka ft tcap fl kcap)
  have n1 := fun W => Try.neNil W
  have HN := Lib.hid hn2
  have HNZ := Lib.hid hnz
  clear hn2 hnz
  go_enter Try.func7, Try.ntmps7
  go_wp2_with fail
  refine (hup _).mono ?_
  rintro e w1 ⟨rfl, hb1⟩
  have T1 := Lib.hid (T0.out.below hb1 T0.out.lt)
  clear hb1
  obtain ⟨l1, p0, p1, p2, p3, _⟩ := T1.out
  go_wp2_with fail
  refine (hsm.out _ T1.out.bel).mono ?_
  rintro e w2 ⟨b, rfl, hb2⟩
  have T2 := Lib.hid (T1.out.below hb2 T1.out.lt)
  clear hb2 l1 p0 p1 p2 p3
  obtain ⟨l2, p0, p1, p2, p3, _⟩ := T2.out
  go_wp2_with fail
  refine (hva.out _ T2.out.bel).mono ?_
  rintro e w3 ⟨rfl, hb3⟩
  have T3 := Lib.hid (T2.out.below hb3 T2.out.lt)
  clear hb3 l2 p0 p1 p2 p3
  obtain ⟨l3, p0, p1, p2, p3, _⟩ := T3.out
  cases b with
  | false =>
    go_wp2_with fail
    go_ret
    exact ⟨rfl, T3.out.bel⟩
  | true =>
    go_wp2_with fail
    refine (hha.out _ T3.out.bel).mono ?_
    rintro e w4 ⟨rfl, hb4⟩
    have T4 := Lib.hid (T3.out.below hb4 T3.out.lt)
    clear hb4 l3 p0 p1 p2 p3
    have T5 := Lib.hid (T4.out.below ((Below.refl w4.heap.size w4).alloc (Nat.le_refl _) (.cells #[] 3)) T4.out.lt)
    have hown : (w4.alloc (.cells #[] 3)).ownsRow w4.heap.size 3 1 (.slice (some ⟨w4.heap.size, 0, none⟩) 0 0) 0 [] := World.ownsRow_made w4 #[] 0 (Nat.le_refl _) (by decide) rfl
    go_wp2_with (at_builtin; refine wpList_append_own _ rfl _ _ 38 rfl w4.heap.size 3 i0 _ 1 8 Try.underlying38 hi hz0 hz1 hz2 rfl (by decide) _ _ _ rfl hown ad n2 cap2 (ints zs) rfl ?c1 ?c2 ?c3 ?c4 ?c5 ?c6 ?_)
    case c1 => rw [ints_len, HN.out]; omega
    case c2 => exact (HNZ.out.below T5.out.bel).news
    case c3 => exact ints_one zs
    case c4 => unfold maxLen; omega
    case c5 => omega
    case c6 => simp
    intro v' w5 hown' hgrow _
    have hrow : IRow w4.heap.size zs v' w5 := by
      unfold IRow
      rw [HN.out]
      simpa using hown'
    have z4 := T4.out.lt
    have B5 : Below (w.heap.size + 1) w4 w5 := ((Below.refl _ w4).alloc (by omega) _).grown hgrow (by simp; omega) (fun k hk => by have := (hown.lt k hk).1; omega)
    have T6 := Lib.hid (T4.out.below B5 (by omega))
    rcases hrow.at with ⟨_, e⟩ | ⟨g, cap', rfl, hg, hgl, _, _, hfz, hc⟩
    · have := HN.out; rw [e] at this; simp at this; omega
    have hnu := hrow.set_nums A (by rw [HN.out]; exact hz) x
    have hca := hc A (by rw [HN.out]; exact hz)
    have hfa := hfz A

    have T7 := Lib.hid (T6.out.below (B := w.heap.size + 1) ((Below.refl _ w5).setCell (p := ⟨g, A, none⟩) (by show w.heap.size + 1 ≤ g; omega) (.int .i64 x)) (by omega))
    have hva2 := hv2.out _ (some ⟨g, 0, none⟩) cap' T7.out.bel (hnu.mono (by rw [World.size_setCell]; exact Nat.le_refl _))
    rw [HN.out]
    clear hrow hnu hc hfz hown hown' hgrow B5 hg
    obtain ⟨l7, p0, p1, p2, p3, _⟩ := T7.out
    go_wp2_with fail
    refine hva2.mono ?_
    rintro e w8 ⟨rfl, hb8⟩
    have T8 := Lib.hid (T7.out.below hb8 T7.out.lt)
    clear hb8
    cases o
    all_goals
      go_wp2_with fail
      go_ret
      exact ⟨by simp, T8.out.bel⟩
end Go.Proofs.Ytinineipfleoiaa
