/- The statements' own weighing of a formula: what is light has few parts. -/
import Derived.Test.YtinineipfleoiaaFrmG
namespace Go.Proofs.Ytinineipfleoiaa
open Go.RowKit

/-- Few parts at each place. -/
def litF : Nat → FT → Prop
  | 0, _ => False
  | n + 1, f => f.t.length ≤ 1048576 ∧ f.ks.length ≤ 1048576 ∧ ∀ i, i < f.ks.length → litF n (f.ks.getD i default)
/-- An answer that is some number from -1 up to a bound; from 0 on the formula has few parts. -/
def SomeL (L : Prop) (B : Nat) (m : Int) (w : World) (e : Ending) (w' : World) : Prop := ∃ v : Int, e = .returned (.int .i64 v) ∧ -1 ≤ v ∧ v ≤ m ∧ (0 ≤ v → L) ∧ Below B w w'

set_option maxRecDepth 100000 in
set_option maxHeartbeats 1600000 in
theorem lit_any : ∀ (n : Nat) (f : FT) (cs : List Value) (m d : Int) (w : World), 0 ≤ m → m ≤ 1048576 → 0 ≤ d → d ≤ 1048576 → FLies w.heap.size w n f cs →
    Calls Try.prog 18 #[.agg cs.toArray, .int .i64 m, .int .i64 d] w (SomeL (litF n f) w.heap.size m w)
  | 0, _, _, _, _, _, _, _, _, _, h => h.elim
  | n + 1, f, cs, m, d, w, h0, h1, d0, d1, h => by
    have IH := lit_any n
    obtain ⟨ta, tcap, ka, kcap, rfl, _, ht4, hk4, hks⟩ := h
    have HI := Lib.hid IH
    have HK := Lib.hid hks
    have B0 := Lib.hid (box_start w f.kind f.c ta ka f.t.length tcap f.ks.length kcap)
    have HLT : Hid (f.t.length ≤ 1048576 → f.ks.length ≤ 1048576 → (∀ i, i < f.ks.length → litF n (f.ks.getD i default)) → litF (n + 1) f) := fun h1 h2 h3 => ⟨h1, h2, h3⟩
    clear IH hks
    generalize f.kind = fk at B0
    generalize f.c = fc at B0
    generalize f.t.length = ft at B0 ht4 HLT
    generalize hl : f.ks.length = len at B0 HK hk4 HLT
    clear hl
    have hno : ∀ r : Int, r = -1 → Hid (SomeL (litF (n + 1) f) w.heap.size m w (.returned (.int .i64 r)) (w.alloc (.cells #[.int .i64 fk, .int .i64 fc, .slice ta ft tcap, .slice ka len kcap] 27))) := fun r hr => ⟨r, rfl, by omega, by omega, fun h => by omega, B0.out.bel⟩
    by_cases hd : d = 0
    · have e1 : (d == 0) = true := by simpa using hd
      have hn := hno _ rfl
      clear hno HI HK hd
      go_enter Try.func18, Try.ntmps18
      go_wp2_with fail
      go_ret
      exact hn.out
    · have e1 : (d == 0) = false := by simpa using hd
      by_cases hm : m = 0
      · have e2 : decide (m - 1 < 0) = true := by simp; omega
        have hn := hno _ rfl
        clear hno HI HK hd
        go_enter Try.func18, Try.ntmps18
        go_wp2_with fail
        go_ret
        exact hn.out
      · have e2 : ¬ m - 1 < 0 := by omega
        by_cases ht : m - 1 < (ft : Int)
        · have hn := hno _ rfl
          clear hno HI HK hd
          go_enter Try.func18, Try.ntmps18
          go_wp2_with fail
          go_ret
          exact hn.out
        · by_cases hk : m - 1 < (len : Int)
          · have hn := hno _ rfl
            clear hno HI HK hd
            go_enter Try.func18, Try.ntmps18
            go_wp2_with fail
            go_ret
            exact hn.out
          · clear hno
            go_enter Try.func18, Try.ntmps18
            go_wp2_with fail
            go_loopw [1, 7] (fun s i wr => ∃ (k : Nat) (v : Int), k ≤ len ∧ i = .int .i64 k ∧ s = .int .i64 v ∧ 0 ≤ v ∧ v ≤ m - 1 ∧ Hid (∀ j, j < k → litF n (f.ks.getD j default)) ∧ Hid (Box w wr w.heap.size fk fc ta ft tcap ka len kcap)) (fun _ i _ => len - (intOf i).toNat)
            case atStart => exact ⟨0, m - 1 - ft, Nat.zero_le _, rfl, rfl, by omega, by omega, fun j hj => absurd hj (Nat.not_lt_zero j), B0⟩
            case round =>
              obtain ⟨k, v, hkk, rfl, rfl, hv1, hv2, hlit, hbx⟩ := hrel
              obtain ⟨bz, _, _, _, q3, hb⟩ := hbx.out
              by_cases hlt : k < len
              · obtain ⟨b, off, c0, c1, c2, c3, rfl, hblt, g0, g1, g2, g3, hf⟩ := HK.out k hlt
                rw [← hb.cell (p := ⟨b, _, none⟩) hblt] at g0 g1 g2 g3
                obtain ⟨ck, cc, cta, ctn, ctcap, cka, ckn, ckcap, rfl, rfl, rfl, rfl⟩ := hf.form
                have hih := HI.out (f.ks.getD k default) _ v (d - 1) wr (by omega) (by omega) (by omega) (by omega) ((hf.below hb).mono hb.size)
                clear hf
                go_wp2_with fail
                refine hih.mono ?_
                rintro e w1 ⟨u, rfl, hu1, hu2, hul, hb1⟩
                have HB1 := Lib.hid (hbx.out.below hb1 bz)
                clear g0 g1 g2 g3 hih hb1 hb hbx q3
                by_cases hun : u < 0
                · go_wp2_with fail
                  go_ret
                  exact ⟨-1, rfl, by omega, by omega, fun h => by omega, HB1.out.bel⟩
                · have hlit2 : Hid (∀ j, j < k + 1 → litF n (f.ks.getD j default)) := fun j hj => by
                    by_cases ej : j = k
                    · rw [ej]; exact hul (by omega)
                    · exact hlit.out j (by omega)
                  clear hul hlit
                  go_wp2_with fail
                  go_roundw
                  case rel => exact ⟨k + 1, u, by omega, by go_num, rfl, by omega, by omega, hlit2, HB1⟩
                  case measure => simp [intOf]; omega
              · clear HI HK
                go_wp2_with fail
                go_ret
                exact ⟨v, rfl, by omega, by omega, fun _ => HLT.out (by omega) (by omega) (fun i hi => hlit.out i (by omega)), hb⟩


theorem smallL_any (n : Nat) (f : FT) (cs : List Value) (w : World) (h : FLies w.heap.size w n f cs) :
    Calls Try.prog 10 #[.agg cs.toArray] w fun e w' => ∃ b : Bool, e = .returned (.bool b) ∧ (b = true → litF n f) ∧ Below w.heap.size w w' := by
  have FL := fun W (hb : Below w.heap.size w W) => (h.below hb).mono hb.size
  cases n with
  | zero => exact h.elim
  | succ n =>
    obtain ⟨ta, tcap, ka, kcap, rfl, _⟩ := h
    have T0 := Lib.hid (box_start w f.kind f.c ta ka f.t.length tcap f.ks.length kcap)
    have hl := Lib.hid (fun W hb => lit_any (n + 1) f _ 20000 200 W (by omega) (by omega) (by omega) (by omega) (FL W hb))
    clear FL
    generalize litF (n + 1) f = L at hl
    generalize f.kind = fk at T0 hl
    generalize f.c = fc at T0 hl
    generalize f.t.length = ft at T0 hl
    generalize f.ks.length = fl at T0 hl
    go_enter Try.func10, Try.ntmps10
    go_wp2_with fail
    refine (hl.out _ T0.out.bel).mono ?_
    rintro e w1 ⟨v, rfl, hv1, hv2, hvl, hb1⟩
    have T1 := Lib.hid (T0.out.below hb1 T0.out.lt)
    have HVL := Lib.hid hvl
    clear hb1 hvl
    go_wp2_with fail
    go_ret
    exact ⟨_, rfl, fun h => HVL.out (by simpa using h), T1.out.bel⟩
end Go.Proofs.Ytinineipfleoiaa
