/- The statements' own weighing of a formula. -/
import Derived.Test.YtknagcednppokaaFrmE
namespace Go.Proofs.Ytknagcednppokaa
open Go.RowKit

/-- An answer that is some number from -1 up to a bound. -/
def Some (B : Nat) (m : Int) (w : World) (e : Ending) (w' : World) : Prop := ∃ v : Int, e = .returned (.int .i64 v) ∧ -1 ≤ v ∧ v ≤ m ∧ Below B w w'

set_option maxRecDepth 100000 in
set_option maxHeartbeats 1600000 in
theorem light_any : ∀ (n : Nat) (f : FT) (cs : List Value) (m d : Int) (w : World), 0 ≤ m → m ≤ 1048576 → 0 ≤ d → d ≤ 1048576 → FLies w.heap.size w n f cs →
    Calls Try.prog 22 #[.agg cs.toArray, .int .i64 m, .int .i64 d] w (Some w.heap.size m w)
  | 0, _, _, _, _, _, _, _, _, _, h => h.elim
  | n + 1, f, cs, m, d, w, h0, h1, d0, d1, h => by
    have IH := light_any n
    obtain ⟨ta, tcap, ka, kcap, rfl, _, ht4, hk4, hks⟩ := h
    have HI := Lib.hid IH
    have HK := Lib.hid hks
    have B0 := Lib.hid (box_start w f.kind f.c ta ka f.t.length tcap f.ks.length kcap)
    clear IH hks
    generalize f.kind = fk at B0
    generalize f.c = fc at B0
    generalize f.t.length = ft at B0 ht4
    generalize hl : f.ks.length = len at B0 HK hk4
    clear hl
    have hno : ∀ r : Int, r = -1 → Hid (Some w.heap.size m w (.returned (.int .i64 r)) (w.alloc (.cells #[.int .i64 fk, .int .i64 fc, .slice ta ft tcap, .slice ka len kcap] 28))) := fun r hr => ⟨r, rfl, by omega, by omega, B0.out.bel⟩
    by_cases hd : d = 0
    · have e1 : (d == 0) = true := by simpa using hd
      have hn := hno _ rfl
      clear hno HI HK hd
      go_enter Try.func22, Try.ntmps22
      go_wp2_with fail
      go_ret
      exact hn.out
    · have e1 : (d == 0) = false := by simpa using hd
      by_cases hm : m = 0
      · have e2 : decide (m - 1 < 0) = true := by simp; omega
        have hn := hno _ rfl
        clear hno HI HK hd
        go_enter Try.func22, Try.ntmps22
        go_wp2_with fail
        go_ret
        exact hn.out
      · have e2 : ¬ m - 1 < 0 := by omega
        by_cases ht : m - 1 < (ft : Int)
        · have hn := hno _ rfl
          clear hno HI HK hd
          go_enter Try.func22, Try.ntmps22
          go_wp2_with fail
          go_ret
          exact hn.out
        · by_cases hk : m - 1 < (len : Int)
          · have hn := hno _ rfl
            clear hno HI HK hd
            go_enter Try.func22, Try.ntmps22
            go_wp2_with fail
            go_ret
            exact hn.out
          · clear hno
            go_enter Try.func22, Try.ntmps22
            go_wp2_with fail
            go_loopw [1, 7] (fun s i wr => ∃ (k : Nat) (v : Int), k ≤ len ∧ i = .int .i64 k ∧ s = .int .i64 v ∧ 0 ≤ v ∧ v ≤ m - 1 ∧ Hid (Box w wr w.heap.size fk fc ta ft tcap ka len kcap)) (fun _ i _ => len - (intOf i).toNat)
            case atStart => exact ⟨0, m - 1 - ft, Nat.zero_le _, rfl, rfl, by omega, by omega, B0⟩
            case round =>
              obtain ⟨k, v, hkk, rfl, rfl, hv1, hv2, hbx⟩ := hrel
              obtain ⟨bz, _, _, _, q3, hb⟩ := hbx.out
              by_cases hlt : k < len
              · obtain ⟨b, off, c0, c1, c2, c3, rfl, hblt, g0, g1, g2, g3, hf⟩ := HK.out k hlt
                rw [← hb.cell (p := ⟨b, _, none⟩) hblt] at g0 g1 g2 g3
                obtain ⟨ck, cc, cta, ctn, ctcap, cka, ckn, ckcap, rfl, rfl, rfl, rfl⟩ := hf.form
                have hih := HI.out (f.ks.getD k default) _ v (d - 1) wr (by omega) (by omega) (by omega) (by omega) ((hf.below hb).mono hb.size)
                clear hf
                go_wp2_with fail
                refine hih.mono ?_
                rintro e w1 ⟨u, rfl, hu1, hu2, hb1⟩
                have HB1 := Lib.hid (hbx.out.below hb1 bz)
                clear g0 g1 g2 g3 hih hb1 hb hbx q3
                by_cases hun : u < 0
                · go_wp2_with fail
                  go_ret
                  exact ⟨-1, rfl, by omega, by omega, HB1.out.bel⟩
                · go_wp2_with fail
                  go_roundw
                  case rel => exact ⟨k + 1, u, by omega, by go_num, rfl, by omega, by omega, HB1⟩
                  case measure => simp [intOf]; omega
              · clear HI HK
                go_wp2_with fail
                go_ret
                exact ⟨v, rfl, by omega, by omega, hb⟩

end Go.Proofs.Ytknagcednppokaa
