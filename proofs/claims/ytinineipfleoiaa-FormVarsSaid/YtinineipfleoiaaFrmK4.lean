/- The walk of FormVars. -/
import Derived.Test.YtinineipfleoiaaFrmVu
import Derived.Test.YtinineipfleoiaaFrmK1
namespace Go.Proofs.Ytinineipfleoiaa
open Go.RowKit

set_option maxHeartbeats 2000000 in
theorem formVars_any (hup : UpSaid2) (n : Nat) (f : FT) (cs : List Value) (w : World) (h : FLies w.heap.size w n f cs) :
    Calls Try.prog 6 #[.agg cs.toArray] w fun e w' => e = .returned (.bool true) ∧ Below w.heap.size w w' := by
  have FL := fun W (hb : Below w.heap.size w W) => (h.below hb).mono hb.size
  cases n with
  | zero => exact h.elim
  | succ n =>
    obtain ⟨ta, tcap, ka, kcap, rfl, _⟩ := h
    have hli := Lib.hid (fun W hb => light_any (n + 1) f _ 1000 200 W (by omega) (by omega) (by omega) (by omega) (FL W hb))
    have hva := Lib.hid (fun W hb => fvars_any (n + 1) f _ W (FL W hb))
    have hrc := Lib.hid (fun W hb => rfcheck_any (n + 1) f _ W (FL W hb))
    have hrv := Lib.hid (fun (hs : sndF (n + 1) f = true) (hl : (vsF (n + 1) f).length ≤ 262144) W hb => rvars_any (n + 1) f _ W (FL W hb) hs hl)
    have T0 := Lib.hid (box_start w f.kind f.c ta ka f.t.length tcap f.ks.length kcap)
    have hcc : cc (n + 1) f = 0 → sndF (n + 1) f = true ∧ (vsF (n + 1) f).length ≤ 262144 := fun hc => by
      have h1 := cc_zero hc
      have h2 := vsF_len _ _ h1.1
      exact ⟨h1.1, by omega⟩
    have hVU : vU (n + 1) f = if cc (n + 1) f = 0 then Lib.compact (srt (vsF (n + 1) f)) else [] := rfl
    rw [hVU] at hva
    have hul : (vsF (n + 1) f).length ≤ 262144 → (Lib.compact (srt (vsF (n + 1) f))).length ≤ 262144 := fun h => by
      have := Lib.compact_length_le (srt (vsF (n + 1) f))
      rw [srt_len] at this; omega
    clear FL hVU
    generalize Lib.compact (srt (vsF (n + 1) f)) = U at hva hrv hul
    generalize sndF (n + 1) f = sn at hrv hcc
    generalize (vsF (n + 1) f).length = vl at hrv hcc hul
    generalize cc (n + 1) f = c at hva hrc hcc
    generalize f.kind = fk at T0 hli hva hrc hrv
    generalize f.c = fc at T0 hli hva hrc hrv
    generalize f.t.length = ft at T0 hli hva hrc hrv
    generalize f.ks.length = fl at T0 hli hva hrc hrv
    by_cases hc : c = 0
    · subst hc
      obtain ⟨hsn, hvl⟩ := hcc rfl
      have hm := hul hvl
      have hrv2 := Lib.hid (hrv.out hsn hvl)
      rw [if_pos rfl] at hva
      clear hrv hcc hul hsn hvl
      go_enter Try.func6, Try.ntmps6
      go_wp2_with fail
      refine (hup _).mono ?_
      rintro e w1 ⟨rfl, hb1⟩
      have T1 := Lib.hid (T0.out.below hb1 T0.out.lt)
      clear hb1
      obtain ⟨l1, p0, p1, p2, p3, _⟩ := T1.out
      go_wp2_with fail
      refine (hli.out _ T1.out.bel).mono ?_
      rintro e w2 ⟨v, rfl, hv1, hv2, hb2⟩
      have T2 := Lib.hid (T1.out.below hb2 T1.out.lt)
      clear hb2 l1 p0 p1 p2 p3
      obtain ⟨l2, p0, p1, p2, p3, _⟩ := T2.out
      by_cases hvn : v < 0
      · go_wp2_with fail
        go_ret
        exact ⟨rfl, T2.out.bel⟩
      · go_wp2_with fail
        refine (hva.out _ T2.out.bel).mono ?_
        rintro e w3 ⟨v3, rfl, hr3, hb3⟩
        have T3 := Lib.hid (T2.out.below hb3 T2.out.lt)
        have R3 := Lib.hid hr3
        clear hb3 hr3 l2 p0 p1 p2 p3
        obtain ⟨l3, p0, p1, p2, p3, _⟩ := T3.out
        go_wp2_with fail
        refine (hrc.out _ T3.out.bel).mono ?_
        rintro e w4 ⟨rfl, hb4⟩
        have T4 := Lib.hid (T3.out.below hb4 T3.out.lt)
        have R4 := Lib.hid (R3.out.calls hb4)
        clear hb4 R3 l3 p0 p1 p2 p3
        obtain ⟨l4, p0, p1, p2, p3, _⟩ := T4.out
        go_wp2_with fail
        refine (hrv2.out _ T4.out.bel).mono ?_
        rintro e w5 ⟨v5, rfl, hr5, hb5⟩
        have T5 := Lib.hid (T4.out.below hb5 T4.out.lt)
        have R5 := R4.out.calls hb5
        clear hb5 R4 l4 p0 p1 p2 p3
        obtain ⟨a3, c3, rfl, hn3, _⟩ := R5.nums
        obtain ⟨a5, c5, rfl, hn5, _⟩ := hr5.nums
        have HN3 := Lib.hid hn3
        have HN5 := Lib.hid hn5
        clear hn3 hn5 R5 hr5
        have hne : ((U.length : Int) != (U.length : Int)) = false := by simp
        generalize hml : U.length = m at hm hne
        have HM := Lib.hid hml
        clear hml
        go_wp2_with fail
        go_loopw [6] (fun i wr => ∃ k : Nat, k ≤ m ∧ i = .int .i64 k ∧ Hid (∃ q, wr = w5.drewN q)) (fun i _ => m - (intOf i).toNat)
        case atStart => exact ⟨0, Nat.zero_le _, rfl, 0, rfl⟩
        case round =>
          obtain ⟨k, hk, rfl, hw⟩ := hrel
          obtain ⟨q, hw⟩ := hw.out
          subst hw
          by_cases hlt : k < m
          · obtain ⟨b3, o3, rfl, hb3, g3⟩ := HN3.out k (by rw [HM.out]; exact hlt)
            obtain ⟨b5, o5, rfl, hb5, g5⟩ := HN5.out k (by rw [HM.out]; exact hlt)
            generalize U.getD k 0 = x at g3 g5
            have hxx : (x != x) = false := by simp
            go_wp2_with fail
            go_quiet (fail)
            go_wp2
            go_roundw
            case rel => exact ⟨k + 1, by omega, by go_num, ⟨_, rfl⟩⟩
            case measure => simp [intOf]; omega
          · go_wp2
            go_ret
            exact ⟨rfl, below_drewN T5.out.bel q⟩
    · rw [if_neg hc] at hva
      have hcb : (c == 0) = false := by simpa using hc
      clear hrv hcc hul
      go_enter Try.func6, Try.ntmps6
      go_wp2_with fail
      refine (hup _).mono ?_
      rintro e w1 ⟨rfl, hb1⟩
      have T1 := Lib.hid (T0.out.below hb1 T0.out.lt)
      clear hb1
      obtain ⟨l1, p0, p1, p2, p3, _⟩ := T1.out
      go_wp2_with fail
      refine (hli.out _ T1.out.bel).mono ?_
      rintro e w2 ⟨v, rfl, hv1, hv2, hb2⟩
      have T2 := Lib.hid (T1.out.below hb2 T1.out.lt)
      clear hb2 l1 p0 p1 p2 p3
      obtain ⟨l2, p0, p1, p2, p3, _⟩ := T2.out
      by_cases hvn : v < 0
      · go_wp2_with fail
        go_ret
        exact ⟨rfl, T2.out.bel⟩
      · go_wp2_with fail
        refine (hva.out _ T2.out.bel).mono ?_
        rintro e w3 ⟨v3, rfl, hr3, hb3⟩
        have T3 := Lib.hid (T2.out.below hb3 T2.out.lt)
        obtain ⟨a3, c3, rfl, _, _⟩ := hr3.nums
        clear hb3 hr3 l2 p0 p1 p2 p3
        obtain ⟨l3, p0, p1, p2, p3, _⟩ := T3.out
        go_wp2_with fail
        refine (hrc.out _ T3.out.bel).mono ?_
        rintro e w4 ⟨rfl, hb4⟩
        have T4 := Lib.hid (T3.out.below hb4 T3.out.lt)
        clear hb4 l3 p0 p1 p2 p3
        go_wp2_with fail
        go_loopw [6] (fun i wr => i = .int .i64 0 ∧ wr = w4) (fun _ _ => 0)
        case atStart => exact ⟨rfl, rfl⟩
        case round =>
          obtain ⟨rfl, rfl⟩ := hrel
          go_wp2_with fail
          go_ret
          exact ⟨rfl, T4.out.bel⟩
end Go.Proofs.Ytinineipfleoiaa
