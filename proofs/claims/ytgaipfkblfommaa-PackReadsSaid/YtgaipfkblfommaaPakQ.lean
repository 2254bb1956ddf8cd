/- The reader: a number. -/
import Derived.Test.YtgaipfkblfommaaPakQa
set_option linter.unusedVariables false
set_option linter.unusedSimpArgs false
namespace Go.Proofs.Ytgaipfkblfommaa
set_option maxRecDepth 100000
open Go.RowKit

def Vi (_ _ : World) (v : Value) (x : Int) : Prop := v = .int .i64 x ∧ i64 x
theorem bind_pNum (st : Option (List UInt8)) : st.bind pNum = (st.bind (numGo 0 0)).map fun p => (unzig p.1, p.2) := by cases st <;> rfl
set_option maxHeartbeats 8000000 in
theorem rdnum_any (g : Nat) (st : Option (List UInt8)) (w : World) (h : RSt g st w) :
    Calls Try.prog 37 #[.pointer (some ⟨g, 0, none⟩)] w (PEnd Vi pNum g st w) := by
  have HS := Lib.hid h
  have HTK := Lib.hid (fun st W (h : RSt g st W) => take_any g st W h)
  clear h
  go_enter Try.func37, Try.ntmps37
  go_wp2_with fail
  go_loopw [3, 4] (fun n s wr => ∃ (k acc sh : Nat) (sk : Option (List UInt8)), n = .int .u64 (acc : Int) ∧ s = .int .i64 (sh : Int) ∧ sh = 7 * k ∧ k ≤ 9 ∧ acc < 128 ^ k ∧ Hid (RSt g sk wr) ∧ Hid (KeptG g w wr) ∧ Hid (st.bind (numGo 0 0) = sk.bind (numGo k acc))) (fun _ s _ => 70 - (intOf s).toNat)
  case atStart => exact ⟨0, 0, 0, st, rfl, rfl, rfl, by omega, by decide, HS.out, KeptG.refl _ _, rfl⟩
  case round =>
    obtain ⟨k, acc, sh, sk, rfl, rfl, hsh, hk, hacc, hst, hkp, hsp⟩ := hrel
    have HT := Lib.hid (HTK.out sk wr hst.out)
    go_wp2_with fail
    refine HT.out.mono ?_
    rintro e w5 ⟨v5, x, rfl, rfl, hst5, hx5, hk5⟩
    have hx256 : x.toNat < 256 := x.toNat_lt
    have H5 := Lib.hid hst5
    have K5 := Lib.hid (hkp.out.trans hk5)
    have X5 := Lib.hid hx5
    clear hst5 hk5 hx5 hkp hst HT HTK HS
    obtain ⟨xb, hxb⟩ : ∃ xb, x.toNat = xb := ⟨_, rfl⟩
    rw [hxb] at hx256 ⊢
    have hand := Go.u8_and127 (x := (xb : Int)) (by omega) (by omega)
    have hcomb : (k = 0 ∨ 0 < k ∧ xb ≠ 0 ∧ k ≠ 9 ∨ k = 9 ∧ xb = 1) ∨ (0 < k ∧ xb = 0 ∨ k = 9 ∧ 1 < xb) := by omega
    by_cases hgo : ∃ y rk, sk = some (y :: rk)
    · obtain ⟨y, rk, rfl⟩ := hgo
      obtain rfl : x = y := X5.out y rk rfl
      have H5 : Hid (RS g rk false w5) := H5.out
      have f1 := H5.out.fr 1
      obtain ⟨a, c, g1, g2, _⟩ := H5.out.st
      clear X5
      rcases hcomb with hc | hc
      · rcases hc with hc | hc | hc
        · have e1 : ¬ (0 : Int) < (sh : Int) := by omega
          have e2 : ((sh : Int) == 63) = false := by simp; omega
          obtain ⟨A, hA⟩ : ∃ A, A = acc + xb % 128 * 128 ^ k := ⟨_, rfl⟩
          have hA2 : A < 18446744073709551616 := by rw [hA]; exact all_lt hacc hk (by omega) (by omega)
          have hor : bits .or .u64 (acc : Int) ((xb : Int) % 128) = (A : Int) := by
            have := or_group acc (xb % 128) k hacc hk (by omega) (by omega)
            rw [hc] at this hA
            rw [hA]
            have e7 : ((xb % 128 : Nat) : Int) * 2 ^ (7 * 0) = (xb : Int) % 128 := by simp
            rw [e7, wraps_u64 _ (by omega) (by have : (2 : Int) ^ 64 = 18446744073709551616 := by decide
                                               omega)] at this
            exact this
          by_cases hsm : (xb : Int) < 128
          · have HE : Hid (PEnd Vi pNum g st w (.returned (.int .i64 (unzig A))) w5) := by
              have hn : st.bind pNum = some (unzig A, rk) := by
                rw [bind_pNum, hsp.out, hA]
                simp only [Option.bind_some]
                rw [numGo, hxb, if_neg (by omega), if_pos (by omega)]
                rfl
              refine ⟨_, unzig A, rfl, ⟨rfl, ?_⟩, by unfold nxt; rw [hn]; exact H5.out, fun y r e => (by rw [hn] at e; simp at e; exact e.1), K5.out⟩
              by_cases hp : A % 2 = 1
              · exact (unzig_odd A hA2 hp).2
              · exact (unzig_even A hA2 hp).2
            have hsm : (xb : Int) < 128 := hsm
            have hn1 := Lib.u64_and1 (A : Int) (by omega) (by omega)
            by_cases hp : A % 2 = 1
            · have hn2 : (A : Int) % 2 = 1 := by omega
              have hn1 : bits .and .u64 (A : Int) 1 = 1 := by rw [hn1]; exact hn2
              rw [← (unzig_odd A hA2 hp).1] at HE
              skip
              clear hsp H5 hA2 hacc hA
              go_wp2_with fail
              go_ret
              exact HE.out
            · have hn2 : (A : Int) % 2 = 0 := by omega
              have hn1 : bits .and .u64 (A : Int) 1 = 0 := by rw [hn1]; exact hn2
              rw [← (unzig_even A hA2 hp).1] at HE
              skip
              clear hsp H5 hA2 hacc hA
              go_wp2_with fail
              go_ret
              exact HE.out
          · have hns : ¬ (xb : Int) < 128 := hsm
            have HN : Hid (st.bind (numGo 0 0) = (some rk).bind (numGo (k + 1) A)) := by
              show _ = _
              rw [hsp.out, hA]
              simp only [Option.bind_some]
              rw [numGo, hxb, if_neg (by omega), if_neg (by omega)]
            have HAL : Hid (A < 128 ^ (k + 1)) := by show _ < _; rw [hA]; exact acc_lt hacc (by omega)
            have HST : Hid (RSt g (some rk) w5) := H5.out
            clear hsp H5 hA2 hacc hA
            go_wp2_with fail
            go_roundw
            case rel => exact ⟨k + 1, A, sh + 7, some rk, rfl, by go_num, by omega, by omega, HAL.out, HST, K5, HN⟩
            case measure => simp [intOf]; omega
        · obtain ⟨hc1, hc2, hc3⟩ := hc
          have e1 : (0 : Int) < (sh : Int) := by omega
          have e2 : ((xb : Int) == 0) = false := by simp; omega
          have e3 : ((sh : Int) == 63) = false := by simp; omega
          obtain ⟨A, hA⟩ : ∃ A, A = acc + xb % 128 * 128 ^ k := ⟨_, rfl⟩
          have hA2 : A < 18446744073709551616 := by rw [hA]; exact all_lt hacc hk (by omega) (by omega)
          have hor : bits .or .u64 (acc : Int) (IntKind.u64.wrap ((xb : Int) % 128 * 2 ^ (7 * k))) = (A : Int) := by rw [hA]; exact or_group acc (xb % 128) k hacc hk (by omega) (by omega)
          by_cases hsm : (xb : Int) < 128
          · have HE : Hid (PEnd Vi pNum g st w (.returned (.int .i64 (unzig A))) w5) := by
              have hn : st.bind pNum = some (unzig A, rk) := by
                rw [bind_pNum, hsp.out, hA]
                simp only [Option.bind_some]
                rw [numGo, hxb, if_neg (by omega), if_pos (by omega)]
                rfl
              refine ⟨_, unzig A, rfl, ⟨rfl, ?_⟩, by unfold nxt; rw [hn]; exact H5.out, fun y r e => (by rw [hn] at e; simp at e; exact e.1), K5.out⟩
              by_cases hp : A % 2 = 1
              · exact (unzig_odd A hA2 hp).2
              · exact (unzig_even A hA2 hp).2
            have hsm : (xb : Int) < 128 := hsm
            have hn1 := Lib.u64_and1 (A : Int) (by omega) (by omega)
            by_cases hp : A % 2 = 1
            · have hn2 : (A : Int) % 2 = 1 := by omega
              have hn1 : bits .and .u64 (A : Int) 1 = 1 := by rw [hn1]; exact hn2
              rw [← (unzig_odd A hA2 hp).1] at HE
              skip
              clear hsp H5 hA2 hacc hA
              go_wp2_with fail
              go_ret
              exact HE.out
            · have hn2 : (A : Int) % 2 = 0 := by omega
              have hn1 : bits .and .u64 (A : Int) 1 = 0 := by rw [hn1]; exact hn2
              rw [← (unzig_even A hA2 hp).1] at HE
              skip
              clear hsp H5 hA2 hacc hA
              go_wp2_with fail
              go_ret
              exact HE.out
          · have hns : ¬ (xb : Int) < 128 := hsm
            have HN : Hid (st.bind (numGo 0 0) = (some rk).bind (numGo (k + 1) A)) := by
              show _ = _
              rw [hsp.out, hA]
              simp only [Option.bind_some]
              rw [numGo, hxb, if_neg (by omega), if_neg (by omega)]
            have HAL : Hid (A < 128 ^ (k + 1)) := by show _ < _; rw [hA]; exact acc_lt hacc (by omega)
            have HST : Hid (RSt g (some rk) w5) := H5.out
            clear hsp H5 hA2 hacc hA
            go_wp2_with fail
            go_roundw
            case rel => exact ⟨k + 1, A, sh + 7, some rk, rfl, by go_num, by omega, by omega, HAL.out, HST, K5, HN⟩
            case measure => simp [intOf]; omega
        · obtain ⟨hc1, hc2⟩ := hc
          have e1 : (0 : Int) < (sh : Int) := by omega
          have e2 : ((xb : Int) == 0) = false := by simp; omega
          have e3 : ((sh : Int) == 63) = true := by simp; omega
          have e4 : ¬ (1 : Int) < (xb : Int) := by omega
          obtain ⟨A, hA⟩ : ∃ A, A = acc + xb % 128 * 128 ^ k := ⟨_, rfl⟩
          have hA2 : A < 18446744073709551616 := by rw [hA]; exact all_lt hacc hk (by omega) (by omega)
          have hor : bits .or .u64 (acc : Int) ((xb : Int) % 128 * 9223372036854775808) = (A : Int) := by
            have := or_group acc (xb % 128) k hacc hk (by omega) (by omega)
            rw [hA, ← this]
            have e7 : ((xb % 128 : Nat) : Int) * 2 ^ (7 * k) = (xb : Int) % 128 * 9223372036854775808 := by rw [hc1, show (2 : Int) ^ (7 * 9) = 9223372036854775808 by decide]; rfl
            rw [e7, wraps_u64 _ (by omega) (by have : (2 : Int) ^ 64 = 18446744073709551616 := by decide
                                               omega)]
          have hsm : (xb : Int) < 128 := by omega
          have HE : Hid (PEnd Vi pNum g st w (.returned (.int .i64 (unzig A))) w5) := by
            have hn : st.bind pNum = some (unzig A, rk) := by
              rw [bind_pNum, hsp.out, hA]
              simp only [Option.bind_some]
              rw [numGo, hxb, if_neg (by omega), if_pos (by omega)]
              rfl
            refine ⟨_, unzig A, rfl, ⟨rfl, ?_⟩, by unfold nxt; rw [hn]; exact H5.out, fun y r e => (by rw [hn] at e; simp at e; exact e.1), K5.out⟩
            by_cases hp : A % 2 = 1
            · exact (unzig_odd A hA2 hp).2
            · exact (unzig_even A hA2 hp).2
          have hsm : (xb : Int) < 128 := hsm
          have hn1 := Lib.u64_and1 (A : Int) (by omega) (by omega)
          by_cases hp : A % 2 = 1
          · have hn2 : (A : Int) % 2 = 1 := by omega
            have hn1 : bits .and .u64 (A : Int) 1 = 1 := by rw [hn1]; exact hn2
            rw [← (unzig_odd A hA2 hp).1] at HE
            clear hc1 hc2
            clear hsp H5 hA2 hacc hA
            go_wp2_with fail
            go_ret
            exact HE.out
          · have hn2 : (A : Int) % 2 = 0 := by omega
            have hn1 : bits .and .u64 (A : Int) 1 = 0 := by rw [hn1]; exact hn2
            rw [← (unzig_even A hA2 hp).1] at HE
            clear hc1 hc2
            clear hsp H5 hA2 hacc hA
            go_wp2_with fail
            go_ret
            exact HE.out
      · rcases hc with hc | hc
        · obtain ⟨hc1, hc2⟩ := hc
          have e1 : (0 : Int) < (sh : Int) := by omega
          have e2 : ((xb : Int) == 0) = true := by simp; omega
          have HE : Hid (PEnd Vi pNum g st w (.returned (.int .i64 0)) (w5.setCell ⟨g, 1, none⟩ (.bool true))) := by
            have hn : st.bind pNum = none := by
              rw [bind_pNum, hsp.out]
              simp only [Option.bind_some, numGo]
              rw [hxb, if_pos (by omega)]
              rfl
            exact ⟨_, 0, rfl, ⟨rfl, by unfold i64; omega⟩, by unfold nxt; rw [hn]; exact H5.out.fail, fun y r e => (by rw [hn] at e; cases e), K5.out.trans KeptG.set⟩
          clear hsp H5 K5
          go_wp2_with fail
          go_ret
          exact HE.out
        · obtain ⟨hc1, hc2⟩ := hc
          have e1 : (0 : Int) < (sh : Int) := by omega
          have e2 : ((xb : Int) == 0) = false := by simp; omega
          have e3 : ((sh : Int) == 63) = true := by simp; omega
          have e4 : (1 : Int) < (xb : Int) := by omega
          have HE : Hid (PEnd Vi pNum g st w (.returned (.int .i64 0)) (w5.setCell ⟨g, 1, none⟩ (.bool true))) := by
            have hn : st.bind pNum = none := by
              rw [bind_pNum, hsp.out]
              simp only [Option.bind_some, numGo]
              rw [hxb, if_pos (by omega)]
              rfl
            exact ⟨_, 0, rfl, ⟨rfl, by unfold i64; omega⟩, by unfold nxt; rw [hn]; exact H5.out.fail, fun y r e => (by rw [hn] at e; cases e), K5.out.trans KeptG.set⟩
          clear hsp H5 K5
          go_wp2_with fail
          go_ret
          exact HE.out
    · have H5 : Hid (RSt g none w5) := by
        rcases sk with _ | _ | ⟨y, rk⟩
        · exact H5.out
        · exact H5.out
        · exact absurd ⟨y, rk, rfl⟩ hgo
      have hn : st.bind pNum = none := by
        rw [bind_pNum, hsp.out]
        rcases sk with _ | _ | ⟨y, rk⟩
        · rfl
        · rfl
        · exact absurd ⟨y, rk, rfl⟩ hgo
      obtain ⟨rest, hrs⟩ := H5.out
      have HT2 := Lib.hid hrs
      have HE1 : Hid (PEnd Vi pNum g st w (.returned (.int .i64 0)) w5) := ⟨_, 0, rfl, ⟨rfl, by unfold i64; omega⟩, by unfold nxt; rw [hn]; exact H5.out, fun y r e => (by rw [hn] at e; cases e), K5.out⟩
      have HE2 : Hid (PEnd Vi pNum g st w (.returned (.int .i64 0)) (w5.setCell ⟨g, 1, none⟩ (.bool true))) := ⟨_, 0, rfl, ⟨rfl, by unfold i64; omega⟩, by unfold nxt; rw [hn]; exact hrs.fail, fun y r e => (by rw [hn] at e; cases e), K5.out.trans KeptG.set⟩
      have f1 := hrs.fr 1
      obtain ⟨a, c, g1, g2, _⟩ := hrs.st
      clear X5 H5 K5 hn hgo
      rcases hcomb with hc | hc
      · rcases hc with hc | hc | hc
        · have e1 : ¬ (0 : Int) < (sh : Int) := by omega
          have e2 : ((sh : Int) == 63) = false := by simp; omega
          clear HE2 hsp HT2
          go_wp2_with fail
          go_ret
          exact HE1.out
        · obtain ⟨hc1, hc2, hc3⟩ := hc
          have e1 : (0 : Int) < (sh : Int) := by omega
          have e2 : ((xb : Int) == 0) = false := by simp; omega
          have e3 : ((sh : Int) == 63) = false := by simp; omega
          clear HE2 hsp HT2
          go_wp2_with fail
          go_ret
          exact HE1.out
        · obtain ⟨hc1, hc2⟩ := hc
          have e1 : (0 : Int) < (sh : Int) := by omega
          have e2 : ((xb : Int) == 0) = false := by simp; omega
          have e3 : ((sh : Int) == 63) = true := by simp; omega
          have e4 : ¬ (1 : Int) < (xb : Int) := by omega
          clear HE2 hsp HT2
          go_wp2_with fail
          go_ret
          exact HE1.out
      · rcases hc with hc | hc
        · obtain ⟨hc1, hc2⟩ := hc
          have e1 : (0 : Int) < (sh : Int) := by omega
          have e2 : ((xb : Int) == 0) = true := by simp; omega
          clear HE1 hsp HT2
          go_wp2_with fail
          go_ret
          exact HE2.out
        · obtain ⟨hc1, hc2⟩ := hc
          have e1 : (0 : Int) < (sh : Int) := by omega
          have e2 : ((xb : Int) == 0) = false := by simp; omega
          have e3 : ((sh : Int) == 63) = true := by simp; omega
          have e4 : (1 : Int) < (xb : Int) := by omega
          clear HE1 hsp HT2
          go_wp2_with fail
          go_ret
          exact HE2.out
end Go.Proofs.Ytgaipfkblfommaa
