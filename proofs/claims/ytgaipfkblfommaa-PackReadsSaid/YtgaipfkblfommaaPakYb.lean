/- The document's reader: a number. -/
import Derived.Test.YtgaipfkblfommaaPakYa
set_option linter.unusedVariables false
set_option linter.unusedSimpArgs false
namespace Go.Proofs.Ytgaipfkblfommaa
set_option maxRecDepth 100000
open Go.RowKit

theorem lt64 {x : Int} (h : x < 18446744073709551616) : x < 2 ^ 64 := by
  have e : (2 : Int) ^ 64 = 18446744073709551616 := by decide
  omega
set_option maxHeartbeats 8000000 in
theorem rnum_any (g : Nat) (l : List UInt8) (st : Option (List UInt8)) (w : World) (h : DRt g l st w) :
    Calls Try.prog 41 #[.pointer (some ⟨g, 0, none⟩)] w (DEnd Vi pNum g l st w) := by
  have HS := Lib.hid h
  have HTK := Lib.hid (fun st W (h : DRt g l st W) => one_any g l st W h)
  clear h
  go_enter Try.func41, Try.ntmps41
  go_wp2_with fail
  go_loopw [3, 4, 5] (fun n sc kk wr => ∃ (k acc s : Nat) (sk : Option (List UInt8)), n = .int .u64 (acc : Int) ∧ sc = .int .u64 (s : Int) ∧ kk = .int .i64 (k : Int) ∧ k ≤ 9 ∧ acc < 128 ^ k ∧ s = 128 ^ k ∧ Hid (DRt g l sk wr) ∧ Hid (KeptG g w wr) ∧ Hid (st.bind (numGo 0 0) = sk.bind (numGo k acc))) (fun _ _ kk _ => 10 - (intOf kk).toNat)
  case atStart => exact ⟨0, 0, 1, st, rfl, rfl, rfl, by omega, by decide, rfl, HS.out, KeptG.refl _ _, rfl⟩
  case round =>
    obtain ⟨k, acc, s, sk, rfl, rfl, rfl, hk, hacc, hs, hst, hkp, hsp⟩ := hrel
    have hk10 : (k : Int) < 10 := by omega
    have HT := Lib.hid (HTK.out sk wr hst.out)
    go_wp2_with fail
    refine HT.out.mono ?_
    rintro e w5 ⟨v5, x, rfl, rfl, hst5, hx5, hk5⟩
    have hx256 : x.toNat < 256 := x.toNat_lt
    have H5 := Lib.hid hst5
    have K5 := Lib.hid (hkp.out.trans hk5)
    have X5 := Lib.hid hx5
    clear hst5 hk5 hx5 hkp hst HT HTK HS
    obtain ⟨xb, hxb⟩ : ∃ xb, x.toNat = xb := ⟨_, rfl⟩
    rw [hxb] at hx256 ⊢
    have hcomb : (k = 0 ∨ 0 < k ∧ xb ≠ 0 ∧ k ≠ 9 ∨ k = 9 ∧ xb = 1) ∨ (0 < k ∧ xb = 0 ∨ k = 9 ∧ 1 < xb) := by omega
    by_cases hgo : ∃ y rk, sk = some (y :: rk)
    · obtain ⟨y, rk, rfl⟩ := hgo
      obtain rfl : x = y := X5.out y rk rfl
      have H5 : Hid (DRt g l (some rk) w5) := H5.out
      obtain ⟨at', _, hdr⟩ := H5.out
      have f2 := hdr.fr 2
      obtain ⟨a, c, g1, g3, g2, _⟩ := hdr.st
      clear X5
      rcases hcomb with hc | hc
      · rcases hc with hc | hc | hc
        · have e1 : ¬ (0 : Int) < (k : Int) := by omega
          have e2 : ((k : Int) == 9) = false := by simp; omega
          obtain ⟨A, hA⟩ : ∃ A, A = acc + xb % 128 * 128 ^ k := ⟨_, rfl⟩
          have hA2 : A < 18446744073709551616 := by rw [hA]; exact all_lt hacc hk (by omega) (by omega)
          have hsl : s ≤ 9223372036854775808 := by
            rw [hs]
            have h2 : (128 : Nat) ^ k ≤ 128 ^ 9 := Nat.pow_le_pow_right (by decide) hk
            have e9 : (128 : Nat) ^ 9 = 9223372036854775808 := by decide
            omega
          have hpr : (xb % 128) * s ≤ A := by rw [hA, hs]; omega
          have hm1 : ((xb : Int) % 128) * (s : Int) = (((xb % 128) * s : Nat) : Int) := by push_cast; rfl
          have hm2 : IntKind.u64.wrap ((xb : Int) % 128 * (s : Int)) = (((xb % 128) * s : Nat) : Int) := by rw [hm1]; exact wraps_u64 _ (by omega) (lt64 (by omega))
          obtain ⟨pr, hpre⟩ : ∃ pr, pr = (xb % 128) * s := ⟨_, rfl⟩
          rw [← hpre] at hm2 hpr
          have hm3 : IntKind.u64.wrap ((acc : Int) + (pr : Int)) = (A : Int) := by
            have e : A = acc + pr := by rw [hA, hpre, hs]
            rw [e]
            rw [show ((acc : Int) + (pr : Int)) = ((acc + pr : Nat) : Int) by push_cast; rfl]
            exact wraps_u64 _ (by omega) (lt64 (by omega))
          by_cases hsm : (xb : Int) < 128
          · have HE : Hid (DEnd Vi pNum g l st w (.returned (.int .i64 (unzig A))) w5) := by
              have hn : st.bind pNum = some (unzig A, rk) := by
                rw [bind_pNum, hsp.out, hA]
                simp only [Option.bind_some]
                rw [numGo, hxb, if_neg (by omega), if_pos (by omega)]
                rfl
              refine ⟨_, unzig A, rfl, ⟨rfl, ?_⟩, by unfold nxt; rw [hn]; exact H5.out, fun y r e => (by rw [hn] at e; simp at e; exact e.1), K5.out⟩
              by_cases hp : A % 2 = 1
              · exact (unzig_odd A hA2 hp).2
              · exact (unzig_even A hA2 hp).2
            have hsm : (xb : Int) < 128 := hsm
            have hw1 : ∀ q, IntKind.u64.wrap ((s : Int) * 128) = q → IntKind.u64.wrap ((s : Int) * 128) = q := fun _ h => h
            by_cases hp : A % 2 = 1
            · have hn2 : ((A : Int) % 2 == 1) = true := by simp; omega
              have hu : unzig A = -((A / 2 : Nat) : Int) - 1 := by unfold unzig; rw [if_pos hp]
              rw [hu] at HE
              skip
              clear hsp H5 hacc hA hs hpre hdr hpr hm1
              go_wp2_with fail
              go_ret
              exact HE.out
            · have hn2 : ((A : Int) % 2 == 1) = false := by simp; omega
              have hu : unzig A = ((A / 2 : Nat) : Int) := by unfold unzig; rw [if_neg hp]
              rw [hu] at HE
              skip
              clear hsp H5 hacc hA hs hpre hdr hpr hm1
              go_wp2_with fail
              go_ret
              exact HE.out
          · have HN : Hid (st.bind (numGo 0 0) = (some rk).bind (numGo (k + 1) A)) := by
              show _ = _
              rw [hsp.out, hA]
              simp only [Option.bind_some]
              rw [numGo, hxb, if_neg (by omega), if_neg (by omega)]
            have HAL : Hid (A < 128 ^ (k + 1)) := by show _ < _; rw [hA]; exact acc_lt hacc (by omega)
            have hs8 : s * 128 ≤ 9223372036854775808 := by
              rw [hs, ← Nat.pow_succ]
              have h2 : (128 : Nat) ^ (k + 1) ≤ 128 ^ 9 := Nat.pow_le_pow_right (by decide) (by omega)
              have e9 : (128 : Nat) ^ 9 = 9223372036854775808 := by decide
              omega
            have HS1 : Hid (s * 128 = 128 ^ (k + 1)) := by show _ = _; rw [hs, Nat.pow_succ]
            have hw1 : IntKind.u64.wrap ((s : Int) * 128) = ((s * 128 : Nat) : Int) := by
              rw [show ((s : Int) * 128) = ((s * 128 : Nat) : Int) by push_cast; rfl]
              exact wraps_u64 _ (by omega) (lt64 (by omega))
            have HST : Hid (DRt g l (some rk) w5) := H5.out
            clear hsp H5 hA2 hacc hA hs hpre hdr hpr hm1
            go_wp2_with fail
            go_roundw
            case rel => exact ⟨k + 1, A, s * 128, some rk, rfl, by first | rfl | go_num, by go_num, by omega, HAL.out, HS1.out, HST, K5, HN⟩
            case measure => simp [intOf]; omega
        · obtain ⟨hc1, hc2, hc3⟩ := hc
          have e1 : (0 : Int) < (k : Int) := by omega
          have e2 : ((xb : Int) == 0) = false := by simp; omega
          have e3 : ((k : Int) == 9) = false := by simp; omega
          obtain ⟨A, hA⟩ : ∃ A, A = acc + xb % 128 * 128 ^ k := ⟨_, rfl⟩
          have hA2 : A < 18446744073709551616 := by rw [hA]; exact all_lt hacc hk (by omega) (by omega)
          have hsl : s ≤ 9223372036854775808 := by
            rw [hs]
            have h2 : (128 : Nat) ^ k ≤ 128 ^ 9 := Nat.pow_le_pow_right (by decide) hk
            have e9 : (128 : Nat) ^ 9 = 9223372036854775808 := by decide
            omega
          have hpr : (xb % 128) * s ≤ A := by rw [hA, hs]; omega
          have hm1 : ((xb : Int) % 128) * (s : Int) = (((xb % 128) * s : Nat) : Int) := by push_cast; rfl
          have hm2 : IntKind.u64.wrap ((xb : Int) % 128 * (s : Int)) = (((xb % 128) * s : Nat) : Int) := by rw [hm1]; exact wraps_u64 _ (by omega) (lt64 (by omega))
          obtain ⟨pr, hpre⟩ : ∃ pr, pr = (xb % 128) * s := ⟨_, rfl⟩
          rw [← hpre] at hm2 hpr
          have hm3 : IntKind.u64.wrap ((acc : Int) + (pr : Int)) = (A : Int) := by
            have e : A = acc + pr := by rw [hA, hpre, hs]
            rw [e]
            rw [show ((acc : Int) + (pr : Int)) = ((acc + pr : Nat) : Int) by push_cast; rfl]
            exact wraps_u64 _ (by omega) (lt64 (by omega))
          by_cases hsm : (xb : Int) < 128
          · have HE : Hid (DEnd Vi pNum g l st w (.returned (.int .i64 (unzig A))) w5) := by
              have hn : st.bind pNum = some (unzig A, rk) := by
                rw [bind_pNum, hsp.out, hA]
                simp only [Option.bind_some]
                rw [numGo, hxb, if_neg (by omega), if_pos (by omega)]
                rfl
              refine ⟨_, unzig A, rfl, ⟨rfl, ?_⟩, by unfold nxt; rw [hn]; exact H5.out, fun y r e => (by rw [hn] at e; simp at e; exact e.1), K5.out⟩
              by_cases hp : A % 2 = 1
              · exact (unzig_odd A hA2 hp).2
              · exact (unzig_even A hA2 hp).2
            have hsm : (xb : Int) < 128 := hsm
            have hw1 : ∀ q, IntKind.u64.wrap ((s : Int) * 128) = q → IntKind.u64.wrap ((s : Int) * 128) = q := fun _ h => h
            by_cases hp : A % 2 = 1
            · have hn2 : ((A : Int) % 2 == 1) = true := by simp; omega
              have hu : unzig A = -((A / 2 : Nat) : Int) - 1 := by unfold unzig; rw [if_pos hp]
              rw [hu] at HE
              skip
              clear hsp H5 hacc hA hs hpre hdr hpr hm1
              go_wp2_with fail
              go_ret
              exact HE.out
            · have hn2 : ((A : Int) % 2 == 1) = false := by simp; omega
              have hu : unzig A = ((A / 2 : Nat) : Int) := by unfold unzig; rw [if_neg hp]
              rw [hu] at HE
              skip
              clear hsp H5 hacc hA hs hpre hdr hpr hm1
              go_wp2_with fail
              go_ret
              exact HE.out
          · have HN : Hid (st.bind (numGo 0 0) = (some rk).bind (numGo (k + 1) A)) := by
              show _ = _
              rw [hsp.out, hA]
              simp only [Option.bind_some]
              rw [numGo, hxb, if_neg (by omega), if_neg (by omega)]
            have HAL : Hid (A < 128 ^ (k + 1)) := by show _ < _; rw [hA]; exact acc_lt hacc (by omega)
            have hs8 : s * 128 ≤ 9223372036854775808 := by
              rw [hs, ← Nat.pow_succ]
              have h2 : (128 : Nat) ^ (k + 1) ≤ 128 ^ 9 := Nat.pow_le_pow_right (by decide) (by omega)
              have e9 : (128 : Nat) ^ 9 = 9223372036854775808 := by decide
              omega
            have HS1 : Hid (s * 128 = 128 ^ (k + 1)) := by show _ = _; rw [hs, Nat.pow_succ]
            have hw1 : IntKind.u64.wrap ((s : Int) * 128) = ((s * 128 : Nat) : Int) := by
              rw [show ((s : Int) * 128) = ((s * 128 : Nat) : Int) by push_cast; rfl]
              exact wraps_u64 _ (by omega) (lt64 (by omega))
            have HST : Hid (DRt g l (some rk) w5) := H5.out
            clear hsp H5 hA2 hacc hA hs hpre hdr hpr hm1
            go_wp2_with fail
            go_roundw
            case rel => exact ⟨k + 1, A, s * 128, some rk, rfl, by first | rfl | go_num, by go_num, by omega, HAL.out, HS1.out, HST, K5, HN⟩
            case measure => simp [intOf]; omega
        · obtain ⟨hc1, hc2⟩ := hc
          have e1 : (0 : Int) < (k : Int) := by omega
          have e2 : ((xb : Int) == 0) = false := by simp; omega
          have e3 : ((k : Int) == 9) = true := by simp; omega
          have e4 : ¬ (1 : Int) < (xb : Int) := by omega
          obtain ⟨A, hA⟩ : ∃ A, A = acc + xb % 128 * 128 ^ k := ⟨_, rfl⟩
          have hA2 : A < 18446744073709551616 := by rw [hA]; exact all_lt hacc hk (by omega) (by omega)
          have hsl : s ≤ 9223372036854775808 := by
            rw [hs]
            have h2 : (128 : Nat) ^ k ≤ 128 ^ 9 := Nat.pow_le_pow_right (by decide) hk
            have e9 : (128 : Nat) ^ 9 = 9223372036854775808 := by decide
            omega
          have hpr : (xb % 128) * s ≤ A := by rw [hA, hs]; omega
          have hm1 : ((xb : Int) % 128) * (s : Int) = (((xb % 128) * s : Nat) : Int) := by push_cast; rfl
          have hm2 : IntKind.u64.wrap ((xb : Int) % 128 * (s : Int)) = (((xb % 128) * s : Nat) : Int) := by rw [hm1]; exact wraps_u64 _ (by omega) (lt64 (by omega))
          obtain ⟨pr, hpre⟩ : ∃ pr, pr = (xb % 128) * s := ⟨_, rfl⟩
          rw [← hpre] at hm2 hpr
          have hm3 : IntKind.u64.wrap ((acc : Int) + (pr : Int)) = (A : Int) := by
            have e : A = acc + pr := by rw [hA, hpre, hs]
            rw [e]
            rw [show ((acc : Int) + (pr : Int)) = ((acc + pr : Nat) : Int) by push_cast; rfl]
            exact wraps_u64 _ (by omega) (lt64 (by omega))
          have hsm : (xb : Int) < 128 := by omega
          have HE : Hid (DEnd Vi pNum g l st w (.returned (.int .i64 (unzig A))) w5) := by
            have hn : st.bind pNum = some (unzig A, rk) := by
              rw [bind_pNum, hsp.out, hA]
              simp only [Option.bind_some]
              rw [numGo, hxb, if_neg (by omega), if_pos (by omega)]
              rfl
            refine ⟨_, unzig A, rfl, ⟨rfl, ?_⟩, by unfold nxt; rw [hn]; exact H5.out, fun y r e => (by rw [hn] at e; simp at e; exact e.1), K5.out⟩
            by_cases hp : A % 2 = 1
            · exact (unzig_odd A hA2 hp).2
            · exact (unzig_even A hA2 hp).2
          have hsm : (xb : Int) < 128 := hsm
          have hw1 : ∀ q, IntKind.u64.wrap ((s : Int) * 128) = q → IntKind.u64.wrap ((s : Int) * 128) = q := fun _ h => h
          by_cases hp : A % 2 = 1
          · have hn2 : ((A : Int) % 2 == 1) = true := by simp; omega
            have hu : unzig A = -((A / 2 : Nat) : Int) - 1 := by unfold unzig; rw [if_pos hp]
            rw [hu] at HE
            clear hc1 hc2
            clear hsp H5 hacc hA hs hpre hdr hpr hm1
            go_wp2_with fail
            go_ret
            exact HE.out
          · have hn2 : ((A : Int) % 2 == 1) = false := by simp; omega
            have hu : unzig A = ((A / 2 : Nat) : Int) := by unfold unzig; rw [if_neg hp]
            rw [hu] at HE
            clear hc1 hc2
            clear hsp H5 hacc hA hs hpre hdr hpr hm1
            go_wp2_with fail
            go_ret
            exact HE.out
      · rcases hc with hc | hc
        · obtain ⟨hc1, hc2⟩ := hc
          have e1 : (0 : Int) < (k : Int) := by omega
          have e2 : ((xb : Int) == 0) = true := by simp; omega
          have HE : Hid (DEnd Vi pNum g l st w (.returned (.int .i64 0)) (w5.setCell ⟨g, 2, none⟩ (.bool true))) := by
            have hn : st.bind pNum = none := by
              rw [bind_pNum, hsp.out]
              simp only [Option.bind_some, numGo]
              rw [hxb, if_pos (by omega)]
              rfl
            exact ⟨_, 0, rfl, ⟨rfl, by unfold i64; omega⟩, by unfold nxt; rw [hn]; exact hdr.fail, fun y r e => (by rw [hn] at e; cases e), K5.out.trans KeptG.set⟩
          clear hsp H5 K5 hdr hs hacc
          go_wp2_with fail
          go_ret
          exact HE.out
        · obtain ⟨hc1, hc2⟩ := hc
          have e1 : (0 : Int) < (k : Int) := by omega
          have e2 : ((xb : Int) == 0) = false := by simp; omega
          have e3 : ((k : Int) == 9) = true := by simp; omega
          have e4 : (1 : Int) < (xb : Int) := by omega
          have HE : Hid (DEnd Vi pNum g l st w (.returned (.int .i64 0)) (w5.setCell ⟨g, 2, none⟩ (.bool true))) := by
            have hn : st.bind pNum = none := by
              rw [bind_pNum, hsp.out]
              simp only [Option.bind_some, numGo]
              rw [hxb, if_pos (by omega)]
              rfl
            exact ⟨_, 0, rfl, ⟨rfl, by unfold i64; omega⟩, by unfold nxt; rw [hn]; exact hdr.fail, fun y r e => (by rw [hn] at e; cases e), K5.out.trans KeptG.set⟩
          clear hsp H5 K5 hdr hs hacc
          go_wp2_with fail
          go_ret
          exact HE.out
    · have H5 : Hid (DRt g l none w5) := by
        rcases sk with _ | _ | ⟨y, rk⟩
        · exact H5.out
        · exact H5.out
        · exact absurd ⟨y, rk, rfl⟩ hgo
      have hn : st.bind pNum = none := by
        rw [bind_pNum, hsp.out]
        rcases sk with _ | _ | ⟨y, rk⟩
        · rfl
        · rfl
        · exact absurd ⟨y, rk, rfl⟩ hgo
      obtain ⟨at', hdr⟩ := H5.out
      have HE2 : Hid (DEnd Vi pNum g l st w (.returned (.int .i64 0)) (w5.setCell ⟨g, 2, none⟩ (.bool true))) := ⟨_, 0, rfl, ⟨rfl, by unfold i64; omega⟩, by unfold nxt; rw [hn]; exact hdr.fail, fun y r e => (by rw [hn] at e; cases e), K5.out.trans KeptG.set⟩
      have f2 := hdr.fr 2
      obtain ⟨a, c, g1, g3, g2, _⟩ := hdr.st
      clear X5 H5 K5 hn hgo hsp hs hacc hcomb hdr
      go_wp2_with fail
      go_ret
      exact HE2.out
end Go.Proofs.Ytgaipfkblfommaa
