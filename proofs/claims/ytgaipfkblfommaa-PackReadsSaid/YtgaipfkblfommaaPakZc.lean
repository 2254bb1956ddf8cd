/- The document's reader: a clause. -/
import Derived.Test.YtgaipfkblfommaaPakZa
set_option linter.unusedVariables false
set_option linter.unusedSimpArgs false
namespace Go.Proofs.Ytgaipfkblfommaa
set_option maxRecDepth 100000
open Go.RowKit

set_option maxHeartbeats 8000000 in
theorem dclause_any (g : Nat) (l : List UInt8) (st : Option (List UInt8)) (w : World) (h : DRt g l st w) :
    Calls Try.prog 43 #[.pointer (some ⟨g, 0, none⟩)] w (DEnd (Vr intSh) pClause g l st w) := by
  have HM := Lib.hid (many_any g l st w h)
  have hgw := h.lt
  clear h
  go_enter Try.func43, Try.ntmps43
  go_wp2_with fail
  refine HM.out.mono ?_
  rintro e w1 ⟨n, at', bad, rfl, hdr, hle, hk1, hbeh⟩
  have hnb : n ≤ 4194304 := by have := hdr.len; omega
  have HDS : Hid (Ds intSh 3 pNum g l w (st.bind pMany) n 0 [] ((st.bind pMany).map Prod.snd) (.slice none 0 0) w1) := ⟨hdr.of_beh hbeh, Own.nil _ _ _ _, hk1, Lp.start pNum hbeh⟩
  clear hdr hbeh hk1 hle HM
  go_wp2_with fail
  go_loopw [4, 5] (fun u i wr => ∃ (k : Nat) (xs : List Int) (sk : Option (List UInt8)), i = .int .i64 k ∧ k ≤ n ∧ Hid (Ds intSh 3 pNum g l w (st.bind pMany) n k xs sk u wr)) (fun _ i _ => n - (intOf i).toNat)
  case atStart => exact ⟨0, [], _, rfl, Nat.zero_le _, HDS⟩
  case round =>
    clear HDS
    obtain ⟨k, xs, sk, rfl, hk, hE⟩ := hrel
    by_cases hlt : k < n
    · have hlti : (k : Int) < (n : Int) := by omega
      have g2 := hE.out.rs.flag.1
      cases sk with
      | none =>
        have HE := Lib.hid (hE.out.done hnb (.inr rfl))
        clear hE
        go_wp2_with fail
        go_ret
        exact HE.out
      | some r =>
        have HC := Lib.hid (rnum_any g l (some r) wr hE.out.rs)
        go_wp2_with fail
        refine HC.out.mono ?_
        rintro e w5 ⟨v5, x, rfl, ⟨rfl, hi⟩, hst5, hx5, hk5⟩
        obtain ⟨v6, w6, hr6, hd6⟩ := hE.out.step (P := Try.prog) (t := 74) Try.underlying74 Try.eachIntInfo (by decide) (by decide) hlt hnb hgw hst5 hx5 hk5 (cs := [.int .i64 x]) ⟨rfl, hi⟩
        have HEG := Lib.hid hd6
        clear hi hst5 hx5 hk5 hE HC hd6 g2
        go_wp2_with (at_builtin; refine Lib.wpList_append_run _ rfl _ _ _ _ rfl _ _ rfl rfl _ _ (hr6 _) ?_)
        go_roundw
        case rel => exact ⟨k + 1, _, _, by go_num, by omega, HEG⟩
        case measure => simp [intOf]; omega
    · have hlti : ¬ (k : Int) < (n : Int) := by omega
      obtain rfl : k = n := by omega
      have HE := Lib.hid (hE.out.done hnb (.inl rfl))
      clear hE
      go_wp2_with fail
      go_ret
      exact HE.out
end Go.Proofs.Ytgaipfkblfommaa
