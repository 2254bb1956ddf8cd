/- The walk of FormLong. -/
import Derived.Test.YtinineipfleoiaaFrmK1
import Derived.OwnWalk
namespace Go.Proofs.Ytinineipfleoiaa
open Go.RowKit

theorem Try.infoForm : (Try.prog.info? 27).map (fun i => (i.zero, i.size, i.bytes)) = some (some (.agg #[.int .i64 0, .int .i64 0, .slice none 0 0, .slice none 0 0]), 4, 64) := by kernel_rfl

def leaf0 : FT := .mk 0 0 [] []
def wideF (n : Nat) : FT := .mk 5 0 [] (List.replicate n leaf0)
theorem dep_le : ∀ (n : Nat) (f : FT), dep n f ≤ n
  | 0, _ => Nat.le_refl _
  | n + 1, f => by
    by_cases h : n + 1 < dep (n + 1) f
    · obtain ⟨i, _, hi⟩ := dep_succ.1 h
      have := dep_le n (f.ks.getD i default)
      omega
    · omega
theorem wide_siz (n : Nat) : siz 2 (wideF n) = 1 + n := by
  show 1 + ((List.replicate n leaf0).map (siz 1)).sum = _
  rw [List.map_replicate, show siz 1 leaf0 = 1 from rfl]
  simp
theorem wide_get {n i : Nat} (h : i < n) : (wideF n).ks.getD i default = leaf0 := by
  show (List.replicate n leaf0).getD i default = leaf0
  simp [List.getD_eq_getElem?_getD, h]
theorem wide_snd (n : Nat) : sndF 2 (wideF n) = true := by
  rw [sndF_yes (fun i hi => by rw [wide_get (by simpa [wideF, FT.ks] using hi)]; rfl)]
  rfl
theorem wide_cc (n : Nat) : cc 2 (wideF n) = if 4095 < n then 2 else 0 := by
  unfold cc ccV
  have := dep_le 2 (wideF n)
  rw [wide_snd, wide_siz, if_neg (by omega)]
  by_cases h : 4095 < n
  · rw [if_pos (by omega), if_pos h]
  · rw [if_neg (by omega), if_neg h]; rfl
theorem made_get (a b c d : Value) (n i j : Nat) (hi : i < n) (hj : j < 4) : (madeCells #[a, b, c, d] (n * 4)).toList[i * 4 + j]? = #[a, b, c, d][j]? := by
  have h1 : (i * 4 + j) % 4 = j := by omega
  have h2 : i * 4 + j < n * 4 := by omega
  simp [madeCells, h2, h1]
  rcases j with _ | _ | _ | _ | j <;> first | rfl | omega
theorem wide_lies (B n cap g : Nat) (w : World) (hB : B ≤ g) (hn : n ≤ 10000) (h : w.ownsRow B 27 4 (.slice (some ⟨g, 0, none⟩) n cap) n (madeCells #[.int .i64 0, .int .i64 0, .slice none 0 0, .slice none 0 0] (n * 4)).toList) :
    FLies w.heap.size w 2 (wideF n) [.int .i64 5, .int .i64 0, .slice none 0 0, .slice (some ⟨g, 0, none⟩) n cap] := by
  have hl : (wideF n).ks.length = n := by simp [wideF, FT.ks]
  refine ⟨none, 0, some ⟨g, 0, none⟩, cap, by rw [hl]; rfl, fun i hi => absurd hi (Nat.not_lt_zero i), by simp [wideF, FT.t], by rw [hl]; omega, fun i hi => ?_⟩
  rw [hl] at hi
  have hc := fun j hj => World.ownsRow.cells h (g := g) rfl (i * 4 + j) _ ((made_get (.int .i64 0) (.int .i64 0) (.slice none 0 0) (.slice none 0 0) n i j hi hj).trans (show _ = some (#[Value.int .i64 0, .int .i64 0, .slice none 0 0, .slice none 0 0][j]'hj) by simp))
  have ha : ∀ k, (⟨g, 0, none⟩ : Addr).add k = ⟨g, 0 + k, none⟩ := fun k => by unfold Addr.add; split <;> simp_all
  have q0 := hc 0 (by omega)
  have q1 := hc 1 (by omega)
  have q2 := hc 2 (by omega)
  have q3 := hc 3 (by omega)
  rw [ha, ← Nat.add_assoc] at q0 q1 q2 q3
  refine ⟨g, 0, _, _, _, _, rfl, (World.ownsRow.lt h g rfl).2, q0, q1, q2, q3, ?_⟩
  rw [wide_get hi]
  exact flies_leaf _ _ 0 0 [] none 0 (by simp) (fun i hi => absurd hi (Nat.not_lt_zero i))

set_option maxHeartbeats 1000000 in
theorem long_any (hup : UpSaid2) (z : Int) (n : Nat) (w : World) (hn : n ≤ 10000) (hz : ((0 ≤ z ∧ z ≤ 10000) ∧ z = n) ∨ (z < 0 ∧ n = 5) ∨ ((0 ≤ z ∧ 10000 < z) ∧ n = 5)) :
    Calls Try.prog 4 #[.int .i64 z] w fun e w' => e = .returned (.bool true) ∧ Below w.heap.size w w' := by
  obtain ⟨i0, hi, hz0, hz1, hz2⟩ := info_parts Try.infoForm
  have en := fun W => Try.eqNil W
  have eo := fun W => Try.eqCode 2 2 W
  have hck := Lib.hid (fun cap g W B hB h => fcheck_any 2 (wideF n) _ W (wide_lies B n cap g W hB hn h))
  rw [wide_cc] at hck
  by_cases h4 : 4095 < n
  · rw [if_pos h4] at hck
    rcases hz with ⟨hz, rfl⟩ | ⟨_, rfl⟩ | ⟨_, rfl⟩
    · go_enter Try.func4, Try.ntmps4
      go_wp2_with fail
      refine (hup _).mono ?_
      rintro e w1 ⟨rfl, hb1⟩
      have T1 := Lib.hid hb1
      clear hb1
      go_wp2_with (at_make; refine wpList_make_full _ rfl _ _ 25 rfl w1.heap.size 27 i0 (.agg #[.int .i64 0, .int .i64 0, .slice none 0 0, .slice none 0 0]) 4 Try.underlying25 hi hz0 hz1 .i64 .i64 _ _ n rfl rfl rfl rfl (by rw [hz2]; omega) (by unfold maxLen; omega) (Nat.le_refl _) ?_)
      intro w2 hown hgrow
      have T2 := Lib.hid (T1.out.grown hgrow T1.out.size (fun k hk => by cases hk))
      go_wp2_with fail
      refine (hck.out _ _ w2 _ (Nat.le_refl _) hown).mono ?_
      rintro e w3 ⟨rfl, hb3⟩
      have T3 := Lib.hid (T2.out.trans (hb3.mono T2.out.size))
      clear hb3
      simp only [codeV]
      go_wp2_with fail
      go_ret
      exact ⟨rfl, T3.out⟩
    · omega
    · omega
  · rw [if_neg h4] at hck
    simp only [codeV, if_true] at hck
    rcases hz with ⟨hz, rfl⟩ | ⟨hz, rfl⟩ | ⟨hz, rfl⟩
    all_goals
      go_enter Try.func4, Try.ntmps4
      go_wp2_with fail
      refine (hup _).mono ?_
      rintro e w1 ⟨rfl, hb1⟩
      have T1 := Lib.hid hb1
      clear hb1
      go_wp2_with (at_make; first | (refine wpList_make_full _ rfl _ _ 25 rfl w1.heap.size 27 i0 (.agg #[.int .i64 0, .int .i64 0, .slice none 0 0, .slice none 0 0]) 4 Try.underlying25 hi hz0 hz1 .i64 .i64 _ _ 5 rfl rfl rfl rfl (by rw [hz2]; omega) (by unfold maxLen; omega) (Nat.le_refl _) ?_) | (refine wpList_make_full _ rfl _ _ 25 rfl w1.heap.size 27 i0 (.agg #[.int .i64 0, .int .i64 0, .slice none 0 0, .slice none 0 0]) 4 Try.underlying25 hi hz0 hz1 .i64 .i64 _ _ n rfl rfl rfl rfl (by rw [hz2]; omega) (by unfold maxLen; omega) (Nat.le_refl _) ?_))
      intro w2 hown hgrow
      have T2 := Lib.hid (T1.out.grown hgrow T1.out.size (fun k hk => by cases hk))
      go_wp2_with fail
      refine (hck.out _ _ w2 _ (Nat.le_refl _) hown).mono ?_
      rintro e w3 ⟨rfl, hb3⟩
      have T3 := Lib.hid (T2.out.trans (hb3.mono T2.out.size))
      clear hb3
      go_wp2_with fail
      go_ret
      exact ⟨rfl, T3.out⟩
theorem formLong_any (hup : UpSaid2) (z : Int) (w : World) :
    Calls Try.prog 4 #[.int .i64 z] w fun e w' => e = .returned (.bool true) ∧ Below w.heap.size w w' := by
  by_cases h : 0 ≤ z ∧ z ≤ 10000
  · obtain ⟨n, rfl⟩ := Int.eq_ofNat_of_zero_le h.1
    exact long_any hup n n w (by omega) (.inl ⟨h, rfl⟩)
  · exact long_any hup z 5 w (by omega) (by by_cases h0 : z < 0
                                            · exact .inr (.inl ⟨h0, rfl⟩)
                                            · exact .inr (.inr ⟨⟨by omega, by omega⟩, rfl⟩))
end Go.Proofs.Ytinineipfleoiaa
