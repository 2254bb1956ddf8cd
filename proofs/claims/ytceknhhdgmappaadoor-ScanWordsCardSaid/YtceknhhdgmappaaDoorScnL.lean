/- A token: the code's walk. -/
import Derived.Test.YtceknhhdgmappaaDoorScnK
set_option linter.unusedVariables false
set_option linter.unusedSimpArgs false
namespace Go.Proofs.YtceknhhdgmappaaDoor
set_option maxRecDepth 100000
open Go.RowKit

set_option maxHeartbeats 8000000 in
theorem token_any (s : ByteArray) (w : World) (hs : s.size ≤ 1000000) (hL : Laid w) (hne : 0 < s.size) (hsk : NoSkip s.data.toList) : Calls Tryd.prog 18 #[.string s] w (TokEnd s w) := by
  have hsz := size_l s
  have hA : Below w.heap.size w (w.alloc (.cells #[.int .i64 0, .int .i64 0, .string ⟨#[]⟩] 37)) := (Below.refl _ w).alloc (Nat.le_refl _) _
  have HR := Lib.hid (fun W h => resAt_new w (.int .i64 0) (.int .i64 0) (.string ⟨#[]⟩) 37 W h)
  have HL1 := Lib.hid (hL.up hA)
  have HA := Lib.hid hA
  have HWD := Lib.hid (fun W => word_any s W)
  have HBS : Hid (∀ W, Below w.heap.size w W → ∀ a b c, Below w.heap.size w (((W.setCell ⟨w.heap.size, 0, none⟩ a).setCell ⟨w.heap.size, 1, none⟩ b).setCell ⟨w.heap.size, 2, none⟩ c)) := fun W h a b c => ((h.setCell (p := ⟨w.heap.size, 0, none⟩) (Nat.le_refl _) _).setCell (p := ⟨w.heap.size, 1, none⟩) (Nat.le_refl _) _).setCell (p := ⟨w.heap.size, 2, none⟩) (Nat.le_refl _) _
  have hnl : s.data.toList ≠ [] := fun e => by rw [e] at hsz; simp at hsz; omega
  have hl := wordN_le s.data.toList
  rw [hsz] at hl
  obtain ⟨et, ev, h4⟩ := hL.rng
  have HKP := Lib.hid (fun W (hb : Below w.heap.size w W) => (hb.cell (p := ⟨4, 0, none⟩) hL.pos).trans h4)
  clear hL hA h4
  by_cases hw : 0 < wordN s.data.toList
  · obtain ⟨t1, t2⟩ := take_size hl
    have HNT : Hid (∀ W, Laid W → Calls Tryd.prog 29 #[.string (s.extract 0 (wordN s.data.toList))] W (TokEnd s W)) := fun W hW => by
      refine (nametok_any _ W (by omega) hW).mono ?_
      rintro e w' ⟨rfl, hb⟩
      obtain ⟨k, t, c, e1, h1⟩ := tokIs_name hsk hw _ t1 t2
      exact ⟨k, t, c, by rw [e1]; rfl, h1, hb⟩
    have hwi : (0 : Int) < (wordN s.data.toList : Int) := by omega
    have hwl : (wordN s.data.toList : Int) ≤ (s.size : Int) := by omega
    clear hsz hnl hsk t1 t2 hw hl
    generalize wordN s.data.toList = N at *
    go_enter Tryd.func18, Tryd.ntmps18
    go_wp2_with fail
    generalize w.alloc (.cells #[.int .i64 0, .int .i64 0, .string ⟨#[]⟩] 37) = W1 at *
    refine (HWD.out _).mono ?_
    rintro e w1 ⟨rfl, hb1⟩
    have B1 := Lib.hid hb1
    clear hb1 HWD
    go_wp2_with fail
    refine (HNT.out _ (HL1.out.up B1.out)).mono ?_
    rintro e w2 ⟨k, t, c, rfl, ht, hb2⟩
    have B2 := Lib.hid (B1.out.trans (hb2.mono B1.out.size))
    have HT := Lib.hid ht
    obtain ⟨⟨x0, q0⟩, ⟨x1, q1⟩, ⟨x2, q2⟩, f0, f1, f2⟩ := HR.out w2 B2.out
    have HE := Lib.hid (HBS.out w2 (HA.out.trans (B2.out.mono HA.out.size)))
    clear hb2 ht HNT HR HBS
    go_wp2
    exact bodyPost_ret (v := tokOut k t c) (by simp [results, Tryd.results18, go_sem, tokOut, q0, q1, q2, f0, f1, f2]) rfl ⟨k, t, c, rfl, HT.out, HE.out _ _ _⟩
  · have hw0 : wordN s.data.toList = 0 := by omega
    rw [hw0] at HWD
    have HDG := Lib.hid (fun W => rdigit_run s W)
    have hld := runN_le isDig s.data.toList
    rw [hsz] at hld
    by_cases hd : 0 < runN isDig s.data.toList
    · obtain ⟨t1, t2⟩ := take_size hld
      have hgl := tokIs_num hsk hw0 hd
      have HNM : Hid (∀ gl, gl = decide (0 < runN isIn (s.data.toList.drop (runN isDig s.data.toList))) → ∀ W, Laid W → Calls Tryd.prog 31 #[.string (s.extract 0 (runN isDig s.data.toList)), .bool gl] W (TokEnd s W)) := fun gl hg W hW => by
        refine (numtok_any _ gl W (by omega) hW (by rw [t2]; exact allD_take _) (by rw [t2]; intro e; have := congrArg List.length e; rw [List.length_take, List.length_nil] at this; omega)).mono ?_
        rintro e w' ⟨rfl, hb⟩
        obtain ⟨k, t, c, e1, h1⟩ := hgl gl hg _ t2
        exact ⟨k, t, c, by rw [e1]; rfl, h1, hb⟩
      have HRI := Lib.hid (fun W => rinner_run (s.extract (runN isDig s.data.toList) s.size) W)
      simp only [Lib.extract_to_end] at HRI
      have hdi : (0 : Int) < (runN isDig s.data.toList : Int) := by omega
      have hdl : (runN isDig s.data.toList : Int) ≤ (s.size : Int) := by omega
      clear hsz hnl hsk t1 t2 hw hl hw0 hd hgl hld
      generalize runN isDig s.data.toList = D at *
      generalize runN isIn (s.data.toList.drop D) = R at *
      obtain ⟨gl, hg⟩ : ∃ gl, gl = decide (0 < R) := ⟨_, rfl⟩
      have HN2 := Lib.hid (HNM.out gl hg)
      have hg2 : decide ((0 : Int) < (R : Int)) = gl := by rw [hg, Bool.eq_iff_iff]; simp only [decide_eq_true_eq]; omega
      have hg3 : decide (0 < R) = gl := hg.symm
      clear HNM hg
      cases gl
      all_goals
        go_enter Tryd.func18, Tryd.ntmps18
        go_wp2_with fail
        generalize w.alloc (.cells #[.int .i64 0, .int .i64 0, .string ⟨#[]⟩] 37) = W1 at *
        refine (HWD.out _).mono ?_
        rintro e w1 ⟨rfl, hb1⟩
        have B1 := Lib.hid hb1
        clear hb1 HWD
        go_wp2_with fail
        refine (HDG.out _).mono ?_
        rintro e w2 ⟨rfl, hb2⟩
        have B2 := Lib.hid (B1.out.trans (hb2.mono B1.out.size))
        clear hb2 HDG
        go_wp2_with fail
        have B2d := Lib.hid B2.out.drew
        clear B2
        go_region_held3 (fun W => W.cell? ⟨4, 0, none⟩ = some (.iface et ev))
          (first
            | exact HKP.out _ (HE.out _ _ _)
            | exact HKP.out _ (HA.out.trans (B4.out.mono HA.out.size))
            | exact HKP.out _ (HA.out.trans (B3.out.mono HA.out.size))
            | exact HKP.out _ (HA.out.trans (B2d.out.mono HA.out.size))
            | go_keep)
          (first
            | (go_at_call 31; refine (HN2.out _ (HL1.out.up B3.out)).mono ?_; rintro e w4 ⟨k, t, c, rfl, ht, hb4⟩; have B4 := Lib.hid (B3.out.trans (hb4.mono B3.out.size)); have HT := Lib.hid ht; obtain ⟨⟨x0, q0⟩, ⟨x1, q1⟩, ⟨x2, q2⟩, f0, f1, f2⟩ := HR.out w4 B4.out; have HE := Lib.hid (HBS.out w4 (HA.out.trans (B4.out.mono HA.out.size))); clear hb4 ht)
            | (go_at_call 26; refine (HRI.out _).mono ?_; rintro e w3 ⟨rfl, hb3⟩; have B3 := Lib.hid (B2d.out.trans (hb3.mono B2d.out.size)); clear hb3))
        all_goals
          go_wp2
          exact bodyPost_ret (v := tokOut k t c) (by simp [results, Tryd.results18, go_sem, tokOut, q0, q1, q2, f0, f1, f2]) rfl ⟨k, t, c, rfl, HT.out, HE.out _ _ _⟩
    · have hd0 : runN isDig s.data.toList = 0 := by omega
      rw [hd0] at HDG
      have HOP := Lib.hid (fun i hi => tokIs_op hnl hsk hw0 hd0 i hi)
      have HNO := Lib.hid (tokIs_none hnl hsk hw0 hd0)
      have hk' : ∀ W, Laid W → ∀ j v, opsV[j]? = some v → W.cell? ((⟨1, 0, none⟩ : Addr).add j) = some v := fun W hW j v hv => by
        rw [show (⟨1, 0, none⟩ : Addr).add j = ⟨1, j, none⟩ by unfold Addr.add; split <;> simp_all]
        exact hW.ops j v hv
      have HK := Lib.hid hk'
      have HX : Hid (∀ (i : Nat) W, i < 21 → (Instr.index 57 (.agg opsV.toArray) (.int .i64 i)).run Tryd.prog W = .ok (.string (opA i)) W) := fun i W h =>
        run_index_list W _ 9 21 opsV i _ Tryd.underlying57 h (opsV_at h) Tryd.underlying9 (by kernel_rfl)
      have HL : Hid (opsV.length = 21) := rfl
      have HC := Lib.hid (fun i => opA_cmp s i)
      have HZ : Hid (∀ i, s.data.toList.take (opsL.getD i []).length = opsL.getD i [] → (opA i).size ≤ s.size) := fun i e => by
        have := congrArg List.length e
        rw [List.length_take, hsz] at this
        rw [opA_size]; omega
      clear hsz hnl hsk hw hl hw0 hd hd0 hld hk'
      generalize opsV = kv at *
      go_enter Tryd.func18, Tryd.ntmps18
      go_wp2_with fail
      generalize w.alloc (.cells #[.int .i64 0, .int .i64 0, .string ⟨#[]⟩] 37) = W1 at *
      refine (HWD.out _).mono ?_
      rintro e w1 ⟨rfl, hb1⟩
      have B1 := Lib.hid hb1
      clear hb1 HWD
      go_wp2_with fail
      refine (HDG.out _).mono ?_
      rintro e w2 ⟨rfl, hb2⟩
      have B2 := Lib.hid (B1.out.trans (hb2.mono B1.out.size))
      clear hb2 HDG
      obtain ⟨⟨x0, q0⟩, ⟨x1, q1⟩, ⟨x2, q2⟩, f0, f1, f2⟩ := HR.out w2 B2.out
      have HE := Lib.hid (HBS.out w2 (HA.out.trans (B2.out.mono HA.out.size)))
      have HK2 := Lib.hid (HK.out w2 (HL1.out.up B2.out))
      clear HK HBS HR B1 HL1
      go_wp2_with (refine wpList_load_list rfl 57 _ rfl ⟨1, 0, none⟩ rfl kv _ HK2.out Tryd.underlying57 rfl (by rw [HL.out]; kernel_rfl) ?_)
      go_loop [34] (fun i => ∃ j : Nat, j ≤ 21 ∧ i = .int .i64 j ∧ Hid (∀ q, q < j → s.data.toList.take (opsL.getD q []).length ≠ opsL.getD q [])) (fun i => 21 - (intOf i).toNat)
      case atStart => exact ⟨0, Nat.zero_le _, rfl, fun q h => absurd h (Nat.not_lt_zero _)⟩
      case round =>
        obtain ⟨j, hj, rfl, hno⟩ := hrel
        by_cases hlt : j < 21
        · have hlti : (j : Int) < 21 := by omega
          have hx : ∀ W, (Instr.index 57 (.agg kv.toArray) (.int .i64 j)).run Tryd.prog W = .ok (.string (opA j)) W := fun W => HX.out j W hlt
          by_cases hq : s.data.toList.take (opsL.getD j []).length = opsL.getD j []
          · have hz := HZ.out j hq
            have he := HC.out j hz
            rw [decide_eq_true hq] at he
            have HT := Lib.hid (HOP.out j hlt hq hno.out)
            have hzi : ((opA j).size : Int) ≤ (s.size : Int) := by omega
            clear hq
            generalize opA j = o at *
            go_wp2
            exact bodyPost_ret (v := tokOut 4 o 0) (by simp [results, Tryd.results18, go_sem, tokOut, q0, q1, q2, f0, f1, f2]) rfl ⟨4, o, 0, rfl, HT.out, HE.out _ _ _⟩
          · have hno2 : Hid (∀ q, q < j + 1 → s.data.toList.take (opsL.getD q []).length ≠ opsL.getD q []) := fun q h => by
              by_cases e : q = j
              · rw [e]; exact hq
              · exact hno.out q (by omega)
            by_cases hz : (opA j).size ≤ s.size
            · have he := HC.out j hz
              rw [decide_eq_false hq] at he
              have hzi : ((opA j).size : Int) ≤ (s.size : Int) := by omega
              clear hq
              generalize opA j = o at *
              go_wp2
              go_round
              case rel => exact ⟨j + 1, by omega, by go_num, hno2⟩
              case measure => simp [intOf]; omega
            · have hzi : ¬ ((opA j).size : Int) ≤ (s.size : Int) := by omega
              clear hq
              generalize opA j = o at *
              go_wp2
              go_round
              case rel => exact ⟨j + 1, by omega, by go_num, hno2⟩
              case measure => simp [intOf]; omega
        · obtain rfl : j = 21 := by omega
          have HT := Lib.hid (HNO.out (fun i h => hno.out i h) ⟨#[]⟩)
          go_wp2
          exact bodyPost_ret (v := tokOut 0 ⟨#[]⟩ 10) (by simp [results, Tryd.results18, go_sem, tokOut, q0, q1, q2, f0, f1, f2]) rfl ⟨0, ⟨#[]⟩, 10, rfl, HT.out, HE.out _ _ _⟩
end Go.Proofs.YtceknhhdgmappaaDoor
