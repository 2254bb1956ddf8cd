/- The values of all variables, by the document. The document's Same of lists. The document's SameClauses, of the same clauses. -/
import Derived.Test.YtelndcmfddbgiaaDoorCt20
import Derived.Test.YtelndcmfddbgiaaDoorCt24
import Derived.Deep.RegionWith
import Derived.Lib.QuietBelow
import Derived.BigQuiet
set_option linter.unusedVariables false
set_option linter.unusedSimpArgs false
set_option linter.unusedVariables false
set_option linter.unusedSimpArgs false
namespace Go.Proofs.YtelndcmfddbgiaaDoor
set_option maxRecDepth 100000
open Go.RowKit

theorem gat_sound : ∀ (n : Nat) (f : FT) (am : List (Int × List (Int × Int))), madeF n f = true → (∀ x ∈ am, snd x.1 x.2 = true) → ∀ x ∈ gatF n f am, snd x.1 x.2 = true
  | 0, f, am, hm, _ => by cases hm
  | n + 1, f, am, hm, h => by
    have hk := made_kids hm
    have hto : ∀ i, i ≤ f.ks.length → ∀ x ∈ gatTo n f.ks am i, snd x.1 x.2 = true := fun i => by
      induction i with
      | zero => exact fun _ => h
      | succ i ih =>
        intro hi
        rw [gatTo_succ n f.ks am i hi]
        exact gat_sound n _ _ (hk i hi) (ih (by omega))
    rw [gatTo_len]
    split
    · rename_i h2
      unfold addA
      split
      · intro x hx
        rcases List.mem_append.1 hx with hx | hx
        · exact hto _ (Nat.le_refl _) x hx
        · rw [List.mem_singleton] at hx
          subst hx
          exact (made_snd hm h2).1
      · exact hto _ (Nat.le_refl _)
    · exact hto _ (Nat.le_refl _)
theorem map_take_succ (zs : List Int) (am : List (Int × List (Int × Int))) (k : Nat) (h : k < am.length) : (am.take (k + 1)).map (leB zs) = (am.take k).map (leB zs) ++ [leB zs (am.getD k (0, []))] := by
  rw [List.take_succ_eq_append_getElem h, List.map_append]
  simp [List.getD_eq_getElem?_getD, h]
set_option maxHeartbeats 16000000 in
theorem values_any (a2 : Option Addr) (n2 cap2 : Nat) (zs : List Int) (hn2 : zs.length = n2) (hm2 : n2 ≤ 9223372036854775807) (n : Nat) (f : FT) (cs : List Value) (aa : Option Addr) (an ac : Nat) (am : List (Int × List (Int × Int))) (w : World) (h : FLies w.heap.size w n f cs) (hm : madeF n f = true) (hs : siz n f ≤ 100000) (hz : Nums w.heap.size w a2 zs) (ha : LLies w.heap.size w aa am) (han : am.length = an) (hal : an ≤ 100000) (hsn : ∀ x ∈ am, snd x.1 x.2 = true) :
    Calls Tryd.prog 16 #[.agg cs.toArray, .slice aa an ac, .slice a2 n2 cap2] w fun e w' => ∃ a n' c, e = .returned (.slice a n' c) ∧ n' = (am.map (leB zs) ++ (tF zs n f).1).length ∧ BoRow w.heap.size (am.map (leB zs) ++ (tF zs n f).1) (.slice a n' c) w' ∧ Below w.heap.size w w' := by
  obtain ⟨n, rfl⟩ : ∃ m, n = m + 1 := by
    cases n with
    | zero => exact h.elim
    | succ n => exact ⟨n, rfl⟩
  have hh := h
  obtain ⟨ta, tcap, ka, kcap, rfl, _⟩ := h
  have hA : Below w.heap.size w (w.alloc (.cells #[.int .i64 f.kind, .int .i64 f.c, .slice ta f.t.length tcap, .slice ka f.ks.length kcap] 27)) := (Below.refl _ w).alloc (Nat.le_refl _) _
  have HB := box_start w f.kind f.c ta ka f.t.length tcap f.ks.length kcap
  have hq1 : (w.alloc (.cells #[.int .i64 f.kind, .int .i64 f.c, .slice ta f.t.length tcap, .slice ka f.ks.length kcap] 27)).heap.size = w.heap.size + 1 := by simp
  have HQ1 := Lib.hid hq1
  have HA := Lib.hid hA
  have HX := Lib.hid HB
  have HF := Lib.hid (fun W (hb : Below w.heap.size w W) => told_any a2 n2 cap2 zs hn2 hm2 w.heap.size (n + 1) f _ W (hh.below hb) hb.size (hz.below hb) hm hs)
  have HL := Lib.hid ha
  have HN := Lib.hid han
  have HZ := Lib.hid hz
  have HSN := Lib.hid hsn
  have hfl := tF_len zs (n + 1) f hm
  have HFL := Lib.hid (show (tF zs (n + 1) f).1.length ≤ 100000 by omega)
  have HN2 := Lib.hid hn2
  have b0 := HB.c0
  have b1 := HB.c1
  have b2 := HB.c2
  have b3 := HB.c3
  clear hA HB hq1 hh hz ha han hsn hm hs hfl hn2
  generalize tF zs (n + 1) f = q at *
  generalize f.kind = fk at *
  generalize f.c = fc at *
  generalize f.t.length = ft at *
  generalize f.ks.length = fl at *
  go_enter Tryd.func16, Tryd.ntmps16
  go_wp2_with fail
  clear b0 b1 b2 b3
  generalize w.alloc (.cells #[.int .i64 fk, .int .i64 fc, .slice ta ft tcap, .slice ka fl kcap] 27) = W1 at *
  go_loopw [7, 8] (fun o i wr => ∃ (k ol oc : Nat) (oa : Option Addr), i = .int .i64 k ∧ k ≤ an ∧ o = .slice oa ol oc ∧ Hid (ol = k) ∧ Hid (BoRow W1.heap.size ((am.take k).map (leB zs)) (.slice oa ol oc) wr) ∧ Hid (Below W1.heap.size W1 wr)) (fun _ i _ => an - (intOf i).toNat)
  case atStart => exact ⟨0, 0, 0, none, rfl, Nat.zero_le _, rfl, rfl, BoRow.nil _ _, Below.refl _ _⟩
  case round =>
    obtain ⟨k, ol, oc, oa, rfl, hk, rfl, hol, hR, hb⟩ := hrel
    have hbw : Below w.heap.size w wr := HA.out.trans (hb.out.mono HA.out.size)
    have HBW := Lib.hid hbw
    clear hbw
    by_cases hlt : k < an
    · have hlti : (k : Int) < (an : Int) := by omega
      have hkl : k < am.length := by rw [HN.out]; exact hlt
      obtain ⟨b, off, tb, tbcap, rfl, hbl, c0, c1, hly⟩ := HL.out k hkl
      rw [← HBW.out.cell (p := ⟨b, _, none⟩) hbl] at c0 c1
      have hsnk : snd (am.getD k (0, [])).1 (am.getD k (0, [])).2 = true := HSN.out _ (by rw [List.getD_eq_getElem?_getD, List.getElem?_eq_getElem hkl]; exact List.getElem_mem hkl)
      have HMS := Lib.hid (map_take_succ zs am k hkl)
      have HRV := Lib.hid (rv_any (am.getD k (0, [])).1 tb (am.getD k (0, [])).2.length tbcap (am.getD k (0, [])).2 a2 n2 cap2 zs wr rfl HN2.out hm2 ((hly.below HBW.out).mono HBW.out.size) ((HZ.out.below HBW.out).mono HBW.out.size) hsnk)
      have hle : leB zs (am.getD k (0, [])) = decide (rvI zs ((am.getD k (0, [])).1, (am.getD k (0, [])).2) ≤ 0) := rfl
      rw [hle] at HMS
      clear hle hly hsnk hbl hkl
      generalize rvI zs ((am.getD k (0, [])).1, (am.getD k (0, [])).2) = rv at *
      generalize (am.getD k (0, [])).2.length = tl at *
      generalize (am.getD k (0, [])).1 = tc at *
      go_wp2_with fail
      clear c0 c1
      refine HRV.out.mono ?_
      rintro e w3 ⟨r3, rfl, hb3⟩
      have hsz1 : W1.heap.size ≤ w3.heap.size := Nat.le_trans hb.out.size hb3.size
      obtain ⟨a4, n4, c4, w4, hn4, hr4, hO4, hB4⟩ := bo_snoc (decide (rv ≤ 0)) (hR.out.below hb3) hsz1 (by rw [List.length_map, List.length_take]; omega)
      have HN4 : Hid (n4 = k + 1) := Lib.hid (by rw [hn4, List.length_map, List.length_take, HN.out]; omega)
      have HO4 : Hid (BoRow W1.heap.size ((am.take (k + 1)).map (leB zs)) (.slice a4 n4 c4) w4) := Lib.hid (by rw [HMS.out]; exact hO4)
      have HB4 := Lib.hid ((hb.out.trans (hb3.mono hb.out.size)).trans hB4)
      clear hn4 hO4 hB4 hb3 HRV HMS hR hb hsz1
      go_wp2_with (at_builtin; refine Lib.wpList_append_run _ rfl _ _ _ _ rfl _ _ rfl rfl _ _ (hr4 _) ?_)
      go_roundw
      case rel => exact ⟨k + 1, n4, c4, a4, by go_num, by omega, rfl, HN4.out, HO4, HB4⟩
      case measure => simp [intOf]; omega
    · have hlti : ¬ (k : Int) < (an : Int) := by omega
      obtain rfl : k = an := by omega
      have hlt1 : w.heap.size < W1.heap.size := by have := HQ1.out; omega
      have hc := fun j => hb.out.cell (p := ⟨w.heap.size, j, none⟩) hlt1
      have x0 := (hc 0).trans HX.out.c0
      have x1 := (hc 1).trans HX.out.c1
      have x2 := (hc 2).trans HX.out.c2
      have x3 := (hc 3).trans HX.out.c3
      have HTO := Lib.hid (HF.out wr HBW.out)
      have hR2 : BoRow W1.heap.size (am.map (leB zs)) (.slice oa ol oc) wr := by
        have := hR.out
        rwa [← HN.out, List.take_length] at this
      have HR2 := Lib.hid hR2
      have hll : (am.map (leB zs)).length ≤ 100000 := by rw [List.length_map, HN.out]; exact hal
      clear hc hlt1 hR hR2 hol
      go_wp2_with fail
      clear x0 x1 x2 x3
      refine HTO.out.mono ?_
      rintro e w3 ⟨a3, n3, c3, rfl, hn3, hr3, hb3⟩
      obtain ⟨a3', c3', e3, hbo⟩ := hr3.bools
      injection e3 with e31 e32 e33
      subst e31
      clear e32 e33
      have hsz1 : W1.heap.size ≤ w3.heap.size := Nat.le_trans hb.out.size hb3.size
      obtain ⟨v4, w4, hr4, hO4, hg4⟩ := bo_cat (cap := c3) (HR2.out.below hb3) hbo hsz1 (by have := HFL.out; omega)
      rw [← hn3] at hr4
      obtain ⟨a4, c4, e4⟩ := hO4.form
      obtain ⟨n4, hn4⟩ : ∃ n4, n4 = (am.map (leB zs) ++ q.1).length := ⟨_, rfl⟩
      rw [← hn4] at e4
      subst e4
      have HN4 := Lib.hid hn4
      have HB4 : Hid (Below w.heap.size w w4) := Lib.hid (HA.out.trans (((hb.out.trans (hb3.mono hb.out.size)).grown hg4 hsz1 (fun g hg => (World.ownsRow.lt HR2.out g hg).1)).mono HA.out.size))
      have HO4 := Lib.hid (hO4.lower HA.out.size)
      clear hn3 hr3 hbo hO4 hg4 hb3 hb HTO hsz1 hn4
      go_wp2_with (at_builtin; refine Lib.wpList_append_run _ rfl _ _ _ _ rfl _ _ rfl rfl _ _ (hr4 _) ?_)
      go_ret
      exact ⟨_, _, _, rfl, HN4.out, HO4.out, HB4.out⟩
end Go.Proofs.YtelndcmfddbgiaaDoor

set_option linter.unusedVariables false
set_option linter.unusedSimpArgs false
namespace Go.Proofs.YtelndcmfddbgiaaDoor
set_option maxRecDepth 100000
open Go.RowKit

theorem forms_eq {ls ms : List (Int × List (Int × Int))} (hl : ls.length = ms.length) (h : ∀ i, i < ls.length → ls.getD i (0, []) = ms.getD i (0, [])) : ls = ms := by
  refine List.ext_getElem hl fun i h1 h2 => ?_
  have := h i h1
  simpa [List.getD_eq_getElem?_getD, h1, h2] using this
theorem same_iff2 {c d : Int} {l m : List (Int × Int)} : same c d l m = true ↔ (c, l) = (d, m) := by
  unfold same
  simp
set_option maxRecDepth 100000 in
set_option maxHeartbeats 2000000 in
theorem rsames_any (a : Option Addr) (n cap : Nat) (ls : List (Int × List (Int × Int))) (b : Option Addr) (m capb : Nat) (ms : List (Int × List (Int × Int))) (w : World) (hn : ls.length = n) (hm : ms.length = m) (hnm : n ≤ 9223372036854775807) (hmm : m ≤ 9223372036854775807)
    (hl : LLies w.heap.size w a ls) (hlm : ∀ i, i < n → (ls.getD i (0, [])).2.length ≤ 9223372036854775807) (hk : LLies w.heap.size w b ms) (hkm : ∀ i, i < m → (ms.getD i (0, [])).2.length ≤ 9223372036854775807) :
    Calls Tryd.prog 12 #[.slice a n cap, .slice b m capb] w fun e w' => e = .returned (.bool (decide (ls = ms))) ∧ Below w.heap.size w w' := by
  by_cases hnn : n = m
  · subst hnn
    have HS : Hid (∀ r : Bool, (r = true ↔ ∀ i, i < n → ls.getD i (0, []) = ms.getD i (0, [])) → decide (ls = ms) = r) := fun r hr => by
      rw [Bool.eq_iff_iff, hr]
      simp only [decide_eq_true_eq]
      exact ⟨fun h i _ => by rw [h], fun h => forms_eq (by omega) (fun i hi => h i (by omega))⟩
    have HN := Lib.hid hn
    have HM := Lib.hid hm
    have HL := Lib.hid hl
    have HK := Lib.hid hk
    have HLM := Lib.hid hlm
    have HKM := Lib.hid hkm
    generalize decide (ls = ms) = R at HS ⊢
    clear hn hm hl hk hlm hkm
    go_enter Tryd.func12, Tryd.ntmps12
    go_wp2_with fail
    go_loopw [5] (fun i wr => ∃ k : Nat, k ≤ n ∧ i = .int .i64 k ∧ Hid (∀ j, j < k → ls.getD j (0, []) = ms.getD j (0, [])) ∧ Hid (Below w.heap.size w wr)) (fun i _ => n - (intOf i).toNat)
    case atStart => exact ⟨0, Nat.zero_le _, rfl, fun j hj => absurd hj (Nat.not_lt_zero j), Below.refl _ _⟩
    case round =>
      obtain ⟨k, hk', rfl, hok, hb⟩ := hrel
      by_cases hlt : k < n
      · obtain ⟨ab, aoff, ta, tcap, rfl, hab, a1, a2, hla⟩ := HL.out k (by rw [HN.out]; exact hlt)
        obtain ⟨bb, boff, tb, tcapb, rfl, hbb, b1, b2, hlb⟩ := HK.out k (by rw [HM.out]; exact hlt)
        rw [← hb.out.cell (p := ⟨ab, _, none⟩) hab] at a1 a2
        rw [← hb.out.cell (p := ⟨bb, _, none⟩) hbb] at b1 b2
        have hl1 := HLM.out k hlt
        have hl2 := HKM.out k hlt
        have hdec : Hid (same (ls.getD k (0, [])).1 (ms.getD k (0, [])).1 (ls.getD k (0, [])).2 (ms.getD k (0, [])).2 = true ↔ ls.getD k (0, []) = ms.getD k (0, [])) := same_iff2
        have HNO : Hid (ls.getD k (0, []) ≠ ms.getD k (0, []) → R = false) := fun h => HS.out false ⟨fun h => absurd h (by decide), fun h2 => absurd (h2 k hlt) h⟩
        have HYES : Hid (ls.getD k (0, []) = ms.getD k (0, []) → ∀ j, j < k + 1 → ls.getD j (0, []) = ms.getD j (0, [])) := fun h j hj => by
          by_cases e : j = k
          · subst e; exact h
          · exact hok.out j (by omega)
        obtain ⟨z1, hz1⟩ : ∃ z, z = ls.getD k (0, []) := ⟨_, rfl⟩
        obtain ⟨z2, hz2⟩ : ∃ z, z = ms.getD k (0, []) := ⟨_, rfl⟩
        rw [← hz1] at a1 a2 hla hl1 hdec HNO HYES
        rw [← hz2] at b1 b2 hlb hl2 hdec HNO HYES
        obtain ⟨c, t⟩ := z1
        obtain ⟨d, u⟩ := z2
        clear hz1 hz2
        simp only at a1 a2 b1 b2 hla hlb hl1 hl2
        have HC := Lib.hid (fun W (hb : Below w.heap.size w W) => same_any c d ta tb t.length u.length tcap tcapb t u W rfl rfl hl1 hl2 ((hla.below hb).mono hb.size) ((hlb.below hb).mono hb.size))
        have HBD : Hid (Below w.heap.size w wr.drew) := hb.out.drew
        clear hla hlb hl1 hl2
        by_cases e : same c d t u = true
        · rw [e] at HC
          have HY : Hid (∀ j, j < k + 1 → ls.getD j (0, []) = ms.getD j (0, [])) := HYES.out (hdec.out.1 e)
          clear e HNO HYES hdec
          go_wp2_with fail
          go_region_with (go_at_call 30; refine (HC.out _ HBD.out).mono ?_; rintro e w4 ⟨rfl, hb4⟩; have HB4 := Lib.hid (HBD.out.trans (hb4.mono HBD.out.size)); clear hb4)
          all_goals
            clear a1 a2 b1 b2
            go_wp2_with fail
            refine ⟨⟨k + 1, by omega, by go_num, HY, HB4⟩, by simp [intOf]; omega⟩
        · have HF := Lib.hid (HNO.out (fun h => e (hdec.out.2 h)))
          rw [Bool.not_eq_true] at e
          rw [e] at HC
          clear e HNO HYES hdec
          go_wp2_with fail
          go_region_with (go_at_call 30; refine (HC.out _ HBD.out).mono ?_; rintro e w4 ⟨rfl, hb4⟩; have HB4 := Lib.hid (HBD.out.trans (hb4.mono HBD.out.size)); clear hb4)
          all_goals
            clear a1 a2 b1 b2
            go_wp2_with fail
            go_ret
            exact ⟨ret_bool HF.out.symm, HB4.out⟩
      · have HF := Lib.hid (HS.out true ⟨fun _ i hi => hok.out i (by omega), fun _ => rfl⟩)
        go_wp2_with fail
        go_ret
        exact ⟨ret_bool HF.out.symm, hb.out⟩
  · have hnn' : ((n : Int) != (m : Int)) = true := by simp; omega
    have HS : Hid (decide (ls = ms) = false) := decide_eq_false (fun h => hnn (by rw [← hn, ← hm, h]))
    clear hn hm hl hk
    go_enter Tryd.func12, Tryd.ntmps12
    go_wp2_with fail
    go_ret
    exact ⟨ret_bool HS.out.symm, Below.refl _ _⟩
end Go.Proofs.YtelndcmfddbgiaaDoor

set_option linter.unusedVariables false
set_option linter.unusedSimpArgs false
namespace Go.Proofs.YtelndcmfddbgiaaDoor
set_option maxRecDepth 100000
open Go.RowKit

set_option maxHeartbeats 4000000 in
theorem sameClauses_any (a b : Option Addr) (n capa capb : Nat) (cs : List (List Int)) (w : World) (hn : cs.length = n) (hnm : n ≤ 9223372036854775807) (ha : Prp.CLies w.heap.size w a cs) (hb : Prp.CLies w.heap.size w b cs) (hk : ∀ j, j < n → (cs.getD j []).length ≤ 9223372036854775807) :
    Calls Tryd.prog 13 #[.slice a n capa, .slice b n capb] w fun e w' => e = .returned (.bool true) ∧ Below w.heap.size w w' := by
  have HA := Lib.hid ha
  have HB := Lib.hid hb
  have HN := Lib.hid hn
  have HK := Lib.hid hk
  have hnn : ((n : Int) != (n : Int)) = false := by simp
  clear ha hb hn hk
  go_enter Tryd.func13, Tryd.ntmps13
  go_wp2_with fail
  go_loopw [5] (fun i wr => ∃ k : Nat, i = .int .i64 k ∧ k ≤ n ∧ Hid (Below w.heap.size w wr)) (fun i _ => n - (intOf i).toNat)
  case atStart => exact ⟨0, rfl, Nat.zero_le _, Below.refl _ _⟩
  case round =>
    obtain ⟨k, rfl, hk, hbw⟩ := hrel
    by_cases hlt : k < n
    · have hlti : (k : Int) < (n : Int) := by omega
      obtain ⟨b1, o1, t1, c1, rfl, hl1, x1, n1⟩ := HA.out k (by rw [HN.out]; exact hlt)
      obtain ⟨b2, o2, t2, c2, rfl, hl2, x2, n2⟩ := HB.out k (by rw [HN.out]; exact hlt)
      have hlen := HK.out k hlt
      generalize cs.getD k [] = c at *
      rw [← hbw.out.cell (p := ⟨b1, _, none⟩) hl1] at x1
      rw [← hbw.out.cell (p := ⟨b2, _, none⟩) hl2] at x2
      have HX : Hid (∀ W, Below w.heap.size wr W → W.cell? ⟨b1, o1 + k, none⟩ = some (.slice t1 c.length c1) ∧ W.cell? ⟨b2, o2 + k, none⟩ = some (.slice t2 c.length c2)) := Lib.hid fun W hW => ⟨(hW.cell (p := ⟨b1, _, none⟩) hl1).trans x1, (hW.cell (p := ⟨b2, _, none⟩) hl2).trans x2⟩
      have HN1 := Lib.hid (n1.below hbw.out)
      have HN2 := Lib.hid (n2.below hbw.out)
      have q1 := fun d os => cell_regrown x1 d os
      have q2 := fun d os => cell_regrown x2 d os
      generalize hcl : c.length = cl at *
      have HCL := Lib.hid hcl
      have hcc : ((cl : Int) != (cl : Int)) = false := by simp
      clear n1 n2 hcl x1 x2 hl1 hl2
      go_wp2_with fail
      refine wp_region_quiet_below (by kernel_rfl) (by kernel_rfl) ?_
      repeat (go_big_quiet_step (fail))
      refine wpQuiet_nil ?_
      intro w2 hw'
      obtain ⟨⟨dq, osq⟩, hw''⟩ := hw'
      have HB2 : Hid (Below wr.heap.size wr w2) := Lib.hid (by rw [hw'']; exact below_regrown wr dq osq)
      clear hw'' q1 q2
      have hwz : w.heap.size ≤ wr.heap.size := hbw.out.size
      have HWZ := Lib.hid hwz
      have HBW := hbw
      clear hwz hbw
      go_wp2_with fail
      obtain ⟨wo, hwo⟩ : ∃ wo, wo = wr := ⟨_, rfl⟩
      rw [← hwo] at HX HN1 HN2 HB2 HWZ HBW
      clear hwo
      go_loopw [6] (fun i wr => ∃ l : Nat, i = .int .i64 l ∧ l ≤ cl ∧ Hid (Below w.heap.size wo wr)) (fun i _ => cl - (intOf i).toNat)
      case atStart => exact ⟨0, rfl, Nat.zero_le _, HB2.out.mono HWZ.out⟩
      case round =>
        obtain ⟨l, rfl, hl, hb3⟩ := hrel
        obtain ⟨x1, x2⟩ := HX.out _ hb3.out
        by_cases hlt2 : l < cl
        · have hlti2 : (l : Int) < (cl : Int) := by omega
          obtain ⟨b3, o3, rfl, hl3, y1⟩ := HN1.out l (by rw [HCL.out]; exact hlt2)
          obtain ⟨b4, o4, rfl, hl4, y2⟩ := HN2.out l (by rw [HCL.out]; exact hlt2)
          generalize c.getD l 0 = x at y1 y2
          rw [← hb3.out.cell (p := ⟨b3, _, none⟩) hl3] at y1
          rw [← hb3.out.cell (p := ⟨b4, _, none⟩) hl4] at y2
          have q1 := fun d os => cell_regrown x1 d os
          have q2 := fun d os => cell_regrown x2 d os
          have q3 := fun d os => cell_regrown y1 d os
          have q4 := fun d os => cell_regrown y2 d os
          have hxx : (x != x) = false := by simp
          clear y1 y2 hl3 hl4
          go_wp2_with fail
          refine wp_region_quiet_below (by kernel_rfl) (by kernel_rfl) ?_
          repeat (go_big_quiet_step (fail))
          refine wpQuiet_nil ?_
          intro w4 hw'
          obtain ⟨⟨dq, osq⟩, hw''⟩ := hw'
          have HB4 : Hid (Below w.heap.size wo w4) := Lib.hid (by rw [hw'']; exact hb3.out.trans ((below_regrown _ dq osq).mono (by have := hb3.out.size; have := HWZ.out; omega)))
          clear hw'' q1 q2 q3 q4 x1 x2 hb3
          go_wp2_with fail
          go_roundw
          case rel => exact ⟨l + 1, by go_num, by omega, HB4⟩
          case measure => simp [intOf]; omega
        · have hlti2 : ¬ (l : Int) < (cl : Int) := by omega
          have HBE : Hid (Below w.heap.size w _) := Lib.hid (HBW.out.trans hb3.out)
          clear hb3
          go_wp2_with fail
          clear x1 x2
          go_roundw
          case rel => exact ⟨k + 1, by go_num, by omega, HBE⟩
          case measure => simp [intOf]; omega
    · have hlti : ¬ (k : Int) < (n : Int) := by omega
      go_wp2_with fail
      go_ret
      exact ⟨rfl, hbw.out⟩
end Go.Proofs.YtelndcmfddbgiaaDoor
