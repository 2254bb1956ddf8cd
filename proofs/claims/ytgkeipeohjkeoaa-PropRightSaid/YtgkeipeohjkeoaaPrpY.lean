/- PropRight: its walk. -/
import Derived.Test.YtgkeipeohjkeoaaPrpW
set_option linter.unusedVariables false
set_option linter.unusedSimpArgs false
namespace Go.Proofs.Ytgkeipeohjkeoaa
open Go.RowKit

theorem Try.infoInts : (Try.prog.info? 33).map (fun i => (i.zero, i.size, i.bytes)) = some (some (.slice none 0 0), 1, 24) := by kernel_rfl
set_option maxRecDepth 100000 in
set_option maxHeartbeats 4000000 in
theorem propRight_any (hup : UpSaid6) (hbeg : BeginSaid) (n : Int) (a : Option Addr) (m cap : Nat) (cs : List (List Int)) (a2 : Option Addr) (k2 cap2 : Nat) (ls : List Int) (a3 : Option Addr) (k3 cap3 : Nat) (vs : List Bool) (w : World) (h : GivenC w a m cs) (hreach : ∀ j, j < m → (cs.getD j []).length ≤ 4611686018427387904)
    (hk2 : ls.length = k2) (hkm2 : k2 ≤ 9223372036854775807) (hl2 : Nums w.heap.size w a2 ls) (hk3 : vs.length = k3) (hkm3 : k3 ≤ 9223372036854775807) (hv : Bools w.heap.size w a3 vs) :
    Calls Try.prog 6 #[.int .i64 n, .slice a m cap, .slice a2 k2 cap2, .slice a3 k3 cap3] w fun e w' => e = .returned (.bool true) ∧ Below w.heap.size w w' := by
  have HUP := Lib.hid (fun W => hup W)
  have HG := Lib.hid h
  have HLI := Lib.hid (fun W (g : GivenC W a m cs) => light_any n a m cap cs W g.hm g.hmm g.hl)
  have HFO := Lib.hid (fun W (g : GivenC W a m cs) (hb : Below w.heap.size w W) => follow_any hbeg n a m cap cs a2 k2 cap2 ls W g.hm g.hmm g.hl (fun _ => hreach) hk2 hkm2 ((hl2.below hb).mono hb.size))
  have HPV := Lib.hid (fun W (g : GivenC W a m cs) (hb : Below w.heap.size w W) => pvalue_any a m cap cs a3 k3 cap3 vs W g.hm g.hmm g.hl g.hlen hk3 hkm3 ((hv.below hb).mono hb.size))
  have HPO := Lib.hid (fun W (hb : Below w.heap.size w W) xs (hxs : xs.length ≤ 9223372036854775807) a9 cap9 (hc : CLies W.heap.size W a9 (oforms xs)) => pvalue_any a9 xs.length cap9 (oforms xs) a3 k3 cap3 vs W (by simp [oforms]) hxs hc (fun j hj => by
      have e : (oforms xs).getD j [] = [xs[j].2] := by simp [oforms, List.getD_eq_getElem?_getD, hj]
      rw [e]; simp) hk3 hkm3 ((hv.below hb).mono hb.size))
  have HL2 := Lib.hid hl2
  have HK2 := Lib.hid hk2
  have HV := Lib.hid hv
  have HK3 := Lib.hid hk3
  have n1 := fun t v W => Try.neIface t v W
  have n2 := fun W => Try.neNil W
  obtain ⟨i0, hi, hz0, hz1, hz2⟩ := info_parts Try.infoInts
  clear hup hbeg h hv hk2 hk3 hl2 hreach
  go_enter Try.func6, Try.ntmps6
  go_wp2_with fail
  refine (HUP.out _).mono ?_
  rintro e w1 ⟨rfl, hb1⟩
  have B1 := Lib.hid hb1
  clear hb1
  go_wp2_with fail
  refine (HLI.out _ (HG.out.below B1.out)).mono ?_
  rintro e w2 ⟨b, rfl, rfl, _⟩
  clear HUP HLI
  go_wp2_with fail
  refine (HFO.out _ (HG.out.below B1.out) B1.out).mono ?_
  rintro e w3 ⟨hb3, v, bc, rfl, hne, hz⟩
  have B3 := Lib.hid (B1.out.trans (hb3.mono B1.out.size))
  have HNE := Lib.hid hne
  have HZ := Lib.hid hz
  have HB13 := Lib.hid hb3
  clear hb3 hne hz HFO
  cases b with
  | false =>
    go_wp2_with fail
    go_ret
    exact ⟨rfl, B3.out⟩
  | true =>
    by_cases hf : fK n cs ls = 0
    · obtain ⟨m0, A, rfl, hm0, hsane, hfi, hvt, hvf⟩ := HZ.out hf
      rw [hf, codeV_zero]
      by_cases hlen : (k3 : Int) < (m0 : Int)
      · clear HNE HZ
        go_wp2_with fail
        go_ret
        exact ⟨rfl, B3.out⟩
      · by_cases hk1 : 1000 < k2
        · have hk1' : (1000 : Int) < (k2 : Int) := by omega
          clear HNE HZ
          go_wp2_with fail
          go_ret
          exact ⟨rfl, B3.out⟩
        · have hk1' : ¬ (1000 : Int) < (k2 : Int) := by omega
          have hd1 : decide (k3 < m0) = false := decide_eq_false (by omega)
          have hd2 : decide ((1000 : Int) < (k2 : Int)) = false := decide_eq_false hk1'
          have hd3 : decide ((k3 : Int) < (m0 : Int)) = false := decide_eq_false hlen
          have hd4 : decide (1000 < k2) = false := decide_eq_false hk1
          have HFI := Lib.hid hfi
          have HVF := Lib.hid hvf
          have hB1s := B1.out.size
          clear HNE HZ hfi hvt hvf hsane hf
          obtain ⟨bcv, hbcv⟩ : ∃ z, z = bc := ⟨_, rfl⟩
          go_wp2_with fail
          go_loopw [14, 15] (fun o i wr => ∃ (k : Nat) (xs : List (Nat × Int)), k ≤ k2 ∧ i = .int .i64 k ∧ Hid (ORow w3.heap.size xs o wr) ∧ Hid (xs.length = k ∧ ∀ x ∈ xs, x.2 ∈ ls) ∧ Hid (∀ j, j < k → ∃ x ∈ xs, x.2 = ls.getD j 0) ∧ Hid (Below w3.heap.size w3 wr)) (fun _ i _ => k2 - (intOf i).toNat)
          case atStart => exact ⟨0, [], Nat.zero_le _, rfl, ORow.nil _ _, ⟨rfl, fun x hx => by cases hx⟩, fun j hj => absurd hj (Nat.not_lt_zero _), Below.refl _ _⟩
          case round =>
            obtain ⟨k, xs, hk, rfl, hrow, hin, hal, hbr⟩ := hrel
            obtain ⟨wo, rfl⟩ : ∃ wo : World, wo = wr := ⟨_, rfl⟩
            have hxl2 : xs.length ≤ 1000 := by have := hin.out.1; omega
            by_cases hlt : k < k2
            · obtain ⟨b2, off2, rfl, hb2l, c1⟩ := HL2.out k (by rw [HK2.out]; exact hlt)
              have hbw := B3.out.trans (hbr.out.mono B3.out.size)
              have c1 := (hbw.cell (p := ⟨b2, off2 + k, none⟩) hb2l).trans c1
              have HMEM : Hid (ls.getD k 0 ∈ ls) := getD_mem (by rw [HK2.out]; exact hlt)
              generalize hl : ls.getD k 0 = l at c1 HMEM
              have HL9 := Lib.hid hl
              have HBW := Lib.hid hbw
              have HA5 : Hid (Below wo.heap.size wo ((wo.alloc (.cells #[.int .i64 l] 3)).alloc (.cells #[.slice (some ⟨wo.heap.size, 0, none⟩) 1 1] 33))) := ((Below.refl _ wo).alloc (Nat.le_refl _) _).alloc (by simp) _
              have HRW : Hid (((wo.alloc (.cells #[.int .i64 l] 3)).alloc (.cells #[.slice (some ⟨wo.heap.size, 0, none⟩) 1 1] 33)).ownsRow w3.heap.size 33 1 u14 xs.length (ocells xs)) := (hrow.out.below HA5.out).row
              have hnw := heap_alloc_new (wo.alloc (.cells #[.int .i64 l] 3)) (.cells #[.slice (some ⟨wo.heap.size, 0, none⟩) 1 1] 33)
              rw [World.size_alloc] at hnw
              have NEWS := Lib.hid (World.news_of_block (cs := #[.slice (some ⟨wo.heap.size, 0, none⟩) 1 1]) (t := 33) (fr := (0, 0)) hnw)
              clear hnw
              have HBZ : Hid (w3.heap.size ≤ ((wo.alloc (.cells #[.int .i64 l] 3)).alloc (.cells #[.slice (some ⟨wo.heap.size, 0, none⟩) 1 1] 33)).heap.size) := Nat.le_trans hbr.out.size HA5.out.size
              have HNC : Hid (((wo.alloc (.cells #[.int .i64 l] 3)).alloc (.cells #[.slice (some ⟨wo.heap.size, 0, none⟩) 1 1] 33)).cell? ⟨wo.heap.size, 0, none⟩ = some (.int .i64 l)) := by
                have h5 : Below (wo.alloc (.cells #[.int .i64 l] 3)).heap.size (wo.alloc (.cells #[.int .i64 l] 3)) ((wo.alloc (.cells #[.int .i64 l] 3)).alloc (.cells #[.slice (some ⟨wo.heap.size, 0, none⟩) 1 1] 33)) := (Below.refl _ _).alloc (Nat.le_refl _) _
                exact (h5.cell (p := ⟨wo.heap.size, 0, none⟩) (by simp)).trans ((cell_of_row _ _ _ _ _ _ (heap_alloc_new wo _)).trans rfl)
              clear hbw hl
              go_wp2_with (at_builtin; refine wpList_append_lies _ rfl _ _ 22 rfl w3.heap.size 33 i0 _ 1 24 Try.underlying22 hi hz0 hz1 hz2 rfl (by omega) u14 xs.length (ocells xs) rfl HRW.out ⟨wo.heap.size + 1, 0, none⟩ 1 1 [.slice (some ⟨wo.heap.size, 0, none⟩) 1 1] rfl rfl NEWS.out (by simp [Value.oneCell']) (by omega) (by unfold maxLen; omega) (by omega) HBZ.out (wo.heap.size + 1 + 1) (by simp) ?_)
              intro gg cap6 w6 hown6 hgrow6 hat6 hlt6
              have RN : Hid (ORow w3.heap.size (xs ++ [(wo.heap.size, l)]) (.slice (some ⟨gg, 0, none⟩) (xs.length + 1) cap6) w6) :=
                ORow.step (x := (wo.heap.size, l)) (g := gg) (H := wo.heap.size + 1 + 1) hrow.out HA5.out ⟨by simp; omega, Nat.le_refl _, HNC.out⟩ hgrow6 (by simp) rfl hat6 hown6
              have BN : Hid (Below w3.heap.size w3 w6) := (hbr.out.trans (HA5.out.mono hbr.out.size)).grown hgrow6 (Nat.le_trans hbr.out.size HA5.out.size) (fun g hg => (World.ownsRow.lt hrow.out.row g hg).1)
              have IN : Hid ((xs ++ [(wo.heap.size, l)]).length = k + 1 ∧ ∀ x ∈ xs ++ [(wo.heap.size, l)], x.2 ∈ ls) := ⟨by simp [hin.out.1], fun x hx => by
                rcases List.mem_append.1 hx with hx | hx
                · exact hin.out.2 x hx
                · rw [List.mem_singleton] at hx; subst hx; exact HMEM.out⟩
              have AL : Hid (∀ j, j < k + 1 → ∃ x ∈ xs ++ [(wo.heap.size, l)], x.2 = ls.getD j 0) := fun j hj => by
                by_cases e : j = k
                · subst e; exact ⟨_, List.mem_append_right _ (List.mem_singleton.2 rfl), HL9.out.symm⟩
                · obtain ⟨x, hx, he⟩ := hal.out j (by omega)
                  exact ⟨x, List.mem_append_left _ hx, he⟩
              clear hown6 hgrow6 hat6 hlt6 HRW NEWS HBZ HA5 HNC HMEM HL9
              go_wp2_with fail
              go_roundw
              case rel => exact ⟨k + 1, _, by omega, by go_num, RN, IN, AL, BN⟩
              case measure => simp [intOf]; omega
            · obtain rfl : k = k2 := by omega
              obtain ⟨oa, ocap, hu14, hcl⟩ := hrow.out.clies
              subst hu14
              have HCL := Lib.hid hcl
              have BO := Lib.hid (B3.out.trans (hbr.out.mono B3.out.size))
              have HB3O := Lib.hid hbr.out
              have HALL : Hid (valB (oforms xs) vs = true → ∀ l, l ∈ ls → litV vs l = true) := fun h l hl => by
                obtain ⟨j, hj, rfl⟩ := List.getElem_of_mem hl
                obtain ⟨x, hx, he⟩ := hal.out j (by rw [← HK2.out]; exact hj)
                have := oforms_val.1 h x hx
                rw [he, List.getD_eq_getElem?_getD, List.getElem?_eq_getElem hj] at this
                exact this
              have HC1 := Lib.hid (HPV.out wo (HG.out.below BO.out) BO.out)
              clear hrow hin hal hbr hcl HPV
              generalize hv1 : valB cs vs = r1 at HC1
              cases r1 with
              | false =>
                go_wp2_with fail
                refine HC1.out.mono ?_
                rintro e w7 ⟨rfl, hb7⟩
                have B7 := Lib.hid (BO.out.trans (hb7.mono BO.out.size))
                clear hb7 HC1
                go_wp2_with fail
                go_ret
                exact ⟨rfl, B7.out⟩
              | true =>
                go_wp2_with fail
                refine HC1.out.mono ?_
                rintro e w7 ⟨rfl, hb7⟩
                have B7 := Lib.hid (BO.out.trans (hb7.mono BO.out.size))
                have HB37 := Lib.hid (HB3O.out.trans (hb7.mono HB3O.out.size))
                have HC2 := Lib.hid (HPO.out w7 B7.out xs (by omega) oa ocap ((HCL.out.below hb7).mono hb7.size))
                clear hb7 HC1 HPO
                generalize hv2 : valB (oforms xs) vs = r2 at HC2 HALL
                cases r2 with
                | false =>
                  go_wp2_with fail
                  refine HC2.out.mono ?_
                  rintro e w8 ⟨rfl, hb8⟩
                  have B8 := Lib.hid (B7.out.trans (hb8.mono B7.out.size))
                  clear hb8 HC2
                  go_wp2_with fail
                  go_ret
                  exact ⟨rfl, B8.out⟩
                | true =>
                  go_wp2_with fail
                  refine HC2.out.mono ?_
                  rintro e w8 ⟨rfl, hb8⟩
                  have B8 := Lib.hid (B7.out.trans (hb8.mono B7.out.size))
                  have HB38 := Lib.hid (HB37.out.trans (hb8.mono HB37.out.size))
                  obtain ⟨rfl, hag⟩ := follow_right HFI.out hv1 (HALL.out trivial)
                  obtain ⟨I, rfl, hI1, hI2, hA, _⟩ := HVF.out rfl
                  have HA : Hid (∀ i, i < m0 + 1 → w8.cell? ⟨I, i, none⟩ = some (.int .i64 (A i))) := fun i hi => (HB38.out.cell (p := ⟨I, i, none⟩) hI2).trans (hA i hi)
                  have HAG := Lib.hid hag
                  have HVV : Hid (Bools w.heap.size w8 a3 vs) := HV.out.below B8.out
                  clear hb8 HC2 hag hA hI1 hI2 HFI HVF HALL hv1 hv2 HB38 HB37 HB3O HCL
                  go_wp2_with fail
                  go_loop [16] (fun i => ∃ q : Nat, q ≤ m0 ∧ i = .int .i64 ((q : Int) + 1)) (fun i => m0 + 1 - (intOf i).toNat)
                  case atStart => exact ⟨0, Nat.zero_le _, rfl⟩
                  case round =>
                    obtain ⟨q, hq, rfl⟩ := hrel
                    by_cases hql : q < m0
                    · have c1 := HA.out (q + 1) (by omega)
                      obtain ⟨b4, off4, rfl, hb4, c4⟩ := HVV.out q (by rw [HK3.out]; omega)
                      have h2 := HAG.out (q + 1) (by omega) (by omega)
                      rw [Nat.add_sub_cancel] at h2
                      generalize A (q + 1) = x at c1 h2
                      generalize vs.getD q false = y at c4 h2
                      have hqi : (q : Int) + 1 ≤ (m0 : Int) := by omega
                      have hsb : (q : Int) + 1 - 1 = (q : Int) := by omega
                      have hq3 : (q : Int) < (k3 : Int) := by omega
                      by_cases hx1 : x = 1
                      · obtain rfl := h2.1 hx1
                        subst hx1
                        clear h2
                        go_wp2_with fail
                        go_round
                        case rel => exact ⟨q + 1, by omega, by go_num⟩
                        case measure => simp [intOf]; omega
                      · by_cases hx2 : x = -1
                        · obtain rfl := h2.2 hx2
                          subst hx2
                          clear h2
                          go_wp2_with fail
                          go_round
                          case rel => exact ⟨q + 1, by omega, by go_num⟩
                          case measure => simp [intOf]; omega
                        · have hb1 : (x == 1) = false := by simp [hx1]
                          have hb2 : (x == -1) = false := by simp [hx2]
                          clear h2
                          go_wp2_with fail
                          go_round
                          case rel => exact ⟨q + 1, by omega, by go_num⟩
                          case measure => simp [intOf]; omega
                    · obtain rfl : q = m0 := by omega
                      go_wp2_with fail
                      go_ret
                      exact ⟨rfl, B8.out⟩
    · rw [codeV_ne hf]
      clear HNE HZ
      generalize fK n cs ls = x
      go_wp2_with fail
      go_ret
      exact ⟨rfl, B3.out⟩
end Go.Proofs.Ytgkeipeohjkeoaa
