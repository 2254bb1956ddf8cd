/- RupStays: its walk. -/
import Derived.Test.YtlnkgemndojdnaaDoorRupH
import Derived.BigRegion
set_option linter.unusedVariables false
set_option linter.unusedSimpArgs false
namespace Go.Proofs.YtlnkgemndojdnaaDoor
set_option maxRecDepth 100000
open Go.RowKit

set_option maxHeartbeats 8000000 in
theorem rupStays_any (hup : UpSaid7) (hbeg : BeginSaid) (n : Int) (a : Option Addr) (m cap : Nat) (cs : List (List Int)) (a2 : Option Addr) (m2 cap2 : Nat) (ss : List (List Int)) (w : World) (h1 : GivenC w a m cs) (h2 : GivenC w a2 m2 ss) (hg : Laid0 w) :
    Calls Tryd.prog 6 #[.int .i64 n, .slice a m cap, .slice a2 m2 cap2] w fun e w' => e = .returned (.bool true) ∧ Below w.heap.size w w' := by
  have HUP := Lib.hid (hup w hg)
  have HG := Lib.hid h1
  have H2 := Lib.hid h2
  have HLI := Lib.hid (fun W (g1 : GivenC W a m cs) (g2 : GivenC W a2 m2 ss) => easy_any n a m cap cs a2 m2 cap2 ss W g1 g2)
  have HRU := Lib.hid (fun W (oa : Option Addr) (ocap : Nat) (g1 : GivenC W oa m cs) (g2 : GivenC W a2 m2 ss) (hf : Easy n cs ss) => rup_any hbeg n oa m ocap cs a2 m2 cap2 ss W g1 g2 hf.few)
  have n1 := fun t v W => Tryd.eqIface t v W
  have n2 := fun W => Tryd.eqNil W
  obtain ⟨i0, hi, hz0, hz1, hz2⟩ := info_parts Tryd.infoInts
  obtain ⟨i1, hi1, hy0, hy1, hy2⟩ := info_parts Tryd.infoInt
  clear hup hbeg h1 h2 hg
  go_enter Tryd.func6, Tryd.ntmps6
  go_wp2_with fail
  refine HUP.out.mono ?_
  rintro e w1 ⟨rfl, hb1⟩
  have B1 := Lib.hid hb1
  clear hb1 HUP
  go_wp2_with fail
  refine (HLI.out _ (HG.out.below B1.out) (H2.out.below B1.out)).mono ?_
  rintro e w2 ⟨b, rfl, rfl, hlt⟩
  clear HLI
  cases b with
  | false =>
    go_wp2_with fail
    go_ret
    exact ⟨rfl, B1.out⟩
  | true =>
    have HE := Lib.hid (hlt rfl)
    have hm200 : m ≤ 200 := by have := HE.out.few.l1; have := HG.out.hm; omega
    clear hlt
    go_wp2_with fail
    go_loopw [9, 10] (fun o i wr => ∃ (k : Nat) (xs : List GT), k ≤ m ∧ i = .int .i64 k ∧ Hid (GRow w1.heap.size xs o wr) ∧ Hid (gforms xs = cs.take k) ∧ Hid (Below w1.heap.size w1 wr)) (fun _ i _ => m - (intOf i).toNat)
    case atStart => exact ⟨0, [], Nat.zero_le _, rfl, GRow.nil _ _, rfl, Below.refl _ _⟩
    case round =>
      obtain ⟨k, xs, hk, rfl, hrow, hfs, hbr⟩ := hrel
      obtain ⟨wo, rfl⟩ : ∃ wo : World, wo = wr := ⟨_, rfl⟩
      have hxk : Hid (xs.length = k) := by
        have := congrArg List.length hfs.out
        rw [List.length_take, gforms, List.length_map, HG.out.hm] at this
        show _ = _; omega
      have hxm : xs.length ≤ m := by have := hxk.out; omega
      by_cases hlt : k < m
      · obtain ⟨b2, off2, ta, tcap, rfl, hb2l, c1, cn⟩ := HG.out.hl k (by rw [HG.out.hm]; exact hlt)
        have hbw := B1.out.trans (hbr.out.mono B1.out.size)
        have hA0 : Below wo.heap.size wo (wo.alloc (.cells #[] 3)) := (Below.refl _ wo).alloc (Nat.le_refl _) _
        have hbw2 := hbw.trans (hA0.mono hbw.size)
        have c1 := (hbw2.cell (p := ⟨b2, off2 + k, none⟩) hb2l).trans c1
        have HCN : Hid (Nums (wo.alloc (.cells #[] 3)).heap.size (wo.alloc (.cells #[] 3)) ta (cs.getD k [])) := (cn.below hbw2).mono hbw2.size
        have hr : (cs.getD k []).length * 8 ≤ 140737488351232 := by have := HE.out.few.k1 _ (getD_memC (cs := cs) (i := k) (by rw [HG.out.hm]; exact hlt)); omega
        have HTK := Lib.hid (take_snocG cs k (by rw [HG.out.hm]; exact hlt))
        have HA0 := Lib.hid hA0
        clear cn hbw hbw2 hA0
        generalize cs.getD k [] = c at c1 HCN hr HTK
        go_wp2_with (at_builtin; refine wpList_append_copy rfl _ _ 34 rfl 3 i1 _ Tryd.underlying34 hi1 hy0 hy1 hy2 rfl wo.heap.size rfl ta c.length tcap rfl c rfl HCN.out hr ?_)
        intro a3 cap3 w3 hb3 hl3
        have W3 : Hid (Below wo.heap.size wo w3) := HA0.out.trans (hb3.mono (by simp))
        have HW4 : Hid (Below w3.heap.size w3 (w3.alloc (.cells #[.slice a3 c.length cap3] 34))) := (Below.refl _ w3).alloc (Nat.le_refl _) _
        have W4 : Hid (Below wo.heap.size wo (w3.alloc (.cells #[.slice a3 c.length cap3] 34))) := W3.out.trans (HW4.out.mono W3.out.size)
        have HL3 : Hid (LiesG (fun b => wo.heap.size ≤ b ∧ b < (w3.alloc (.cells #[.slice a3 c.length cap3] 34)).heap.size) (w3.alloc (.cells #[.slice a3 c.length cap3] 34)) a3 c) := hl3.keep (fun b ⟨h1, h2⟩ => ⟨by omega, Nat.lt_of_lt_of_le h2 HW4.out.size⟩) (fun b o ⟨h1, h2⟩ => HW4.out.cell (p := ⟨b, o, none⟩) h2)
        have HRW : Hid ((w3.alloc (.cells #[.slice a3 c.length cap3] 34)).ownsRow w1.heap.size 34 1 u9 xs.length (gcells xs)) := (hrow.out.below W4.out).row
        have NEWS := Lib.hid (World.news_of_block (cs := #[.slice a3 c.length cap3]) (t := 34) (fr := (0, 0)) (heap_alloc_new w3 _))
        have HBZ : Hid (w1.heap.size ≤ (w3.alloc (.cells #[.slice a3 c.length cap3] 34)).heap.size) := Nat.le_trans hbr.out.size W4.out.size
        clear hb3 hl3 HCN c1
        go_wp2_with (at_builtin; refine wpList_append_lies _ rfl _ _ 22 rfl w1.heap.size 34 i0 _ 1 24 Tryd.underlying22 hi hz0 hz1 hz2 rfl (by omega) u9 xs.length (gcells xs) rfl HRW.out ⟨w3.heap.size, 0, none⟩ 1 1 [.slice a3 c.length cap3] rfl rfl NEWS.out (by simp [Value.oneCell']) (by omega) (by unfold maxLen; omega) (by omega) HBZ.out (w3.heap.size + 1) (by simp) ?_)
        intro gg cap6 w6 hown6 hgrow6 hat6 hlt6
        have RN : Hid (GRow w1.heap.size (xs ++ [⟨a3, cap3, c⟩]) (.slice (some ⟨gg, 0, none⟩) (xs.length + 1) cap6) w6) :=
          GRow.step (x := ⟨a3, cap3, c⟩) (g := gg) (H := w3.heap.size + 1) hrow.out W4.out HL3.out hgrow6 (by simp) rfl hat6 hown6
        have FN : Hid (gforms (xs ++ [⟨a3, cap3, c⟩]) = cs.take (k + 1)) := by
          show _ = _
          rw [HTK.out, ← hfs.out]; simp [gforms]
        have BN : Hid (Below w1.heap.size w1 w6) := (hbr.out.trans (W4.out.mono hbr.out.size)).grown hgrow6 (Nat.le_trans hbr.out.size W4.out.size) (fun g hg => (World.ownsRow.lt hrow.out.row g hg).1)
        clear hown6 hgrow6 hat6 hlt6 HRW NEWS HBZ HL3 W4 HW4 W3 HTK HA0
        go_wp2_with fail
        go_roundw
        case rel => exact ⟨k + 1, _, by omega, by go_num, RN, FN, BN⟩
        case measure => simp [intOf]; omega
      · obtain rfl : k = m := by omega
        obtain ⟨oa, ocap, hu9, hcl⟩ := hrow.out.clies
        have hfs2 : gforms xs = cs := by rw [hfs.out, List.take_of_length_le (by rw [HG.out.hm]; exact Nat.le_refl _)]
        rw [hfs2] at hcl
        rw [hxk.out] at hu9
        subst hu9
        have BO := Lib.hid (B1.out.trans (hbr.out.mono B1.out.size))
        have HOW : Hid (GivenC wo oa k cs) := ⟨HG.out.hm, HG.out.hmm, hcl, HG.out.hlen⟩
        have HR1 := Lib.hid (HRU.out wo oa ocap HOW.out (H2.out.below BO.out) HE.out)
        clear hrow hfs hfs2 hbr hcl hxk hxm
        go_wp2_with fail
        refine HR1.out.mono ?_
        rintro e w4 ⟨er, x, at', rfl, hr4, he4, hb4⟩
        have B4 := Lib.hid (BO.out.trans (hb4.mono BO.out.size))
        have HO4 := Lib.hid (HOW.out.below hb4)
        have HR4 := Lib.hid hr4
        have HE4 := Lib.hid he4
        have HR2 := Lib.hid (HRU.out w4 oa ocap HO4.out (H2.out.below B4.out) HE.out)
        clear hr4 he4 hb4 HRU HR1 HOW BO
        go_wp2_with fail
        refine HR2.out.mono ?_
        rintro e w5 ⟨er2, x2, at2, rfl, hr5, he5, hb5⟩
        obtain ⟨rfl, rfl⟩ := HR4.out.unique hr5
        have B5 := Lib.hid (B4.out.trans (hb5.mono B4.out.size))
        have HO5 := Lib.hid (HO4.out.below hb5)
        have H15 := Lib.hid (HG.out.below B5.out)
        have HEE : Hid ((er = .nilIface ∧ er2 = .nilIface) ∨ ∃ t v t2 v2, er = .iface t v ∧ er2 = .iface t2 v2) := by
          by_cases h0 : at' < 0
          · have e1 := HE4.out.1 h0
            have e2 := he5.1 h0
            by_cases hx : x = 0
            · exact .inl ⟨by rw [e1, hx]; rfl, by rw [e2, hx]; rfl⟩
            · exact .inr ⟨_, _, _, _, by rw [e1]; exact codeV_ne hx, by rw [e2]; exact codeV_ne hx⟩
          · obtain ⟨g, e1, _⟩ := HE4.out.2 (by omega)
            obtain ⟨g2, e2, _⟩ := he5.2 (by omega)
            exact .inr ⟨_, _, _, _, e1, e2⟩
        clear hr5 he5 hb5 HR2 HR4 HE4 HO4 B4 H2 HG B1 HE
        go_wp2_with fail
        go_loopw [13] (fun i wr => ∃ j : Nat, j ≤ k ∧ i = .int .i64 j ∧ Hid (Below w5.heap.size w5 wr)) (fun i _ => k - (intOf i).toNat)
        case atStart => exact ⟨0, Nat.zero_le _, rfl, Below.refl _ _⟩
        case round =>
          obtain ⟨j, hj, rfl, hb6⟩ := hrel
          obtain ⟨wq, rfl⟩ : ∃ wq : World, wq = wr := ⟨_, rfl⟩
          by_cases hjk : j < k
          · obtain ⟨bo, offo, to', tcapo, rfl, hbol, o1, on⟩ := HO5.out.hl j (by rw [HO5.out.hm]; exact hjk)
            obtain ⟨ba, offa, ta, tcapa, rfl, hbal, a1, an⟩ := H15.out.hl j (by rw [HO5.out.hm]; exact hjk)
            have HO1 : Hid (∀ W, Below w5.heap.size w5 W → W.cell? ⟨bo, offo + j, none⟩ = some (.slice to' (cs.getD j []).length tcapo) ∧ W.cell? ⟨ba, offa + j, none⟩ = some (.slice ta (cs.getD j []).length tcapa)) := fun W hW => ⟨(hW.cell (p := ⟨bo, offo + j, none⟩) hbol).trans o1, (hW.cell (p := ⟨ba, offa + j, none⟩) hbal).trans a1⟩
            have HON := Lib.hid on
            have HAN := Lib.hid an
            have hjki : (j : Int) < (k : Int) := by omega
            have hclen : (cs.getD j []).length ≤ 9223372036854775807 := HO5.out.hlen j hjk
            clear o1 a1 on an
            generalize cs.getD j [] = c at HO1 HON HAN hclen
            go_wp2_with fail
            go_loopw [14] (fun i wr => ∃ r : Nat, r ≤ c.length ∧ i = .int .i64 r ∧ Hid (Below w5.heap.size w5 wr)) (fun i _ => c.length - (intOf i).toNat)
            case atStart => exact ⟨0, Nat.zero_le _, rfl, hb6⟩
            case round =>
              obtain ⟨r, hr, rfl, hb7⟩ := hrel
              obtain ⟨q1, q2⟩ := HO1.out _ hb7.out
              by_cases hrc : r < c.length
              · obtain ⟨b8, off8, rfl, h8l, q3⟩ := HON.out r hrc
                obtain ⟨b9, off9, rfl, h9l, q4⟩ := HAN.out r hrc
                have q3 := (hb7.out.cell (p := ⟨b8, off8 + r, none⟩) h8l).trans q3
                have q4 := (hb7.out.cell (p := ⟨b9, off9 + r, none⟩) h9l).trans q4
                generalize c.getD r 0 = y at q3 q4
                have hyy : (y != y) = false := by simp
                have hrci : (r : Int) < (c.length : Int) := by omega
                have HBD : Hid (Below w5.heap.size w5 wr.drew) := hb7.out.drew
                clear hb7
                go_wp2_with fail
                go_region
                all_goals
                  go_wp2_with fail
                  go_roundw
                  case rel => exact ⟨r + 1, by omega, by go_num, HBD⟩
                  case measure => simp [intOf]; omega
              · obtain rfl : r = c.length := by omega
                go_wp2_with fail
                go_roundw
                case rel => exact ⟨j + 1, by omega, by go_num, hb7⟩
                case measure => simp [intOf]; omega
          · obtain rfl : j = k := by omega
            have BE := Lib.hid (B5.out.trans (hb6.out.mono B5.out.size))
            have BD := Lib.hid BE.out.drew
            rcases HEE.out with ⟨rfl, rfl⟩ | ⟨t, v, t2, v2, rfl, rfl⟩
            all_goals
              clear HEE HO5 H15
              go_wp2_with fail
              go_region
              all_goals
                go_wp2_with fail
                go_ret
                exact ⟨rfl, BD.out⟩
end Go.Proofs.YtlnkgemndojdnaaDoor
