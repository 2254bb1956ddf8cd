/- PropStays: its walk. -/
import Derived.Test.YtgkeipeohjkeoaaPrpGA
import Derived.BigRegion
set_option linter.unusedVariables false
set_option linter.unusedSimpArgs false
namespace Go.Proofs.Ytgkeipeohjkeoaa
open Go.RowKit

theorem Try.infoInts : (Try.prog.info? 33).map (fun i => (i.zero, i.size, i.bytes)) = some (some (.slice none 0 0), 1, 24) := by kernel_rfl
def Put (B : Nat) (av : Option Addr) (lv : Nat) (w : World) : Prop := ∀ i, i < lv → ∃ I, av = some ⟨I, 0, none⟩ ∧ B ≤ I ∧ (∃ z, w.cell? ⟨I, i, none⟩ = some z) ∧ w.frozen? ⟨I, i, none⟩ = false
theorem Put.set {B : Nat} {I : Nat} {lv : Nat} {w : World} (h : Put B (some ⟨I, 0, none⟩) lv w) (k : Nat) (x : Value) : Put B (some ⟨I, 0, none⟩) lv (w.setCell ⟨I, k, none⟩ x) := fun i hi => by
  obtain ⟨I2, e, h1, ⟨z, h2⟩, h3⟩ := h i hi
  refine ⟨I2, e, h1, ?_, (World.frozen?_setCell _ _ _ _).trans h3⟩
  by_cases e2 : (⟨I, k, none⟩ : Addr) = ⟨I2, i, none⟩
  · rw [e2]; exact ⟨x, World.cell?_setCell_same _ _ _ h2⟩
  · exact ⟨z, (World.cell?_setCell_other _ _ _ _ e2).trans h2⟩
theorem FEnd.put {n : Int} {cs : List (List Int)} {ls : List Int} {w : World} {e : Ending} {w' : World} (h : FEnd n cs ls w e w') : Below w.heap.size w w' ∧ ∃ av lv capv b x, e = .returned (.tuple #[.slice av lv capv, .bool b, codeV x]) ∧ lv ≤ 8193 ∧ Put w.heap.size av lv w' := by
  obtain ⟨hb, v, b, rfl, hne, hz⟩ := h
  refine ⟨hb, ?_⟩
  by_cases h0 : fK n cs ls = 0
  · obtain ⟨m0, A, _, hm, _, _, hvt, hvf⟩ := hz h0
    cases b with
    | true => obtain rfl := hvt rfl; exact ⟨none, 0, 0, true, _, rfl, by omega, fun i hi => absurd hi (Nat.not_lt_zero _)⟩
    | false =>
      obtain ⟨I, rfl, h1, h2, h3, h4⟩ := hvf rfl
      exact ⟨_, _, _, false, _, rfl, by omega, fun i hi => ⟨I, rfl, h1, ⟨_, h3 i hi⟩, h4 i⟩⟩
  · obtain ⟨rfl, rfl⟩ := hne h0
    exact ⟨none, 0, 0, false, _, rfl, by omega, fun i hi => absurd hi (Nat.not_lt_zero _)⟩
theorem take_snocG (cs : List (List Int)) (k : Nat) (h : k < cs.length) : cs.take (k + 1) = cs.take k ++ [cs.getD k []] := by
  rw [List.take_succ_eq_append_getElem h, List.getD_eq_getElem?_getD, List.getElem?_eq_getElem h]; rfl
set_option maxRecDepth 100000 in
set_option maxHeartbeats 4000000 in
theorem propStays_any (hup : UpSaid6) (hbeg : BeginSaid) (n : Int) (a : Option Addr) (m cap : Nat) (cs : List (List Int)) (a2 : Option Addr) (k2 cap2 : Nat) (ls : List Int) (w : World) (h : GivenC w a m cs) (hr1 : m * 24 ≤ 140737488351232) (hr2 : ∀ j, j < m → (cs.getD j []).length * 8 ≤ 140737488351232)
    (hk2 : ls.length = k2) (hkm2 : k2 ≤ 9223372036854775807) (hl2 : Nums w.heap.size w a2 ls) :
    Calls Try.prog 8 #[.int .i64 n, .slice a m cap, .slice a2 k2 cap2] w fun e w' => e = .returned (.bool true) ∧ Below w.heap.size w w' := by
  have HUP := Lib.hid (fun W => hup W)
  have HG := Lib.hid h
  have HLI := Lib.hid (fun W (g : GivenC W a m cs) => light_any n a m cap cs W g.hm g.hmm g.hl)
  have HFO := Lib.hid (fun W (hl : LightIs n cs) (oa : Option Addr) (ocap : Nat) (hc : CLies W.heap.size W oa cs) (a5 : Option Addr) (cap5 : Nat) (h5 : Nums W.heap.size W a5 ls) => follow_any hbeg n oa m ocap cs a5 k2 cap5 ls W h.hm h.hmm hc (hl.big h.hm) hk2 hkm2 h5)
  have HL2 := Lib.hid hl2
  have HK2 := Lib.hid hk2
  have HR2 := Lib.hid hr2
  obtain ⟨i0, hi, hz0, hz1, hz2⟩ := info_parts Try.infoInts
  obtain ⟨i1, hi1, hy0, hy1, hy2⟩ := info_parts Try.infoInt
  clear hup hbeg h hk2 hl2 hr2
  go_enter Try.func8, Try.ntmps8
  go_wp2_with fail
  refine (HUP.out _).mono ?_
  rintro e w1 ⟨rfl, hb1⟩
  have B1 := Lib.hid hb1
  clear hb1
  go_wp2_with fail
  refine (HLI.out _ (HG.out.below B1.out)).mono ?_
  rintro e w2 ⟨b, rfl, rfl, hlt⟩
  clear HUP HLI
  cases b with
  | false =>
    go_wp2_with fail
    go_ret
    exact ⟨rfl, B1.out⟩
  | true =>
    have HLG := Lib.hid (hlt rfl)
    clear hlt
    by_cases hk1 : 1000 < k2
    · have hk1' : (1000 : Int) < (k2 : Int) := by omega
      go_wp2_with fail
      go_ret
      exact ⟨rfl, B1.out⟩
    · have hk1' : ¬ (1000 : Int) < (k2 : Int) := by omega
      have hd2 : decide ((1000 : Int) < (k2 : Int)) = false := decide_eq_false hk1'
      have hd4 : decide (1000 < k2) = false := decide_eq_false hk1
      go_wp2_with fail
      go_loopw [9, 10] (fun o i wr => ∃ (k : Nat) (xs : List GT), k ≤ m ∧ i = .int .i64 k ∧ Hid (GRow w1.heap.size xs o wr) ∧ Hid (gforms xs = cs.take k) ∧ Hid (Below w1.heap.size w1 wr)) (fun _ i _ => m - (intOf i).toNat)
      case atStart => exact ⟨0, [], Nat.zero_le _, rfl, GRow.nil _ _, rfl, Below.refl _ _⟩
      case round =>
        obtain ⟨k, xs, hk, rfl, hrow, hfs, hbr⟩ := hrel
        obtain ⟨wo, rfl⟩ : ∃ wo : World, wo = wr := ⟨_, rfl⟩
        have hxk : Hid (xs.length = k) := by
          have := congrArg List.length hfs.out
          rw [List.length_take, gforms, List.length_map, HG.out.hm] at this
          show _ = _; omega
        have hxm : xs.length ≤ m := by have := hxk.out; omega
        by_cases hlt : k < m
        · obtain ⟨b2, off2, ta, tcap, rfl, hb2l, c1, cn⟩ := HG.out.hl k (by rw [HG.out.hm]; exact hlt)
          have hbw := B1.out.trans (hbr.out.mono B1.out.size)
          have hA0 : Below wo.heap.size wo (wo.alloc (.cells #[] 3)) := (Below.refl _ wo).alloc (Nat.le_refl _) _
          have hbw2 := hbw.trans (hA0.mono hbw.size)
          have c1 := (hbw2.cell (p := ⟨b2, off2 + k, none⟩) hb2l).trans c1
          have HCN : Hid (Nums (wo.alloc (.cells #[] 3)).heap.size (wo.alloc (.cells #[] 3)) ta (cs.getD k [])) := (cn.below hbw2).mono hbw2.size
          have hr := HR2.out k hlt
          have HTK := Lib.hid (take_snocG cs k (by rw [HG.out.hm]; exact hlt))
          have HA0 := Lib.hid hA0
          clear cn hbw hbw2 hA0
          generalize cs.getD k [] = c at c1 HCN hr HTK
          go_wp2_with (at_builtin; refine wpList_append_copy rfl _ _ 33 rfl 3 i1 _ Try.underlying33 hi1 hy0 hy1 hy2 rfl wo.heap.size rfl ta c.length tcap rfl c rfl HCN.out hr ?_)
          intro a3 cap3 w3 hb3 hl3
          have W3 : Hid (Below wo.heap.size wo w3) := HA0.out.trans (hb3.mono (by simp))
          have HW4 : Hid (Below w3.heap.size w3 (w3.alloc (.cells #[.slice a3 c.length cap3] 33))) := (Below.refl _ w3).alloc (Nat.le_refl _) _
          have W4 : Hid (Below wo.heap.size wo (w3.alloc (.cells #[.slice a3 c.length cap3] 33))) := W3.out.trans (HW4.out.mono W3.out.size)
          have HL3 : Hid (LiesG (fun b => wo.heap.size ≤ b ∧ b < (w3.alloc (.cells #[.slice a3 c.length cap3] 33)).heap.size) (w3.alloc (.cells #[.slice a3 c.length cap3] 33)) a3 c) := hl3.keep (fun b ⟨h1, h2⟩ => ⟨by omega, Nat.lt_of_lt_of_le h2 HW4.out.size⟩) (fun b o ⟨h1, h2⟩ => HW4.out.cell (p := ⟨b, o, none⟩) h2)
          have HRW : Hid ((w3.alloc (.cells #[.slice a3 c.length cap3] 33)).ownsRow w1.heap.size 33 1 u9 xs.length (gcells xs)) := (hrow.out.below W4.out).row
          have NEWS := Lib.hid (World.news_of_block (cs := #[.slice a3 c.length cap3]) (t := 33) (fr := (0, 0)) (heap_alloc_new w3 _))
          have HBZ : Hid (w1.heap.size ≤ (w3.alloc (.cells #[.slice a3 c.length cap3] 33)).heap.size) := Nat.le_trans hbr.out.size W4.out.size
          clear hb3 hl3 HCN c1
          go_wp2_with (at_builtin; refine wpList_append_lies _ rfl _ _ 22 rfl w1.heap.size 33 i0 _ 1 24 Try.underlying22 hi hz0 hz1 hz2 rfl (by omega) u9 xs.length (gcells xs) rfl HRW.out ⟨w3.heap.size, 0, none⟩ 1 1 [.slice a3 c.length cap3] rfl rfl NEWS.out (by simp [Value.oneCell']) (by omega) (by unfold maxLen; omega) (by omega) HBZ.out (w3.heap.size + 1) (by simp) ?_)
          intro gg cap6 w6 hown6 hgrow6 hat6 hlt6
          have RN : Hid (GRow w1.heap.size (xs ++ [⟨a3, cap3, c⟩]) (.slice (some ⟨gg, 0, none⟩) (xs.length + 1) cap6) w6) :=
            GRow.step (x := ⟨a3, cap3, c⟩) (g := gg) (H := w3.heap.size + 1) hrow.out W4.out HL3.out hgrow6 (by simp) rfl hat6 hown6
          have FN : Hid (gforms (xs ++ [⟨a3, cap3, c⟩]) = cs.take (k + 1)) := by
            show _ = _
            rw [HTK.out, ← hfs.out]; simp [gforms]
          have BN : Hid (Below w1.heap.size w1 w6) := (hbr.out.trans (W4.out.mono hbr.out.size)).grown hgrow6 (Nat.le_trans hbr.out.size W4.out.size) (fun g hg => (World.ownsRow.lt hrow.out.row g hg).1)
          clear hown6 hgrow6 hat6 hlt6 HRW NEWS HBZ HL3 W4 HW4 W3 HTK HA0
          go_wp2_with fail
          go_roundw
          case rel => exact ⟨k + 1, _, by omega, by go_num, RN, FN, BN⟩
          case measure => simp [intOf]; omega
        · obtain rfl : k = m := by omega
          obtain ⟨oa, ocap, hu9, hcl⟩ := hrow.out.clies
          have hfs2 : gforms xs = cs := by rw [hfs.out, List.take_of_length_le (by rw [HG.out.hm]; exact Nat.le_refl _)]
          rw [hfs2] at hcl
          rw [hxk.out] at hu9
          subst hu9
          have BO := Lib.hid (B1.out.trans (hbr.out.mono B1.out.size))
          have hA0 : Below wo.heap.size wo (wo.alloc (.cells #[] 3)) := (Below.refl _ wo).alloc (Nat.le_refl _) _
          have hbw2 := BO.out.trans (hA0.mono BO.out.size)
          have HCN : Hid (Nums (wo.alloc (.cells #[] 3)).heap.size (wo.alloc (.cells #[] 3)) a2 ls) := (HL2.out.below hbw2).mono hbw2.size
          have HA0 := Lib.hid hA0
          have HCL := Lib.hid hcl
          have hr : k2 * 8 ≤ 140737488351232 := by omega
          clear hrow hfs hfs2 hbr hA0 hbw2 hcl hxk hxm
          go_wp2_with (at_builtin; refine wpList_append_copy rfl _ _ 33 rfl 3 i1 _ Try.underlying33 hi1 hy0 hy1 hy2 rfl wo.heap.size rfl a2 k2 cap2 rfl ls HK2.out HCN.out hr ?_)
          intro a5 cap5 wm hb5 hl5
          have W5 : Hid (Below wo.heap.size wo wm) := HA0.out.trans (hb5.mono (by simp))
          have BM := Lib.hid (BO.out.trans (W5.out.mono BO.out.size))
          have HCM : Hid (CLies wm.heap.size wm oa cs) := (HCL.out.below W5.out).mono W5.out.size
          have HNM : Hid (Nums wm.heap.size wm a5 ls) := hl5.nums (fun b hb => hb.2)
          have HF9 := Lib.hid (HFO.out wm HLG.out oa ocap HCM.out a5 cap5 HNM.out)
          clear hb5 hl5 HFO HCN HCL W5 HA0 BO
          go_wp2_with fail
          refine HF9.out.mono ?_
          intro e w6 hfe
          obtain ⟨hb6, av, lv, capv, bc, x, rfl, hlv, hput⟩ := hfe.put
          have HP := Lib.hid hput
          have HB6 := Lib.hid hb6
          clear hfe hput hb6 HF9
          go_wp2_with fail
          go_loopw [15] (fun i wr => ∃ k1 : Nat, k1 ≤ lv ∧ i = .int .i64 k1 ∧ Hid (Put wm.heap.size av lv wr) ∧ Hid (Below wm.heap.size wm wr)) (fun i _ => lv - (intOf i).toNat)
          case atStart => exact ⟨0, Nat.zero_le _, rfl, HP, HB6⟩
          case round =>
            obtain ⟨k1, hk1l, rfl, hp, hb⟩ := hrel
            by_cases hlt1 : k1 < lv
            · obtain ⟨I, rfl, hBI, ⟨z, hz⟩, hfz⟩ := hp.out k1 hlt1
              have HP2 := Lib.hid (hp.out.set k1 (.int .i64 5))
              have HB2 := Lib.hid (hb.out.setCell (p := ⟨I, k1, none⟩) hBI (.int .i64 5))
              have hlt2 : (k1 : Int) < (lv : Nat) := by omega
              clear hp hb
              go_wp2_with fail
              go_roundw
              case rel => exact ⟨k1 + 1, by omega, by go_num, HP2, HB2⟩
              case measure => simp [intOf]; omega
            · have hlt2 : ¬ (k1 : Int) < (lv : Nat) := by omega
              clear hp
              go_wp2_with fail
              go_loopw [16] (fun i wr => ∃ q : Nat, q ≤ k ∧ i = .int .i64 q ∧ Hid (Below wm.heap.size wm wr)) (fun i _ => k - (intOf i).toNat)
              case atStart => exact ⟨0, Nat.zero_le _, rfl, hb⟩
              case round =>
                obtain ⟨q, hq, rfl, hb3⟩ := hrel
                by_cases hltq : q < k
                · obtain ⟨b2, off2, ta, tcap, rfl, hb2l, c1, cn⟩ := HCM.out q (by rw [HG.out.hm]; exact hltq)
                  obtain ⟨b3, off3, tb, tcap3, rfl, hb3l, d1, dn⟩ := HG.out.hl q (by rw [HG.out.hm]; exact hltq)
                  have HOC : Hid (∀ W, Below wm.heap.size wm W → W.cell? ⟨b2, off2 + q, none⟩ = some (.slice ta (cs.getD q []).length tcap)) := fun W hW => (hW.cell (p := ⟨b2, off2 + q, none⟩) hb2l).trans c1
                  have HGC : Hid (∀ W, Below wm.heap.size wm W → W.cell? ⟨b3, off3 + q, none⟩ = some (.slice tb (cs.getD q []).length tcap3)) := fun W hW => ((BM.out.trans (hW.mono BM.out.size)).cell (p := ⟨b3, off3 + q, none⟩) hb3l).trans d1
                  have HON : Hid (Nums wm.heap.size wm ta (cs.getD q [])) := cn
                  have HGN : Hid (Nums w.heap.size w tb (cs.getD q [])) := dn
                  clear c1 d1 cn dn
                  have hcb := HR2.out q hltq
                  generalize cs.getD q [] = c at HOC HGC HON HGN hcb
                  have hq2 : (q : Int) < (k : Nat) := by omega
                  go_wp2_with fail
                  go_loopw [17] (fun i wr => ∃ r : Nat, r ≤ c.length ∧ i = .int .i64 r ∧ Hid (Below wm.heap.size wm wr)) (fun i _ => c.length - (intOf i).toNat)
                  case atStart => exact ⟨0, Nat.zero_le _, rfl, hb3⟩
                  case round =>
                    obtain ⟨r, hr3, rfl, hb4⟩ := hrel
                    have e1 := HOC.out _ hb4.out
                    have e2 := HGC.out _ hb4.out
                    by_cases hltr : r < c.length
                    · obtain ⟨b4, off4, rfl, h4l, f1⟩ := HON.out r hltr
                      obtain ⟨b5, off5, rfl, h5l, f2⟩ := HGN.out r hltr
                      have f1 := (hb4.out.cell (p := ⟨b4, off4 + r, none⟩) h4l).trans f1
                      have f2 := ((BM.out.trans (hb4.out.mono BM.out.size)).cell (p := ⟨b5, off5 + r, none⟩) h5l).trans f2
                      generalize c.getD r 0 = y9 at f1 f2
                      have hxx : (y9 != y9) = false := by simp
                      have hr2 : (r : Int) < (c.length : Nat) := by omega
                      have HB9 : Hid (Below wm.heap.size wm wr.drew) := hb4.out.drew
                      clear hb4
                      go_wp2_with fail
                      go_region
                      all_goals
                        go_wp2_with fail
                        go_roundw
                        case rel => exact ⟨r + 1, by omega, by go_num, HB9⟩
                        case measure => simp [intOf]; omega
                    · have hr2 : ¬ (r : Int) < (c.length : Nat) := by omega
                      go_wp2_with fail
                      go_roundw
                      case rel => exact ⟨q + 1, by omega, by go_num, hb4⟩
                      case measure => simp [intOf]; omega
                · have hq2 : ¬ (q : Int) < (k : Nat) := by omega
                  go_wp2_with fail
                  go_loopw [18] (fun i wr => ∃ r : Nat, r ≤ k2 ∧ i = .int .i64 r ∧ Hid (Below wm.heap.size wm wr)) (fun i _ => k2 - (intOf i).toNat)
                  case atStart => exact ⟨0, Nat.zero_le _, rfl, hb3⟩
                  case round =>
                    obtain ⟨r, hr3, rfl, hb4⟩ := hrel
                    by_cases hltr : r < k2
                    · obtain ⟨b4, off4, rfl, h4l, f1⟩ := HNM.out r (by rw [HK2.out]; exact hltr)
                      obtain ⟨b5, off5, rfl, h5l, f2⟩ := HL2.out r (by rw [HK2.out]; exact hltr)
                      have f1 := (hb4.out.cell (p := ⟨b4, off4 + r, none⟩) h4l).trans f1
                      have f2 := ((BM.out.trans (hb4.out.mono BM.out.size)).cell (p := ⟨b5, off5 + r, none⟩) h5l).trans f2
                      generalize ls.getD r 0 = y9 at f1 f2
                      have hxx : (y9 != y9) = false := by simp
                      have hr2 : (r : Int) < (k2 : Nat) := by omega
                      have HB9 : Hid (Below wm.heap.size wm wr.drew) := hb4.out.drew
                      clear hb4
                      go_wp2_with fail
                      go_region
                      all_goals
                        go_wp2_with fail
                        go_roundw
                        case rel => exact ⟨r + 1, by omega, by go_num, HB9⟩
                        case measure => simp [intOf]; omega
                    · have hr2 : ¬ (r : Int) < (k2 : Nat) := by omega
                      have BE := Lib.hid (BM.out.trans (hb4.out.mono BM.out.size))
                      clear hb4
                      go_wp2_with fail
                      go_ret
                      exact ⟨rfl, BE.out⟩
end Go.Proofs.Ytgkeipeohjkeoaa
