/- PropOrder: its walk. -/
import Derived.Test.YtgkeipeohjkeoaaPrpGC
import Derived.BigRegion
set_option linter.unusedVariables false
set_option linter.unusedSimpArgs false
namespace Go.Proofs.Ytgkeipeohjkeoaa
open Go.RowKit

def IRow (B : Nat) (l : List Int) (v : Value) (w : World) : Prop := w.ownsRow B 3 1 v l.length (l.map (Value.int .i64))
theorem IRow.nil (B : Nat) (w : World) : IRow B [] (.slice none 0 0) w := World.ownsRow_nil _ _ _ _
theorem IRow.below {B : Nat} {l : List Int} {v : Value} {w w' : World} (h : IRow B l v w) (hb : Below w.heap.size w w') : IRow B l v w' :=
  World.ownsRow.kept (row := none) h ⟨hb.os, hb.tape, hb.output, hb.size, fun q hq _ => hb.block q hq⟩ (by cases v.ownBlock <;> simp)
theorem IRow.snoc {B : Nat} {l : List Int} {y : Int} {v : Value} {w : World} (h : w.ownsRow B 3 1 v (l.length + 1) (l.map (Value.int .i64) ++ [.int .i64 y])) : IRow B (l ++ [y]) v w := by
  unfold IRow; rw [List.length_append, List.map_append]; exact h
theorem IRow.lies {B : Nat} {l : List Int} {v : Value} {w : World} (h : IRow B l v w) : ∃ a cap, v = .slice a l.length cap ∧ LiesG (fun b => B ≤ b ∧ b < w.heap.size) w a l := by
  have hc := fun g => World.ownsRow.cells h (g := g)
  have hlt := World.ownsRow.lt h
  obtain ⟨_, h1 | ⟨g, cap, cur, hv, h2⟩⟩ := h
  · exact ⟨none, 0, by rw [h1.1, h1.2], fun i hi => by omega⟩
  · subst hv
    refine ⟨some ⟨g, 0, none⟩, cap, rfl, fun i hi => ⟨g, 0, rfl, hlt g rfl, ?_⟩⟩
    have := hc g rfl i (.int .i64 (l.getD i 0)) (by simp [List.getD_eq_getElem?_getD, hi])
    rwa [show (⟨g, 0, none⟩ : Addr).add i = ⟨g, 0 + i, none⟩ by unfold Addr.add; split <;> simp_all] at this
theorem Try.eqIface (t : TypeId) (v : Value) (w : World) : (binOp .eql 27 (.iface t v) .nilIface).run Try.prog w = .ok (.bool false) w := by simp [go_sem]
theorem Try.eqNil (w : World) : (binOp .eql 27 .nilIface .nilIface).run Try.prog w = .ok (.bool true) w := by simp [go_sem]
set_option maxRecDepth 100000 in
set_option maxHeartbeats 4000000 in
theorem propOrder_any (hup : UpSaid6) (hbeg : BeginSaid) (n : Int) (a : Option Addr) (m cap : Nat) (cs : List (List Int)) (a2 : Option Addr) (k2 cap2 : Nat) (ls : List Int) (w : World) (h : GivenC w a m cs) (hr1 : m * 24 ≤ 140737488351232) (hr2 : ∀ j, j < m → (cs.getD j []).length * 8 ≤ 140737488351232)
    (hk2 : ls.length = k2) (hkm2 : k2 ≤ 9223372036854775807) (hl2 : Nums w.heap.size w a2 ls) :
    Calls Try.prog 7 #[.int .i64 n, .slice a m cap, .slice a2 k2 cap2] w fun e w' => e = .returned (.bool true) ∧ Below w.heap.size w w' := by
  have HUP := Lib.hid (fun W => hup W)
  have HG := Lib.hid h
  have HLI := Lib.hid (fun W (g : GivenC W a m cs) => light_any n a m cap cs W g.hm g.hmm g.hl)
  have HF1 := Lib.hid (fun W (hl : LightIs n cs) (g : GivenC W a m cs) (hb : Below w.heap.size w W) => follow_any hbeg n a m cap cs a2 k2 cap2 ls W g.hm g.hmm g.hl (hl.big g.hm) hk2 hkm2 ((hl2.below hb).mono hb.size))
  have HF2 := Lib.hid (fun W (hl : LightIs n cs) (oa : Option Addr) (ocap : Nat) (hc : CLies W.heap.size W oa (rev cs)) (a5 : Option Addr) (cap5 : Nat) (h5 : Nums W.heap.size W a5 ls.reverse) => follow_any hbeg n oa m ocap (rev cs) a5 k2 cap5 ls.reverse W ((rev_length cs).trans h.hm) h.hmm hc (hl.bigRev h.hm) ((List.length_reverse).trans hk2) hkm2 h5)
  have HL2 := Lib.hid hl2
  have HK2 := Lib.hid hk2
  have HR2 := Lib.hid hr2
  have n1 := fun t v W => Try.eqIface t v W
  have n2 := fun W => Try.eqNil W
  obtain ⟨i0, hi, hz0, hz1, hz2⟩ := info_parts Try.infoInts
  obtain ⟨i1, hi1, hy0, hy1, hy2⟩ := info_parts Try.infoInt
  clear hup hbeg h hk2 hl2 hr2
  go_enter Try.func7, Try.ntmps7
  go_wp2_with fail
  refine (HUP.out _).mono ?_
  rintro e w1 ⟨rfl, hb1⟩
  have B1 := Lib.hid hb1
  clear hb1
  go_wp2_with fail
  refine (HLI.out _ (HG.out.below B1.out)).mono ?_
  rintro e w2 ⟨b, rfl, rfl, hlt⟩
  clear HUP HLI
  cases b with
  | false =>
    go_wp2_with fail
    go_ret
    exact ⟨rfl, B1.out⟩
  | true =>
    have HLG := Lib.hid (hlt rfl)
    clear hlt
    by_cases hk1 : 1000 < k2
    · have hk1' : (1000 : Int) < (k2 : Int) := by omega
      go_wp2_with fail
      go_ret
      exact ⟨rfl, B1.out⟩
    · have hk1' : ¬ (1000 : Int) < (k2 : Int) := by omega
      have hd2 : decide ((1000 : Int) < (k2 : Int)) = false := decide_eq_false hk1'
      have hd4 : decide (1000 < k2) = false := decide_eq_false hk1
      go_wp2_with fail
      go_loopw [9, 10] (fun o i wr => ∃ (k : Nat) (xs : List GT), k ≤ m ∧ i = .int .i64 ((k : Int) - 1) ∧ Hid (GRow w1.heap.size xs o wr) ∧ Hid (gforms xs = rev (cs.drop k)) ∧ Hid (Below w1.heap.size w1 wr)) (fun _ i _ => (intOf i + 1).toNat)
      case atStart => exact ⟨m, [], Nat.le_refl _, by go_num, GRow.nil _ _, by show _ = _; rw [List.drop_of_length_le (by rw [HG.out.hm]; exact Nat.le_refl _)]; rfl, Below.refl _ _⟩
      case round =>
        obtain ⟨k, xs, hk, hi9, hrow, hfs, hbr⟩ := hrel
        obtain ⟨wo, rfl⟩ : ∃ wo : World, wo = wr := ⟨_, rfl⟩
        have hxk : Hid (xs.length = m - k) := by
          have := congrArg List.length hfs.out
          rw [rev_length, List.length_drop, gforms, List.length_map, HG.out.hm] at this
          exact this
        have hxm : xs.length ≤ m := by have := hxk.out; omega
        by_cases hlt : 0 < k
        · obtain ⟨k, rfl⟩ : ∃ k', k = k' + 1 := ⟨k - 1, by omega⟩
          rw [show ((k + 1 : Nat) : Int) - 1 = (k : Int) by omega] at hi9
          subst hi9
          obtain ⟨b3, off3, tb, tcap3, rfl, hb3l, d1, dn⟩ := HG.out.hl k (by rw [HG.out.hm]; exact hk)
          have BO := Lib.hid (B1.out.trans (hbr.out.mono B1.out.size))
          have HGC : Hid (∀ W, Below wo.heap.size wo W → W.cell? ⟨b3, off3 + k, none⟩ = some (.slice tb (cs.getD k []).length tcap3)) := fun W hW => ((BO.out.trans (hW.mono BO.out.size)).cell (p := ⟨b3, off3 + k, none⟩) hb3l).trans d1
          have HGN : Hid (Nums w.heap.size w tb (cs.getD k [])) := dn
          have hcb := HR2.out k hk
          have HTK := Lib.hid (drop_rev cs k (by rw [HG.out.hm]; exact hk))
          have e0 := HGC.out _ (Below.refl _ wo)
          have hge : (k : Int) ≥ 0 := by omega
          have hge2 : (0 : Int) ≤ (k : Int) := by omega
          clear d1 dn
          generalize cs.getD k [] = c at HGC HGN hcb HTK e0
          have hwl : IntKind.i64.wrap ((c.length : Int) - 1) = (c.length : Int) - 1 := IntWalk.i64_in _ (by omega)
          have hkm : (k : Int) < (m : Nat) := by omega
          go_wp2_with fail
          go_loopw [11, 12] (fun o i wr => ∃ r : Nat, r ≤ c.length ∧ i = .int .i64 ((r : Int) - 1) ∧ Hid (IRow wo.heap.size (c.drop r).reverse o wr) ∧ Hid (Below wo.heap.size wo wr)) (fun _ i _ => (intOf i + 1).toNat)
          case atStart => exact ⟨c.length, Nat.le_refl _, by go_num, by show IRow _ _ _ _; rw [List.drop_length]; exact IRow.nil _ _, Below.refl _ _⟩
          case round =>
            obtain ⟨r, hr3, hi12, hir, hb4⟩ := hrel
            by_cases hltr : 0 < r
            · obtain ⟨r, rfl⟩ : ∃ r', r = r' + 1 := ⟨r - 1, by omega⟩
              rw [show ((r + 1 : Nat) : Int) - 1 = (r : Int) by omega] at hi12
              subst hi12
              obtain ⟨b5, off5, rfl, h5l, f2⟩ := HGN.out r hr3
              have e2 := HGC.out _ hb4.out
              have BW := BO.out.trans (hb4.out.mono BO.out.size)
              have f2 := (BW.cell (p := ⟨b5, off5 + r, none⟩) h5l).trans f2
              have HDR := Lib.hid (drop_revL c r hr3)
              have hln : Hid ((c.drop (r + 1)).reverse.length ≤ c.length) := by show _ ≤ _; rw [List.length_reverse, List.length_drop]; omega
              have hrge : (r : Int) ≥ 0 := by omega
              have hrge2 : (0 : Int) ≤ (r : Int) := by omega
              have hrc : (r : Int) < (c.length : Nat) := by omega
              generalize c.getD r 0 = y at f2 HDR
              have HAL : Hid (Below wr.heap.size wr (wr.alloc (.cells #[.int .i64 y] 3))) := (Below.refl _ wr).alloc (Nat.le_refl _) _
              have HRW : Hid ((wr.alloc (.cells #[.int .i64 y] 3)).ownsRow wo.heap.size 3 1 u11 (c.drop (r + 1)).reverse.length ((c.drop (r + 1)).reverse.map (Value.int .i64))) := hir.out.below HAL.out
              have NEWS := Lib.hid (World.news_of_block (cs := #[.int .i64 y]) (t := 3) (fr := (0, 0)) (heap_alloc_new wr _))
              have HB5 : Hid (Below wo.heap.size wo (wr.alloc (.cells #[.int .i64 y] 3))) := hb4.out.trans (HAL.out.mono hb4.out.size)
              have HBZ : Hid (wo.heap.size ≤ (wr.alloc (.cells #[.int .i64 y] 3)).heap.size) := HB5.out.size
              clear BW hb4
              generalize (c.drop (r + 1)).reverse = l9 at HDR hln HRW hir
              have hln := hln.out
              go_wp2_with (at_builtin; refine wpList_append_lies _ rfl _ _ 33 rfl wo.heap.size 3 i1 _ 1 8 Try.underlying33 hi1 hy0 hy1 hy2 rfl (by omega) u11 l9.length (l9.map (Value.int .i64)) rfl HRW.out ⟨wr.heap.size, 0, none⟩ 1 1 [.int .i64 y] rfl rfl NEWS.out (by simp [Value.oneCell']) (by omega) (by unfold maxLen; omega) (by omega) HBZ.out (wr.heap.size + 1) (by simp) ?_)
              intro gg cap6 w6 hown6 hgrow6 hat6 hlt6
              have RN : Hid (IRow wo.heap.size (c.drop r).reverse (.slice (some ⟨gg, 0, none⟩) (l9.length + 1) cap6) w6) := by
                show IRow _ _ _ _
                rw [HDR.out]; exact IRow.snoc hown6
              have BN : Hid (Below wo.heap.size wo w6) := HB5.out.grown hgrow6 HBZ.out (fun g hg => (World.ownsRow.lt HRW.out g hg).1)
              clear hown6 hgrow6 hat6 hlt6 HRW NEWS HBZ HB5 HAL HDR hir
              go_wp2_with fail
              go_roundw
              case rel => exact ⟨r, by omega, by go_num, RN, BN⟩
              case measure => simp [intOf]
            · obtain rfl : r = 0 := by omega
              rw [show ((0 : Nat) : Int) - 1 = -1 from rfl] at hi12
              subst hi12
              obtain ⟨a3, cap3, rfl, hl3⟩ := hir.out.lies
              rw [List.drop_zero] at hl3
              rw [List.drop_zero]
              have HW4 : Hid (Below wr.heap.size wr (wr.alloc (.cells #[.slice a3 c.reverse.length cap3] 33))) := (Below.refl _ wr).alloc (Nat.le_refl _) _
              have W4 : Hid (Below wo.heap.size wo (wr.alloc (.cells #[.slice a3 c.reverse.length cap3] 33))) := hb4.out.trans (HW4.out.mono hb4.out.size)
              have HL3 : Hid (LiesG (fun b => wo.heap.size ≤ b ∧ b < (wr.alloc (.cells #[.slice a3 c.reverse.length cap3] 33)).heap.size) (wr.alloc (.cells #[.slice a3 c.reverse.length cap3] 33)) a3 c.reverse) := hl3.keep (fun b ⟨h1, h2⟩ => ⟨h1, Nat.lt_of_lt_of_le h2 HW4.out.size⟩) (fun b o ⟨h1, h2⟩ => HW4.out.cell (p := ⟨b, o, none⟩) h2)
              have HRW : Hid ((wr.alloc (.cells #[.slice a3 c.reverse.length cap3] 33)).ownsRow w1.heap.size 33 1 u9 xs.length (gcells xs)) := (hrow.out.below W4.out).row
              have NEWS := Lib.hid (World.news_of_block (cs := #[.slice a3 c.reverse.length cap3]) (t := 33) (fr := (0, 0)) (heap_alloc_new wr _))
              have HBZ : Hid (w1.heap.size ≤ (wr.alloc (.cells #[.slice a3 c.reverse.length cap3] 33)).heap.size) := Nat.le_trans hbr.out.size W4.out.size
              clear hl3 hir hb4
              generalize c.reverse = cr at *
              go_wp2_with (at_builtin; refine wpList_append_lies _ rfl _ _ 22 rfl w1.heap.size 33 i0 _ 1 24 Try.underlying22 hi hz0 hz1 hz2 rfl (by omega) u9 xs.length (gcells xs) rfl HRW.out ⟨wr.heap.size, 0, none⟩ 1 1 [.slice a3 cr.length cap3] rfl rfl NEWS.out (by simp [Value.oneCell']) (by omega) (by unfold maxLen; omega) (by omega) HBZ.out (wr.heap.size + 1) (by simp) ?_)
              intro gg cap6 w6 hown6 hgrow6 hat6 hlt6
              have RN : Hid (GRow w1.heap.size (xs ++ [⟨a3, cap3, cr⟩]) (.slice (some ⟨gg, 0, none⟩) (xs.length + 1) cap6) w6) :=
                GRow.step (x := ⟨a3, cap3, cr⟩) (g := gg) (H := wr.heap.size + 1) hrow.out W4.out HL3.out hgrow6 (by simp) rfl hat6 hown6
              have FN : Hid (gforms (xs ++ [⟨a3, cap3, cr⟩]) = rev (cs.drop k)) := by
                show _ = _
                rw [HTK.out, ← hfs.out]; simp [gforms]
              have BN : Hid (Below w1.heap.size w1 w6) := (hbr.out.trans (W4.out.mono hbr.out.size)).grown hgrow6 (Nat.le_trans hbr.out.size W4.out.size) (fun g hg => (World.ownsRow.lt hrow.out.row g hg).1)
              clear hown6 hgrow6 hat6 hlt6 HRW NEWS HBZ HL3 W4 HW4 HTK
              go_wp2_with fail
              go_roundw
              case rel => exact ⟨k, _, by omega, by go_num, RN, FN, BN⟩
              case measure => simp [intOf]
        · obtain rfl : k = 0 := by omega
          rw [show ((0 : Nat) : Int) - 1 = -1 from rfl] at hi9
          subst hi9
          obtain ⟨oa, ocap, hu9, hcl⟩ := hrow.out.clies
          rw [hfs.out, List.drop_zero] at hcl
          rw [hxk.out, Nat.sub_zero] at hu9
          subst hu9
          have BO := Lib.hid (B1.out.trans (hbr.out.mono B1.out.size))
          have HCL := Lib.hid hcl
          clear hrow hfs hbr hcl hxk hxm
          have hwl : IntKind.i64.wrap ((k2 : Int) - 1) = (k2 : Int) - 1 := IntWalk.i64_in _ (by omega)
          go_wp2_with fail
          go_loopw [13, 14] (fun o i wr => ∃ r : Nat, r ≤ k2 ∧ i = .int .i64 ((r : Int) - 1) ∧ Hid (IRow wo.heap.size (ls.drop r).reverse o wr) ∧ Hid (Below wo.heap.size wo wr)) (fun _ i _ => (intOf i + 1).toNat)
          case atStart => exact ⟨k2, Nat.le_refl _, by go_num, by show IRow _ _ _ _; rw [List.drop_of_length_le (by rw [HK2.out]; exact Nat.le_refl _)]; exact IRow.nil _ _, Below.refl _ _⟩
          case round =>
            obtain ⟨r, hr3, hi12, hir, hb4⟩ := hrel
            by_cases hltr : 0 < r
            · obtain ⟨r, rfl⟩ : ∃ r', r = r' + 1 := ⟨r - 1, by omega⟩
              rw [show ((r + 1 : Nat) : Int) - 1 = (r : Int) by omega] at hi12
              subst hi12
              obtain ⟨b5, off5, rfl, h5l, f2⟩ := HL2.out r (by rw [HK2.out]; exact hr3)
              have BW := BO.out.trans (hb4.out.mono BO.out.size)
              have f2 := (BW.cell (p := ⟨b5, off5 + r, none⟩) h5l).trans f2
              have HDR := Lib.hid (drop_revL ls r (by rw [HK2.out]; exact hr3))
              have hln : Hid ((ls.drop (r + 1)).reverse.length ≤ k2) := by show _ ≤ _; rw [List.length_reverse, List.length_drop, HK2.out]; omega
              have hrge : (r : Int) ≥ 0 := by omega
              have hrge2 : (0 : Int) ≤ (r : Int) := by omega
              have hrc : (r : Int) < (k2 : Nat) := by omega
              generalize ls.getD r 0 = y at f2 HDR
              have HAL : Hid (Below wr.heap.size wr (wr.alloc (.cells #[.int .i64 y] 3))) := (Below.refl _ wr).alloc (Nat.le_refl _) _
              have HRW : Hid ((wr.alloc (.cells #[.int .i64 y] 3)).ownsRow wo.heap.size 3 1 u13 (ls.drop (r + 1)).reverse.length ((ls.drop (r + 1)).reverse.map (Value.int .i64))) := hir.out.below HAL.out
              have NEWS := Lib.hid (World.news_of_block (cs := #[.int .i64 y]) (t := 3) (fr := (0, 0)) (heap_alloc_new wr _))
              have HB5 : Hid (Below wo.heap.size wo (wr.alloc (.cells #[.int .i64 y] 3))) := hb4.out.trans (HAL.out.mono hb4.out.size)
              have HBZ : Hid (wo.heap.size ≤ (wr.alloc (.cells #[.int .i64 y] 3)).heap.size) := HB5.out.size
              clear BW hb4
              generalize (ls.drop (r + 1)).reverse = l9 at HDR hln HRW hir
              have hln := hln.out
              go_wp2_with (at_builtin; refine wpList_append_lies _ rfl _ _ 33 rfl wo.heap.size 3 i1 _ 1 8 Try.underlying33 hi1 hy0 hy1 hy2 rfl (by omega) u13 l9.length (l9.map (Value.int .i64)) rfl HRW.out ⟨wr.heap.size, 0, none⟩ 1 1 [.int .i64 y] rfl rfl NEWS.out (by simp [Value.oneCell']) (by omega) (by unfold maxLen; omega) (by omega) HBZ.out (wr.heap.size + 1) (by simp) ?_)
              intro gg cap6 w6 hown6 hgrow6 hat6 hlt6
              have RN : Hid (IRow wo.heap.size (ls.drop r).reverse (.slice (some ⟨gg, 0, none⟩) (l9.length + 1) cap6) w6) := by
                show IRow _ _ _ _
                rw [HDR.out]; exact IRow.snoc hown6
              have BN : Hid (Below wo.heap.size wo w6) := HB5.out.grown hgrow6 HBZ.out (fun g hg => (World.ownsRow.lt HRW.out g hg).1)
              clear hown6 hgrow6 hat6 hlt6 HRW NEWS HBZ HB5 HAL HDR hir
              go_wp2_with fail
              go_roundw
              case rel => exact ⟨r, by omega, by go_num, RN, BN⟩
              case measure => simp [intOf]
            · obtain rfl : r = 0 := by omega
              rw [show ((0 : Nat) : Int) - 1 = -1 from rfl] at hi12
              subst hi12
              obtain ⟨a5, cap5, rfl, hl5⟩ := hir.out.lies
              have hlr : ls.reverse.length = k2 := by rw [List.length_reverse]; exact HK2.out
              rw [List.drop_zero] at hl5
              rw [List.drop_zero, hlr]
              have HCW : Hid (CLies wr.heap.size wr oa (rev cs)) := (HCL.out.below hb4.out).mono hb4.out.size
              have HNW : Hid (Nums wr.heap.size wr a5 ls.reverse) := hl5.nums (fun b hb => hb.2)
              have BW := Lib.hid (BO.out.trans (hb4.out.mono BO.out.size))
              have H1 := Lib.hid (HF1.out wr HLG.out (HG.out.below BW.out) BW.out)
              have H2 := Lib.hid (fun W (hW : Below wr.heap.size wr W) => HF2.out W HLG.out oa ocap ((HCW.out.below hW).mono hW.size) a5 cap5 ((HNW.out.below hW).mono hW.size))
              clear hir hl5 hb4 HF1 HF2 HCL HCW HNW BO hlr
              go_wp2_with fail
              refine H1.out.mono ?_
              rintro e w5 ⟨hb5, v5, c5, rfl, hne5, hz5⟩
              have HB5 := Lib.hid hb5
              have HNE5 := Lib.hid hne5
              have HZ5 := Lib.hid hz5
              clear hb5 hne5 hz5 H1
              go_wp2_with fail
              refine (H2.out _ HB5.out).mono ?_
              rintro e w6 ⟨hb6, v6, c6, rfl, hne6, hz6⟩
              rw [fK_rev] at hne6 hz6 ⊢
              have B6 := Lib.hid (BW.out.trans ((HB5.out.trans (hb6.mono HB5.out.size)).mono BW.out.size))
              by_cases hf : fK n cs ls = 0
              · obtain ⟨m0, A, hm0, hm8, _, hfi, hvt, hvf⟩ := HZ5.out hf
                obtain ⟨m1, A2, hm1, _, _, hfi2, hvt2, hvf2⟩ := hz6 hf
                obtain rfl : m0 = m1 := by omega
                obtain ⟨rfl, hAA⟩ := hfi.unique hfi2.rev
                rw [hf, codeV_zero]
                cases c5 with
                | true =>
                  obtain rfl := hvt rfl
                  obtain rfl := hvt2 rfl
                  have B7 := Lib.hid B6.out.drew
                  clear hfi hfi2 hvt hvf hvt2 hvf2 hAA hb6 hne6 hz6 H2 HNE5 HZ5 HB5 BW B6
                  go_wp2_with fail
                  go_region
                  all_goals
                    go_wp2_with fail
                    go_loopw [21] (fun i wr => i = .int .i64 0 ∧ Hid (Below w.heap.size w wr)) (fun _ _ => 0)
                    case atStart => exact ⟨rfl, B7⟩
                    case round =>
                      obtain ⟨rfl, hb⟩ := hrel
                      go_wp2_with fail
                      go_ret
                      exact ⟨rfl, hb.out⟩
                | false =>
                  obtain ⟨I, rfl, hI1, hI2, hA, _⟩ := hvf rfl
                  obtain ⟨I2, rfl, hJ1, hJ2, hA2, _⟩ := hvf2 rfl
                  have HCE : Hid (∀ W, Below w6.heap.size w6 W → ∀ i, i < m0 + 1 → W.cell? ⟨I, i, none⟩ = some (.int .i64 (A i)) ∧ W.cell? ⟨I2, i, none⟩ = some (.int .i64 (A i))) := fun W hW i hi =>
                    ⟨(hW.cell (p := ⟨I, i, none⟩) (Nat.lt_of_lt_of_le hI2 hb6.size)).trans ((hb6.cell (p := ⟨I, i, none⟩) hI2).trans (hA i hi)), by
                      rw [hAA rfl i (by omega)]
                      exact (hW.cell (p := ⟨I2, i, none⟩) hJ2).trans (hA2 i hi)⟩
                  clear hfi hfi2 hvt hvf hvt2 hvf2 hAA hb6 hne6 hz6 H2 HNE5 HZ5 HB5 BW hA hA2 hI1 hI2 hJ1 hJ2
                  go_wp2_with fail
                  go_region
                  all_goals
                    go_wp2_with fail
                    go_loopw [21] (fun i wr => ∃ k : Nat, k ≤ m0 + 1 ∧ i = .int .i64 k ∧ Hid (Below w6.heap.size w6 wr)) (fun i _ => m0 + 1 - (intOf i).toNat)
                    case atStart => exact ⟨0, Nat.zero_le _, rfl, (Below.refl _ _).drew⟩
                    case round =>
                      obtain ⟨k, hk, rfl, hb⟩ := hrel
                      by_cases hlt : k < m0 + 1
                      · obtain ⟨c1, c2⟩ := HCE.out _ hb.out k hlt
                        generalize A k = x at c1 c2
                        have hxx : (x != x) = false := by simp
                        have hlt2 : (k : Int) < (m0 + 1 : Nat) := by omega
                        have HBD : Hid (Below w6.heap.size w6 wr.drew) := hb.out.drew
                        clear hb
                        go_wp2_with fail
                        go_region
                        all_goals
                          go_wp2_with fail
                          go_roundw
                          case rel => exact ⟨k + 1, by omega, by go_num, HBD⟩
                          case measure => simp [intOf]; omega
                      · obtain rfl : k = m0 + 1 := by omega
                        have BE := Lib.hid (B6.out.trans (hb.out.mono B6.out.size))
                        clear hb
                        go_wp2_with fail
                        go_ret
                        exact ⟨rfl, BE.out⟩
              · obtain ⟨rfl, rfl⟩ := HNE5.out hf
                obtain ⟨rfl, rfl⟩ := hne6 hf
                rw [codeV_ne hf]
                have B7 := Lib.hid B6.out.drew
                clear hb6 hne6 hz6 H2 HNE5 HZ5 HB5 BW B6
                go_wp2_with fail
                go_region
                all_goals
                  go_wp2_with fail
                  go_loopw [21] (fun i wr => i = .int .i64 0 ∧ Hid (Below w.heap.size w wr)) (fun _ _ => 0)
                  case atStart => exact ⟨rfl, B7⟩
                  case round =>
                    obtain ⟨rfl, hb⟩ := hrel
                    go_wp2_with fail
                    go_ret
                    exact ⟨rfl, hb.out⟩
end Go.Proofs.Ytgkeipeohjkeoaa
