/- The walk of LinStays. -/
import Derived.Test.YtnefolkhoeocjaaLinK6
namespace Go.Proofs.Ytnefolkhoeocjaa
open Go.RowKit

set_option maxRecDepth 100000 in
set_option maxHeartbeats 4000000 in
theorem linStays_any (hup : UpSaid) (c x : Int) (a : Option Addr) (n cap : Nat) (l : List (Int × Int)) (w : World) (hn : l.length = n) (hreach : n * 16 ≤ 140737488351232) (hl : Lies w.heap.size w a l) (hnil : a = none → n = 0 ∧ cap = 0) :
    Calls Try.prog 8 #[.int .i64 c, .slice a n cap, .int .i64 x] w fun e w' => e = .returned (.bool true) ∧ Below w.heap.size w w' := by
  obtain ⟨c', R', z, r, h64, hz, hmk, hco⟩ := make_det c l (by omega)
  obtain ⟨c2, R2, z2, r2, h642, had, hco2⟩ := add_det c' c' x 1 R' R' (by omega) (by omega)
  have HN := Lib.hid hn
  have HL := Lib.hid hl
  have HNIL := Lib.hid hnil
  have HMK := Lib.hid hmk
  have HCO := Lib.hid hco
  have HAD := Lib.hid had
  have HCO2 := Lib.hid hco2
  have HZ := Lib.hid hz
  clear hn hl hnil hmk hco had hco2 hz
  go_enter Try.func8, Try.ntmps8
  go_wp2_with fail
  refine (hup _).mono ?_
  rintro e w1 ⟨rfl, hb1⟩
  have B1 := Lib.hid hb1
  clear hb1
  have hown0 : Hid ((w1.alloc (.cells #[] 50)).ownsRow w1.heap.size 50 2 (.slice (some ⟨w1.heap.size, 0, none⟩) 0 0) 0 []) := World.ownsRow_made w1 #[] 0 (Nat.le_refl _) (by decide) rfl
  have HA1 : Hid (Below w1.heap.size w1 (w1.alloc (.cells #[] 50))) := (Below.refl _ w1).alloc (Nat.le_refl _) _
  go_wp2_with (at_builtin; refine wpList_append_src rfl _ _ rfl w1.heap.size w.heap.size _ rfl hown0.out a n cap l rfl (HL.out.below (B1.out.trans (HA1.out.mono B1.out.size))) HN.out HNIL.out hreach ?c1 ?_)
  case c1 => simp
  intro a2 cap2 w2 hrow2 hgrow2
  have B2 : Hid (Below w1.heap.size w1 w2) := HA1.out.grown hgrow2 (by simp) (fun k hk => by have := hown0.out.lt k hk; exact this.1)
  have R2a := Lib.hid hrow2
  have zz : Hid (w1.heap.size < w2.heap.size) := by have := hgrow2.size; simp at this; show _ < _; omega
  have hmk2 := HMK.out a2 n cap2 w2 HN.out hrow2.lies2 (fun e => by subst e; obtain ⟨a', cap', e, _, hh⟩ := hrow2.lies; injection e with e1 e2 e3; subst e1 e3; rw [← HN.out]; exact hh rfl)
  clear hrow2 hgrow2
  go_wp2_with fail
  refine hmk2.mono ?_
  rintro e w3 ⟨v3, rfl, hrow3, hb3⟩
  obtain ⟨a3, cap3, rfl, _, _⟩ := hrow3.lies
  have R3 := Lib.hid hrow3
  have B3 := Lib.hid hb3
  clear hrow3 hb3 hmk2
  have z2 : w1.heap.size < w2.heap.size := by have := zz.out; exact this
  obtain ⟨G, hG1, hG2, hG3, hG4⟩ := R2a.out.at HN.out z2
  have BW3 : Hid (Below w.heap.size w (w3.alloc (.cells #[.int .i64 c', .slice a3 R'.length cap3] 24))) :=
    (B1.out.trans ((B2.out.mono B1.out.size).trans (B3.out.mono (Nat.le_trans B1.out.size B2.out.size)))).alloc (Nat.le_trans B1.out.size (Nat.le_trans B2.out.size B3.out.size)) _
  have B23 : Hid (Below w2.heap.size w2 (w3.alloc (.cells #[.int .i64 c', .slice a3 R'.length cap3] 24))) := B3.out.alloc B3.out.size _
  have I0 : Hid (∀ j, 0 ≤ j → j < n → a2 = some ⟨G, 0, none⟩ ∧ (∀ o, (w3.alloc (.cells #[.int .i64 c', .slice a3 R'.length cap3] 24)).frozen? ⟨G, o, none⟩ = false) ∧ (w3.alloc (.cells #[.int .i64 c', .slice a3 R'.length cap3] 24)).cell? ⟨G, j * 2, none⟩ = some (.int .i64 (l.getD j (0, 0)).1) ∧ (w3.alloc (.cells #[.int .i64 c', .slice a3 R'.length cap3] 24)).cell? ⟨G, j * 2 + 1, none⟩ = some (.int .i64 (l.getD j (0, 0)).2)) := fun j _ hj => by
    obtain ⟨e1, e2, e3, e4⟩ := hG4 j hj
    exact ⟨e1, fun o => (B23.out.frozen (p := ⟨G, o, none⟩) hG2).trans (e2 o), (B23.out.cell (p := ⟨G, j * 2, none⟩) hG2).trans e3, (B23.out.cell (p := ⟨G, j * 2 + 1, none⟩) hG2).trans e4⟩
  have HG3 := Lib.hid hG3
  clear hG3 hG4
  go_wp2_with fail
  go_loopw [11] (fun i wr => ∃ k : Nat, k ≤ n ∧ i = .int .i64 k ∧ Hid ((w3.alloc (.cells #[.int .i64 c', .slice a3 R'.length cap3] 24)).grownBy wr (some G)) ∧ Hid (∀ j, k ≤ j → j < n → a2 = some ⟨G, 0, none⟩ ∧ (∀ o, wr.frozen? ⟨G, o, none⟩ = false) ∧ wr.cell? ⟨G, j * 2, none⟩ = some (.int .i64 (l.getD j (0, 0)).1) ∧ wr.cell? ⟨G, j * 2 + 1, none⟩ = some (.int .i64 (l.getD j (0, 0)).2))) (fun i _ => n - (intOf i).toNat)
  case atStart => exact ⟨0, Nat.zero_le _, rfl, World.grownBy.refl _ _, I0⟩
  case round =>
    obtain ⟨k, hk, rfl, hgr, hI⟩ := hrel
    obtain ⟨wo, rfl⟩ : ∃ wo : World, wo = wr := ⟨_, rfl⟩
    have bw : Hid (Below w.heap.size w wo) := BW3.out.grown hgr.out BW3.out.size (fun k hk => by injection hk with hk; subst hk; have := B1.out.size; omega)
    by_cases hlt : k < n
    · obtain ⟨e1, fG, g1, g2⟩ := hI.out k (Nat.le_refl _) hlt
      obtain ⟨b, off, rfl, hblt, c1, c2⟩ := (HL.out.below bw.out) k (by rw [HN.out]; exact hlt)
      have gz : G < wo.heap.size := by have h1 := hgr.out.size; have h2 := B23.out.size; omega
      have bz : b < wo.heap.size := by have h1 := bw.out.size; omega
      have HI2 : Hid (∀ (q : Nat) (y1 y2 : Value) j, k + 1 ≤ j → j < n → a2 = some ⟨G, 0, none⟩ ∧ (∀ o, (((wo.drewN q).setCell ⟨G, k * 2, none⟩ y1).setCell ⟨G, k * 2 + 1, none⟩ y2).frozen? ⟨G, o, none⟩ = false) ∧ (((wo.drewN q).setCell ⟨G, k * 2, none⟩ y1).setCell ⟨G, k * 2 + 1, none⟩ y2).cell? ⟨G, j * 2, none⟩ = some (.int .i64 (l.getD j (0, 0)).1) ∧ (((wo.drewN q).setCell ⟨G, k * 2, none⟩ y1).setCell ⟨G, k * 2 + 1, none⟩ y2).cell? ⟨G, j * 2 + 1, none⟩ = some (.int .i64 (l.getD j (0, 0)).2)) := fun q y1 y2 j hkj hj => by
        obtain ⟨f1, f2, f3, f4⟩ := hI.out j (by omega) hj
        refine ⟨f1, fun o => by rw [World.frozen?_setCell, World.frozen?_setCell]; exact f2 o, ?_, ?_⟩
        · rw [World.cell?_setCell_other _ _ _ _ (by simp <;> omega), World.cell?_setCell_other _ _ _ _ (by simp <;> omega)]; exact f3
        · rw [World.cell?_setCell_other _ _ _ _ (by simp <;> omega), World.cell?_setCell_other _ _ _ _ (by simp <;> omega)]; exact f4
      subst e1
      generalize l.getD k (0, 0) = p at g1 g2 c1 c2
      obtain ⟨v, u⟩ := p
      have hne : ∀ W, (binOp .neq 50 (.agg #[.int .i64 v, .int .i64 u]) (.agg #[.int .i64 v, .int .i64 u])).run Try.prog W = .ok (.bool false) W := fun W => by rw [Try.neMono]; simp
      go_wp2_with fail
      go_quiet (fail)
      go_wp2
      go_roundw
      case rel => exact ⟨k + 1, by omega, by go_num, grown_set (grown_set (grown_drewN hgr.out _)), HI2.out _ _ _⟩
      case measure => simp [intOf]; omega
    · clear hI
      have R3o : Hid (Row w2.heap.size R' (.slice a3 R'.length cap3) wo) := Row.grown (Row.alloc R3.out _) hgr.out (fun g hg e => by injection e with e; subst e; have := World.ownsRow.lt R3.out _ hg; omega)
      have p0 : Hid (wo.cell? ⟨w3.heap.size, 0, none⟩ = some (.int .i64 c')) := hgr.out.cell (by simp) (fun e => absurd e (by have := B3.out.size; simp; omega))
      have p1 : Hid (wo.cell? ⟨w3.heap.size, 1, none⟩ = some (.slice a3 R'.length cap3)) := hgr.out.cell (by simp) (fun e => absurd e (by have := B3.out.size; simp; omega))
      have zo : w3.heap.size < wo.heap.size := by have := hgr.out.size; simp at this; omega
      have s23 : Hid (w2.heap.size ≤ w3.heap.size) := B3.out.size
      have s12 : Hid (w.heap.size ≤ w2.heap.size) := Nat.le_trans B1.out.size B2.out.size
      have hob : Hid (∀ g, (Value.slice a3 R'.length cap3).ownBlock = some g → w2.heap.size ≤ g ∧ g < w3.heap.size) := fun g hg => World.ownsRow.lt R3.out g hg
      clear hgr
      go_wp2_with fail
      refine (HMK.out a n cap wo HN.out ((HL.out.below bw.out).mono bw.out.size) HNIL.out).mono ?_
      rintro e w5 ⟨v5, rfl, hrow5, hb5⟩
      obtain ⟨a5, cap5, rfl, _, _⟩ := hrow5.lies
      have R5 := Lib.hid hrow5
      have B5 := Lib.hid hb5
      have R35 : Hid (Row w2.heap.size R' (.slice a3 R'.length cap3) w5) := R3o.out.below B5.out
      have q0 : w5.cell? ⟨w3.heap.size, 0, none⟩ = some (.int .i64 c') := (hb5.cell (p := ⟨w3.heap.size, 0, none⟩) zo).trans p0.out
      have q1 : w5.cell? ⟨w3.heap.size, 1, none⟩ = some (.slice a3 R'.length cap3) := (hb5.cell (p := ⟨w3.heap.size, 1, none⟩) zo).trans p1.out
      have zq : w3.heap.size < w5.heap.size := by have := hb5.size; omega
      have s5 : Hid (wo.heap.size ≤ w5.heap.size) := hb5.size
      have s3o : Hid (w3.heap.size < wo.heap.size) := zo
      have BW5 : Hid (Below w.heap.size w (w5.alloc (.cells #[.int .i64 c', .slice a5 R'.length cap5] 24))) := (bw.out.trans (hb5.mono bw.out.size)).alloc (Nat.le_trans bw.out.size hb5.size) _
      have B5c : Hid (Below w5.heap.size w5 (w5.alloc (.cells #[.int .i64 c', .slice a5 R'.length cap5] 24))) := (Below.refl _ w5).alloc (Nat.le_refl _) _
      have hsm : same c' c' R' R' = true := by unfold same; simp
      have HSM := Lib.hid (fun W (hb : Below w5.heap.size w5 W) => same_any c' c' a3 a5 R'.length R'.length cap3 cap5 R' R' W rfl rfl (by omega) (by omega) ((R35.out.lies2.below hb).mono hb.size) ((hrow5.lies2.below hb).mono hb.size))
      rw [hsm] at HSM
      have er : (r == r) = true := by simp
      clear hrow5 hb5 p0 p1
      rcases HZ.out with rfl | ⟨kz, rfl⟩
      · go_wp2_with fail
        refine (HSM.out _ B5c.out).mono ?_
        rintro e w6 ⟨rfl, hb6⟩
        have B56 : Hid (Below w5.heap.size w5 w6) := B5c.out.trans (hb6.mono B5c.out.size)
        have BW6 : Hid (Below w.heap.size w w6) := BW5.out.trans (hb6.mono BW5.out.size)
        have r0 : w6.cell? ⟨w3.heap.size, 0, none⟩ = some (.int .i64 c') := (B56.out.cell (p := ⟨w3.heap.size, 0, none⟩) zq).trans q0
        have r1 : w6.cell? ⟨w3.heap.size, 1, none⟩ = some (.slice a3 R'.length cap3) := (B56.out.cell (p := ⟨w3.heap.size, 1, none⟩) zq).trans q1
        have m0 : w6.cell? ⟨w5.heap.size, 0, none⟩ = some (.int .i64 c') := (hb6.cell (p := ⟨w5.heap.size, 0, none⟩) (by simp)).trans (by simp)
        have m1 : w6.cell? ⟨w5.heap.size, 1, none⟩ = some (.slice a5 R'.length cap5) := (hb6.cell (p := ⟨w5.heap.size, 1, none⟩) (by simp)).trans (by simp)
        have z5 : w5.heap.size < w6.heap.size := by have := hb6.size; simp at this; omega
        have zr : w3.heap.size < w6.heap.size := by omega
        clear q0 q1 zq hb6 zo
        go_wp2_with fail
        refine (HAD.out a3 a3 cap3 cap3 w6 ((R35.out.lies2.below B56.out).mono B56.out.size) ((R35.out.lies2.below B56.out).mono B56.out.size)).mono ?_
        rintro e w7 ⟨v7, rfl, hrow7, hb7⟩
        obtain ⟨a7, cap7, rfl, _, _⟩ := hrow7.lies
        have R7 := Lib.hid hrow7
        have B57 : Hid (Below w5.heap.size w5 w7) := B56.out.trans (hb7.mono B56.out.size)
        have B57c : Hid (Below w5.heap.size w5 (w7.alloc (.cells #[.int .i64 c2, .slice a7 R2.length cap7] 24))) := B57.out.alloc B57.out.size _
        have BW7 : Hid (Below w.heap.size w (w7.alloc (.cells #[.int .i64 c2, .slice a7 R2.length cap7] 24))) := (BW6.out.trans (hb7.mono BW6.out.size)).alloc (Nat.le_trans BW6.out.size hb7.size) _
        have r70 : w7.cell? ⟨w3.heap.size, 0, none⟩ = some (.int .i64 c') := (hb7.cell (p := ⟨w3.heap.size, 0, none⟩) zr).trans r0
        have r71 : w7.cell? ⟨w3.heap.size, 1, none⟩ = some (.slice a3 R'.length cap3) := (hb7.cell (p := ⟨w3.heap.size, 1, none⟩) zr).trans r1
        have m70 : w7.cell? ⟨w5.heap.size, 0, none⟩ = some (.int .i64 c') := (hb7.cell (p := ⟨w5.heap.size, 0, none⟩) z5).trans m0
        have m71 : w7.cell? ⟨w5.heap.size, 1, none⟩ = some (.slice a5 R'.length cap5) := (hb7.cell (p := ⟨w5.heap.size, 1, none⟩) z5).trans m1
        have z57 : w5.heap.size < w7.heap.size := by have := hb7.size; omega
        have zr7 : w3.heap.size < w7.heap.size := by have := hb7.size; omega
        have s67 : Hid (w6.heap.size ≤ w7.heap.size) := hb7.size
        have s56 : Hid (w5.heap.size < w6.heap.size) := z5
        have s35 : Hid (w3.heap.size < w6.heap.size) := zr
        clear r0 r1 m0 m1 z5 zr hrow7 hb7
        go_wp2_with fail
        refine (HSM.out _ B57c.out).mono ?_
        rintro e w8 ⟨rfl, hb8⟩
        have B58 : Hid (Below w5.heap.size w5 w8) := B57c.out.trans (hb8.mono B57c.out.size)
        have BW8 : Hid (Below w.heap.size w w8) := BW7.out.trans (hb8.mono BW7.out.size)
        have r80 : Hid (w8.cell? ⟨w3.heap.size, 1, none⟩ = some (.slice a3 R'.length cap3)) := by
          show _ = _
          rw [hb8.cell (p := ⟨w3.heap.size, 1, none⟩) (by simp; omega), World.cell?_alloc_lt _ _ _ zr7]; exact r71
        have m80 : Hid (w8.cell? ⟨w5.heap.size, 0, none⟩ = some (.int .i64 c')) := by
          show _ = _
          rw [hb8.cell (p := ⟨w5.heap.size, 0, none⟩) (by simp; omega), World.cell?_alloc_lt _ _ _ z57]; exact m70
        have m81 : Hid (w8.cell? ⟨w5.heap.size, 1, none⟩ = some (.slice a5 R'.length cap5)) := by
          show _ = _
          rw [hb8.cell (p := ⟨w5.heap.size, 1, none⟩) (by simp; omega), World.cell?_alloc_lt _ _ _ z57]; exact m71
        have n80 : Hid (w8.cell? ⟨w7.heap.size, 0, none⟩ = some (.int .i64 c2)) := (hb8.cell (p := ⟨w7.heap.size, 0, none⟩) (by simp)).trans (by simp)
        have n81 : Hid (w8.cell? ⟨w7.heap.size, 1, none⟩ = some (.slice a7 R2.length cap7)) := (hb8.cell (p := ⟨w7.heap.size, 1, none⟩) (by simp)).trans (by simp)
        have R78 : Hid (Row w6.heap.size R2 (.slice a7 R2.length cap7) w8) := Row.below (Row.alloc R7.out _) hb8
        have R38 : Hid (Row w2.heap.size R' (.slice a3 R'.length cap3) w8) := R35.out.below B58.out
        have R58 : Hid (Row wo.heap.size R' (.slice a5 R'.length cap5) w8) := R5.out.below B58.out
        have z78 : Hid (w7.heap.size < w8.heap.size) := by have := hb8.size; simp at this; show _ < _; omega
        have z2_8 : w2.heap.size < w8.heap.size := by have := s23.out; have := z78.out; omega
        obtain ⟨G3, hK1, hK2, hK3, hK4⟩ := R38.out.at rfl z2_8
        have J0 : Hid (∀ j, 0 ≤ j → j < R'.length → a3 = some ⟨G3, 0, none⟩ ∧ (∀ o, w8.frozen? ⟨G3, o, none⟩ = false) ∧ w8.cell? ⟨G3, j * 2 + 1, none⟩ = some (.int .i64 (R'.getD j (0, 0)).2)) := fun j _ hj => ⟨(hK4 j hj).1, (hK4 j hj).2.1, (hK4 j hj).2.2.2⟩
        have s37 : Hid (w3.heap.size < w7.heap.size) := zr7
        clear r70 r71 m70 m71 z57 zr7 hb8 hK3 hK4
        go_wp2_with fail
        go_loopw [18] (fun i wr => ∃ k : Nat, k ≤ R'.length ∧ i = .int .i64 k ∧ Hid (w8.grownBy wr (Value.slice a3 R'.length cap3).ownBlock) ∧ Hid (∀ j, k ≤ j → j < R'.length → a3 = some ⟨G3, 0, none⟩ ∧ (∀ o, wr.frozen? ⟨G3, o, none⟩ = false) ∧ wr.cell? ⟨G3, j * 2 + 1, none⟩ = some (.int .i64 (R'.getD j (0, 0)).2))) (fun i _ => R'.length - (intOf i).toNat)
        case atStart => exact ⟨0, Nat.zero_le _, rfl, World.grownBy.refl _ _, J0⟩
        case round =>
          obtain ⟨k, hk, rfl, hgr, hJ⟩ := hrel
          have far : Hid (∀ N, w3.heap.size ≤ N → some N ≠ (Value.slice a3 R'.length cap3).ownBlock) := fun N hN e => by have := hob.out N e.symm; omega
          have t1 : wr.cell? ⟨w3.heap.size, 1, none⟩ = some (.slice a3 R'.length cap3) := hgr.out.cell r80.out (far.out _ (Nat.le_refl _))
          have tz : w3.heap.size < wr.heap.size := by have h1 := hgr.out.size; have h2 := s37.out; have h3 := z78.out; omega
          by_cases hlt : k < R'.length
          · obtain ⟨e1, fG, g2⟩ := hJ.out k (Nat.le_refl _) hlt
            have HJ2 : Hid (∀ y j, k + 1 ≤ j → j < R'.length → a3 = some ⟨G3, 0, none⟩ ∧ (∀ o, (wr.setCell ⟨G3, k * 2 + 1, none⟩ y).frozen? ⟨G3, o, none⟩ = false) ∧ (wr.setCell ⟨G3, k * 2 + 1, none⟩ y).cell? ⟨G3, j * 2 + 1, none⟩ = some (.int .i64 (R'.getD j (0, 0)).2)) := fun y j hkj hj => by
              obtain ⟨f1, f2, f4⟩ := hJ.out j (by omega) hj
              exact ⟨f1, fun o => by rw [World.frozen?_setCell]; exact f2 o, by rw [World.cell?_setCell_other _ _ _ _ (by simp <;> omega)]; exact f4⟩
            have HG2 : Hid (∀ y, w8.grownBy (wr.setCell ⟨G3, k * 2 + 1, none⟩ y) (Value.slice a3 R'.length cap3).ownBlock) := fun y => by
              have := hgr.out
              rw [e1] at this ⊢
              exact grown_set this
            have gz : G3 < wr.heap.size := by have := hgr.out.size; omega
            subst e1
            generalize (R'.getD k (0, 0)).2 = u at g2
            go_wp2_with fail
            go_roundw
            case rel => exact ⟨k + 1, by omega, by go_num, HG2.out _, fun j h1 h2 => ⟨trivial, (HJ2.out _ j h1 h2).2⟩⟩
            case measure => simp [intOf]; omega
          · clear hJ
            have u1 := s3o.out
            have u2 := s5.out
            have u3 := s56.out
            have u4 := s67.out
            have u5' := z78.out
            have u6' := hgr.out.size
            have m90 : wr.cell? ⟨w5.heap.size, 0, none⟩ = some (.int .i64 c') := hgr.out.cell m80.out (far.out _ (by show w3.heap.size ≤ w5.heap.size; omega))
            have m91 : wr.cell? ⟨w5.heap.size, 1, none⟩ = some (.slice a5 R'.length cap5) := hgr.out.cell m81.out (far.out _ (by show w3.heap.size ≤ w5.heap.size; omega))
            have n90 : Hid (wr.cell? ⟨w7.heap.size, 0, none⟩ = some (.int .i64 c2)) := hgr.out.cell n80.out (far.out _ (by show w3.heap.size ≤ w7.heap.size; omega))
            have n91 : Hid (wr.cell? ⟨w7.heap.size, 1, none⟩ = some (.slice a7 R2.length cap7)) := hgr.out.cell n81.out (far.out _ (by show w3.heap.size ≤ w7.heap.size; omega))
            have R59 : Hid (Row wo.heap.size R' (.slice a5 R'.length cap5) wr) := R58.out.grown hgr.out (fun g hg e => by have h1 := hob.out g e; have h2 := (World.ownsRow.lt R58.out g hg).1; omega)
            have R79 : Hid (Row w6.heap.size R2 (.slice a7 R2.length cap7) wr) := R78.out.grown hgr.out (fun g hg e => by have h1 := hob.out g e; have h2 := (World.ownsRow.lt R78.out g hg).1; omega)
            have BW9 : Hid (Below w.heap.size w wr) := BW8.out.grown hgr.out BW8.out.size (fun g hg => by have h1 := hob.out g hg; have h2 := s12.out; omega)
            have tz5 : w5.heap.size < wr.heap.size := by omega
            have tz7 : Hid (w7.heap.size < wr.heap.size) := by show _ < _; omega
            clear hgr far u1 u2 u3 u4 u5' u6'
            go_wp2_with fail
            refine (HAD.out a5 a5 cap5 cap5 wr R59.out.lies2 R59.out.lies2).mono ?_
            rintro e w10 ⟨v10, rfl, hrow10, hb10⟩
            obtain ⟨a10, cap10, rfl, _, _⟩ := hrow10.lies
            have n100 : w10.cell? ⟨w7.heap.size, 0, none⟩ = some (.int .i64 c2) := (hb10.cell (p := ⟨w7.heap.size, 0, none⟩) tz7.out).trans n90.out
            have n101 : w10.cell? ⟨w7.heap.size, 1, none⟩ = some (.slice a7 R2.length cap7) := (hb10.cell (p := ⟨w7.heap.size, 1, none⟩) tz7.out).trans n91.out
            have tz10 : w7.heap.size < w10.heap.size := by have := hb10.size; have := tz7.out; omega
            have B10c : Hid (Below w10.heap.size w10 (w10.alloc (.cells #[.int .i64 c2, .slice a10 R2.length cap10] 24))) := (Below.refl _ w10).alloc (Nat.le_refl _) _
            have BW10 : Hid (Below w.heap.size w (w10.alloc (.cells #[.int .i64 c2, .slice a10 R2.length cap10] 24))) := (BW9.out.trans (hb10.mono BW9.out.size)).alloc (Nat.le_trans BW9.out.size hb10.size) _
            have HSN := Lib.hid (fun W (hb : Below w10.heap.size w10 W) => same_any c2 c2 a7 a10 R2.length R2.length cap7 cap10 R2 R2 W rfl rfl (by omega) (by omega) ((((R79.out.lies2.below hb10).mono hb10.size).below hb).mono hb.size) ((hrow10.lies2.below hb).mono hb.size))
            have hsn : same c2 c2 R2 R2 = true := by unfold same; simp
            rw [hsn] at HSN
            have er2 : (r2 == r2) = true := by simp
            clear hrow10 hb10 m90 m91 hsn
            go_wp2_with (first | (go_at_call 17; refine (HCO2.out _).mono ?_; rintro e w' ⟨rfl, rfl⟩) | (go_at_call 16; refine (HSN.out _ B10c.out).mono ?_; rintro e w11 ⟨rfl, hb11⟩))
            go_ret
            exact ⟨rfl, BW10.out.trans (hb11.mono BW10.out.size)⟩
      · go_wp2_with (go_at_call 17; refine (HCO.out _).mono ?_; rintro e w' ⟨rfl, rfl⟩)
        go_ret
        exact ⟨rfl, BW5.out⟩
end Go.Proofs.Ytnefolkhoeocjaa
