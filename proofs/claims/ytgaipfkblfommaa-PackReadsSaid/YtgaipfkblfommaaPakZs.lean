/- The document's reader: steps. -/
import Derived.Test.YtgaipfkblfommaaPakZc
import Derived.Test.YtgaipfkblfommaaPakUa
set_option linter.unusedVariables false
set_option linter.unusedSimpArgs false
namespace Go.Proofs.Ytgaipfkblfommaa
set_option maxRecDepth 100000
open Go.RowKit

theorem Dc.slot {T : Type} {sh : Sh T} {e : TypeId} {p : Ps T} {g h j : Nat} {l : List UInt8} {w : World} {o : Option (Nat × List UInt8)} {n k : Nat} {xs : List T} {sk : Option (List UInt8)} {u : Value} {wr : World} (H : Dc sh e p g l h j w o n k xs sk u wr) (hn : n ≤ 4194304) : Slot sh (fun b => w.heap.size ≤ b ∧ b < wr.heap.size) wr u xs := by
  have h1 := H.lp.len
  have h2 := H.lp.le
  exact H.own.sits (by omega)
theorem seq_end {A B C : Type} {p1 : Ps A} {p2 : Ps B} {f : A → B → C} {st : Option (List UInt8)} {a : A} {b : B} (h1 : ∀ y r, st.bind p1 = some (y, r) → a = y) (h2 : ∀ y r, (nxt p1 st).bind p2 = some (y, r) → b = y) : ∀ y r, st.bind (pSeq p1 p2 f) = some (y, r) → f a b = y := fun y r e => by
  obtain ⟨a', b', r1, e1, e2, rfl⟩ := seq_val e
  rw [h1 a' r1 e1, h2 b' r e2]
set_option maxHeartbeats 16000000 in
theorem dsteps_any (g : Nat) (l : List UInt8) (st : Option (List UInt8)) (w : World) (h : DRt g l st w) :
    Calls Try.prog 44 #[.pointer (some ⟨g, 0, none⟩)] w (DEnd (Vr stepSh) (pEach pStep) g l st w) := by
  have HM := Lib.hid (many_any g l st w h)
  have hgw := h.lt
  clear h
  go_enter Try.func44, Try.ntmps44
  go_wp2_with fail
  refine HM.out.mono ?_
  rintro e w1 ⟨n, at', bad, rfl, hdr, hle, hk1, hbeh⟩
  have hnb : n ≤ 4194304 := by have := hdr.len; omega
  have HDS : Hid (Ds stepSh 80 pStep g l w (st.bind pMany) n 0 [] ((st.bind pMany).map Prod.snd) (.slice none 0 0) w1) := ⟨hdr.of_beh hbeh, Own.nil _ _ _ _, hk1, Lp.start pStep hbeh⟩
  clear hdr hbeh hk1 hle HM
  go_wp2_with fail
  go_loopw [4, 5] (fun u i wr => ∃ (k : Nat) (xs : List Step) (sk : Option (List UInt8)), i = .int .i64 k ∧ k ≤ n ∧ Hid (Ds stepSh 80 pStep g l w (st.bind pMany) n k xs sk u wr)) (fun _ i _ => n - (intOf i).toNat)
  case atStart => exact ⟨0, [], _, rfl, Nat.zero_le _, HDS⟩
  case round =>
    clear HDS
    obtain ⟨k, xs, sk, rfl, hk, hE⟩ := hrel
    by_cases hlt : k < n
    · have hlti : (k : Int) < (n : Int) := by omega
      have g2 := hE.out.rs.flag.1
      cases sk with
      | none =>
        have HE := Lib.hid (hE.out.done hnb (.inr rfl))
        clear hE
        go_wp2_with fail
        go_ret
        exact HE.out
      | some r =>
        have HA : Hid (Below wr.heap.size wr (wr.alloc (.cells #[.slice none 0 0, .int .i64 0] 80))) := (Below.refl _ _).alloc (Nat.le_refl _) _
        have hgr : g < wr.heap.size := hE.out.rs.lt
        have hne : wr.heap.size ≠ g := by omega
        have hsz : (wr.alloc (.cells #[.slice none 0 0, .int .i64 0] 80)).heap.size = wr.heap.size + 1 := by simp
        have z0 := cell_of_row (wr.alloc (.cells #[.slice none 0 0, .int .i64 0] 80)) wr.heap.size 0 _ _ _ (heap_alloc_new wr _)
        have z1 := cell_of_row (wr.alloc (.cells #[.slice none 0 0, .int .i64 0] 80)) wr.heap.size 1 _ _ _ (heap_alloc_new wr _)
        have zf := fun j => frozen_new wr #[.slice none 0 0, .int .i64 0] 80 j
        have HM2 := Lib.hid (many_any g l (some r) _ (hE.out.rs.below HA.out))
        have HZ := Lib.hid (And.intro z0 (And.intro z1 (And.intro zf hsz)))
        clear z0 z1 zf hsz
        go_wp2_with fail
        refine HM2.out.mono ?_
        rintro e w2 ⟨m, at2, bad2, rfl, hdr2, hle2, hk2, hbeh2⟩
        have hmb : m ≤ 4194304 := by have := hdr2.len; omega
        obtain ⟨z0, z1, zf, hsz⟩ := HZ.out
        have hs2 := hk2.size
        have HLT : Hid (wr.heap.size < w2.heap.size) := Lib.hid (by omega)
        have c0 := (hk2.cell (h := wr.heap.size) (by omega) hne 0).trans (z0.trans rfl)
        have HZ1 : Hid (w2.cell? ⟨wr.heap.size, 1, none⟩ = some (.int .i64 0)) := Lib.hid ((hk2.cell (h := wr.heap.size) (by omega) hne 1).trans (z1.trans rfl))
        have HK2 : Hid (KeptG g wr w2) := Lib.hid ((KeptG.of_below HA.out).trans hk2)
        have HDC : Hid (Dc partSh 99 pPart g l wr.heap.size 0 w2 ((some r).bind pMany) m 0 [] (((some r).bind pMany).map Prod.snd) (.slice none 0 0) w2) := Lib.hid ⟨hdr2.of_beh hbeh2, Own.nil _ _ _ _, c0, fun j => (hk2.frozen (h := wr.heap.size) (by omega) hne j).trans (zf j), fun _ _ => rfl, KeptH.refl _ _ _, Lp.start pPart hbeh2, HLT.out, hgr⟩
        have HW2 : Hid (wr.heap.size < w2.heap.size) := HLT
        clear hdr2 hle2 hk2 hbeh2 z0 z1 zf hsz hs2 HZ HA HM2 c0 g2
        go_wp2_with fail
        go_loopw [8] (fun i w3 => ∃ (j : Nat) (ps : List Part) (si : Option (List UInt8)) (ui : Value), i = .int .i64 j ∧ j ≤ m ∧ Hid (Dc partSh 99 pPart g l wr.heap.size 0 w2 ((some r).bind pMany) m j ps si ui w3)) (fun i _ => m - (intOf i).toNat)
        case atStart => exact ⟨0, [], _, _, rfl, Nat.zero_le _, HDC⟩
        case round =>
          clear HDC
          rename World => w3
          obtain ⟨j, ps, si, ui, rfl, hj, HI⟩ := hrel
          have HKS : Hid (w2.heap.size ≤ w3.heap.size) := Lib.hid HI.out.kept.size
          by_cases hltj : j < m
          · have hltji : (j : Int) < (m : Int) := by omega
            have g2 := HI.out.rs.flag.1
            cases si with
            | none =>
              -- behind the parts
              have HSL := Lib.hid (HI.out.slot hmb)
              have HNX := Lib.hid (HI.out.lp.nxt (.inr rfl))
              have HKH := Lib.hid (KeptH.to (HK2.out) HI.out.kept (Nat.le_refl _))
              have HSP := Lib.hid (And.intro HI.out.cell (And.intro HI.out.fr (And.intro (HI.out.oth 1 (by decide)) HI.out.lt)))
              have HNU := Lib.hid (rnum_any g l _ w3 HI.out.rs)
              clear HI
              go_wp2_with fail
              refine HNU.out.mono ?_
              rintro e w4 ⟨v4, d, rfl, ⟨rfl, hd⟩, hst4, hx4, hk4⟩
              obtain ⟨s0, sf, s1, hltw⟩ := HSP.out
              have hsz3 := hk4.size
              have hlt3 : wr.heap.size < w3.heap.size := Nat.lt_of_lt_of_le HLT.out HKS.out
              have q0 := (hk4.cell hlt3 hne 0).trans s0
              have q1 := (hk4.cell hlt3 hne 1).trans (s1.trans HZ1.out)
              have qf1 := (hk4.frozen hlt3 hne 1).trans (sf 1)
              have FR : Far wr.heap.size w4 (w4.setCell ⟨wr.heap.size, 1, none⟩ (.int .i64 d)) := (Far.refl _ _).set _
              have e1 : (w4.setCell ⟨wr.heap.size, 1, none⟩ (.int .i64 d)).cell? ⟨wr.heap.size, 1, none⟩ = some (.int .i64 d) := World.cell?_setCell_same' _ _ _ (by rw [q1]; rfl)
              have e0 : (w4.setCell ⟨wr.heap.size, 1, none⟩ (.int .i64 d)).cell? ⟨wr.heap.size, 0, none⟩ = some ui := (World.cell?_setCell_other _ ⟨wr.heap.size, 1, none⟩ ⟨wr.heap.size, 0, none⟩ _ (by simp)).trans q0
              have HKF : KeptG g wr (w4.setCell ⟨wr.heap.size, 1, none⟩ (.int .i64 d)) := (HKH.out.trans hk4).far FR (Nat.le_refl _)
              have hfs := FR.size
              have hsl : Slot partSh (fun b => wr.heap.size ≤ b ∧ b < (w4.setCell ⟨wr.heap.size, 1, none⟩ (.int .i64 d)).heap.size) (w4.setCell ⟨wr.heap.size, 1, none⟩ (.int .i64 d)) ui ps := by
                have hw2 := HW2.out
                refine (HSL.out.keep (S' := fun b => w2.heap.size ≤ b ∧ b < w4.heap.size) (fun b ⟨a1, a2⟩ => ⟨a1, Nat.lt_of_lt_of_le a2 hsz3⟩) (fun b o ⟨a1, a2⟩ => World.cell?_of_block (hk4.block b a2 (by omega)))).far FR (fun b ⟨a1, a2⟩ => ⟨by omega, by omega⟩) (fun b ⟨a1, a2⟩ => by omega)
              obtain ⟨v6, w6, hr6, hd6⟩ := hE.out.step (P := Try.prog) (t := 75) Try.underlying75 Try.eachStepInfo (by decide) (by decide) hlt hnb hgw (w5 := w4.setCell ⟨wr.heap.size, 1, none⟩ (.int .i64 d)) (x := ⟨ps, d⟩) (by
                  have e : nxt pStep (some r) = nxt pNum (nxt (pEach pPart) (some r)) := seq_nxt (pEach pPart) pNum Step.mk (some r)
                  rw [e, HNX.out.1]
                  exact hst4.low (FR.below (B := wr.heap.size) (Nat.le_refl _)) hgr) (seq_end HNX.out.2 (by rw [HNX.out.1]; exact hx4)) HKF (cs := [ui, .int .i64 d]) ⟨_, rfl, hd, hsl⟩
              have HEG := Lib.hid hd6
              rw [hfs] at hr6
              obtain ⟨ai, capi, rfl, _⟩ := hsl
              clear hd hst4 hx4 hk4 hE hd6 HSL HNX HKH HSP HNU s0 sf s1 FR HKF q0
              go_wp2_with (at_builtin; refine Lib.wpList_append_run _ rfl _ _ _ _ rfl _ _ rfl rfl _ _ (hr6 _) ?_)
              go_roundw
              case rel => exact ⟨k + 1, _, _, by go_num, by omega, HEG⟩
              case measure => simp [intOf]; omega
            | some r2 =>
              obtain ⟨ai, capi, rfl, _⟩ := HI.out.slot hmb
              have HB : Hid (Below w3.heap.size w3 (w3.alloc (.cells #[.int .i64 0, .int .i64 0] 99))) := (Below.refl _ _).alloc (Nat.le_refl _) _
              have hgw3 := HI.out.rs.lt
              have hne3 : w3.heap.size ≠ g := by omega
              have y0 := cell_of_row (w3.alloc (.cells #[.int .i64 0, .int .i64 0] 99)) w3.heap.size 0 _ _ _ (heap_alloc_new w3 _)
              have y1 := cell_of_row (w3.alloc (.cells #[.int .i64 0, .int .i64 0] 99)) w3.heap.size 1 _ _ _ (heap_alloc_new w3 _)
              have yf := fun j => frozen_new w3 #[.int .i64 0, .int .i64 0] 99 j
              have ysz : (w3.alloc (.cells #[.int .i64 0, .int .i64 0] 99)).heap.size = w3.heap.size + 1 := by simp
              have HN := Lib.hid (rnum_any g l (some r2) _ (HI.out.rs.below HB.out))
              have HY := Lib.hid (And.intro y0 (And.intro y1 (And.intro yf ysz)))
              clear y0 y1 yf ysz
              go_wp2_with fail
              refine HN.out.mono ?_
              rintro e w4 ⟨v4, x1, rfl, ⟨rfl, hi1⟩, hst4, hx4, hk4⟩
              obtain ⟨y0, y1, yf, ysz⟩ := HY.out
              have hs4 := hk4.size
              have q0 := (hk4.cell (h := w3.heap.size) (by omega) hne3 0).trans (y0.trans rfl)
              have q1 := (hk4.cell (h := w3.heap.size) (by omega) hne3 1).trans (y1.trans rfl)
              have qf0 := (hk4.frozen (h := w3.heap.size) (by omega) hne3 0).trans (yf 0)
              have qf1 := (hk4.frozen (h := w3.heap.size) (by omega) hne3 1).trans (yf 1)
              have FR4 : Far w3.heap.size w4 (w4.setCell ⟨w3.heap.size, 0, none⟩ (.int .i64 x1)) := (Far.refl _ _).set _
              have hst4' := hst4.low (FR4.below (B := w3.heap.size) (Nat.le_refl _)) hgw3
              have HN2 := Lib.hid (rnum_any g l _ _ hst4')
              have HX4 := Lib.hid hx4
              have p0 : (w4.setCell ⟨w3.heap.size, 0, none⟩ (.int .i64 x1)).cell? ⟨w3.heap.size, 0, none⟩ = some (.int .i64 x1) := World.cell?_setCell_same' _ _ _ (by rw [q0]; rfl)
              have p1 : (w4.setCell ⟨w3.heap.size, 0, none⟩ (.int .i64 x1)).cell? ⟨w3.heap.size, 1, none⟩ = some (.int .i64 0) := (World.cell?_setCell_other _ ⟨w3.heap.size, 0, none⟩ ⟨w3.heap.size, 1, none⟩ _ (by simp)).trans q1
              have pf1 : (w4.setCell ⟨w3.heap.size, 0, none⟩ (.int .i64 x1)).frozen? ⟨w3.heap.size, 1, none⟩ = false := by rw [World.frozen?_setCell]; exact qf1
              have HP := Lib.hid (And.intro p0 (And.intro p1 (And.intro pf1 (show w3.heap.size < (w4.setCell ⟨w3.heap.size, 0, none⟩ (.int .i64 x1)).heap.size by rw [FR4.size]; omega))))
              have HK4 : Hid (KeptG g w3 (w4.setCell ⟨w3.heap.size, 0, none⟩ (.int .i64 x1))) := Lib.hid (((KeptG.of_below HB.out).trans hk4).far FR4 (Nat.le_refl _))
              have HI1 := Lib.hid hi1
              clear hst4 hx4 hk4 hst4' y0 y1 yf ysz q1 qf1 p0 p1 pf1 FR4 HY HN HB hi1 hs4
              go_wp2_with fail
              generalize w4.setCell ⟨w3.heap.size, 0, none⟩ (.int .i64 x1) = w5 at *
              clear q0 qf0
              refine HN2.out.mono ?_
              rintro e w7 ⟨v7, x2, rfl, ⟨rfl, hi2⟩, hst7, hx7, hk7⟩
              obtain ⟨p0, p1, pf1, plt⟩ := HP.out
              have q0 := (hk7.cell plt hne3 0).trans p0
              have q1 := (hk7.cell plt hne3 1).trans p1
              have qf1 := (hk7.frozen plt hne3 1).trans pf1
              have FR7 : Far w3.heap.size w7 (w7.setCell ⟨w3.heap.size, 1, none⟩ (.int .i64 x2)) := (Far.refl _ _).set _
              have e1 : (w7.setCell ⟨w3.heap.size, 1, none⟩ (.int .i64 x2)).cell? ⟨w3.heap.size, 1, none⟩ = some (.int .i64 x2) := World.cell?_setCell_same' _ _ _ (by rw [q1]; rfl)
              have e0 : (w7.setCell ⟨w3.heap.size, 1, none⟩ (.int .i64 x2)).cell? ⟨w3.heap.size, 0, none⟩ = some (.int .i64 x1) := (World.cell?_setCell_other _ ⟨w3.heap.size, 1, none⟩ ⟨w3.heap.size, 0, none⟩ _ (by simp)).trans q0
              obtain ⟨v6, w6, hr6, s5, s6, sf6, hd6⟩ := HI.out.step (P := Try.prog) (t := 78) Try.underlying78 Try.eachPartInfo (by decide) (by decide) hltj hmb (w5 := w7.setCell ⟨w3.heap.size, 1, none⟩ (.int .i64 x2)) (x := ⟨x1, x2⟩) (by
                  have e : nxt pPart (some r2) = nxt pNum (nxt pNum (some r2)) := seq_nxt pNum pNum Part.mk (some r2)
                  rw [e]
                  exact hst7.low (FR7.below (B := w3.heap.size) (Nat.le_refl _)) hgw3) (seq_end HX4.out hx7) ((HK4.out.trans hk7).far FR7 (Nat.le_refl _)) (cs := [.int .i64 x1, .int .i64 x2]) ⟨rfl, HI1.out, hi2⟩
              rw [FR7.size] at hr6
              generalize ps ++ [(⟨x1, x2⟩ : Part)] = ps' at hd6
              obtain ⟨av, cv, rfl, _⟩ := hd6.slot hmb
              have HEG := Lib.hid hd6
              clear hi2 hst7 hx7 hk7 HI hd6 FR7 p0 p1 pf1 q0 HN2 HX4 HK4 HI1 HP
              go_wp2_with (at_builtin; refine Lib.wpList_append_run _ rfl _ _ _ _ rfl _ _ rfl rfl _ _ (hr6 _) ?_)
              go_roundw
              case rel => exact ⟨j + 1, _, _, _, by go_num, by omega, HEG⟩
              case measure => simp [intOf]; omega
          · have hltji : ¬ (j : Int) < (m : Int) := by omega
            obtain rfl : j = m := by omega
            -- behind the parts
            have HSL := Lib.hid (HI.out.slot hmb)
            have HNX := Lib.hid (HI.out.lp.nxt (.inl rfl))
            have HKH := Lib.hid (KeptH.to (HK2.out) HI.out.kept (Nat.le_refl _))
            have HSP := Lib.hid (And.intro HI.out.cell (And.intro HI.out.fr (And.intro (HI.out.oth 1 (by decide)) HI.out.lt)))
            have HNU := Lib.hid (rnum_any g l _ w3 HI.out.rs)
            clear HI
            go_wp2_with fail
            refine HNU.out.mono ?_
            rintro e w4 ⟨v4, d, rfl, ⟨rfl, hd⟩, hst4, hx4, hk4⟩
            obtain ⟨s0, sf, s1, hltw⟩ := HSP.out
            have hsz3 := hk4.size
            have hlt3 : wr.heap.size < w3.heap.size := Nat.lt_of_lt_of_le HLT.out HKS.out
            have q0 := (hk4.cell hlt3 hne 0).trans s0
            have q1 := (hk4.cell hlt3 hne 1).trans (s1.trans HZ1.out)
            have qf1 := (hk4.frozen hlt3 hne 1).trans (sf 1)
            have FR : Far wr.heap.size w4 (w4.setCell ⟨wr.heap.size, 1, none⟩ (.int .i64 d)) := (Far.refl _ _).set _
            have e1 : (w4.setCell ⟨wr.heap.size, 1, none⟩ (.int .i64 d)).cell? ⟨wr.heap.size, 1, none⟩ = some (.int .i64 d) := World.cell?_setCell_same' _ _ _ (by rw [q1]; rfl)
            have e0 : (w4.setCell ⟨wr.heap.size, 1, none⟩ (.int .i64 d)).cell? ⟨wr.heap.size, 0, none⟩ = some ui := (World.cell?_setCell_other _ ⟨wr.heap.size, 1, none⟩ ⟨wr.heap.size, 0, none⟩ _ (by simp)).trans q0
            have HKF : KeptG g wr (w4.setCell ⟨wr.heap.size, 1, none⟩ (.int .i64 d)) := (HKH.out.trans hk4).far FR (Nat.le_refl _)
            have hfs := FR.size
            have hsl : Slot partSh (fun b => wr.heap.size ≤ b ∧ b < (w4.setCell ⟨wr.heap.size, 1, none⟩ (.int .i64 d)).heap.size) (w4.setCell ⟨wr.heap.size, 1, none⟩ (.int .i64 d)) ui ps := by
              have hw2 := HW2.out
              refine (HSL.out.keep (S' := fun b => w2.heap.size ≤ b ∧ b < w4.heap.size) (fun b ⟨a1, a2⟩ => ⟨a1, Nat.lt_of_lt_of_le a2 hsz3⟩) (fun b o ⟨a1, a2⟩ => World.cell?_of_block (hk4.block b a2 (by omega)))).far FR (fun b ⟨a1, a2⟩ => ⟨by omega, by omega⟩) (fun b ⟨a1, a2⟩ => by omega)
            obtain ⟨v6, w6, hr6, hd6⟩ := hE.out.step (P := Try.prog) (t := 75) Try.underlying75 Try.eachStepInfo (by decide) (by decide) hlt hnb hgw (w5 := w4.setCell ⟨wr.heap.size, 1, none⟩ (.int .i64 d)) (x := ⟨ps, d⟩) (by
                have e : nxt pStep (some r) = nxt pNum (nxt (pEach pPart) (some r)) := seq_nxt (pEach pPart) pNum Step.mk (some r)
                rw [e, HNX.out.1]
                exact hst4.low (FR.below (B := wr.heap.size) (Nat.le_refl _)) hgr) (seq_end HNX.out.2 (by rw [HNX.out.1]; exact hx4)) HKF (cs := [ui, .int .i64 d]) ⟨_, rfl, hd, hsl⟩
            have HEG := Lib.hid hd6
            rw [hfs] at hr6
            obtain ⟨ai, capi, rfl, _⟩ := hsl
            clear hd hst4 hx4 hk4 hE hd6 HSL HNX HKH HSP HNU s0 sf s1 FR HKF q0
            go_wp2_with (at_builtin; refine Lib.wpList_append_run _ rfl _ _ _ _ rfl _ _ rfl rfl _ _ (hr6 _) ?_)
            go_roundw
            case rel => exact ⟨k + 1, _, _, by go_num, by omega, HEG⟩
            case measure => simp [intOf]; omega
    · have hlti : ¬ (k : Int) < (n : Int) := by omega
      obtain rfl : k = n := by omega
      have HE := Lib.hid (hE.out.done hnb (.inl rfl))
      clear hE
      go_wp2_with fail
      go_ret
      exact HE.out
end Go.Proofs.Ytgaipfkblfommaa
