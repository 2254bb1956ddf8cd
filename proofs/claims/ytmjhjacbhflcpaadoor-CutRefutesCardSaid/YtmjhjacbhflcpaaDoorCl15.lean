/- CutLong, the second kind. CutLong, the third kind: what is made. -/
import Derived.Test.YtmjhjacbhflcpaaDoorCl14
set_option linter.unusedVariables false
set_option linter.unusedSimpArgs false
namespace Go.Proofs.YtmjhjacbhflcpaaDoor
open Go.RowKit Go.Maps

set_option maxRecDepth 100000 in
set_option maxHeartbeats 1000000 in
theorem long1p_n (hup : UpSaid4) (n which : Int) (m : Nat) (w : World) (h1 : n ≤ 5000) (hm : n = m) (hk : which.tmod 3 = 1) :
    Calls Tryd.prog 5 #[.int .i64 n, .int .i64 which] w fun e w' => e = .returned (.bool true) ∧ Below w.heap.size w w' := by
  have HUP := Lib.hid (fun W => hup W)
  subst hm
  have hm5 : m ≤ 5000 := by omega
  have hm0 : ¬ (m : Int) < 0 := by omega
  have hl1 := (lines_k1 m).1
  have hl2 := (lines_k1 m).2
  obtain ⟨i0, hi, hz0, hz1, hz2⟩ := info_parts Tryd.infoStep
  have e1 := fun W => Tryd.eqCode 2 2 W
  have HBA := Lib.hid (fun (W : World) (o : Obj) => (Below.refl W.heap.size W).alloc (Nat.le_refl _) o)
  clear hup
  go_enter Tryd.func5, Tryd.ntmps5
  go_wp2_with fail
  refine (HUP.out _).mono ?_
  rintro e w1 ⟨rfl, hb1⟩
  have B1 := Lib.hid hb1
  clear hb1
  go_wp2_with fail
  go_loopw [7, 9] (fun v i wr => ∃ (k : Nat), k ≤ m ∧ i = .int .i64 k ∧ Hid (StR w.heap.size k v wr) ∧ Hid (Below w.heap.size w wr)) (fun _ i _ => m - (intOf i).toNat)
  case atStart => exact ⟨0, Nat.zero_le _, rfl, World.ownsRow_nil _ _ _ _, B1⟩
  case round =>
    clear B1
    obtain ⟨k, hk, rfl, hrow, hb⟩ := hrel
    by_cases hlt : k < m
    · have hltz : (k : Int) < (m : Int) := by omega
      have HR : Hid ((wr.alloc (.cells #[.slice none 0 0, .int .i64 1] 39)).ownsRow w.heap.size 39 2 u7 k (sflat k)) := World.ownsRow.alloc hrow.out _
      have HGB : Hid (∀ g, u7.ownBlock = some g → w.heap.size ≤ g) := fun g hg => (World.ownsRow.lt hrow.out g hg).1
      have HA := Lib.hid (HBA.out wr (.cells #[.slice none 0 0, .int .i64 1] 39))
      have HZ := Lib.hid hb.out.size
      go_wp2_with (at_builtin; refine wpList_append_own_at _ rfl _ _ 23 rfl w.heap.size 39 i0 _ 2 32 Tryd.underlying23 hi hz0 hz1 hz2 rfl (by decide) u7 k (sflat k) rfl HR.out ⟨wr.heap.size, 0, none⟩ 1 1 [.slice none 0 0, .int .i64 1] rfl rfl ?c2 ?c3 ?c4 ?c5 ?c6 ?_)
      case c2 => exact step_new _ _ _ rfl
      case c3 => exact step_one
      case c4 => unfold maxLen; omega
      case c5 => omega
      case c6 => have := HZ.out; have := HA.out.size; omega
      intro v2 w2 hown2 hgrow2 _ _
      have RN : Hid (StR w.heap.size (k + 1) v2 w2) := by
        show StR _ _ _ _
        unfold StR
        rw [sflat_succ]
        exact hown2
      have BN : Hid (Below w.heap.size w w2) := (hb.out.trans (HA.out.mono HZ.out)).grown hgrow2 (Nat.le_trans HZ.out HA.out.size) HGB.out
      clear hown2 hgrow2 HR HA
      go_wp2_with fail
      refine ⟨⟨k + 1, by omega, by go_num, RN, BN⟩, by simp [intOf]; omega⟩
    · obtain rfl : k = m := by omega
      have hltz : ¬ ((k : Nat) : Int) < (k : Int) := by omega
      obtain ⟨sa, scap, rfl, hgv⟩ := k1_given hrow.out (by omega)
      have GV := Lib.hid hgv
      clear hgv hrow
      by_cases h40 : 4096 < k
      · have HL := Lib.hid (lines_any none 0 0 [] sa k scap (zss k) wr GV.out 2 (-1) [] (hl1 h40))
        have h40z : 4096 < (k : Int) := by omega
        clear hl1 hl2
        go_wp2_with fail
        refine HL.out.mono ?_
        rintro e w3 ⟨v, er, xs, rfl, hrow, hfs, her, hb3⟩
        rw [her.1 (by omega), codeV_ne (by decide)]
        obtain ⟨la, lcap, rfl, _⟩ := hrow.llies
        have hx0 : xs.length = 0 := by rw [← lforms_len, hfs]; rfl
        rw [hx0]
        have B3 := Lib.hid (hb.out.trans (hb3.mono hb.out.size))
        clear hrow hfs her hb3 HL hx0
        go_wp2_with fail
        go_ret
        exact ⟨rfl, B3.out⟩
      · have HL := Lib.hid (lines_any none 0 0 [] sa k scap (zss k) wr GV.out 0 (-1) (lnL [] (zss k) k) (hl2 (by omega)))
        have h40z : ¬ 4096 < (k : Int) := by omega
        clear hl1 hl2
        go_wp2_with fail
        refine HL.out.mono ?_
        rintro e w3 ⟨v, er, xs, rfl, hrow, hfs, her, hb3⟩
        rw [her.1 (by omega), codeV_zero]
        obtain ⟨la, lcap, rfl, _⟩ := hrow.llies
        have hx0 : xs.length = k := by rw [← lforms_len, hfs]; rw [lnL_len]; simp
        rw [hx0]
        have B3 := Lib.hid (hb.out.trans (hb3.mono hb.out.size))
        clear hrow hfs her hb3 HL hx0
        go_wp2_with fail
        go_ret
        exact ⟨rfl, B3.out⟩

set_option maxRecDepth 100000 in
set_option maxHeartbeats 1000000 in
theorem long1m_n (hup : UpSaid4) (n which : Int) (m : Nat) (w : World) (h1 : n ≤ 5000) (hm : n = m) (hk : which.tmod 3 = -1) :
    Calls Tryd.prog 5 #[.int .i64 n, .int .i64 which] w fun e w' => e = .returned (.bool true) ∧ Below w.heap.size w w' := by
  have HUP := Lib.hid (fun W => hup W)
  subst hm
  have hm5 : m ≤ 5000 := by omega
  have hm0 : ¬ (m : Int) < 0 := by omega
  have hl1 := (lines_k1 m).1
  have hl2 := (lines_k1 m).2
  obtain ⟨i0, hi, hz0, hz1, hz2⟩ := info_parts Tryd.infoStep
  have e1 := fun W => Tryd.eqCode 2 2 W
  have HBA := Lib.hid (fun (W : World) (o : Obj) => (Below.refl W.heap.size W).alloc (Nat.le_refl _) o)
  clear hup
  go_enter Tryd.func5, Tryd.ntmps5
  go_wp2_with fail
  refine (HUP.out _).mono ?_
  rintro e w1 ⟨rfl, hb1⟩
  have B1 := Lib.hid hb1
  clear hb1
  go_wp2_with fail
  go_loopw [7, 9] (fun v i wr => ∃ (k : Nat), k ≤ m ∧ i = .int .i64 k ∧ Hid (StR w.heap.size k v wr) ∧ Hid (Below w.heap.size w wr)) (fun _ i _ => m - (intOf i).toNat)
  case atStart => exact ⟨0, Nat.zero_le _, rfl, World.ownsRow_nil _ _ _ _, B1⟩
  case round =>
    clear B1
    obtain ⟨k, hk, rfl, hrow, hb⟩ := hrel
    by_cases hlt : k < m
    · have hltz : (k : Int) < (m : Int) := by omega
      have HR : Hid ((wr.alloc (.cells #[.slice none 0 0, .int .i64 1] 39)).ownsRow w.heap.size 39 2 u7 k (sflat k)) := World.ownsRow.alloc hrow.out _
      have HGB : Hid (∀ g, u7.ownBlock = some g → w.heap.size ≤ g) := fun g hg => (World.ownsRow.lt hrow.out g hg).1
      have HA := Lib.hid (HBA.out wr (.cells #[.slice none 0 0, .int .i64 1] 39))
      have HZ := Lib.hid hb.out.size
      go_wp2_with (at_builtin; refine wpList_append_own_at _ rfl _ _ 23 rfl w.heap.size 39 i0 _ 2 32 Tryd.underlying23 hi hz0 hz1 hz2 rfl (by decide) u7 k (sflat k) rfl HR.out ⟨wr.heap.size, 0, none⟩ 1 1 [.slice none 0 0, .int .i64 1] rfl rfl ?c2 ?c3 ?c4 ?c5 ?c6 ?_)
      case c2 => exact step_new _ _ _ rfl
      case c3 => exact step_one
      case c4 => unfold maxLen; omega
      case c5 => omega
      case c6 => have := HZ.out; have := HA.out.size; omega
      intro v2 w2 hown2 hgrow2 _ _
      have RN : Hid (StR w.heap.size (k + 1) v2 w2) := by
        show StR _ _ _ _
        unfold StR
        rw [sflat_succ]
        exact hown2
      have BN : Hid (Below w.heap.size w w2) := (hb.out.trans (HA.out.mono HZ.out)).grown hgrow2 (Nat.le_trans HZ.out HA.out.size) HGB.out
      clear hown2 hgrow2 HR HA
      go_wp2_with fail
      refine ⟨⟨k + 1, by omega, by go_num, RN, BN⟩, by simp [intOf]; omega⟩
    · obtain rfl : k = m := by omega
      have hltz : ¬ ((k : Nat) : Int) < (k : Int) := by omega
      obtain ⟨sa, scap, rfl, hgv⟩ := k1_given hrow.out (by omega)
      have GV := Lib.hid hgv
      clear hgv hrow
      by_cases h40 : 4096 < k
      · have HL := Lib.hid (lines_any none 0 0 [] sa k scap (zss k) wr GV.out 2 (-1) [] (hl1 h40))
        have h40z : 4096 < (k : Int) := by omega
        clear hl1 hl2
        go_wp2_with fail
        refine HL.out.mono ?_
        rintro e w3 ⟨v, er, xs, rfl, hrow, hfs, her, hb3⟩
        rw [her.1 (by omega), codeV_ne (by decide)]
        obtain ⟨la, lcap, rfl, _⟩ := hrow.llies
        have hx0 : xs.length = 0 := by rw [← lforms_len, hfs]; rfl
        rw [hx0]
        have B3 := Lib.hid (hb.out.trans (hb3.mono hb.out.size))
        clear hrow hfs her hb3 HL hx0
        go_wp2_with fail
        go_ret
        exact ⟨rfl, B3.out⟩
      · have HL := Lib.hid (lines_any none 0 0 [] sa k scap (zss k) wr GV.out 0 (-1) (lnL [] (zss k) k) (hl2 (by omega)))
        have h40z : ¬ 4096 < (k : Int) := by omega
        clear hl1 hl2
        go_wp2_with fail
        refine HL.out.mono ?_
        rintro e w3 ⟨v, er, xs, rfl, hrow, hfs, her, hb3⟩
        rw [her.1 (by omega), codeV_zero]
        obtain ⟨la, lcap, rfl, _⟩ := hrow.llies
        have hx0 : xs.length = k := by rw [← lforms_len, hfs]; rw [lnL_len]; simp
        rw [hx0]
        have B3 := Lib.hid (hb.out.trans (hb3.mono hb.out.size))
        clear hrow hfs her hb3 HL hx0
        go_wp2_with fail
        go_ret
        exact ⟨rfl, B3.out⟩

set_option maxRecDepth 100000 in
set_option maxHeartbeats 1000000 in
theorem long1p_lo (hup : UpSaid4) (n which : Int) (w : World) (h0 : n < 0) (hk : which.tmod 3 = 1) :
    Calls Tryd.prog 5 #[.int .i64 n, .int .i64 which] w fun e w' => e = .returned (.bool true) ∧ Below w.heap.size w w' := by
  have HUP := Lib.hid (fun W => hup W)
  skip
  have hl1 := (lines_k1 3).1
  have hl2 := (lines_k1 3).2
  obtain ⟨i0, hi, hz0, hz1, hz2⟩ := info_parts Tryd.infoStep
  have e1 := fun W => Tryd.eqCode 2 2 W
  have HBA := Lib.hid (fun (W : World) (o : Obj) => (Below.refl W.heap.size W).alloc (Nat.le_refl _) o)
  clear hup
  go_enter Tryd.func5, Tryd.ntmps5
  go_wp2_with fail
  refine (HUP.out _).mono ?_
  rintro e w1 ⟨rfl, hb1⟩
  have B1 := Lib.hid hb1
  clear hb1
  go_wp2_with fail
  go_loopw [7, 9] (fun v i wr => ∃ (k : Nat), k ≤ 3 ∧ i = .int .i64 k ∧ Hid (StR w.heap.size k v wr) ∧ Hid (Below w.heap.size w wr)) (fun _ i _ => 3 - (intOf i).toNat)
  case atStart => exact ⟨0, Nat.zero_le _, rfl, World.ownsRow_nil _ _ _ _, B1⟩
  case round =>
    clear B1
    obtain ⟨k, hk, rfl, hrow, hb⟩ := hrel
    by_cases hlt : k < 3
    · have hltz : (k : Int) < 3 := by omega
      have HR : Hid ((wr.alloc (.cells #[.slice none 0 0, .int .i64 1] 39)).ownsRow w.heap.size 39 2 u7 k (sflat k)) := World.ownsRow.alloc hrow.out _
      have HGB : Hid (∀ g, u7.ownBlock = some g → w.heap.size ≤ g) := fun g hg => (World.ownsRow.lt hrow.out g hg).1
      have HA := Lib.hid (HBA.out wr (.cells #[.slice none 0 0, .int .i64 1] 39))
      have HZ := Lib.hid hb.out.size
      go_wp2_with (at_builtin; refine wpList_append_own_at _ rfl _ _ 23 rfl w.heap.size 39 i0 _ 2 32 Tryd.underlying23 hi hz0 hz1 hz2 rfl (by decide) u7 k (sflat k) rfl HR.out ⟨wr.heap.size, 0, none⟩ 1 1 [.slice none 0 0, .int .i64 1] rfl rfl ?c2 ?c3 ?c4 ?c5 ?c6 ?_)
      case c2 => exact step_new _ _ _ rfl
      case c3 => exact step_one
      case c4 => unfold maxLen; omega
      case c5 => omega
      case c6 => have := HZ.out; have := HA.out.size; omega
      intro v2 w2 hown2 hgrow2 _ _
      have RN : Hid (StR w.heap.size (k + 1) v2 w2) := by
        show StR _ _ _ _
        unfold StR
        rw [sflat_succ]
        exact hown2
      have BN : Hid (Below w.heap.size w w2) := (hb.out.trans (HA.out.mono HZ.out)).grown hgrow2 (Nat.le_trans HZ.out HA.out.size) HGB.out
      clear hown2 hgrow2 HR HA
      go_wp2_with fail
      refine ⟨⟨k + 1, by omega, by go_num, RN, BN⟩, by simp [intOf]; omega⟩
    · obtain rfl : k = 3 := by omega
      have hltz : ¬ ((3 : Nat) : Int) < 3 := by omega
      obtain ⟨sa, scap, rfl, hgv⟩ := k1_given hrow.out (by omega)
      have GV := Lib.hid hgv
      clear hgv hrow
      have HL := Lib.hid (lines_any none 0 0 [] sa 3 scap (zss 3) wr GV.out 0 (-1) (lnL [] (zss 3) 3) (hl2 (by omega)))
      skip
      clear hl1 hl2
      go_wp2_with fail
      refine HL.out.mono ?_
      rintro e w3 ⟨v, er, xs, rfl, hrow, hfs, her, hb3⟩
      rw [her.1 (by omega), codeV_zero]
      obtain ⟨la, lcap, rfl, _⟩ := hrow.llies
      have hx0 : xs.length = 3 := by rw [← lforms_len, hfs]; rw [lnL_len]; rfl
      rw [hx0]
      have B3 := Lib.hid (hb.out.trans (hb3.mono hb.out.size))
      clear hrow hfs her hb3 HL hx0
      go_wp2_with fail
      go_ret
      exact ⟨rfl, B3.out⟩

set_option maxRecDepth 100000 in
set_option maxHeartbeats 1000000 in
theorem long1m_lo (hup : UpSaid4) (n which : Int) (w : World) (h0 : n < 0) (hk : which.tmod 3 = -1) :
    Calls Tryd.prog 5 #[.int .i64 n, .int .i64 which] w fun e w' => e = .returned (.bool true) ∧ Below w.heap.size w w' := by
  have HUP := Lib.hid (fun W => hup W)
  skip
  have hl1 := (lines_k1 3).1
  have hl2 := (lines_k1 3).2
  obtain ⟨i0, hi, hz0, hz1, hz2⟩ := info_parts Tryd.infoStep
  have e1 := fun W => Tryd.eqCode 2 2 W
  have HBA := Lib.hid (fun (W : World) (o : Obj) => (Below.refl W.heap.size W).alloc (Nat.le_refl _) o)
  clear hup
  go_enter Tryd.func5, Tryd.ntmps5
  go_wp2_with fail
  refine (HUP.out _).mono ?_
  rintro e w1 ⟨rfl, hb1⟩
  have B1 := Lib.hid hb1
  clear hb1
  go_wp2_with fail
  go_loopw [7, 9] (fun v i wr => ∃ (k : Nat), k ≤ 3 ∧ i = .int .i64 k ∧ Hid (StR w.heap.size k v wr) ∧ Hid (Below w.heap.size w wr)) (fun _ i _ => 3 - (intOf i).toNat)
  case atStart => exact ⟨0, Nat.zero_le _, rfl, World.ownsRow_nil _ _ _ _, B1⟩
  case round =>
    clear B1
    obtain ⟨k, hk, rfl, hrow, hb⟩ := hrel
    by_cases hlt : k < 3
    · have hltz : (k : Int) < 3 := by omega
      have HR : Hid ((wr.alloc (.cells #[.slice none 0 0, .int .i64 1] 39)).ownsRow w.heap.size 39 2 u7 k (sflat k)) := World.ownsRow.alloc hrow.out _
      have HGB : Hid (∀ g, u7.ownBlock = some g → w.heap.size ≤ g) := fun g hg => (World.ownsRow.lt hrow.out g hg).1
      have HA := Lib.hid (HBA.out wr (.cells #[.slice none 0 0, .int .i64 1] 39))
      have HZ := Lib.hid hb.out.size
      go_wp2_with (at_builtin; refine wpList_append_own_at _ rfl _ _ 23 rfl w.heap.size 39 i0 _ 2 32 Tryd.underlying23 hi hz0 hz1 hz2 rfl (by decide) u7 k (sflat k) rfl HR.out ⟨wr.heap.size, 0, none⟩ 1 1 [.slice none 0 0, .int .i64 1] rfl rfl ?c2 ?c3 ?c4 ?c5 ?c6 ?_)
      case c2 => exact step_new _ _ _ rfl
      case c3 => exact step_one
      case c4 => unfold maxLen; omega
      case c5 => omega
      case c6 => have := HZ.out; have := HA.out.size; omega
      intro v2 w2 hown2 hgrow2 _ _
      have RN : Hid (StR w.heap.size (k + 1) v2 w2) := by
        show StR _ _ _ _
        unfold StR
        rw [sflat_succ]
        exact hown2
      have BN : Hid (Below w.heap.size w w2) := (hb.out.trans (HA.out.mono HZ.out)).grown hgrow2 (Nat.le_trans HZ.out HA.out.size) HGB.out
      clear hown2 hgrow2 HR HA
      go_wp2_with fail
      refine ⟨⟨k + 1, by omega, by go_num, RN, BN⟩, by simp [intOf]; omega⟩
    · obtain rfl : k = 3 := by omega
      have hltz : ¬ ((3 : Nat) : Int) < 3 := by omega
      obtain ⟨sa, scap, rfl, hgv⟩ := k1_given hrow.out (by omega)
      have GV := Lib.hid hgv
      clear hgv hrow
      have HL := Lib.hid (lines_any none 0 0 [] sa 3 scap (zss 3) wr GV.out 0 (-1) (lnL [] (zss 3) 3) (hl2 (by omega)))
      skip
      clear hl1 hl2
      go_wp2_with fail
      refine HL.out.mono ?_
      rintro e w3 ⟨v, er, xs, rfl, hrow, hfs, her, hb3⟩
      rw [her.1 (by omega), codeV_zero]
      obtain ⟨la, lcap, rfl, _⟩ := hrow.llies
      have hx0 : xs.length = 3 := by rw [← lforms_len, hfs]; rw [lnL_len]; rfl
      rw [hx0]
      have B3 := Lib.hid (hb.out.trans (hb3.mono hb.out.size))
      clear hrow hfs her hb3 HL hx0
      go_wp2_with fail
      go_ret
      exact ⟨rfl, B3.out⟩

set_option maxRecDepth 100000 in
set_option maxHeartbeats 1000000 in
theorem long1p_hi (hup : UpSaid4) (n which : Int) (w : World) (h0 : 5000 < n) (hk : which.tmod 3 = 1) :
    Calls Tryd.prog 5 #[.int .i64 n, .int .i64 which] w fun e w' => e = .returned (.bool true) ∧ Below w.heap.size w w' := by
  have HUP := Lib.hid (fun W => hup W)
  have h9 : ¬ n < 0 := by omega
  have hl1 := (lines_k1 3).1
  have hl2 := (lines_k1 3).2
  obtain ⟨i0, hi, hz0, hz1, hz2⟩ := info_parts Tryd.infoStep
  have e1 := fun W => Tryd.eqCode 2 2 W
  have HBA := Lib.hid (fun (W : World) (o : Obj) => (Below.refl W.heap.size W).alloc (Nat.le_refl _) o)
  clear hup
  go_enter Tryd.func5, Tryd.ntmps5
  go_wp2_with fail
  refine (HUP.out _).mono ?_
  rintro e w1 ⟨rfl, hb1⟩
  have B1 := Lib.hid hb1
  clear hb1
  go_wp2_with fail
  go_loopw [7, 9] (fun v i wr => ∃ (k : Nat), k ≤ 3 ∧ i = .int .i64 k ∧ Hid (StR w.heap.size k v wr) ∧ Hid (Below w.heap.size w wr)) (fun _ i _ => 3 - (intOf i).toNat)
  case atStart => exact ⟨0, Nat.zero_le _, rfl, World.ownsRow_nil _ _ _ _, B1⟩
  case round =>
    clear B1
    obtain ⟨k, hk, rfl, hrow, hb⟩ := hrel
    by_cases hlt : k < 3
    · have hltz : (k : Int) < 3 := by omega
      have HR : Hid ((wr.alloc (.cells #[.slice none 0 0, .int .i64 1] 39)).ownsRow w.heap.size 39 2 u7 k (sflat k)) := World.ownsRow.alloc hrow.out _
      have HGB : Hid (∀ g, u7.ownBlock = some g → w.heap.size ≤ g) := fun g hg => (World.ownsRow.lt hrow.out g hg).1
      have HA := Lib.hid (HBA.out wr (.cells #[.slice none 0 0, .int .i64 1] 39))
      have HZ := Lib.hid hb.out.size
      go_wp2_with (at_builtin; refine wpList_append_own_at _ rfl _ _ 23 rfl w.heap.size 39 i0 _ 2 32 Tryd.underlying23 hi hz0 hz1 hz2 rfl (by decide) u7 k (sflat k) rfl HR.out ⟨wr.heap.size, 0, none⟩ 1 1 [.slice none 0 0, .int .i64 1] rfl rfl ?c2 ?c3 ?c4 ?c5 ?c6 ?_)
      case c2 => exact step_new _ _ _ rfl
      case c3 => exact step_one
      case c4 => unfold maxLen; omega
      case c5 => omega
      case c6 => have := HZ.out; have := HA.out.size; omega
      intro v2 w2 hown2 hgrow2 _ _
      have RN : Hid (StR w.heap.size (k + 1) v2 w2) := by
        show StR _ _ _ _
        unfold StR
        rw [sflat_succ]
        exact hown2
      have BN : Hid (Below w.heap.size w w2) := (hb.out.trans (HA.out.mono HZ.out)).grown hgrow2 (Nat.le_trans HZ.out HA.out.size) HGB.out
      clear hown2 hgrow2 HR HA
      go_wp2_with fail
      refine ⟨⟨k + 1, by omega, by go_num, RN, BN⟩, by simp [intOf]; omega⟩
    · obtain rfl : k = 3 := by omega
      have hltz : ¬ ((3 : Nat) : Int) < 3 := by omega
      obtain ⟨sa, scap, rfl, hgv⟩ := k1_given hrow.out (by omega)
      have GV := Lib.hid hgv
      clear hgv hrow
      have HL := Lib.hid (lines_any none 0 0 [] sa 3 scap (zss 3) wr GV.out 0 (-1) (lnL [] (zss 3) 3) (hl2 (by omega)))
      skip
      clear hl1 hl2
      go_wp2_with fail
      refine HL.out.mono ?_
      rintro e w3 ⟨v, er, xs, rfl, hrow, hfs, her, hb3⟩
      rw [her.1 (by omega), codeV_zero]
      obtain ⟨la, lcap, rfl, _⟩ := hrow.llies
      have hx0 : xs.length = 3 := by rw [← lforms_len, hfs]; rw [lnL_len]; rfl
      rw [hx0]
      have B3 := Lib.hid (hb.out.trans (hb3.mono hb.out.size))
      clear hrow hfs her hb3 HL hx0
      go_wp2_with fail
      go_ret
      exact ⟨rfl, B3.out⟩

set_option maxRecDepth 100000 in
set_option maxHeartbeats 1000000 in
theorem long1m_hi (hup : UpSaid4) (n which : Int) (w : World) (h0 : 5000 < n) (hk : which.tmod 3 = -1) :
    Calls Tryd.prog 5 #[.int .i64 n, .int .i64 which] w fun e w' => e = .returned (.bool true) ∧ Below w.heap.size w w' := by
  have HUP := Lib.hid (fun W => hup W)
  have h9 : ¬ n < 0 := by omega
  have hl1 := (lines_k1 3).1
  have hl2 := (lines_k1 3).2
  obtain ⟨i0, hi, hz0, hz1, hz2⟩ := info_parts Tryd.infoStep
  have e1 := fun W => Tryd.eqCode 2 2 W
  have HBA := Lib.hid (fun (W : World) (o : Obj) => (Below.refl W.heap.size W).alloc (Nat.le_refl _) o)
  clear hup
  go_enter Tryd.func5, Tryd.ntmps5
  go_wp2_with fail
  refine (HUP.out _).mono ?_
  rintro e w1 ⟨rfl, hb1⟩
  have B1 := Lib.hid hb1
  clear hb1
  go_wp2_with fail
  go_loopw [7, 9] (fun v i wr => ∃ (k : Nat), k ≤ 3 ∧ i = .int .i64 k ∧ Hid (StR w.heap.size k v wr) ∧ Hid (Below w.heap.size w wr)) (fun _ i _ => 3 - (intOf i).toNat)
  case atStart => exact ⟨0, Nat.zero_le _, rfl, World.ownsRow_nil _ _ _ _, B1⟩
  case round =>
    clear B1
    obtain ⟨k, hk, rfl, hrow, hb⟩ := hrel
    by_cases hlt : k < 3
    · have hltz : (k : Int) < 3 := by omega
      have HR : Hid ((wr.alloc (.cells #[.slice none 0 0, .int .i64 1] 39)).ownsRow w.heap.size 39 2 u7 k (sflat k)) := World.ownsRow.alloc hrow.out _
      have HGB : Hid (∀ g, u7.ownBlock = some g → w.heap.size ≤ g) := fun g hg => (World.ownsRow.lt hrow.out g hg).1
      have HA := Lib.hid (HBA.out wr (.cells #[.slice none 0 0, .int .i64 1] 39))
      have HZ := Lib.hid hb.out.size
      go_wp2_with (at_builtin; refine wpList_append_own_at _ rfl _ _ 23 rfl w.heap.size 39 i0 _ 2 32 Tryd.underlying23 hi hz0 hz1 hz2 rfl (by decide) u7 k (sflat k) rfl HR.out ⟨wr.heap.size, 0, none⟩ 1 1 [.slice none 0 0, .int .i64 1] rfl rfl ?c2 ?c3 ?c4 ?c5 ?c6 ?_)
      case c2 => exact step_new _ _ _ rfl
      case c3 => exact step_one
      case c4 => unfold maxLen; omega
      case c5 => omega
      case c6 => have := HZ.out; have := HA.out.size; omega
      intro v2 w2 hown2 hgrow2 _ _
      have RN : Hid (StR w.heap.size (k + 1) v2 w2) := by
        show StR _ _ _ _
        unfold StR
        rw [sflat_succ]
        exact hown2
      have BN : Hid (Below w.heap.size w w2) := (hb.out.trans (HA.out.mono HZ.out)).grown hgrow2 (Nat.le_trans HZ.out HA.out.size) HGB.out
      clear hown2 hgrow2 HR HA
      go_wp2_with fail
      refine ⟨⟨k + 1, by omega, by go_num, RN, BN⟩, by simp [intOf]; omega⟩
    · obtain rfl : k = 3 := by omega
      have hltz : ¬ ((3 : Nat) : Int) < 3 := by omega
      obtain ⟨sa, scap, rfl, hgv⟩ := k1_given hrow.out (by omega)
      have GV := Lib.hid hgv
      clear hgv hrow
      have HL := Lib.hid (lines_any none 0 0 [] sa 3 scap (zss 3) wr GV.out 0 (-1) (lnL [] (zss 3) 3) (hl2 (by omega)))
      skip
      clear hl1 hl2
      go_wp2_with fail
      refine HL.out.mono ?_
      rintro e w3 ⟨v, er, xs, rfl, hrow, hfs, her, hb3⟩
      rw [her.1 (by omega), codeV_zero]
      obtain ⟨la, lcap, rfl, _⟩ := hrow.llies
      have hx0 : xs.length = 3 := by rw [← lforms_len, hfs]; rw [lnL_len]; rfl
      rw [hx0]
      have B3 := Lib.hid (hb.out.trans (hb3.mono hb.out.size))
      clear hrow hfs her hb3 HL hx0
      go_wp2_with fail
      go_ret
      exact ⟨rfl, B3.out⟩
end Go.Proofs.YtmjhjacbhflcpaaDoor

namespace Go.Proofs.YtmjhjacbhflcpaaDoor
open Go.RowKit Go.Maps

def zps (n : Nat) : List (Int × Int) := List.replicate n (0, 1)
theorem zps_len (n : Nat) : (zps n).length = n := List.length_replicate
theorem zps_get (n i : Nat) (h : i < n) : (zps n).getD i (0, 0) = (0, 1) := by simp [zps, List.getD_eq_getElem?_getD, h]
theorem zline (n k : Nat) (h : k < n) : lineAt (zls 1) (zps n) k = (0, []) := by unfold lineAt; rw [zps_get n k h]; rfl
theorem zcTo (n : Nat) : ∀ k, k ≤ n → cTo (zls 1) (zps n) k = 0
  | 0, _ => rfl
  | k + 1, h => by show cTo (zls 1) (zps n) k + _ * _ = 0; rw [zcTo n k (by omega), zline n k (by omega)]; simp
theorem ztTo (n : Nat) : ∀ k, k ≤ n → tTo (zls 1) (zps n) k = []
  | 0, _ => rfl
  | k + 1, h => by show tTo (zls 1) (zps n) k ++ timesL _ (lineAt _ _ _).2 = []; rw [ztTo n k (by omega), zline n k (by omega)]; rfl
theorem zpartsK (n : Nat) : ∀ k, k ≤ n → partsK 1 (zps n) k = 0
  | 0, _ => rfl
  | k + 1, h => by show (if partsK 1 (zps n) k = 0 then partK 1 ((zps n).getD k (0, 0)) else _) = 0; rw [if_pos (zpartsK n k (by omega)), zps_get n k (by omega)]; decide
theorem ztell_long (n : Nat) (h : 64 < n) : tellS (zls 1) (zps n, 1) = 2 := by
  have hs : stepK (zls 1).length (zps n) 1 = 2 := by unfold stepK; rw [if_pos (by rw [zps_len]; exact h)]
  unfold tellS
  rw [tellK_step (by show stepK (zls 1).length (zps n) 1 ≠ 0; rw [hs]; decide)]
  exact hs
theorem ztell_ok (n : Nat) (h : n ≤ 64) : tellS (zls 1) (zps n, 1) = 0 := by
  have hs : stepK (zls 1).length (zps n) 1 = 0 := by
    unfold stepK
    rw [if_neg (by rw [zps_len]; omega), if_pos (by rw [zps_len]; exact zpartsK n n (Nat.le_refl _))]; rfl
  show tellK (zls 1).length (cTo (zls 1) (zps n) (zps n).length) 1 (zps n) (sumOf (tTo (zls 1) (zps n) (zps n).length)) = 0
  rw [zps_len, zcTo n n (Nat.le_refl _), ztTo n n (Nat.le_refl _), sumOf_nil, tellK_ok hs (by decide) (by decide) (by decide)]
  decide
theorem lines_k2 (n : Nat) : (64 < n → LinesIs (zls 1) [(zps n, 1)] 2 0 []) ∧ (n ≤ 64 → LinesIs (zls 1) [(zps n, 1)] 0 (-1) (lnL (zls 1) [(zps n, 1)] 1)) := by
  refine ⟨fun h => ?_, fun h => .ok (by decide) (show 1 ≤ 4096 by decide) (zls_ok 1) (fun j hj => ?_)⟩
  · have := LinesIs.step (ls := zls 1) (ss := [(zps n, 1)]) 0 (by decide) (show 1 ≤ 4096 by decide) (zls_ok 1) (show 0 < 1 by decide) (fun j hj => absurd hj (Nat.not_lt_zero _)) (by show tellS (zls 1) (zps n, 1) ≠ 0; rw [ztell_long n h]; decide)
    have e : tellS (lnL (zls 1) [(zps n, 1)] 0) ([(zps n, 1)].getD 0 ([], 0)) = 2 := ztell_long n h
    rw [e] at this
    exact this
  · match j, hj with
    | 0, _ => exact ztell_ok n h
/-- Parts of which the first k are made. -/
structure PSt (w W : World) (N m k : Nat) : Prop where
  at' : ∀ j, j < m → W.cell? ⟨N, j * 2, none⟩ = some (.int .i64 0) ∧ (j < k → W.cell? ⟨N, j * 2 + 1, none⟩ = some (.int .i64 1)) ∧ ∃ z, W.cell? ⟨N, j * 2 + 1, none⟩ = some z
  fz : ∀ o, W.frozen? ⟨N, o, none⟩ = false
  lt : N < W.heap.size
  ge : w.heap.size ≤ N
  bel : Below w.heap.size w W
theorem PSt.start {w W : World} (hb : Below w.heap.size w W) (m : Nat) (t : TypeId) : PSt w (W.alloc (.cells (madeCells #[.int .i64 0, .int .i64 0] (m * 2)) t)) W.heap.size m 0 := by
  have hn := heap_alloc_new W (.cells (madeCells #[.int .i64 0, .int .i64 0] (m * 2)) t)
  have hba := (Below.refl W.heap.size W).alloc (Nat.le_refl _) (.cells (madeCells #[.int .i64 0, .int .i64 0] (m * 2)) t)
  refine ⟨fun j hj => ?_, fun o => frozen_of_row _ _ _ _ _ hn, lt_of_some hn, hb.size, hb.trans (hba.mono hb.size)⟩
  obtain ⟨g1, g2⟩ := made_at2 (.int .i64 0) (.int .i64 0) m j hj
  exact ⟨(cell_of_row _ _ _ _ _ _ hn).trans g1, fun h => absurd h (Nat.not_lt_zero _), _, (cell_of_row _ _ _ _ _ _ hn).trans g2⟩
theorem PSt.step {w W : World} {N m k : Nat} (h : PSt w W N m k) (hk : k < m) : PSt w (W.setCell ⟨N, k * 2 + 1, none⟩ (.int .i64 1)) N m (k + 1) := by
  refine ⟨fun j hj => ?_, fun o => (World.frozen?_setCell _ _ _ _).trans (h.fz o), by rw [World.size_setCell]; exact h.lt, h.ge, h.bel.setCell (p := ⟨N, k * 2 + 1, none⟩) h.ge _⟩
  obtain ⟨g1, g2, z, g3⟩ := h.at' j hj
  have hs : ∀ z, W.cell? ⟨N, k * 2 + 1, none⟩ = some z → (W.setCell ⟨N, k * 2 + 1, none⟩ (.int .i64 1)).cell? ⟨N, k * 2 + 1, none⟩ = some (.int .i64 1) := fun z hz => World.cell?_setCell_same _ _ _ hz
  refine ⟨(World.cell?_setCell_other _ _ _ _ (by simp <;> omega)).trans g1, fun hjk => ?_, ?_⟩
  · by_cases e : j = k
    · subst e; exact hs z g3
    · exact (World.cell?_setCell_other _ _ _ _ (by simp <;> omega)).trans (g2 (by omega))
  · by_cases e : j = k
    · subst e; exact ⟨_, hs z g3⟩
    · exact ⟨z, (World.cell?_setCell_other _ _ _ _ (by simp <;> omega)).trans g3⟩
theorem k2_given {w W : World} {N m : Nat} (h : PSt w W N m m) (hm : m ≤ 8192) :
    let W3 := (W.alloc (.cells #[.slice (some ⟨N, 0, none⟩) m m, .int .i64 1] 39)).alloc (.cells (madeCells #[.int .i64 0, .slice none 0 0] (1 * 2)) 49)
    Given W3.heap.size W3 (some ⟨W.heap.size + 1, 0, none⟩) 1 (zls 1) (some ⟨W.heap.size, 0, none⟩) 1 [(zps m, 1)] ∧ Below w.heap.size w W3 := by
  intro W3
  have h1 := heap_alloc_new W (.cells #[.slice (some ⟨N, 0, none⟩) m m, .int .i64 1] 39)
  have hb1 := (Below.refl W.heap.size W).alloc (Nat.le_refl _) (.cells #[.slice (some ⟨N, 0, none⟩) m m, .int .i64 1] 39)
  have hz1 : (W.alloc (.cells #[.slice (some ⟨N, 0, none⟩) m m, .int .i64 1] 39)).heap.size = W.heap.size + 1 := by simp
  have hzl := zls_lies (W.alloc (.cells #[.slice (some ⟨N, 0, none⟩) m m, .int .i64 1] 39)) 1 49 W3 (Below.refl _ _)
  rw [hz1] at hzl
  have hb2 : Below (W.heap.size + 1) (W.alloc (.cells #[.slice (some ⟨N, 0, none⟩) m m, .int .i64 1] 39)) W3 := by
    have := (Below.refl (W.alloc (.cells #[.slice (some ⟨N, 0, none⟩) m m, .int .i64 1] 39)).heap.size _).alloc (Nat.le_refl _) (.cells (madeCells #[.int .i64 0, .slice none 0 0] (1 * 2)) 49)
    rwa [hz1] at this
  have hz3 : W3.heap.size = W.heap.size + 2 := by show (World.alloc _ _).heap.size = _; simp
  have hWW : Below W.heap.size W W3 := hb1.trans (hb2.mono (by omega))
  refine ⟨⟨zls_len 1, hzl, fun i hi => by rw [zls_get 1 i hi]; decide, rfl, fun i hi => ?_, by omega, by omega⟩, h.bel.trans (hWW.mono h.bel.size)⟩
  match i, hi with
  | 0, _ =>
    have hlt := h.lt
    refine ⟨W.heap.size, 0, some ⟨N, 0, none⟩, m, rfl, by omega, by show (zps m).length ≤ _; rw [zps_len]; omega, ?_, ?_, fun j hj => ?_⟩
    · show W3.cell? ⟨W.heap.size, 0, none⟩ = some (.slice (some ⟨N, 0, none⟩) (zps m).length m)
      rw [zps_len]
      exact (hb2.cell (p := ⟨W.heap.size, 0, none⟩) (Nat.lt_succ_self _)).trans ((cell_of_row _ _ _ _ _ _ h1).trans rfl)
    · exact (hb2.cell (p := ⟨W.heap.size, 1, none⟩) (Nat.lt_succ_self _)).trans ((cell_of_row _ _ _ _ _ _ h1).trans rfl)
    · have hj' : j < m := by have : j < (zps m).length := hj; rwa [zps_len] at this
      obtain ⟨g1, g2, _⟩ := h.at' j hj'
      have e : ((([(zps m, 1)] : List (List (Int × Int) × Int)).getD 0 ([], 0)).1.getD j (0, 0)) = (0, 1) := zps_get m j hj'
      rw [e]
      refine ⟨N, 0, rfl, by omega, ?_, ?_⟩
      · rw [Nat.zero_add]; exact (hWW.cell (p := ⟨N, _, none⟩) hlt).trans g1
      · rw [Nat.zero_add]; exact (hWW.cell (p := ⟨N, _, none⟩) hlt).trans (g2 hj')
end Go.Proofs.YtmjhjacbhflcpaaDoor
