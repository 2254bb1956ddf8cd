/- PackLong: its walk. -/
import Derived.Test.YtgaipfkblfommaaPakYz
import Derived.Test.YtgaipfkblfommaaPakWb
import Derived.Deep.OwnRows
set_option linter.unusedVariables false
set_option linter.unusedSimpArgs false
namespace Go.Proofs.Ytgaipfkblfommaa
set_option maxRecDepth 100000
open Go.RowKit

def zs (n : Nat) : List UInt8 := List.replicate n 0
theorem zs_len (n : Nat) : (zs n).length = n := List.length_replicate
theorem zs_succ (n : Nat) : zs (n + 1) = 0 :: zs n := rfl
theorem zeros_sits (w : World) (n : Nat) (h : n ≤ 5000000) : Sits byteSh (Lo (w.heap.size + 1)) (w.alloc (.cells (madeCells #[.int .u8 0] n) 5)) (some ⟨w.heap.size, 0, none⟩) (zs n) := by
  refine ⟨by rw [zs_len]; omega, fun i hi => ⟨w.heap.size, 0, [.int .u8 0], rfl, (by show _ < _; omega), fun j u hu => ?_, ?_⟩⟩
  · have hj : j = 0 := by have := (List.getElem?_eq_some_iff.1 hu).1; simp at this; exact this
    subst hj
    rw [zs_len] at hi
    rw [cell_of_row _ _ _ _ _ _ (heap_alloc_new w _)]
    simp at hu
    subst hu
    rw [← Array.getElem?_toList, toList_madeCells_one]
    show (List.replicate n _)[0 + (i * 1 + 0)]? = _
    rw [List.getElem?_replicate, if_pos (by omega)]
  · show _ = _
    simp [zs]
theorem pn0 (l : List UInt8) : pNum (0 :: l) = some (0, l) := by simp [pNum, numGo, unzig]
theorem pm0 (l : List UInt8) : pMany (0 :: l) = some (0, l) := by simp [pMany, pn0]
theorem pw0 (l : List UInt8) : pWit (0 :: l) = some ([], l) := by simp [pWit, pEach, pm0, pGo]
theorem zs_many (n : Nat) : ∀ k r, pMany (zs n) = some (k, r) → k = 0 := fun k r h => by
  cases n with
  | zero => cases h
  | succ n =>
    rw [zs_succ, pm0] at h
    simp at h
    exact h.1.symm
theorem zs_err {n : Nat} {xs : List Rec} {er : Value} {k : Int} (h : ReadIs (zs n) xs er k) : k = zerr (zs n) := by
  cases n with
  | zero =>
    cases h with
    | long h => exact absurd h (by decide)
    | form => rfl
    | more _ _ _ h => cases h
    | fine _ _ h => cases h
  | succ n =>
    unfold zerr
    rw [zs_succ] at h ⊢
    rw [pm0]
    cases h with
    | long h => rw [if_pos h]
    | form _ h => rw [pw0] at h; cases h
    | more y r a h b =>
      rw [pw0] at h
      simp at h
      rw [if_neg (by omega), h.2]
      simp only
      rw [if_neg (by omega)]
    | fine _ a h =>
      rw [pw0] at h
      simp at h
      rw [if_neg (by omega), h.2]
      rfl
theorem lone_sits (W : World) (k : Nat) (hk : W.heap.size = k) (nm : ByteArray) : ((W.alloc (.cells #[.string nm, .slice none 0 0] 37)).alloc (.cells #[.slice (some ⟨k, 0, none⟩) 1 1] 24)).heap.size = k + 2 ∧ Sits recSh (Lo (k + 2)) ((W.alloc (.cells #[.string nm, .slice none 0 0] 37)).alloc (.cells #[.slice (some ⟨k, 0, none⟩) 1 1] 24)) (some ⟨k, 0, none⟩) [⟨nm, []⟩] ∧ ((W.alloc (.cells #[.string nm, .slice none 0 0] 37)).alloc (.cells #[.slice (some ⟨k, 0, none⟩) 1 1] 24)).cell? ⟨k + 1, 0, none⟩ = some (.slice (some ⟨k, 0, none⟩) 1 1) ∧ Below k W ((W.alloc (.cells #[.string nm, .slice none 0 0] 37)).alloc (.cells #[.slice (some ⟨k, 0, none⟩) 1 1] 24)) := by
  subst hk
  have A : Below W.heap.size W (W.alloc (.cells #[.string nm, .slice none 0 0] 37)) := (Below.refl _ _).alloc (Nat.le_refl _) _
  have A2 : Below (W.alloc (.cells #[.string nm, .slice none 0 0] 37)).heap.size (W.alloc (.cells #[.string nm, .slice none 0 0] 37)) ((W.alloc (.cells #[.string nm, .slice none 0 0] 37)).alloc (.cells #[.slice (some ⟨W.heap.size, 0, none⟩) 1 1] 24)) := (Below.refl _ _).alloc (Nat.le_refl _) _
  have h1 := heap_alloc_new W (.cells #[.string nm, .slice none 0 0] 37)
  have h2 := heap_alloc_new (W.alloc (.cells #[.string nm, .slice none 0 0] 37)) (.cells #[.slice (some ⟨W.heap.size, 0, none⟩) 1 1] 24)
  rw [World.size_alloc] at h2
  have h3 := (A2.block W.heap.size (by simp)).trans h1
  refine ⟨by simp, sits_one (cs := [.string nm, .slice none 0 0]) h3 (by show _ < _; omega) ⟨_, rfl, none, 0, rfl, Sits.nil _ _ _ _⟩, (cell_of_row _ _ _ _ _ _ h2).trans rfl, A.trans (A2.mono A.size)⟩
theorem lone_len (nm : ByteArray) (n : Nat) (h : nm.size = n) (hn : n ≤ 5000000) : (encWit [⟨nm, []⟩]).length ≤ 140000000000000 := by
  have h1 := numn_len (n := nm.size) (by omega)
  have h2 := numn_len (n := 0) (by omega)
  have h3 := numn_len (n := 1) (by omega)
  have h4 : nm.data.toList.length = nm.size := rfl
  simp only [encWit, encList, encRec, List.flatMap_cons, List.flatMap_nil, List.length_append, List.length_nil, List.append_nil, List.length_cons, Nat.zero_add]
  omega
theorem BRow.conv2 {B : Nat} {l : List UInt8} {v : Value} {w w' : World} (h : BRow B l v w) (hb : Below w.heap.size w w') (hm : l.length ≤ 9223372036854775807) : (convert 27 9 v).run Try.prog w' = .ok (.string ⟨l.toArray⟩) w' := (h.below hb).conv hm
theorem bnext {w w1 w2 : World} (h1 : Below w.heap.size w w1) (h2 : Below w1.heap.size w1 w2) : Below w.heap.size w w2 := h1.trans (h2.mono h1.size)
set_option maxHeartbeats 8000000 in
theorem packLong_any (x : Int) (w : World) : Calls Try.prog 4 #[.int .i64 x] w fun e w' => e = .returned (.bool true) ∧ Below w.heap.size w w' := by
  have HUP := Lib.hid (up_said12 w)
  go_enter Try.func4, Try.ntmps4
  rcases (by omega : x < 0 ∨ (¬ x < 0 ∧ 5000000 < x) ∨ (¬ x < 0 ∧ ¬ 5000000 < x)) with h0 | ⟨h0, h1⟩ | ⟨h0, h1⟩
  · obtain ⟨n, hY, hn⟩ : ∃ n : Nat, ((3 : Int) = (n : Int)) ∧ n ≤ 5000000 := ⟨(3 : Int).toNat, by omega, by omega⟩
    have HMK : Hid (∀ W : World, (Instr.makeSlice 27 (.int .i64 3) (.int .i64 3)).run Try.prog W = .ok (.slice (some ⟨W.heap.size, 0, none⟩) n n) (W.alloc (.cells (madeCells #[.int .u8 0] n) 5))) := fun W => by
      rw [hY]
      exact run_make_row' (P := Try.prog) 27 5 (.int .u8 0) 1 Try.underlying27 (by kernel_rfl) rfl .i64 .i64 n (by omega) (by omega) W
    have HZR : Hid (∀ W : World, Calls Try.prog 12 #[.slice (some ⟨W.heap.size, 0, none⟩) n n] (W.alloc (.cells (madeCells #[.int .u8 0] n) 5)) (ReadEnd (zs n) (W.alloc (.cells (madeCells #[.int .u8 0] n) 5)))) := Lib.hid fun W => by
      have := read_any (some ⟨W.heap.size, 0, none⟩) (zs n) n (W.alloc (.cells (madeCells #[.int .u8 0] n) 5)) (by rw [World.size_alloc]; exact zeros_sits W n hn) ⟨by rw [zs_len]; omega, by omega⟩ (fun e => by cases e)
      rwa [zs_len] at this
    have HZZ : Hid (∀ W : World, Calls Try.prog 13 #[.slice (some ⟨W.heap.size, 0, none⟩) n n] (W.alloc (.cells (madeCells #[.int .u8 0] n) 5)) (ZEnd (zs n) (W.alloc (.cells (madeCells #[.int .u8 0] n) 5)))) := Lib.hid fun W => by
      have := rread0_any (some ⟨W.heap.size, 0, none⟩) (zs n) n (W.alloc (.cells (madeCells #[.int .u8 0] n) 5)) (by rw [World.size_alloc]; exact zeros_sits W n hn) ⟨by rw [zs_len]; omega, by omega⟩ (zs_many n)
      rwa [zs_len] at this
    have HAZ : Hid (∀ W : World, Below W.heap.size W (W.alloc (.cells (madeCells #[.int .u8 0] n) 5))) := Lib.hid fun W => (Below.refl _ _).alloc (Nat.le_refl _) _
    clear hY
    go_wp2_with fail
    refine HUP.out.mono ?_
    rintro e w1 ⟨rfl, hb1⟩
    have B1 := Lib.hid hb1
    have mk := HMK.out w1
    clear hb1 HUP
    have A1 : Below w1.heap.size w1 (w1.alloc (.cells (madeCells #[.int .u8 0] n) 5)) := (Below.refl _ _).alloc (Nat.le_refl _) _
    have cv : (convert 27 9 (.slice (some ⟨w1.heap.size, 0, none⟩) n n)).run Try.prog (w1.alloc (.cells (madeCells #[.int .u8 0] n) 5)) = .ok (.string ⟨(zs n).toArray⟩) (w1.alloc (.cells (madeCells #[.int .u8 0] n) 5)) := by
      have := conv_bytes n (zeros_sits w1 n hn)
      rwa [zs_len] at this
    go_wp2_with fail
    obtain ⟨s4, l4, x4, A4⟩ := lone_sits (w1.alloc (.cells (madeCells #[.int .u8 0] n) 5)) (w1.heap.size + 1) (World.size_alloc _ _) ⟨(zs n).toArray⟩
    have B4 := Lib.hid (A1.trans (A4.mono (Nat.le_succ _)))
    have nsz : (⟨(zs n).toArray⟩ : ByteArray).size = n := by show (zs n).toArray.size = n; rw [List.size_toArray, zs_len]
    generalize (⟨(zs n).toArray⟩ : ByteArray) = nm at *
    have HEL := Lib.hid (lone_len nm n nsz hn)
    have HSM : Hid (Small [(⟨nm, []⟩ : Rec)]) := Lib.hid (fun y hy => by
      simp at hy
      subst hy
      show nm.size ≤ _
      omega)
    generalize hxs : [(⟨nm, []⟩ : Rec)] = xs at *
    have hx1 : xs.length = 1 := by rw [← hxs]; rfl
    have HXL := Lib.hid hx1
    clear cv A1 A4 nsz hxs hx1
    generalize ((w1.alloc (.cells (madeCells #[.int .u8 0] n) 5)).alloc (.cells #[.string nm, .slice none 0 0] 37)).alloc (.cells #[.slice (some ⟨w1.heap.size + 1, 0, none⟩) 1 1] 24) = W4 at *
    have HW := Lib.hid (write_any _ 1 1 xs W4 HXL.out HSM.out (by rw [s4]; exact l4))
    have HL4 := Lib.hid l4
    have HS4 := Lib.hid s4
    have HX4 := Lib.hid x4
    clear l4 s4 mk
    refine HW.out.mono ?_
    rintro e w5 ⟨v5, er5, rfl, b5, g5⟩
    have q4 : w1.heap.size + 1 + 1 < W4.heap.size := by rw [HS4.out]; omega
    have HQ4 := Lib.hid q4
    have x5 := (b5.cell (p := ⟨w1.heap.size + 1 + 1, 0, none⟩) q4).trans x4
    have HRW := Lib.hid (rwrite_any _ 1 1 xs w5 HXL.out ((show Sits recSh (Lo W4.heap.size) W4 _ xs by rw [HS4.out]; exact HL4.out).below b5 b5.size) HEL.out)
    have B5 := Lib.hid b5
    have G5 := Lib.hid g5
    clear x4 q4 HW b5 g5
    go_wp2_with fail
    refine HRW.out.mono ?_
    rintro e w6 ⟨v6, bad, rfl, b6, g6⟩
    have B6 := Lib.hid b6
    have G6 := Lib.hid g6
    have mk6 := HMK.out w6
    clear b6 g6 HRW x5
    go_wp2_with fail
    refine (HZR.out w6).mono ?_
    rintro e w7 ⟨v7, ys, er7, k7, rfl, ri, sl, b7⟩
    have B7 : Hid (Below w6.heap.size w6 w7) := Lib.hid (bnext (HAZ.out w6) b7)
    have HRI := Lib.hid ri
    obtain ⟨a7, c7, rfl, _⟩ := sl
    have mk7 := HMK.out (w7.alloc (.cells #[.slice a7 ys.length c7] 24))
    have B8 : Below w7.heap.size w7 (w7.alloc (.cells #[.slice a7 ys.length c7] 24)) := (Below.refl _ _).alloc (Nat.le_refl _) _
    have B68 : Hid (Below w6.heap.size w6 (w7.alloc (.cells #[.slice a7 ys.length c7] 24))) := Lib.hid (bnext B7.out B8)
    have HZ7 := HZZ.out (w7.alloc (.cells #[.slice a7 ys.length c7] 24))
    have HA7 := HAZ.out (w7.alloc (.cells #[.slice a7 ys.length c7] 24))
    rw [World.size_alloc] at HZ7
    have HZ8 := Lib.hid HZ7
    have HA8 := Lib.hid HA7
    clear ri b7 mk6 HZ7 HA7 B7 B8 HZR HZZ HAZ
    go_wp2_with fail
    refine HZ8.out.mono ?_
    rintro e w9 ⟨rfl, b9⟩
    have B9 : Hid (Below w6.heap.size w6 w9) := Lib.hid (bnext B68.out (bnext HA8.out b9))
    have A9 : Below w9.heap.size w9 (w9.alloc (.cells #[.slice none 0 0] 24)) := (Below.refl _ _).alloc (Nat.le_refl _) _
    have B69 : Hid (Below w6.heap.size w6 (w9.alloc (.cells #[.slice none 0 0] 24))) := Lib.hid (bnext B9.out A9)
    clear b9 mk7 HZ8 HA8 B68 B9 A9
    have HB := Lib.hid (bnext (bnext (bnext B1.out B4.out) (bnext B5.out B6.out)) B69.out)
    have hc7 := code_of HRI.out (w9.alloc (.cells #[.slice none 0 0] 24))
    rw [zs_err HRI.out] at hc7
    have HC := Lib.hid hc7
    clear hc7
    rcases G5.out with ⟨e1, rfl, r5⟩ | ⟨e1, rfl, rfl⟩
    · obtain ⟨_, rfl, r6⟩ : (encWit xs).length ≤ 4194304 ∧ bad = 0 ∧ BRow w5.heap.size (encWit xs) v6 w6 := by
        rcases G6.out with h | ⟨h, _⟩
        · exact h
        · omega
      have r5' : BRow W4.heap.size (encWit xs) v5 w5 := r5
      have c5 := r5'.conv2 (bnext B6.out B69.out) (by omega)
      have c6 := r6.conv2 B69.out (by omega)
      obtain ⟨a5, cap5, rfl⟩ := r5'.slice
      obtain ⟨a6, cap6, rfl⟩ := r6.slice
      have HC0 := Lib.hid (code_nil (w9.alloc (.cells #[.slice none 0 0] 24)))
      clear r5 r5' r6 G5 G6 B5 B6 B69 HRI HEL HSM HXL HL4 HS4 HX4 HQ4 HMK B1 B4
      generalize (encWit xs).length = m at *
      generalize (encWit xs).toArray = s at *
      generalize zerr (zs n) = z at *
      go_wp2_with fail
      refine HC0.out.mono ?_
      rintro e w10 ⟨rfl, rfl⟩
      go_wp2_with fail
      refine HC.out.mono ?_
      rintro e w11 ⟨rfl, rfl⟩
      go_wp2_with fail
      go_ret
      exact ⟨rfl, HB.out⟩
    · obtain ⟨_, rfl, rfl⟩ : 4194304 < (encWit xs).length ∧ bad = 2 ∧ v6 = .slice none 0 0 := by
        rcases G6.out with ⟨h, _⟩ | h
        · omega
        · exact h
      have c5 := conv_nil (w9.alloc (.cells #[.slice none 0 0] 24))
      have HC0 := Lib.hid (code_k 2 (w9.alloc (.cells #[.slice none 0 0] 24)) (by decide) (by decide))
      unfold ErrLong
      clear G5 G6 B5 B6 B69 HRI HEL HSM HXL HL4 HS4 HX4 HQ4 HMK B1 B4
      generalize zerr (zs n) = z at *
      go_wp2_with fail
      refine HC0.out.mono ?_
      rintro e w10 ⟨rfl, rfl⟩
      go_wp2_with fail
      refine HC.out.mono ?_
      rintro e w11 ⟨rfl, rfl⟩
      go_wp2_with fail
      go_ret
      exact ⟨rfl, HB.out⟩

  · obtain ⟨n, hY, hn⟩ : ∃ n : Nat, ((3 : Int) = (n : Int)) ∧ n ≤ 5000000 := ⟨(3 : Int).toNat, by omega, by omega⟩
    have HMK : Hid (∀ W : World, (Instr.makeSlice 27 (.int .i64 3) (.int .i64 3)).run Try.prog W = .ok (.slice (some ⟨W.heap.size, 0, none⟩) n n) (W.alloc (.cells (madeCells #[.int .u8 0] n) 5))) := fun W => by
      rw [hY]
      exact run_make_row' (P := Try.prog) 27 5 (.int .u8 0) 1 Try.underlying27 (by kernel_rfl) rfl .i64 .i64 n (by omega) (by omega) W
    have HZR : Hid (∀ W : World, Calls Try.prog 12 #[.slice (some ⟨W.heap.size, 0, none⟩) n n] (W.alloc (.cells (madeCells #[.int .u8 0] n) 5)) (ReadEnd (zs n) (W.alloc (.cells (madeCells #[.int .u8 0] n) 5)))) := Lib.hid fun W => by
      have := read_any (some ⟨W.heap.size, 0, none⟩) (zs n) n (W.alloc (.cells (madeCells #[.int .u8 0] n) 5)) (by rw [World.size_alloc]; exact zeros_sits W n hn) ⟨by rw [zs_len]; omega, by omega⟩ (fun e => by cases e)
      rwa [zs_len] at this
    have HZZ : Hid (∀ W : World, Calls Try.prog 13 #[.slice (some ⟨W.heap.size, 0, none⟩) n n] (W.alloc (.cells (madeCells #[.int .u8 0] n) 5)) (ZEnd (zs n) (W.alloc (.cells (madeCells #[.int .u8 0] n) 5)))) := Lib.hid fun W => by
      have := rread0_any (some ⟨W.heap.size, 0, none⟩) (zs n) n (W.alloc (.cells (madeCells #[.int .u8 0] n) 5)) (by rw [World.size_alloc]; exact zeros_sits W n hn) ⟨by rw [zs_len]; omega, by omega⟩ (zs_many n)
      rwa [zs_len] at this
    have HAZ : Hid (∀ W : World, Below W.heap.size W (W.alloc (.cells (madeCells #[.int .u8 0] n) 5))) := Lib.hid fun W => (Below.refl _ _).alloc (Nat.le_refl _) _
    clear hY
    go_wp2_with fail
    refine HUP.out.mono ?_
    rintro e w1 ⟨rfl, hb1⟩
    have B1 := Lib.hid hb1
    have mk := HMK.out w1
    clear hb1 HUP
    have A1 : Below w1.heap.size w1 (w1.alloc (.cells (madeCells #[.int .u8 0] n) 5)) := (Below.refl _ _).alloc (Nat.le_refl _) _
    have cv : (convert 27 9 (.slice (some ⟨w1.heap.size, 0, none⟩) n n)).run Try.prog (w1.alloc (.cells (madeCells #[.int .u8 0] n) 5)) = .ok (.string ⟨(zs n).toArray⟩) (w1.alloc (.cells (madeCells #[.int .u8 0] n) 5)) := by
      have := conv_bytes n (zeros_sits w1 n hn)
      rwa [zs_len] at this
    go_wp2_with fail
    obtain ⟨s4, l4, x4, A4⟩ := lone_sits (w1.alloc (.cells (madeCells #[.int .u8 0] n) 5)) (w1.heap.size + 1) (World.size_alloc _ _) ⟨(zs n).toArray⟩
    have B4 := Lib.hid (A1.trans (A4.mono (Nat.le_succ _)))
    have nsz : (⟨(zs n).toArray⟩ : ByteArray).size = n := by show (zs n).toArray.size = n; rw [List.size_toArray, zs_len]
    generalize (⟨(zs n).toArray⟩ : ByteArray) = nm at *
    have HEL := Lib.hid (lone_len nm n nsz hn)
    have HSM : Hid (Small [(⟨nm, []⟩ : Rec)]) := Lib.hid (fun y hy => by
      simp at hy
      subst hy
      show nm.size ≤ _
      omega)
    generalize hxs : [(⟨nm, []⟩ : Rec)] = xs at *
    have hx1 : xs.length = 1 := by rw [← hxs]; rfl
    have HXL := Lib.hid hx1
    clear cv A1 A4 nsz hxs hx1
    generalize ((w1.alloc (.cells (madeCells #[.int .u8 0] n) 5)).alloc (.cells #[.string nm, .slice none 0 0] 37)).alloc (.cells #[.slice (some ⟨w1.heap.size + 1, 0, none⟩) 1 1] 24) = W4 at *
    have HW := Lib.hid (write_any _ 1 1 xs W4 HXL.out HSM.out (by rw [s4]; exact l4))
    have HL4 := Lib.hid l4
    have HS4 := Lib.hid s4
    have HX4 := Lib.hid x4
    clear l4 s4 mk
    refine HW.out.mono ?_
    rintro e w5 ⟨v5, er5, rfl, b5, g5⟩
    have q4 : w1.heap.size + 1 + 1 < W4.heap.size := by rw [HS4.out]; omega
    have HQ4 := Lib.hid q4
    have x5 := (b5.cell (p := ⟨w1.heap.size + 1 + 1, 0, none⟩) q4).trans x4
    have HRW := Lib.hid (rwrite_any _ 1 1 xs w5 HXL.out ((show Sits recSh (Lo W4.heap.size) W4 _ xs by rw [HS4.out]; exact HL4.out).below b5 b5.size) HEL.out)
    have B5 := Lib.hid b5
    have G5 := Lib.hid g5
    clear x4 q4 HW b5 g5
    go_wp2_with fail
    refine HRW.out.mono ?_
    rintro e w6 ⟨v6, bad, rfl, b6, g6⟩
    have B6 := Lib.hid b6
    have G6 := Lib.hid g6
    have mk6 := HMK.out w6
    clear b6 g6 HRW x5
    go_wp2_with fail
    refine (HZR.out w6).mono ?_
    rintro e w7 ⟨v7, ys, er7, k7, rfl, ri, sl, b7⟩
    have B7 : Hid (Below w6.heap.size w6 w7) := Lib.hid (bnext (HAZ.out w6) b7)
    have HRI := Lib.hid ri
    obtain ⟨a7, c7, rfl, _⟩ := sl
    have mk7 := HMK.out (w7.alloc (.cells #[.slice a7 ys.length c7] 24))
    have B8 : Below w7.heap.size w7 (w7.alloc (.cells #[.slice a7 ys.length c7] 24)) := (Below.refl _ _).alloc (Nat.le_refl _) _
    have B68 : Hid (Below w6.heap.size w6 (w7.alloc (.cells #[.slice a7 ys.length c7] 24))) := Lib.hid (bnext B7.out B8)
    have HZ7 := HZZ.out (w7.alloc (.cells #[.slice a7 ys.length c7] 24))
    have HA7 := HAZ.out (w7.alloc (.cells #[.slice a7 ys.length c7] 24))
    rw [World.size_alloc] at HZ7
    have HZ8 := Lib.hid HZ7
    have HA8 := Lib.hid HA7
    clear ri b7 mk6 HZ7 HA7 B7 B8 HZR HZZ HAZ
    go_wp2_with fail
    refine HZ8.out.mono ?_
    rintro e w9 ⟨rfl, b9⟩
    have B9 : Hid (Below w6.heap.size w6 w9) := Lib.hid (bnext B68.out (bnext HA8.out b9))
    have A9 : Below w9.heap.size w9 (w9.alloc (.cells #[.slice none 0 0] 24)) := (Below.refl _ _).alloc (Nat.le_refl _) _
    have B69 : Hid (Below w6.heap.size w6 (w9.alloc (.cells #[.slice none 0 0] 24))) := Lib.hid (bnext B9.out A9)
    clear b9 mk7 HZ8 HA8 B68 B9 A9
    have HB := Lib.hid (bnext (bnext (bnext B1.out B4.out) (bnext B5.out B6.out)) B69.out)
    have hc7 := code_of HRI.out (w9.alloc (.cells #[.slice none 0 0] 24))
    rw [zs_err HRI.out] at hc7
    have HC := Lib.hid hc7
    clear hc7
    rcases G5.out with ⟨e1, rfl, r5⟩ | ⟨e1, rfl, rfl⟩
    · obtain ⟨_, rfl, r6⟩ : (encWit xs).length ≤ 4194304 ∧ bad = 0 ∧ BRow w5.heap.size (encWit xs) v6 w6 := by
        rcases G6.out with h | ⟨h, _⟩
        · exact h
        · omega
      have r5' : BRow W4.heap.size (encWit xs) v5 w5 := r5
      have c5 := r5'.conv2 (bnext B6.out B69.out) (by omega)
      have c6 := r6.conv2 B69.out (by omega)
      obtain ⟨a5, cap5, rfl⟩ := r5'.slice
      obtain ⟨a6, cap6, rfl⟩ := r6.slice
      have HC0 := Lib.hid (code_nil (w9.alloc (.cells #[.slice none 0 0] 24)))
      clear r5 r5' r6 G5 G6 B5 B6 B69 HRI HEL HSM HXL HL4 HS4 HX4 HQ4 HMK B1 B4
      generalize (encWit xs).length = m at *
      generalize (encWit xs).toArray = s at *
      generalize zerr (zs n) = z at *
      go_wp2_with fail
      refine HC0.out.mono ?_
      rintro e w10 ⟨rfl, rfl⟩
      go_wp2_with fail
      refine HC.out.mono ?_
      rintro e w11 ⟨rfl, rfl⟩
      go_wp2_with fail
      go_ret
      exact ⟨rfl, HB.out⟩
    · obtain ⟨_, rfl, rfl⟩ : 4194304 < (encWit xs).length ∧ bad = 2 ∧ v6 = .slice none 0 0 := by
        rcases G6.out with ⟨h, _⟩ | h
        · omega
        · exact h
      have c5 := conv_nil (w9.alloc (.cells #[.slice none 0 0] 24))
      have HC0 := Lib.hid (code_k 2 (w9.alloc (.cells #[.slice none 0 0] 24)) (by decide) (by decide))
      unfold ErrLong
      clear G5 G6 B5 B6 B69 HRI HEL HSM HXL HL4 HS4 HX4 HQ4 HMK B1 B4
      generalize zerr (zs n) = z at *
      go_wp2_with fail
      refine HC0.out.mono ?_
      rintro e w10 ⟨rfl, rfl⟩
      go_wp2_with fail
      refine HC.out.mono ?_
      rintro e w11 ⟨rfl, rfl⟩
      go_wp2_with fail
      go_ret
      exact ⟨rfl, HB.out⟩

  · obtain ⟨n, hY, hn⟩ : ∃ n : Nat, ((x : Int) = (n : Int)) ∧ n ≤ 5000000 := ⟨(x : Int).toNat, by omega, by omega⟩
    have HMK : Hid (∀ W : World, (Instr.makeSlice 27 (.int .i64 x) (.int .i64 x)).run Try.prog W = .ok (.slice (some ⟨W.heap.size, 0, none⟩) n n) (W.alloc (.cells (madeCells #[.int .u8 0] n) 5))) := fun W => by
      rw [hY]
      exact run_make_row' (P := Try.prog) 27 5 (.int .u8 0) 1 Try.underlying27 (by kernel_rfl) rfl .i64 .i64 n (by omega) (by omega) W
    have HZR : Hid (∀ W : World, Calls Try.prog 12 #[.slice (some ⟨W.heap.size, 0, none⟩) n n] (W.alloc (.cells (madeCells #[.int .u8 0] n) 5)) (ReadEnd (zs n) (W.alloc (.cells (madeCells #[.int .u8 0] n) 5)))) := Lib.hid fun W => by
      have := read_any (some ⟨W.heap.size, 0, none⟩) (zs n) n (W.alloc (.cells (madeCells #[.int .u8 0] n) 5)) (by rw [World.size_alloc]; exact zeros_sits W n hn) ⟨by rw [zs_len]; omega, by omega⟩ (fun e => by cases e)
      rwa [zs_len] at this
    have HZZ : Hid (∀ W : World, Calls Try.prog 13 #[.slice (some ⟨W.heap.size, 0, none⟩) n n] (W.alloc (.cells (madeCells #[.int .u8 0] n) 5)) (ZEnd (zs n) (W.alloc (.cells (madeCells #[.int .u8 0] n) 5)))) := Lib.hid fun W => by
      have := rread0_any (some ⟨W.heap.size, 0, none⟩) (zs n) n (W.alloc (.cells (madeCells #[.int .u8 0] n) 5)) (by rw [World.size_alloc]; exact zeros_sits W n hn) ⟨by rw [zs_len]; omega, by omega⟩ (zs_many n)
      rwa [zs_len] at this
    have HAZ : Hid (∀ W : World, Below W.heap.size W (W.alloc (.cells (madeCells #[.int .u8 0] n) 5))) := Lib.hid fun W => (Below.refl _ _).alloc (Nat.le_refl _) _
    clear hY
    go_wp2_with fail
    refine HUP.out.mono ?_
    rintro e w1 ⟨rfl, hb1⟩
    have B1 := Lib.hid hb1
    have mk := HMK.out w1
    clear hb1 HUP
    have A1 : Below w1.heap.size w1 (w1.alloc (.cells (madeCells #[.int .u8 0] n) 5)) := (Below.refl _ _).alloc (Nat.le_refl _) _
    have cv : (convert 27 9 (.slice (some ⟨w1.heap.size, 0, none⟩) n n)).run Try.prog (w1.alloc (.cells (madeCells #[.int .u8 0] n) 5)) = .ok (.string ⟨(zs n).toArray⟩) (w1.alloc (.cells (madeCells #[.int .u8 0] n) 5)) := by
      have := conv_bytes n (zeros_sits w1 n hn)
      rwa [zs_len] at this
    go_wp2_with fail
    obtain ⟨s4, l4, x4, A4⟩ := lone_sits (w1.alloc (.cells (madeCells #[.int .u8 0] n) 5)) (w1.heap.size + 1) (World.size_alloc _ _) ⟨(zs n).toArray⟩
    have B4 := Lib.hid (A1.trans (A4.mono (Nat.le_succ _)))
    have nsz : (⟨(zs n).toArray⟩ : ByteArray).size = n := by show (zs n).toArray.size = n; rw [List.size_toArray, zs_len]
    generalize (⟨(zs n).toArray⟩ : ByteArray) = nm at *
    have HEL := Lib.hid (lone_len nm n nsz hn)
    have HSM : Hid (Small [(⟨nm, []⟩ : Rec)]) := Lib.hid (fun y hy => by
      simp at hy
      subst hy
      show nm.size ≤ _
      omega)
    generalize hxs : [(⟨nm, []⟩ : Rec)] = xs at *
    have hx1 : xs.length = 1 := by rw [← hxs]; rfl
    have HXL := Lib.hid hx1
    clear cv A1 A4 nsz hxs hx1
    generalize ((w1.alloc (.cells (madeCells #[.int .u8 0] n) 5)).alloc (.cells #[.string nm, .slice none 0 0] 37)).alloc (.cells #[.slice (some ⟨w1.heap.size + 1, 0, none⟩) 1 1] 24) = W4 at *
    have HW := Lib.hid (write_any _ 1 1 xs W4 HXL.out HSM.out (by rw [s4]; exact l4))
    have HL4 := Lib.hid l4
    have HS4 := Lib.hid s4
    have HX4 := Lib.hid x4
    clear l4 s4 mk
    refine HW.out.mono ?_
    rintro e w5 ⟨v5, er5, rfl, b5, g5⟩
    have q4 : w1.heap.size + 1 + 1 < W4.heap.size := by rw [HS4.out]; omega
    have HQ4 := Lib.hid q4
    have x5 := (b5.cell (p := ⟨w1.heap.size + 1 + 1, 0, none⟩) q4).trans x4
    have HRW := Lib.hid (rwrite_any _ 1 1 xs w5 HXL.out ((show Sits recSh (Lo W4.heap.size) W4 _ xs by rw [HS4.out]; exact HL4.out).below b5 b5.size) HEL.out)
    have B5 := Lib.hid b5
    have G5 := Lib.hid g5
    clear x4 q4 HW b5 g5
    go_wp2_with fail
    refine HRW.out.mono ?_
    rintro e w6 ⟨v6, bad, rfl, b6, g6⟩
    have B6 := Lib.hid b6
    have G6 := Lib.hid g6
    have mk6 := HMK.out w6
    clear b6 g6 HRW x5
    go_wp2_with fail
    refine (HZR.out w6).mono ?_
    rintro e w7 ⟨v7, ys, er7, k7, rfl, ri, sl, b7⟩
    have B7 : Hid (Below w6.heap.size w6 w7) := Lib.hid (bnext (HAZ.out w6) b7)
    have HRI := Lib.hid ri
    obtain ⟨a7, c7, rfl, _⟩ := sl
    have mk7 := HMK.out (w7.alloc (.cells #[.slice a7 ys.length c7] 24))
    have B8 : Below w7.heap.size w7 (w7.alloc (.cells #[.slice a7 ys.length c7] 24)) := (Below.refl _ _).alloc (Nat.le_refl _) _
    have B68 : Hid (Below w6.heap.size w6 (w7.alloc (.cells #[.slice a7 ys.length c7] 24))) := Lib.hid (bnext B7.out B8)
    have HZ7 := HZZ.out (w7.alloc (.cells #[.slice a7 ys.length c7] 24))
    have HA7 := HAZ.out (w7.alloc (.cells #[.slice a7 ys.length c7] 24))
    rw [World.size_alloc] at HZ7
    have HZ8 := Lib.hid HZ7
    have HA8 := Lib.hid HA7
    clear ri b7 mk6 HZ7 HA7 B7 B8 HZR HZZ HAZ
    go_wp2_with fail
    refine HZ8.out.mono ?_
    rintro e w9 ⟨rfl, b9⟩
    have B9 : Hid (Below w6.heap.size w6 w9) := Lib.hid (bnext B68.out (bnext HA8.out b9))
    have A9 : Below w9.heap.size w9 (w9.alloc (.cells #[.slice none 0 0] 24)) := (Below.refl _ _).alloc (Nat.le_refl _) _
    have B69 : Hid (Below w6.heap.size w6 (w9.alloc (.cells #[.slice none 0 0] 24))) := Lib.hid (bnext B9.out A9)
    clear b9 mk7 HZ8 HA8 B68 B9 A9
    have HB := Lib.hid (bnext (bnext (bnext B1.out B4.out) (bnext B5.out B6.out)) B69.out)
    have hc7 := code_of HRI.out (w9.alloc (.cells #[.slice none 0 0] 24))
    rw [zs_err HRI.out] at hc7
    have HC := Lib.hid hc7
    clear hc7
    rcases G5.out with ⟨e1, rfl, r5⟩ | ⟨e1, rfl, rfl⟩
    · obtain ⟨_, rfl, r6⟩ : (encWit xs).length ≤ 4194304 ∧ bad = 0 ∧ BRow w5.heap.size (encWit xs) v6 w6 := by
        rcases G6.out with h | ⟨h, _⟩
        · exact h
        · omega
      have r5' : BRow W4.heap.size (encWit xs) v5 w5 := r5
      have c5 := r5'.conv2 (bnext B6.out B69.out) (by omega)
      have c6 := r6.conv2 B69.out (by omega)
      obtain ⟨a5, cap5, rfl⟩ := r5'.slice
      obtain ⟨a6, cap6, rfl⟩ := r6.slice
      have HC0 := Lib.hid (code_nil (w9.alloc (.cells #[.slice none 0 0] 24)))
      clear r5 r5' r6 G5 G6 B5 B6 B69 HRI HEL HSM HXL HL4 HS4 HX4 HQ4 HMK B1 B4
      generalize (encWit xs).length = m at *
      generalize (encWit xs).toArray = s at *
      generalize zerr (zs n) = z at *
      go_wp2_with fail
      refine HC0.out.mono ?_
      rintro e w10 ⟨rfl, rfl⟩
      go_wp2_with fail
      refine HC.out.mono ?_
      rintro e w11 ⟨rfl, rfl⟩
      go_wp2_with fail
      go_ret
      exact ⟨rfl, HB.out⟩
    · obtain ⟨_, rfl, rfl⟩ : 4194304 < (encWit xs).length ∧ bad = 2 ∧ v6 = .slice none 0 0 := by
        rcases G6.out with ⟨h, _⟩ | h
        · omega
        · exact h
      have c5 := conv_nil (w9.alloc (.cells #[.slice none 0 0] 24))
      have HC0 := Lib.hid (code_k 2 (w9.alloc (.cells #[.slice none 0 0] 24)) (by decide) (by decide))
      unfold ErrLong
      clear G5 G6 B5 B6 B69 HRI HEL HSM HXL HL4 HS4 HX4 HQ4 HMK B1 B4
      generalize zerr (zs n) = z at *
      go_wp2_with fail
      refine HC0.out.mono ?_
      rintro e w10 ⟨rfl, rfl⟩
      go_wp2_with fail
      refine HC.out.mono ?_
      rintro e w11 ⟨rfl, rfl⟩
      go_wp2_with fail
      go_ret
      exact ⟨rfl, HB.out⟩
end Go.Proofs.Ytgaipfkblfommaa
