/- lin.gather: the sound form of a constant and terms. lin.Make. -/
import Derived.Test.YtelndcmfddbgiaaDoorCt29
import Derived.Test.YtelndcmfddbgiaaDoorCt30
set_option linter.unusedVariables false
set_option linter.unusedSimpArgs false
namespace Go.Proofs.YtelndcmfddbgiaaDoor
open Go.RowKit

theorem Tryd.enters26 : ∀ args w, (callFunc 79 args).run Tryd.prog w = .ok (.enter 79 args) w := fun _ _ => by kernel_rfl

def mayAt (l : List (Int × Int)) (i : Nat) : Bool := mst (l.getD i (0, 0)).1 (l.getD i (0, 0)).2
theorem mayAll_yes (a : Option Addr) (n cap : Nat) (l : List (Int × Int)) (w : World) (B : Nat) (hB : B ≤ w.heap.size) (hn : l.length = n) (hm : n ≤ 9223372036854775807) (hl : Lies B w a l) (h : ∀ i, i < n → mayAt l i = true) :
    Calls Tryd.prog 77 #[.slice a n cap, .func (.func 79) #[] #[]] w fun e w' => e = .returned (.bool true) ∧ Below B w w' :=
  (all_yes 79 #[] a n cap l w (fun _ W => B ≤ W.heap.size) (mayAt l) Tryd.enters26 hn hm B hB hl hB
    (fun _ W o h => Nat.le_trans h ((Below.refl _ W).alloc (Nat.le_refl _) o).size)
    (fun i W _ _ hI => (mayStand_any (l.getD i (0, 0)).1 (l.getD i (0, 0)).2 W).mono fun _ _ ⟨he, hb⟩ => ⟨he, Nat.le_trans hI hb.size, hb.mono hI⟩)
    h).mono fun _ _ ⟨he, _, hb⟩ => ⟨he, hb⟩
theorem mayAll_no (a : Option Addr) (n cap : Nat) (l : List (Int × Int)) (w : World) (B : Nat) (hB : B ≤ w.heap.size) (hn : l.length = n) (hm : n ≤ 9223372036854775807) (hl : Lies B w a l) (h : ¬ ∀ i, i < n → mayAt l i = true) :
    Calls Tryd.prog 77 #[.slice a n cap, .func (.func 79) #[] #[]] w fun e w' => e = .returned (.bool false) ∧ Below B w w' := by
  obtain ⟨j, hj, h1, h2⟩ := first_no _ _ h
  exact (all_no 79 #[] a n cap l w (fun _ W => B ≤ W.heap.size) (mayAt l) Tryd.enters26 hn hm B hB hl hB
    (fun _ W o h => Nat.le_trans h ((Below.refl _ W).alloc (Nat.le_refl _) o).size)
    (fun i W _ _ hI => (mayStand_any (l.getD i (0, 0)).1 (l.getD i (0, 0)).2 W).mono fun _ _ ⟨he, hb⟩ => ⟨he, Nat.le_trans hI hb.size, hb.mono hI⟩)
    j hj h1 h2).mono fun _ _ ⟨he, _, hb⟩ => ⟨he, hb⟩

def LinOk (B : Nat) (c : Int) (R : List (Int × Int)) (w : World) (e : Ending) (w' : World) : Prop := ∃ v, e = .returned (.tuple #[.agg #[.int .i64 c, v], .nilIface]) ∧ Row B R v w' ∧ Below B w w'
def LinErr (B : Nat) (k : Int) (w : World) (e : Ending) (w' : World) : Prop := e = .returned (.tuple #[.agg #[.int .i64 0, .slice none 0 0], .iface 43 (.int .i64 k)]) ∧ Below B w w'

/-- The three parts of gather ahead of its tests. -/
theorem asc_of {l' : List (Int × Int)} (h : ∀ i j, i < j → j < l'.length → (l'.getD i (0, 0)).1 ≤ (l'.getD j (0, 0)).1) : Asc l' := h

theorem Row.mono {B B' : Nat} {l : List (Int × Int)} {v : Value} {w : World} (h : Row B l v w) (hB : B' ≤ B) : Row B' l v w := Joins.ownsRow_le h hB
theorem Row.below {B : Nat} {l : List (Int × Int)} {v : Value} {w w' : World} (h : Row B l v w) (hb : Below w.heap.size w w') : Row B l v w' := by
  obtain ⟨h1, h2⟩ := h
  rcases h2 with h2 | ⟨g, cap, cur, hv, hg, hh, hr⟩
  · exact ⟨h1, .inl h2⟩
  refine ⟨h1, .inr ?_⟩
  have hlt : g < w.heap.size := by
    by_cases e : g < w.heap.size
    · exact e
    · rw [Array.getElem?_eq_none (by omega)] at hh; cases hh
  exact ⟨g, cap, cur, hv, hg, by rw [hb.block g hlt]; exact hh, hr⟩

/-- A result of two cells, stored. -/
theorem res_cells (w : World) (b : Nat) (x y u v : Value) (h0 : w.cell? ⟨b, 0, none⟩ = some u) (h1 : w.cell? ⟨b, 1, none⟩ = some v) :
    (w.setCell ⟨b, 0, none⟩ x).cell? ⟨b, 0, none⟩ = some x ∧ ((w.setCell ⟨b, 0, none⟩ x).setCell ⟨b, 1, none⟩ y).cell? ⟨b, 1, none⟩ = some y := by
  refine ⟨World.cell?_setCell_same _ _ _ h0, World.cell?_setCell_same _ _ _ (u := v) ?_⟩
  rw [World.cell?_setCell_other _ _ _ _ (by simp)]
  exact h1
theorem frozen_new (w : World) (cs : Array Value) (t : TypeId) (o : Nat) : (w.alloc (.cells cs t)).frozen? ⟨w.heap.size, o, none⟩ = false := by simp

set_option maxHeartbeats 1600000 in
theorem gather_ok (c : Int) (a : Option Addr) (n cap B : Nat) (l R : List (Int × Int)) (w : World) (hn : l.length = n) (hrow : Row B l (.slice a n cap) w) (hB : B ≤ w.heap.size) (hm : n ≤ 8192) (hbd : Bd 4398046511104 l)
    (hV : ∀ m ∈ l, 0 ≤ m.1 ∧ m.1 < 1048576) (hR : IsSum l R) (hc : wi c 1073741824 = true) (hk : ∀ m ∈ R, wi m.2 1073741824 = true) (h64 : R.length ≤ 64) :
    Calls Tryd.prog 81 #[.int .i64 c, .slice a n cap] w (LinOk B c R w) := by
  have hso := fun W (hb : Below w.heap.size w W) => sort_row a n cap B l W hn (hrow.below hb) hm
  have hglt : ∀ b, a = some b → b.block < w.heap.size := fun b hb => (World.ownsRow.lt hrow b.block (by rw [hb]; rfl)).2
  have HA : Hid (∀ i, i < R.length → mayAt R i = true) := fun i hi => by
    have hmem : R.getD i (0, 0) ∈ R := by rw [List.getD_eq_getElem?_getD, List.getElem?_eq_getElem hi]; simp
    unfold mayAt
    obtain ⟨x, hx, hxe⟩ := hR.comes hmem
    rw [mst_t1 (by rw [← hxe]; exact hV x hx)]
    exact hk _ hmem
  have HN := Lib.hid hn
  have HR := Lib.hid hR
  have HSO := Lib.hid hso
  have HG := Lib.hid hglt
  have hwi := fun w => within_any c 1073741824 w (by omega) (by omega)
  rw [hc] at hwi
  clear hso hn hR hrow hc hglt hk hV
  go_enter Tryd.func81, Tryd.ntmps81
  go_wp2_with fail
  refine (HSO.out _ ((Below.refl _ w).alloc (Nat.le_refl _) _)).mono ?_
  rintro e w1 ⟨rfl, l', hp, hasc, hlies, hb1, hz1, hkeep⟩
  have B1 : Hid (Below B w w1) := ((Below.refl B w).alloc hB _).trans hb1
  have hz1' : w.heap.size < w1.heap.size := by simp at hz1; omega
  have hblk := hkeep w.heap.size (by simp) (fun b hb => by have := HG.out b hb; omega)
  have hpl : l'.length = n := by rw [hp.length_eq, HN.out]
  have hto := together_any a n cap l' w1 hpl hm hlies (fun m hm => hbd m (hp.mem_iff.1 hm))
  have HT : Hid ((tog l').filter (fun m => m.2 != 0) = R) := (tog_isSum l' hasc).unique (HR.out.perm hp.symm)
  have htl : (tog l').length ≤ n := by have := tog_len l' l'.length (Nat.le_refl _); rw [List.take_length] at this; omega
  have HK := Lib.hid hblk
  clear hkeep hp hasc hlies hb1 hz1 hblk hbd HSO HG HR HN hpl
  go_wp2_with fail
  refine hto.mono ?_
  rintro e w2 ⟨v2, rfl, hrow2, hb2⟩
  obtain ⟨a2, cap2, rfl, hlies2, _⟩ := hrow2.lies
  have B2 : Hid (Below B w w2) := B1.out.trans (hb2.mono (by omega))
  have hz2 : w.heap.size < w2.heap.size := by have := hb2.size; omega
  have hdr := drop_any a2 (tog l').length cap2 (tog l') w2 rfl (by omega) hlies2
  rw [HT.out] at hdr
  have HB2 := Lib.hid hb2
  clear hto hrow2 hlies2 hb2
  go_wp2_with fail
  refine hdr.mono ?_
  rintro e w3 ⟨v3, rfl, hrow3, hb3⟩
  obtain ⟨a3, cap3, rfl, hlies3, _⟩ := hrow3.lies
  have B3 : Hid (Below B w w3) := B2.out.trans (hb3.mono (by omega))
  have hz3 : w.heap.size < w3.heap.size := by have := hb3.size; omega
  have hblk3 : w3.heap[w.heap.size]? = some (.cells #[.int .i64 0, .slice none 0 0] 24 (0, 0)) := by
    rw [hb3.block _ hz2, HB2.out.block _ hz1', HK.out]; exact heap_alloc_new w _
  have q0 : w3.cell? ⟨w.heap.size, 0, none⟩ = some (.int .i64 0) := by rw [cell_of_row _ _ _ _ _ _ hblk3]; rfl
  have q1 : w3.cell? ⟨w.heap.size, 1, none⟩ = some (.slice none 0 0) := by rw [cell_of_row _ _ _ _ _ _ hblk3]; rfl
  have qf : ∀ o, w3.frozen? ⟨w.heap.size, o, none⟩ = false := fun o => frozen_of_row _ _ _ _ _ hblk3
  have hb4 : Below w3.heap.size w3 (w3.alloc (.cells #[.int .i64 c, .slice a3 R.length cap3] 24)) := (Below.refl _ _).alloc (Nat.le_refl _) _
  have hall := mayAll_yes a3 R.length cap3 R _ _ (Nat.le_refl _) rfl (by omega) ((hlies3.below hb4).mono hb4.size) HA.out
  have HB4 := Lib.hid hb4
  have HR3 := Lib.hid hrow3
  clear hdr hb3 hb4 hrow3 hlies3 hblk3
  go_wp2_with (first | (go_at_call 76; refine (hwi _).mono ?_; rintro e w' ⟨rfl, rfl⟩) | (go_at_call 77; refine hall.mono ?_; rintro e w5 ⟨rfl, hb5⟩; obtain ⟨hc5, hf5⟩ := bcell hb5; have hz5 : w3.heap.size < w5.heap.size := (by have := hb5.size; simp at this; omega); have hz6 : w.heap.size < w5.heap.size := (by omega)))
  have H5 : Below w3.heap.size w3 w5 := HB4.out.trans (hb5.mono (by simp))
  have hrowf : Row B R (.slice a3 R.length cap3) ((w5.setCell ⟨w.heap.size, 0, none⟩ (.int .i64 c)).setCell ⟨w.heap.size, 1, none⟩ (.slice a3 R.length cap3)) :=
    Row.mono (ownsRow_setCell_below (ownsRow_setCell_below (HR3.out.below H5) (by simpa using hz2) _) (by simpa using hz2) _) (by omega)
  have hbf : Below B w ((w5.setCell ⟨w.heap.size, 0, none⟩ (.int .i64 c)).setCell ⟨w.heap.size, 1, none⟩ (.slice a3 R.length cap3)) :=
    ((B3.out.trans (H5.mono (by omega))).setCell (p := ⟨w.heap.size, 0, none⟩) hB _).setCell (p := ⟨w.heap.size, 1, none⟩) hB _
  refine bodyPost_ret (v := .tuple #[.agg #[.int .i64 c, .slice a3 R.length cap3], .nilIface]) ?_ rfl ⟨_, rfl, hrowf, hbf⟩
  obtain ⟨e0, e1⟩ := res_cells w5 w.heap.size (.int .i64 c) (.slice a3 R.length cap3) _ _ ((H5.cell (p := ⟨w.heap.size, 0, none⟩) hz3).trans q0) ((H5.cell (p := ⟨w.heap.size, 1, none⟩) hz3).trans q1)
  clear q0 q1 qf hc5 hf5
  simp [results, Tryd.results81, go_sem, e0, e1]
set_option maxHeartbeats 1600000 in
theorem gather_far1 (c : Int) (a : Option Addr) (n cap B : Nat) (l R : List (Int × Int)) (w : World) (hn : l.length = n) (hrow : Row B l (.slice a n cap) w) (hB : B ≤ w.heap.size) (hm : n ≤ 8192) (hbd : Bd 4398046511104 l)
    (hV : ∀ m ∈ l, 0 ≤ m.1 ∧ m.1 < 1048576) (hR : IsSum l R) (hc : wi c 1073741824 = false) :
    Calls Tryd.prog 81 #[.int .i64 c, .slice a n cap] w (LinErr B 3 w) := by
  have hso := fun W (hb : Below w.heap.size w W) => sort_row a n cap B l W hn (hrow.below hb) hm
  have hglt : ∀ b, a = some b → b.block < w.heap.size := fun b hb => (World.ownsRow.lt hrow b.block (by rw [hb]; rfl)).2
  have HN := Lib.hid hn
  have HR := Lib.hid hR
  have HSO := Lib.hid hso
  have HG := Lib.hid hglt
  have hwi := fun w => within_any c 1073741824 w (by omega) (by omega)
  rw [hc] at hwi
  clear hso hn hR hrow hc hglt hV
  go_enter Tryd.func81, Tryd.ntmps81
  go_wp2_with fail
  refine (HSO.out _ ((Below.refl _ w).alloc (Nat.le_refl _) _)).mono ?_
  rintro e w1 ⟨rfl, l', hp, hasc, hlies, hb1, hz1, hkeep⟩
  have B1 : Hid (Below B w w1) := ((Below.refl B w).alloc hB _).trans hb1
  have hz1' : w.heap.size < w1.heap.size := by simp at hz1; omega
  have hblk := hkeep w.heap.size (by simp) (fun b hb => by have := HG.out b hb; omega)
  have hpl : l'.length = n := by rw [hp.length_eq, HN.out]
  have hto := together_any a n cap l' w1 hpl hm hlies (fun m hm => hbd m (hp.mem_iff.1 hm))
  have HT : Hid ((tog l').filter (fun m => m.2 != 0) = R) := (tog_isSum l' hasc).unique (HR.out.perm hp.symm)
  have htl : (tog l').length ≤ n := by have := tog_len l' l'.length (Nat.le_refl _); rw [List.take_length] at this; omega
  have HK := Lib.hid hblk
  clear hkeep hp hasc hlies hb1 hz1 hblk hbd HSO HG HR HN hpl
  go_wp2_with fail
  refine hto.mono ?_
  rintro e w2 ⟨v2, rfl, hrow2, hb2⟩
  obtain ⟨a2, cap2, rfl, hlies2, _⟩ := hrow2.lies
  have B2 : Hid (Below B w w2) := B1.out.trans (hb2.mono (by omega))
  have hz2 : w.heap.size < w2.heap.size := by have := hb2.size; omega
  have hdr := drop_any a2 (tog l').length cap2 (tog l') w2 rfl (by omega) hlies2
  rw [HT.out] at hdr
  have HB2 := Lib.hid hb2
  clear hto hrow2 hlies2 hb2
  go_wp2_with fail
  refine hdr.mono ?_
  rintro e w3 ⟨v3, rfl, hrow3, hb3⟩
  obtain ⟨a3, cap3, rfl, hlies3, _⟩ := hrow3.lies
  have B3 : Hid (Below B w w3) := B2.out.trans (hb3.mono (by omega))
  have hz3 : w.heap.size < w3.heap.size := by have := hb3.size; omega
  have hblk3 : w3.heap[w.heap.size]? = some (.cells #[.int .i64 0, .slice none 0 0] 24 (0, 0)) := by
    rw [hb3.block _ hz2, HB2.out.block _ hz1', HK.out]; exact heap_alloc_new w _
  have q0 : w3.cell? ⟨w.heap.size, 0, none⟩ = some (.int .i64 0) := by rw [cell_of_row _ _ _ _ _ _ hblk3]; rfl
  have q1 : w3.cell? ⟨w.heap.size, 1, none⟩ = some (.slice none 0 0) := by rw [cell_of_row _ _ _ _ _ _ hblk3]; rfl
  have qf : ∀ o, w3.frozen? ⟨w.heap.size, o, none⟩ = false := fun o => frozen_of_row _ _ _ _ _ hblk3
  have hb4 : Below w3.heap.size w3 (w3.alloc (.cells #[.int .i64 c, .slice a3 R.length cap3] 24)) := (Below.refl _ _).alloc (Nat.le_refl _) _
  clear hdr hb3 hb4 hrow3 hlies3 hblk3
  go_wp2_with (go_at_call 76; refine (hwi _).mono ?_; rintro e w' ⟨rfl, rfl⟩)
  have hbf := (((B3.out.setCell (p := ⟨w.heap.size, 0, none⟩) hB (.int .i64 0)).setCell (p := ⟨w.heap.size, 1, none⟩) hB (.slice none 0 0))).alloc (by simp; omega) (.cells #[.int .i64 c, .slice a3 R.length cap3] 24)
  obtain ⟨e0, e1⟩ := res_cells w3 w.heap.size (.int .i64 0) (.slice none 0 0) _ _ q0 q1
  refine bodyPost_ret (v := .tuple #[.agg #[.int .i64 0, .slice none 0 0], .iface 43 (.int .i64 3)]) ?_ rfl ⟨rfl, hbf⟩
  clear q0 q1 qf
  simp [results, Tryd.results81, go_sem, e0, e1, hz3]

set_option maxHeartbeats 1600000 in
theorem gather_far2 (c : Int) (a : Option Addr) (n cap B : Nat) (l R : List (Int × Int)) (w : World) (hn : l.length = n) (hrow : Row B l (.slice a n cap) w) (hB : B ≤ w.heap.size) (hm : n ≤ 8192) (hbd : Bd 4398046511104 l)
    (hV : ∀ m ∈ l, 0 ≤ m.1 ∧ m.1 < 1048576) (hR : IsSum l R) (hc : wi c 1073741824 = true) (hk : ¬ ∀ m ∈ R, wi m.2 1073741824 = true) :
    Calls Tryd.prog 81 #[.int .i64 c, .slice a n cap] w (LinErr B 3 w) := by
  have hso := fun W (hb : Below w.heap.size w W) => sort_row a n cap B l W hn (hrow.below hb) hm
  have hglt : ∀ b, a = some b → b.block < w.heap.size := fun b hb => (World.ownsRow.lt hrow b.block (by rw [hb]; rfl)).2
  have HA : Hid (¬ ∀ i, i < R.length → mayAt R i = true) := fun h => hk fun m hm => by
    obtain ⟨i, hi, rfl⟩ := List.getElem_of_mem hm
    have := h i hi
    unfold mayAt at this
    rw [List.getD_eq_getElem?_getD, List.getElem?_eq_getElem hi] at this
    obtain ⟨x, hx, hxe⟩ := hR.comes hm
    rw [mst_t1 (by have := hV x hx; rw [hxe] at this; simpa using this)] at this
    simpa using this
  have HN := Lib.hid hn
  have HR := Lib.hid hR
  have HSO := Lib.hid hso
  have HG := Lib.hid hglt
  have hwi := fun w => within_any c 1073741824 w (by omega) (by omega)
  rw [hc] at hwi
  clear hso hn hR hrow hc hglt hk hV
  go_enter Tryd.func81, Tryd.ntmps81
  go_wp2_with fail
  refine (HSO.out _ ((Below.refl _ w).alloc (Nat.le_refl _) _)).mono ?_
  rintro e w1 ⟨rfl, l', hp, hasc, hlies, hb1, hz1, hkeep⟩
  have B1 : Hid (Below B w w1) := ((Below.refl B w).alloc hB _).trans hb1
  have hz1' : w.heap.size < w1.heap.size := by simp at hz1; omega
  have hblk := hkeep w.heap.size (by simp) (fun b hb => by have := HG.out b hb; omega)
  have hpl : l'.length = n := by rw [hp.length_eq, HN.out]
  have hto := together_any a n cap l' w1 hpl hm hlies (fun m hm => hbd m (hp.mem_iff.1 hm))
  have HT : Hid ((tog l').filter (fun m => m.2 != 0) = R) := (tog_isSum l' hasc).unique (HR.out.perm hp.symm)
  have htl : (tog l').length ≤ n := by have := tog_len l' l'.length (Nat.le_refl _); rw [List.take_length] at this; omega
  have HK := Lib.hid hblk
  clear hkeep hp hasc hlies hb1 hz1 hblk hbd HSO HG HR HN hpl
  go_wp2_with fail
  refine hto.mono ?_
  rintro e w2 ⟨v2, rfl, hrow2, hb2⟩
  obtain ⟨a2, cap2, rfl, hlies2, _⟩ := hrow2.lies
  have B2 : Hid (Below B w w2) := B1.out.trans (hb2.mono (by omega))
  have hz2 : w.heap.size < w2.heap.size := by have := hb2.size; omega
  have hdr := drop_any a2 (tog l').length cap2 (tog l') w2 rfl (by omega) hlies2
  rw [HT.out] at hdr
  have HB2 := Lib.hid hb2
  clear hto hrow2 hlies2 hb2
  go_wp2_with fail
  refine hdr.mono ?_
  rintro e w3 ⟨v3, rfl, hrow3, hb3⟩
  obtain ⟨a3, cap3, rfl, hlies3, _⟩ := hrow3.lies
  have B3 : Hid (Below B w w3) := B2.out.trans (hb3.mono (by omega))
  have hz3 : w.heap.size < w3.heap.size := by have := hb3.size; omega
  have hblk3 : w3.heap[w.heap.size]? = some (.cells #[.int .i64 0, .slice none 0 0] 24 (0, 0)) := by
    rw [hb3.block _ hz2, HB2.out.block _ hz1', HK.out]; exact heap_alloc_new w _
  have q0 : w3.cell? ⟨w.heap.size, 0, none⟩ = some (.int .i64 0) := by rw [cell_of_row _ _ _ _ _ _ hblk3]; rfl
  have q1 : w3.cell? ⟨w.heap.size, 1, none⟩ = some (.slice none 0 0) := by rw [cell_of_row _ _ _ _ _ _ hblk3]; rfl
  have qf : ∀ o, w3.frozen? ⟨w.heap.size, o, none⟩ = false := fun o => frozen_of_row _ _ _ _ _ hblk3
  have hlenR : R.length ≤ 8192 := by
    have h1 : ((tog l').filter (fun m => m.2 != 0)).length ≤ (tog l').length := List.length_filter_le _ _
    rw [HT.out] at h1; omega
  have hb4 : Below w3.heap.size w3 (w3.alloc (.cells #[.int .i64 c, .slice a3 R.length cap3] 24)) := (Below.refl _ _).alloc (Nat.le_refl _) _
  have hall := mayAll_no a3 R.length cap3 R _ _ (Nat.le_refl _) rfl (by omega) ((hlies3.below hb4).mono hb4.size) HA.out
  have HB4 := Lib.hid hb4
  clear hdr hb3 hb4 hrow3 hlies3 hblk3
  go_wp2_with (first | (go_at_call 76; refine (hwi _).mono ?_; rintro e w' ⟨rfl, rfl⟩) | (go_at_call 77; refine hall.mono ?_; rintro e w5 ⟨rfl, hb5⟩; obtain ⟨hc5, hf5⟩ := bcell hb5; have hz5 : w3.heap.size < w5.heap.size := (by have := hb5.size; simp at this; omega); have hz6 : w.heap.size < w5.heap.size := (by omega)))
  have H5 : Below w3.heap.size w3 w5 := HB4.out.trans (hb5.mono (by simp))
  have hbf : Below B w ((w5.setCell ⟨w.heap.size, 0, none⟩ (.int .i64 0)).setCell ⟨w.heap.size, 1, none⟩ (.slice none 0 0)) :=
    ((B3.out.trans (H5.mono (by omega))).setCell (p := ⟨w.heap.size, 0, none⟩) hB _).setCell (p := ⟨w.heap.size, 1, none⟩) hB _
  obtain ⟨e0, e1⟩ := res_cells w5 w.heap.size (.int .i64 0) (.slice none 0 0) _ _ ((H5.cell (p := ⟨w.heap.size, 0, none⟩) hz3).trans q0) ((H5.cell (p := ⟨w.heap.size, 1, none⟩) hz3).trans q1)
  refine bodyPost_ret (v := .tuple #[.agg #[.int .i64 0, .slice none 0 0], .iface 43 (.int .i64 3)]) ?_ rfl ⟨rfl, hbf⟩
  clear q0 q1 qf hc5 hf5
  simp [results, Tryd.results81, go_sem, e0, e1]

set_option maxHeartbeats 1600000 in
theorem gather_long (c : Int) (a : Option Addr) (n cap B : Nat) (l R : List (Int × Int)) (w : World) (hn : l.length = n) (hrow : Row B l (.slice a n cap) w) (hB : B ≤ w.heap.size) (hm : n ≤ 8192) (hbd : Bd 4398046511104 l)
    (hV : ∀ m ∈ l, 0 ≤ m.1 ∧ m.1 < 1048576) (hR : IsSum l R) (hc : wi c 1073741824 = true) (hk : ∀ m ∈ R, wi m.2 1073741824 = true) (h64 : 64 < R.length) :
    Calls Tryd.prog 81 #[.int .i64 c, .slice a n cap] w (LinErr B 2 w) := by
  have hso := fun W (hb : Below w.heap.size w W) => sort_row a n cap B l W hn (hrow.below hb) hm
  have hglt : ∀ b, a = some b → b.block < w.heap.size := fun b hb => (World.ownsRow.lt hrow b.block (by rw [hb]; rfl)).2
  have HA : Hid (∀ i, i < R.length → mayAt R i = true) := fun i hi => by
    have hmem : R.getD i (0, 0) ∈ R := by rw [List.getD_eq_getElem?_getD, List.getElem?_eq_getElem hi]; simp
    unfold mayAt
    obtain ⟨x, hx, hxe⟩ := hR.comes hmem
    rw [mst_t1 (by rw [← hxe]; exact hV x hx)]
    exact hk _ hmem
  have HN := Lib.hid hn
  have HR := Lib.hid hR
  have HSO := Lib.hid hso
  have HG := Lib.hid hglt
  have hwi := fun w => within_any c 1073741824 w (by omega) (by omega)
  rw [hc] at hwi
  clear hso hn hR hrow hc hglt hk hV
  go_enter Tryd.func81, Tryd.ntmps81
  go_wp2_with fail
  refine (HSO.out _ ((Below.refl _ w).alloc (Nat.le_refl _) _)).mono ?_
  rintro e w1 ⟨rfl, l', hp, hasc, hlies, hb1, hz1, hkeep⟩
  have B1 : Hid (Below B w w1) := ((Below.refl B w).alloc hB _).trans hb1
  have hz1' : w.heap.size < w1.heap.size := by simp at hz1; omega
  have hblk := hkeep w.heap.size (by simp) (fun b hb => by have := HG.out b hb; omega)
  have hpl : l'.length = n := by rw [hp.length_eq, HN.out]
  have hto := together_any a n cap l' w1 hpl hm hlies (fun m hm => hbd m (hp.mem_iff.1 hm))
  have HT : Hid ((tog l').filter (fun m => m.2 != 0) = R) := (tog_isSum l' hasc).unique (HR.out.perm hp.symm)
  have htl : (tog l').length ≤ n := by have := tog_len l' l'.length (Nat.le_refl _); rw [List.take_length] at this; omega
  have HK := Lib.hid hblk
  clear hkeep hp hasc hlies hb1 hz1 hblk hbd HSO HG HR HN hpl
  go_wp2_with fail
  refine hto.mono ?_
  rintro e w2 ⟨v2, rfl, hrow2, hb2⟩
  obtain ⟨a2, cap2, rfl, hlies2, _⟩ := hrow2.lies
  have B2 : Hid (Below B w w2) := B1.out.trans (hb2.mono (by omega))
  have hz2 : w.heap.size < w2.heap.size := by have := hb2.size; omega
  have hdr := drop_any a2 (tog l').length cap2 (tog l') w2 rfl (by omega) hlies2
  rw [HT.out] at hdr
  have HB2 := Lib.hid hb2
  clear hto hrow2 hlies2 hb2
  go_wp2_with fail
  refine hdr.mono ?_
  rintro e w3 ⟨v3, rfl, hrow3, hb3⟩
  obtain ⟨a3, cap3, rfl, hlies3, _⟩ := hrow3.lies
  have B3 : Hid (Below B w w3) := B2.out.trans (hb3.mono (by omega))
  have hz3 : w.heap.size < w3.heap.size := by have := hb3.size; omega
  have hblk3 : w3.heap[w.heap.size]? = some (.cells #[.int .i64 0, .slice none 0 0] 24 (0, 0)) := by
    rw [hb3.block _ hz2, HB2.out.block _ hz1', HK.out]; exact heap_alloc_new w _
  have q0 : w3.cell? ⟨w.heap.size, 0, none⟩ = some (.int .i64 0) := by rw [cell_of_row _ _ _ _ _ _ hblk3]; rfl
  have q1 : w3.cell? ⟨w.heap.size, 1, none⟩ = some (.slice none 0 0) := by rw [cell_of_row _ _ _ _ _ _ hblk3]; rfl
  have qf : ∀ o, w3.frozen? ⟨w.heap.size, o, none⟩ = false := fun o => frozen_of_row _ _ _ _ _ hblk3
  have hlenR : R.length ≤ 8192 := by
    have h1 : ((tog l').filter (fun m => m.2 != 0)).length ≤ (tog l').length := List.length_filter_le _ _
    rw [HT.out] at h1; omega
  have hb4 : Below w3.heap.size w3 (w3.alloc (.cells #[.int .i64 c, .slice a3 R.length cap3] 24)) := (Below.refl _ _).alloc (Nat.le_refl _) _
  have hall := mayAll_yes a3 R.length cap3 R _ _ (Nat.le_refl _) rfl (by omega) ((hlies3.below hb4).mono hb4.size) HA.out
  have HB4 := Lib.hid hb4
  clear hdr hb3 hb4 hrow3 hlies3 hblk3
  go_wp2_with (first | (go_at_call 76; refine (hwi _).mono ?_; rintro e w' ⟨rfl, rfl⟩) | (go_at_call 77; refine hall.mono ?_; rintro e w5 ⟨rfl, hb5⟩; obtain ⟨hc5, hf5⟩ := bcell hb5; have hz5 : w3.heap.size < w5.heap.size := (by have := hb5.size; simp at this; omega); have hz6 : w.heap.size < w5.heap.size := (by omega)))
  have H5 : Below w3.heap.size w3 w5 := HB4.out.trans (hb5.mono (by simp))
  have hbf : Below B w ((w5.setCell ⟨w.heap.size, 0, none⟩ (.int .i64 0)).setCell ⟨w.heap.size, 1, none⟩ (.slice none 0 0)) :=
    ((B3.out.trans (H5.mono (by omega))).setCell (p := ⟨w.heap.size, 0, none⟩) hB _).setCell (p := ⟨w.heap.size, 1, none⟩) hB _
  obtain ⟨e0, e1⟩ := res_cells w5 w.heap.size (.int .i64 0) (.slice none 0 0) _ _ ((H5.cell (p := ⟨w.heap.size, 0, none⟩) hz3).trans q0) ((H5.cell (p := ⟨w.heap.size, 1, none⟩) hz3).trans q1)
  refine bodyPost_ret (v := .tuple #[.agg #[.int .i64 0, .slice none 0 0], .iface 43 (.int .i64 2)]) ?_ rfl ⟨rfl, hbf⟩
  clear q0 q1 qf hc5 hf5
  simp [results, Tryd.results81, go_sem, e0, e1]

end Go.Proofs.YtelndcmfddbgiaaDoor

namespace Go.Proofs.YtelndcmfddbgiaaDoor
open Go.RowKit

/-- Make's arguments may be. -/
def argOk (c : Int) (l : List (Int × Int)) : Prop := wi c 1073741824 = true ∧ l.length ≤ 4096 ∧ ∀ i, i < l.length → mayAt l i = true

theorem argOk_bd {c : Int} {l : List (Int × Int)} (h : argOk c l) : Bd 4398046511104 l ∧ ∀ m ∈ l, 0 ≤ m.1 ∧ m.1 < 1048576 := by
  have hm : ∀ m ∈ l, (0 ≤ m.1 ∧ m.1 < 1048576) ∧ -1073741824 ≤ m.2 ∧ m.2 ≤ 1073741824 := fun m hm => by
    obtain ⟨i, hi, rfl⟩ := List.getElem_of_mem hm
    have := h.2.2 i hi
    unfold mayAt mst wi at this
    rw [List.getD_eq_getElem?_getD, List.getElem?_eq_getElem hi] at this
    simpa using this
  exact ⟨fun m h => by have := hm m h; omega, fun m h => (hm m h).1⟩

end Go.Proofs.YtelndcmfddbgiaaDoor
