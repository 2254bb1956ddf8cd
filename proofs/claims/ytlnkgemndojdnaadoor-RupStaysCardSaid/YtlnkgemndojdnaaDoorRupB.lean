/- rup.follows: whether the opposites of a clause make a conflict. -/
import Derived.Test.YtlnkgemndojdnaaDoorRupA
import Derived.Test.YtlnkgemndojdnaaDoorPrpFB
import Derived.Test.YtlnkgemndojdnaaDoorPrpGD
set_option linter.unusedVariables false
set_option linter.unusedSimpArgs false
namespace Go.Proofs.YtlnkgemndojdnaaDoor
set_option maxRecDepth 100000
open Go.RowKit

def negs (l : List Int) : List Int := l.map fun x => -x
theorem negs_len (l : List Int) : (negs l).length = l.length := by simp [negs]
theorem negs_get (l : List Int) (i : Nat) (h : i < l.length) : (negs l).getD i 0 = -(l.getD i 0) := by simp [negs, List.getD_eq_getElem?_getD, h]
theorem getD_mem0 {l : List Int} {i : Nat} (h : i < l.length) : l.getD i 0 ∈ l := by
  rw [List.getD_eq_getElem?_getD, List.getElem?_eq_getElem h]; exact List.getElem_mem h
theorem inR_neg {n : Nat} {x : Int} (h : inR n x) : inR n (-x) := by unfold inR at h ⊢; omega
theorem negs_in {n : Nat} {l : List Int} (h : ∀ x, x ∈ l → inR n x) : ∀ x, x ∈ negs l → inR n x := fun x hx => by
  obtain ⟨y, hy, rfl⟩ := List.mem_map.1 hx
  exact inR_neg (h y hy)
/-- The opposites' row, at the loop's head. -/
structure Opp (b k i : Nat) (ls : List Int) (wr : World) : Prop where
  arr : ∃ f, Arr wr b k f ∧ ∀ j, j < i → f j = -(ls.getD j 0)
  fr : ∀ o, wr.frozen? ⟨b, o, none⟩ = false
  lt : b < wr.heap.size
theorem Opp.step {b k i : Nat} {ls : List Int} {wr : World} (h : Opp b k i ls wr) (hi : i < k) {x : Int} (hx : x = -(ls.getD i 0)) : Opp b k (i + 1) ls (wr.setCell ⟨b, i, none⟩ (.int .i64 x)) := by
  obtain ⟨f, h1, h2⟩ := h.arr
  refine ⟨⟨upd f i x, h1.set hi x, fun j hj => ?_⟩, fun o => (World.frozen?_setCell _ _ _ _).trans (h.fr o), by rw [World.size_setCell]; exact h.lt⟩
  by_cases e : j = i
  · subst e; rw [upd_same]; exact hx
  · rw [upd_ne e]; exact h2 j (by omega)
theorem Opp.nums {b k : Nat} {ls : List Int} {wr : World} (h : Opp b k k ls wr) (hk : ls.length = k) : Nums wr.heap.size wr (some ⟨b, 0, none⟩) (negs ls) := fun i hi => by
  rw [negs_len] at hi
  obtain ⟨f, h1, h2⟩ := h.arr
  refine ⟨b, 0, rfl, h.lt, ?_⟩
  rw [negs_get ls i hi, Nat.zero_add, ← h2 i (by omega)]
  exact h1 i (by omega)
theorem madeOpp (w : World) (k : Nat) (ls : List Int) : Opp w.heap.size k 0 ls (w.alloc (.cells (madeCells #[.int .i64 0] k) 3)) := by
  have hn := heap_alloc_new w (.cells (madeCells #[.int .i64 0] k) 3)
  refine ⟨⟨fun _ => 0, fun i hi => ?_, fun j hj => absurd hj (Nat.not_lt_zero j)⟩, fun o => frozen_of_row _ _ _ _ _ hn, lt_of_some hn⟩
  rw [cell_of_row _ _ _ _ _ _ hn]
  simp [madeCells, hi, Nat.mod_one]
theorem fK_ok {n : Nat} {cs : List (List Int)} {ls : List Int} (h : chkK n cs = 0) (hl : ∀ x, x ∈ ls → inR n x) : fK n cs ls = 0 := by
  unfold fK; rw [if_neg (by rw [h]; decide), if_pos (litsB_iff.2 hl)]
theorem FollowIs.iff {n : Nat} {cs : List (List Int)} {ls : List Int} {b : Bool} {A : Nat → Int} (h : FollowIs n cs ls b A) : b = true ↔ Conf cs ls := by
  cases h with
  | conf h => exact ⟨fun _ => h, fun _ => rfl⟩
  | ok _ _ _ h => exact ⟨fun h' => by simp at h', fun h' => absurd h' h⟩
set_option maxHeartbeats 4000000 in
theorem rfol_any (hbeg : BeginSaid) (n : Nat) (cs : List (List Int)) (ls : List Int) (hc : chkK n cs = 0) (hs : ∀ x, x ∈ ls → inR n x) (a : Option Addr) (m cap : Nat) (a2 : Option Addr) (k cap2 : Nat) (w : World) (hm : cs.length = m) (hk : ls.length = k) (hk4 : k ≤ 40000) (hl : CLies w.heap.size w a cs) (hl2 : Nums w.heap.size w a2 ls) :
    Calls Tryd.prog 18 #[.int .i64 n, .slice a m cap, .slice a2 k cap2] w fun e w' => ∃ b, e = .returned (.bool b) ∧ (b = true ↔ Conf cs (negs ls)) ∧ Below w.heap.size w w' := by
  obtain ⟨n0, e0, hn, hm2, hkk, hcs⟩ := chkK_zero hc
  have hm3 : m ≤ 16384 := by omega
  have hnn : n ≤ 8192 := by omega
  have HFO := Lib.hid (fun W (hb : Below w.heap.size w W) (b cap5 : Nat) (h5 : Nums W.heap.size W (some ⟨b, 0, none⟩) (negs ls)) => follow_any hbeg n a m cap cs (some ⟨b, 0, none⟩) k cap5 (negs ls) W hm (by omega) ((hl.below hb).mono hb.size) (fun _ j hj => by
    have := hkk (cs.getD j []) (by rw [List.getD_eq_getElem?_getD, List.getElem?_eq_getElem (by omega)]; exact List.getElem_mem _)
    omega) ((negs_len ls).trans hk) (by omega) h5)
  have HFK := Lib.hid (fK_ok hc (negs_in hs))
  have HS := Lib.hid hs
  have HK := Lib.hid hk
  have HL2 := Lib.hid hl2
  have HMK := Lib.hid (madeOpp w k ls)
  have B1 : Hid (Below w.heap.size w (w.alloc (.cells (madeCells #[.int .i64 0] k) 3))) := (Below.refl _ w).alloc (Nat.le_refl _) _
  have hmk := run_make_ints w k k rfl hk4
  have n2 := fun W => Tryd.eqNil W
  clear hc hs hm hk hl hl2 hbeg e0 hm2 hkk hcs
  go_enter Tryd.func18, Tryd.ntmps18
  go_wp2_with fail
  go_loopw [18] (fun i wr => ∃ j : Nat, j ≤ k ∧ i = .int .i64 j ∧ Hid (Opp w.heap.size k j ls wr) ∧ Hid (Below w.heap.size w wr)) (fun i _ => k - (intOf i).toNat)
  case atStart => exact ⟨0, Nat.zero_le _, rfl, HMK, B1⟩
  case round =>
    obtain ⟨j, hj, rfl, hop, hb⟩ := hrel
    by_cases hlt : j < k
    · obtain ⟨b3, off3, rfl, h3l, c3⟩ := HL2.out j (by rw [HK.out]; exact hlt)
      have c3 := (hb.out.cell (p := ⟨b3, off3 + j, none⟩) h3l).trans c3
      have hin := HS.out (ls.getD j 0) (getD_mem0 (by rw [HK.out]; exact hlt))
      have hwn : IntKind.i64.wrap (-(ls.getD j 0)) = -(ls.getD j 0) := IntWalk.i64_in _ (by unfold inR at hin; omega)
      have HST := Lib.hid (fun (x : Int) (hx : x = -(ls.getD j 0)) => hop.out.step hlt hx)
      obtain ⟨f, hf1, _⟩ := hop.out.arr
      have hcell := hf1 j hlt
      have hfr := hop.out.fr j
      have hlti : (j : Int) < (k : Int) := by omega
      clear hin
      generalize ls.getD j 0 = y at c3 hwn HST
      generalize f j = z at hcell
      clear hf1
      go_wp2_with fail
      go_roundw
      case rel => exact ⟨j + 1, by omega, by go_num, HST.out _ rfl, hb.out.setCell (p := ⟨w.heap.size, j, none⟩) (Nat.le_refl _) _⟩
      case measure => simp [intOf]; omega
    · obtain rfl : j = k := by omega
      have HN := Lib.hid (hop.out.nums HK.out)
      clear hop HMK
      go_wp2_with fail
      refine (HFO.out _ hb.out _ _ HN.out).mono ?_
      rintro e w5 ⟨hb5, v, b, rfl, h0, h1⟩
      rw [HFK.out, codeV_zero]
      obtain ⟨m1, A, e1, _, _, hf, _⟩ := h1 HFK.out
      have e1 : n = m1 := by omega
      subst e1
      have HI := Lib.hid hf.iff
      have BE := Lib.hid (hb.out.trans (hb5.mono hb.out.size))
      clear hf h0 h1 hb5
      go_wp2_with fail
      all_goals
        go_ret
        exact ⟨_, rfl, HI.out, BE.out⟩
end Go.Proofs.YtlnkgemndojdnaaDoor
