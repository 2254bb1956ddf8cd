/- cut.divided: what it makes; the state of its rounds. cut.divided: the walk. -/
import Derived.Test.YtmjhjacbhflcpaaDoorCl04
import Derived.Deep.RegionLaw
import Derived.Deep.AppendLies
import Derived.Deep.DrawnRows
set_option linter.unusedVariables false
set_option linter.unusedSimpArgs false
namespace Go.Proofs.YtmjhjacbhflcpaaDoor
open Go.RowKit Go.Maps

/-- Terms, each divided. -/
def divT (g : Int) (R : List (Int × Int)) : List (Int × Int) := R.map fun m => (m.1, m.2.tdiv g)
theorem divT_len (g : Int) (R : List (Int × Int)) : (divT g R).length = R.length := by simp [divT]
theorem divT_get (g : Int) (R : List (Int × Int)) (k : Nat) (h : k < R.length) : (divT g R).getD k (0, 0) = ((R.getD k (0, 0)).1, (R.getD k (0, 0)).2.tdiv g) := by
  simp [divT, List.getD_eq_getElem?_getD, h]
/-- Are all coefficients from -M to M? -/
def allIn (M : Int) (R : List (Int × Int)) : Bool := R.all fun m => wi m.2 M
theorem allIn_get {M : Int} {R : List (Int × Int)} (h : allIn M R = true) (k : Nat) (hk : k < R.length) : wi (R.getD k (0, 0)).2 M = true := by
  have := List.all_eq_true.1 h R[k] (List.getElem_mem hk)
  simpa [List.getD_eq_getElem?_getD, hk] using this
theorem allIn_of {M : Int} {R : List (Int × Int)} (h : ∀ k, k < R.length → wi (R.getD k (0, 0)).2 M = true) : allIn M R = true := by
  refine List.all_eq_true.2 fun m hm => ?_
  obtain ⟨k, hk, rfl⟩ := List.getElem_of_mem hm
  have := h k hk
  simpa [List.getD_eq_getElem?_getD, hk] using this
theorem allIn_not {M : Int} {R : List (Int × Int)} {k : Nat} (hk : k < R.length) (h : wi (R.getD k (0, 0)).2 M = false) : allIn M R = false := by
  cases e : allIn M R
  · rfl
  · rw [allIn_get e k hk] at h; cases h
/-- What is amiss with a divided form. -/
def divK (u : Int) (D : List (Int × Int)) : Int := if wi u 1073741824 = true ∧ allIn 1073741824 D = true then (if 64 < D.length then 2 else 0) else 3
/-- A form, and an error. -/
def LEnd (B : Nat) (x C : Int) (D : List (Int × Int)) (w : World) (e : Ending) (w' : World) : Prop := ∃ v, e = .returned (.tuple #[.agg #[.int .i64 C, v], codeV x]) ∧ Row B D v w' ∧ Below B w w'
theorem LEnd.none {B : Nat} {x : Int} {w : World} {e : Ending} {w' : World} (he : e = .returned (.tuple #[.agg #[.int .i64 0, .slice none 0 0], codeV x])) (hb : Below B w w') : LEnd B x 0 [] w e w' := ⟨_, he, World.ownsRow_nil _ _ _ _, hb⟩

structure DivSt (w W : World) (u : Int) (v : Value) (r : List (Int × Int)) : Prop where
  row : Row (w.heap.size + 2) r v W
  r0 : W.cell? ⟨w.heap.size, 0, none⟩ = some (.int .i64 0)
  r1 : W.cell? ⟨w.heap.size, 1, none⟩ = some (.slice none 0 0)
  rf : ∀ o, W.frozen? ⟨w.heap.size, o, none⟩ = false
  m0 : W.cell? ⟨w.heap.size + 1, 0, none⟩ = some (.int .i64 u)
  m1 : W.cell? ⟨w.heap.size + 1, 1, none⟩ = some v
  mf : ∀ o, W.frozen? ⟨w.heap.size + 1, o, none⟩ = false
  mz : w.heap.size + 1 < W.heap.size
  bel : Below w.heap.size w W
theorem DivSt.start (w : World) (u : Int) : DivSt w ((w.alloc (.cells #[.int .i64 0, .slice none 0 0] 49)).alloc (.cells #[.int .i64 u, .slice none 0 0] 49)) u (.slice none 0 0) [] := by
  have h0 := heap_alloc_new w (.cells #[.int .i64 0, .slice none 0 0] 49)
  have hb := (Below.refl w.heap.size w).alloc (Nat.le_refl _) (.cells #[.int .i64 0, .slice none 0 0] 49)
  have hz : (w.alloc (.cells #[.int .i64 0, .slice none 0 0] 49)).heap.size = w.heap.size + 1 := by simp
  generalize w.alloc (.cells #[.int .i64 0, .slice none 0 0] 49) = w1 at h0 hb hz ⊢
  have h1 := heap_alloc_new w1 (.cells #[.int .i64 u, .slice none 0 0] 49)
  have hb1 := (Below.refl w1.heap.size w1).alloc (Nat.le_refl _) (.cells #[.int .i64 u, .slice none 0 0] 49)
  rw [hz] at h1
  have hlt : w.heap.size < w1.heap.size := by omega
  exact ⟨World.ownsRow_nil _ _ _ _, (hb1.cell (p := ⟨w.heap.size, 0, none⟩) hlt).trans (by rw [cell_of_row _ _ _ _ _ _ h0]; rfl), (hb1.cell (p := ⟨w.heap.size, 1, none⟩) hlt).trans (by rw [cell_of_row _ _ _ _ _ _ h0]; rfl), fun o => (hb1.frozen (p := ⟨w.heap.size, o, none⟩) hlt).trans (frozen_of_row _ _ _ _ _ h0),
    by rw [cell_of_row _ _ _ _ _ _ h1]; rfl, by rw [cell_of_row _ _ _ _ _ _ h1]; rfl, fun o => frozen_of_row _ _ _ _ _ h1, by have : (w1.alloc (.cells #[.int .i64 u, .slice none 0 0] 49)).heap.size = w1.heap.size + 1 := by simp
                                                                                                                              omega, hb.trans (hb1.mono (by omega))⟩
theorem DivSt.below {w W w6 w5 : World} {u : Int} {v : Value} {r : List (Int × Int)} (h : DivSt w W u v r) (hb5 : Below (w.heap.size + 2) W w5) (hg : w5.grownBy w6 v.ownBlock) : Below (w.heap.size + 2) W w6 :=
  hb5.grown hg (Nat.le_trans h.mz hb5.size) (fun j hj => (World.ownsRow.lt h.row j hj).1)
theorem DivSt.far {w W w6 w5 : World} {u : Int} {v : Value} {r : List (Int × Int)} (h : DivSt w W u v r) (hb5 : Below (w.heap.size + 2) W w5) (hg : w5.grownBy w6 v.ownBlock) :
    w6.cell? ⟨w.heap.size + 1, 1, none⟩ = some v ∧ ∀ o, w6.frozen? ⟨w.heap.size + 1, o, none⟩ = false := by
  have hb6 := h.below hb5 hg
  exact ⟨(hb6.cell (p := ⟨w.heap.size + 1, 1, none⟩) (Nat.lt_succ_self _)).trans h.m1, fun o => (hb6.frozen (p := ⟨w.heap.size + 1, o, none⟩) (Nat.lt_succ_self _)).trans (h.mf o)⟩
theorem DivSt.step {w W w6 w5 : World} {u : Int} {v v6 : Value} {r r6 : List (Int × Int)} (h : DivSt w W u v r) (hb5 : Below (w.heap.size + 2) W w5) (hg : w5.grownBy w6 v.ownBlock) (hr : Row (w.heap.size + 2) r6 v6 w6) :
    DivSt w (w6.setCell ⟨w.heap.size + 1, 1, none⟩ v6) u v6 r6 := by
  have hb6 := h.below hb5 hg
  have hz6 : w.heap.size + 1 < w6.heap.size := Nat.lt_of_lt_of_le h.mz hb6.size
  have k : w6.grownBy (w6.setCell ⟨w.heap.size + 1, 1, none⟩ v6) (some (w.heap.size + 1)) := ⟨rfl, rfl, rfl, Nat.le_of_eq (World.size_setCell _ _ _).symm, fun q _ hq => Below.heap_setCell _ _ _ _ (fun e => hq (by rw [e]))⟩
  have hc : ∀ b o, b < w.heap.size + 1 → (w6.setCell ⟨w.heap.size + 1, 1, none⟩ v6).cell? ⟨b, o, none⟩ = W.cell? ⟨b, o, none⟩ := fun b o hb => by
    rw [World.cell?_setCell_other _ _ _ _ (by simp <;> omega)]
    exact hb6.cell (p := ⟨b, o, none⟩) (by show b < _; omega)
  have hf : ∀ b o, b ≤ w.heap.size + 1 → (w6.setCell ⟨w.heap.size + 1, 1, none⟩ v6).frozen? ⟨b, o, none⟩ = W.frozen? ⟨b, o, none⟩ := fun b o hb => (World.frozen?_setCell _ _ _ _).trans (hb6.frozen (p := ⟨b, o, none⟩) (by show b < _; omega))
  refine ⟨World.ownsRow.kept hr k (.inr (fun e => ?_)), (hc _ _ (by omega)).trans h.r0, (hc _ _ (by omega)).trans h.r1, fun o => (hf _ o (by omega)).trans (h.rf o), ?_, ?_, fun o => (hf _ o (Nat.le_refl _)).trans (h.mf o), by rw [World.size_setCell]; exact hz6, (h.bel.trans (hb6.mono (by omega))).setCell (p := ⟨w.heap.size + 1, 1, none⟩) (by show _ ≤ w.heap.size + 1; omega) _⟩
  · have := (World.ownsRow.lt hr _ e).1; omega
  · rw [World.cell?_setCell_other _ _ _ _ (by simp)]
    exact (hb6.cell (p := ⟨w.heap.size + 1, 0, none⟩) (Nat.lt_succ_self _)).trans h.m0
  · exact World.cell?_setCell_same _ _ _ (h.far hb5 hg).1
theorem DivSt.alloc {w W : World} {u : Int} {v : Value} {r : List (Int × Int)} (h : DivSt w W u v r) (o : Obj) : DivSt w (W.alloc o) u v r := by
  have hb : Below (w.heap.size + 2) W (W.alloc o) := (Below.refl _ W).alloc h.mz o
  have h0 : w.heap.size < w.heap.size + 2 := by omega
  have h1 : w.heap.size + 1 < w.heap.size + 2 := by omega
  exact ⟨World.ownsRow.alloc h.row o, (hb.cell (p := ⟨w.heap.size, 0, none⟩) h0).trans h.r0, (hb.cell (p := ⟨w.heap.size, 1, none⟩) h0).trans h.r1, fun j => (hb.frozen (p := ⟨w.heap.size, j, none⟩) h0).trans (h.rf j), (hb.cell (p := ⟨w.heap.size + 1, 0, none⟩) h1).trans h.m0, (hb.cell (p := ⟨w.heap.size + 1, 1, none⟩) h1).trans h.m1, fun j => (hb.frozen (p := ⟨w.heap.size + 1, j, none⟩) h1).trans (h.mf j), Nat.lt_of_lt_of_le h.mz hb.size, h.bel.trans (hb.mono (by omega))⟩
theorem below2 {B : Nat} {w W : World} {No : Nat} (h : Below B w W) (hB : B ≤ No) (x0 x1 : Value) : Below B w ((W.setCell ⟨No, 0, none⟩ x0).setCell ⟨No, 1, none⟩ x1) := (h.setCell (p := ⟨No, 0, none⟩) hB _).setCell (p := ⟨No, 1, none⟩) hB _
theorem res2 {W : World} {No : Nat} {y0 y1 : Value} (h0 : W.cell? ⟨No, 0, none⟩ = some y0) (h1 : W.cell? ⟨No, 1, none⟩ = some y1) (x0 x1 : Value) :
    ((W.setCell ⟨No, 0, none⟩ x0).setCell ⟨No, 1, none⟩ x1).cell? ⟨No, 0, none⟩ = some x0 ∧ ((W.setCell ⟨No, 0, none⟩ x0).setCell ⟨No, 1, none⟩ x1).cell? ⟨No, 1, none⟩ = some x1 := by
  refine ⟨?_, World.cell?_setCell_same _ _ _ (u := y1) (by rw [World.cell?_setCell_other _ _ _ _ (by simp)]; exact h1)⟩
  rw [World.cell?_setCell_other _ _ _ _ (by simp)]
  exact World.cell?_setCell_same _ _ _ h0
theorem Row.set2 {B : Nat} {l : List (Int × Int)} {v : Value} {W : World} {No : Nat} (h : Row B l v W) (hN : No < B) (x0 x1 : Value) : Row B l v ((W.setCell ⟨No, 0, none⟩ x0).setCell ⟨No, 1, none⟩ x1) := by
  have k : ∀ (V : World) o x, V.grownBy (V.setCell ⟨No, o, none⟩ x) (some No) := fun V o x => ⟨rfl, rfl, rfl, Nat.le_of_eq (World.size_setCell _ _ _).symm, fun q _ hq => Below.heap_setCell _ _ _ _ (fun e => hq (by rw [e]))⟩
  have h1 : Row B l v (W.setCell ⟨No, 0, none⟩ x0) := World.ownsRow.kept h (k W 0 x0) (.inr (fun e => by have := (World.ownsRow.lt h _ e).1; omega))
  exact World.ownsRow.kept h1 (k _ 1 x1) (.inr (fun e => by have := (World.ownsRow.lt h1 _ e).1; omega))
theorem IRow.nums {B : Nat} {zs : List Int} {v : Value} {w : World} (h : IRow B zs v w) : ∃ a cap, v = .slice a zs.length cap ∧ Nums w.heap.size w a zs := by
  have hc := fun g => World.ownsRow.cells h (g := g)
  have hlt := World.ownsRow.lt h
  obtain ⟨_, h1 | ⟨g, cap, cur, hv, h2⟩⟩ := h
  · exact ⟨none, 0, by rw [h1.1, h1.2], fun i hi => by omega⟩
  · subst hv
    refine ⟨some ⟨g, 0, none⟩, cap, rfl, fun i hi => ⟨g, 0, rfl, (hlt g rfl).2, ?_⟩⟩
    have := hc g rfl i (.int .i64 (zs.getD i 0)) (by simp [ints, List.getD_eq_getElem?_getD, hi])
    rwa [show (⟨g, 0, none⟩ : Addr).add i = ⟨g, 0 + i, none⟩ by unfold Addr.add; split <;> simp_all] at this
theorem map_getD (R : List (Int × Int)) (k : Nat) (h : k < R.length) : (R.map (·.1)).getD k 0 = (R.getD k (0, 0)).1 := by simp [List.getD_eq_getElem?_getD, h]
end Go.Proofs.YtmjhjacbhflcpaaDoor

namespace Go.Proofs.YtmjhjacbhflcpaaDoor
open Go.RowKit Go.Maps

/-- What is answered: the form, or nothing and what is amiss. -/
structure DivIs (u : Int) (D : List (Int × Int)) (x C : Int) (E : List (Int × Int)) : Prop where
  ok : divK u D = 0 → x = 0 ∧ C = u ∧ E = D
  bad : divK u D ≠ 0 → x = divK u D ∧ C = 0 ∧ E = []
theorem divK_far {u : Int} {D : List (Int × Int)} (h : wi u 1073741824 = false ∨ allIn 1073741824 D = false) : divK u D = 3 := by
  unfold divK; rw [if_neg (by rintro ⟨h1, h2⟩; rw [h1, h2] at h; simp at h)]
theorem divK_in {u : Int} {D : List (Int × Int)} (h : wi u 1073741824 = true) (h2 : allIn 1073741824 D = true) : divK u D = if 64 < D.length then 2 else 0 := by
  unfold divK; rw [if_pos ⟨h, h2⟩]
set_option maxRecDepth 100000 in
set_option maxHeartbeats 4000000 in
theorem divided_any (c g : Int) (B nm : Nat) (T R : List (Int × Int)) (va : Option Addr) (vn vcap : Nat) (w : World) (hg : 1 ≤ g ∧ g ≤ 1073741824) (hc : -4398046511104 ≤ c ∧ c ≤ 4398046511104) (hs : Sums T nm B w) (hR : IsSum T R) (hin : allIn 4398046511104 R = true) (hvn : R.length = vn) (hv : Nums w.heap.size w va (R.map (·.1))) (hvm : vn ≤ 65536) (hvb : ∀ m ∈ R, 0 ≤ m.1 ∧ m.1 ≤ 1073741824) (x C : Int) (E : List (Int × Int)) (hx : DivIs (upI c g) (divT g R) x C E) :
    Calls Tryd.prog 32 #[.int .i64 c, .map (some B), .slice va vn vcap, .int .i64 g] w (LEnd w.heap.size x C E w) := by
  have hg1 := hg.1
  have hg2 := hg.2
  have hg0 : g ≠ 0 := by omega
  have hup := Lib.hid (fun W => cup_any c g W hg1 ⟨by omega, by omega⟩)
  have HS := Lib.hid hs
  have HV := Lib.hid hv
  have HVN := Lib.hid hvn
  have HRS := Lib.hid hR
  have HIN := Lib.hid hin
  have S0 := Lib.hid (DivSt.start w (upI c g))
  have HDL := Lib.hid (divT_len g R)
  have HDG := Lib.hid (fun k h => divT_get g R k h)
  have HRL := Lib.hid hvn
  have HX := Lib.hid hx
  have HVB := Lib.hid hvb
  clear hs hv hvn hR hin hg hx hvb
  generalize upI c g = u at hup S0 HX
  generalize divT g R = D at HDL HDG HX
  obtain ⟨i0, hi, hz0, hz1, hz2⟩ := info_parts Tryd.infoMono
  go_enter Tryd.func32, Tryd.ntmps32
  go_wp2_with fail
  refine (hup.out _).mono ?_
  rintro e w4 ⟨rfl, rfl⟩
  go_wp2_with fail
  generalize (w.alloc (.cells #[.int .i64 0, .slice none 0 0] 49)).alloc (.cells #[.int .i64 u, .slice none 0 0] 49) = w5 at S0 ⊢
  clear hup
  go_loopw [21] (fun i wr => ∃ (k : Nat) (v : Value), k ≤ vn ∧ i = .int .i64 k ∧ Hid (DivSt w wr u v (D.take k))) (fun i _ => vn - (intOf i).toNat)
  case atStart => exact ⟨0, _, Nat.zero_le _, rfl, S0⟩
  case round =>
    clear S0
    obtain ⟨k, v, hk, rfl, hst⟩ := hrel
    obtain ⟨wo, rfl⟩ : ∃ wo : World, wo = wr := ⟨_, rfl⟩
    obtain ⟨hrow, q0, q1, qf, m0, m1, mf, mz, hbel⟩ := hst.out
    by_cases hlt : k < vn
    · have hkR : k < R.length := by rw [HRL.out]; exact hlt
      obtain ⟨b, off, ea, hblt, c1⟩ := (HV.out.below hbel) k (by rw [List.length_map]; exact hkR)
      subst ea
      rw [map_getD R k hkR] at c1
      have hts := take_snoc D k (by rw [HDL.out]; exact hkR)
      rw [HDG.out k hkR] at hts
      have hrt : (D.take k).length ≤ 65536 := by rw [List.length_take]; omega
      have HT3 := Lib.hid hts
      have hin := allIn_get HIN.out k hkR
      have hmem : R.getD k (0, 0) ∈ R := by rw [List.getD_eq_getElem?_getD, List.getElem?_eq_getElem hkR]; exact List.getElem_mem hkR
      have hvb := HVB.out _ hmem
      have hco : coef T (R.getD k (0, 0)).1 = (R.getD k (0, 0)).2 := by rw [← HRS.out.eq, coef_up HRS.out.up hmem]
      obtain ⟨DD, hown, hat0⟩ := HS.out.ex
      have hv0 := hat0 (R.getD k (0, 0)).1
      rw [hco] at hv0
      have hownk : wo.ownsMap Tryd.prog 3 (plainElem Tryd.prog 3) B nm DD := hown.kept (row := none) ⟨hbel.os, hbel.tape, hbel.output, hbel.size, fun q hq _ => hbel.block q hq⟩ (by simp)
      generalize (R.getD k (0, 0)).1 = V at c1 HT3 hv0 hvb
      generalize (R.getD k (0, 0)).2 = K at HT3 hin hv0
      have hKb : -4398046511104 ≤ K ∧ K ≤ 4398046511104 := by unfold wi at hin; simpa using hin
      have hq := tdiv_in (c := K) (g := g) (B := 4398046511104) (by omega)
      have hwq : IntKind.i64.wrap (K.tdiv g) = K.tdiv g := IntWalk.i64_in _ (by omega)
      have hlk : (Instr.lookup 68 (.map (some B)) (.int .i64 V) false).run Tryd.prog wo.drew = .ok (.int .i64 K) wo.drew := by
        obtain ⟨c', hrun, hat, hwc⟩ := (hownk.drew).lookup_int Tryd.lawInt Tryd.underlying68 Tryd.underlying3 (Tryd.zeroInt _) (key := .int .i64 V) (kl := .int .i64 V) (keyOf_int_mk Tryd.underlying3 (WalkArith.wf_i64 (by omega)))
        obtain rfl : c' = K := by have h9 := hat.symm.trans hv0; injection h9 with h9; injection h9
        exact hrun
      generalize D.take k = r at hst HT3 hrt hrow
      have HROW : Hid (((wo.alloc (.cells #[.int .i64 V, .int .i64 (K.tdiv g)] 46)).drew).ownsRow (w.heap.size + 2) 46 2 v r.length (flat r)) := (World.ownsRow.alloc hrow _).drew
      have HB5 : Hid (Below (w.heap.size + 2) wo ((wo.alloc (.cells #[.int .i64 V, .int .i64 (K.tdiv g)] 46)).drew)) := ((Below.refl _ wo).alloc mz _).drew
      have NEWS := Lib.hid (World.news_of_block (w := (wo.alloc (.cells #[.int .i64 V, .int .i64 (K.tdiv g)] 46)).drew) (cs := #[.int .i64 V, .int .i64 (K.tdiv g)]) (t := 46) (fr := (0, 0)) (heap_alloc_new wo _))
      have HM := Lib.hid mz
      have m1a : (wo.alloc (.cells #[.int .i64 V, .int .i64 (K.tdiv g)] 46)).cell? ⟨w.heap.size + 1, 1, none⟩ = some v := (((Below.refl _ wo).alloc (Nat.le_refl _) _).cell (p := ⟨w.heap.size + 1, 1, none⟩) mz).trans m1
      clear hrow qf mf hbel hts m0 mz hq q0 q1 hin hKb hmem hco hown hat0 hv0 hownk
      go_wp2_with fail
      go_region_law (first
        | (refine step_append_lies _ (by rfl) _ _ _ (by rfl) (w.heap.size + 2) 46 i0 _ 2 16 Tryd.underlying47 hi hz0 hz1 hz2 rfl (by omega) v r.length (flat r) (by rfl) HROW.out
             ⟨wo.heap.size, 0, none⟩ 1 1 [.int .i64 V, .int .i64 (K.tdiv g)] (by rfl) (by rfl) NEWS.out (by simp [Value.oneCell']) (by omega) (by unfold maxLen; omega) (by omega) (by have := HM.out; simp; omega) (wo.heap.size + 1) (by simp) ?_
           intro gg cap2 w6 hown6 hgrow6 hat6 hlt6
           have FAR := Lib.hid (hst.out.far HB5.out hgrow6)
           have o61 := FAR.out.1
           have o6f := FAR.out.2))
      all_goals
        have ST : Hid (DivSt w (w6.setCell ⟨w.heap.size + 1, 1, none⟩ (.slice (some ⟨gg, 0, none⟩) (r.length + 1) cap2)) u (.slice (some ⟨gg, 0, none⟩) (r.length + 1) cap2) (D.take (k + 1))) := by
          refine hst.out.step HB5.out hgrow6 ?_
          rw [HT3.out]
          unfold Row
          rw [List.length_append, flat_append]
          exact hown6
        clear o61 o6f hown6 hgrow6 hat6 hlt6 FAR
        generalize w6.setCell ⟨w.heap.size + 1, 1, none⟩ (.slice (some ⟨gg, 0, none⟩) (r.length + 1) cap2) = w7 at ST ⊢
        go_wp2_with fail
        go_roundw
        case rel => exact ⟨k + 1, _, by omega, by go_num, ST⟩
        case measure => simp [intOf]; omega
    · obtain rfl : k = vn := by omega
      have hrow1 : Row (w.heap.size + 2) D v wo := by
        rw [List.take_of_length_le (by rw [HDL.out, HRL.out]; exact Nat.le_refl _)] at hrow
        exact hrow
      obtain ⟨a3, cap3, rfl, hlies3, _⟩ := hrow1.lies
      have hDL : D.length = k := by rw [HDL.out, HRL.out]
      rw [hDL] at hrow1 m1
      have S1 : Hid (DivSt w wo u (.slice a3 k cap3) D) := by
        have := hst.out
        rw [List.take_of_length_le (by rw [hDL]; exact Nat.le_refl _), hDL] at this
        exact this
      have HL3 := Lib.hid hlies3
      have HDN := Lib.hid hDL
      clear hst hrow hlies3 hDL HDL HDG HIN HRS HV HVN HS hrow1
      have CW : Hid (∀ W, Calls Tryd.prog 31 #[.int .i64 u, .int .i64 1073741824] W fun e w' => e = .returned (.bool (wi u 1073741824)) ∧ W = w') := fun W => cwithin_any u 1073741824 W (by omega) (by omega)
      by_cases hwu : wi u 1073741824 = true
      · rw [hwu] at CW
        go_wp2_with fail
        refine (CW.out _).mono ?_
        rintro e w4 ⟨rfl, rfl⟩
        go_wp2_with fail
        clear CW m0 m1 mf mz q0 q1 qf hbel
        go_loopw [47] (fun i wr => ∃ (j : Nat), j ≤ k ∧ i = .int .i64 j ∧ Hid (DivSt w wr u (.slice a3 k cap3) D) ∧ Hid (Below wo.heap.size wo wr) ∧ Hid (∀ m, m < j → wi (D.getD m (0, 0)).2 1073741824 = true)) (fun i _ => k - (intOf i).toNat)
        case atStart => exact ⟨0, Nat.zero_le _, rfl, S1, Below.refl _ _, fun m hm => absurd hm (Nat.not_lt_zero _)⟩
        case round =>
          clear S1
          obtain ⟨j, hj, rfl, hsi, hbi, hai⟩ := hrel
          obtain ⟨hrow2, q0, q1, qf, m0, m1, mf, mz, hbel⟩ := hsi.out
          by_cases hjt : j < k
          · obtain ⟨b3, off3, rfl, hb3, d1, d2⟩ := (HL3.out.below hbi.out) j (by rw [HDN.out]; exact hjt)
            have hkj : wi (D.getD j (0, 0)).2 1073741824 = true → Hid (∀ m, m < j + 1 → wi (D.getD m (0, 0)).2 1073741824 = true) := fun h m hm => by
              by_cases e : m = j
              · subst e; exact h
              · exact hai.out m (by omega)
            have hbad : wi (D.getD j (0, 0)).2 1073741824 = false → Hid (x = 3 ∧ C = 0 ∧ E = []) := fun h => by
              have hk3 := divK_far (u := u) (.inr (allIn_not (by rw [HDN.out]; exact hjt) h))
              have := HX.out.bad (by rw [hk3]; decide)
              rw [hk3] at this
              exact this
            have CJ : Hid (∀ W, Calls Tryd.prog 31 #[.int .i64 (D.getD j (0, 0)).2, .int .i64 1073741824] W fun e w' => e = .returned (.bool (wi (D.getD j (0, 0)).2 1073741824)) ∧ W = w') := fun W => cwithin_any _ 1073741824 W (by omega) (by omega)
            generalize (D.getD j (0, 0)).1 = V at d1
            generalize (D.getD j (0, 0)).2 = K at d2 hkj hbad CJ
            have SA := Lib.hid (hsi.out.alloc (.cells #[.int .i64 V, .int .i64 K] 46))
            have BA : Hid (Below wo.heap.size wo (wr.alloc (.cells #[.int .i64 V, .int .i64 K] 46))) := hbi.out.alloc hbi.out.size _
            by_cases hwk : wi K 1073741824 = true
            · rw [hwk] at CJ
              have HKJ := hkj hwk
              clear hkj hbad qf mf hbel hrow2 q0 q1 m0
              go_wp2_with fail
              refine (CJ.out _).mono ?_
              rintro e w4 ⟨rfl, rfl⟩
              go_wp2_with fail
              refine ⟨⟨j + 1, by omega, by go_num, SA, BA, HKJ⟩, by simp [intOf]; omega⟩
            · rw [Bool.not_eq_true] at hwk
              rw [hwk] at CJ
              obtain ⟨rfl, rfl, rfl⟩ := (hbad hwk).out
              clear hkj hbad qf mf hbel hrow2 q0 q1 m0
              go_wp2_with fail
              refine (CJ.out _).mono ?_
              rintro e w4 ⟨rfl, rfl⟩
              obtain ⟨_, q0, q1, qf, m0, m1, mf, mz, hbel⟩ := SA.out
              generalize wr.alloc (.cells #[.int .i64 V, .int .i64 K] 46) = w9 at SA BA q0 q1 qf m0 m1 mf mz hbel ⊢
              obtain ⟨e0, e1⟩ := res2 q0 q1 (.int .i64 0) (.slice none 0 0)
              have HE := Lib.hid (And.intro e0 e1)
              have HBE := Lib.hid hbel
              clear e0 e1 hbel
              go_wp2_with fail
              refine bodyPost_ret (v := .tuple #[.agg #[.int .i64 0, .slice none 0 0], .iface 42 (.int .i64 3)]) ?_ rfl (LEnd.none rfl (below2 HBE.out (Nat.le_refl _) _ _))
              obtain ⟨e0, e1⟩ := HE.out
              simp [results, Tryd.results32, go_sem, e0, e1]
          · obtain rfl : j = k := by omega
            have hall := allIn_of (M := 1073741824) (R := D) (fun m hm => hai.out m (by rw [HDN.out] at hm; exact hm))
            have hdk := divK_in hwu hall
            rw [HDN.out] at hdk
            by_cases h64 : 64 < j
            · rw [if_pos h64] at hdk
              obtain ⟨hx0, rfl, rfl⟩ := HX.out.bad (by rw [hdk]; decide)
              rw [hdk] at hx0
              subst hx0
              obtain ⟨e0, e1⟩ := res2 q0 q1 (.int .i64 0) (.slice none 0 0)
              have HE := Lib.hid (And.intro e0 e1)
              have HBE := Lib.hid hbel
              clear e0 e1 hbel hdk hall
              go_wp2_with fail
              refine bodyPost_ret (v := .tuple #[.agg #[.int .i64 0, .slice none 0 0], .iface 42 (.int .i64 2)]) ?_ rfl (LEnd.none rfl (below2 HBE.out (Nat.le_refl _) _ _))
              obtain ⟨e0, e1⟩ := HE.out
              simp [results, Tryd.results32, go_sem, e0, e1]
            · rw [if_neg h64] at hdk
              obtain ⟨rfl, rfl, rfl⟩ := HX.out.ok hdk
              obtain ⟨e0, e1⟩ := res2 q0 q1 (.int .i64 C) (.slice a3 j cap3)
              have HE := Lib.hid (And.intro e0 e1)
              have HBE := Lib.hid hbel
              have HRW := Lib.hid hrow2
              clear e0 e1 hbel hdk hall hrow2
              go_wp2_with fail
              refine bodyPost_ret (v := .tuple #[.agg #[.int .i64 C, .slice a3 j cap3], .nilIface]) ?_ rfl ⟨.slice a3 j cap3, rfl, Joins.ownsRow_le (HRW.out.set2 (by omega) _ _) (by omega), below2 HBE.out (Nat.le_refl _) _ _⟩
              obtain ⟨e0, e1⟩ := HE.out
              simp [results, Tryd.results32, go_sem, e0, e1]
      · rw [Bool.not_eq_true] at hwu
        rw [hwu] at CW
        have hk3 := divK_far (D := D) (.inl hwu)
        obtain ⟨hx0, rfl, rfl⟩ := HX.out.bad (by rw [hk3]; decide)
        rw [hk3] at hx0
        subst hx0
        obtain ⟨e0, e1⟩ := res2 q0 q1 (.int .i64 0) (.slice none 0 0)
        have HE := Lib.hid (And.intro e0 e1)
        have HBE := Lib.hid hbel
        clear e0 e1 hbel hk3
        go_wp2_with fail
        refine (CW.out _).mono ?_
        rintro e w4 ⟨rfl, rfl⟩
        go_wp2_with fail
        refine bodyPost_ret (v := .tuple #[.agg #[.int .i64 0, .slice none 0 0], .iface 42 (.int .i64 3)]) ?_ rfl (LEnd.none rfl (below2 HBE.out (Nat.le_refl _) _ _))
        obtain ⟨e0, e1⟩ := HE.out
        simp [results, Tryd.results32, go_sem, e0, e1]
end Go.Proofs.YtmjhjacbhflcpaaDoor
