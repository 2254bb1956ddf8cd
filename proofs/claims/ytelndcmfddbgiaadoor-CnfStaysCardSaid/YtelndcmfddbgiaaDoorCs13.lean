/- The maker: its clauses. The maker: join. The text of a form, and that no two forms have the same. -/
import Derived.Test.YtelndcmfddbgiaaDoorCs09
import Derived.Lib.ItoaMem
import Derived.Lib.ItoaLen
set_option linter.unusedVariables false
set_option linter.unusedSimpArgs false
set_option linter.unusedVariables false
set_option linter.unusedSimpArgs false
namespace Go.Proofs.YtelndcmfddbgiaaDoor
set_option maxRecDepth 100000
open Go.RowKit

/-- The maker while clauses are made. -/
structure LS (M K mp : Nat) (av : Value) (N : Nat) (cl : List (List Int)) (r : Option Nat) (S : Nat → Prop) (w : World) : Prop where
  c0 : w.cell? ⟨M, 0, none⟩ = some (.int .i64 N)
  c1 : w.cell? ⟨M, 1, none⟩ = some av
  ex : ∃ v, w.cell? ⟨M, 2, none⟩ = some v ∧ v.ownBlock = r ∧ OwnP Pak.clauseSh 45 K S cl v w
  lo : ∀ b, S b → K ≤ b
  c3 : w.cell? ⟨M, 3, none⟩ = some (.map (some mp))
  fz : ∀ j, w.frozen? ⟨M, j, none⟩ = false
  lt : M < K ∧ K ≤ w.heap.size
  nf : ∀ b, S b → ∀ o, w.frozen? ⟨b, o, none⟩ = false
def LTo (M K mp : Nat) (av : Value) (N : Nat) (cl : List (List Int)) (r : Option Nat) (S' : Nat → Prop) (w w' : World) : Prop := ∃ r', LS M K mp av N cl r' S' w' ∧ (r' = r ∨ ∃ q, r' = some q ∧ w.heap.size ≤ q) ∧ Pak.KeptW M r w w'
theorem keptW_trans {M : Nat} {r r' : Option Nat} {w w1 w2 : World} (hr : r' = r ∨ ∃ q, r' = some q ∧ w.heap.size ≤ q) (h : Pak.KeptW M r w w1) (k : Pak.KeptW M r' w1 w2) : Pak.KeptW M r w w2 :=
  ⟨k.os.trans h.os, k.tape.trans h.tape, k.output.trans h.output, Nat.le_trans h.size k.size, fun q hq h1 h2 => (k.block q (Nat.lt_of_lt_of_le hq h.size) h1 (fun e => by
    rcases hr with rfl | ⟨p, rfl, hp⟩
    · exact h2 e
    · injection e with e; omega)).trans (h.block q hq h1 h2)⟩
theorem next_trans {r r' r2 : Option Nat} {w w1 : World} (hr : r' = r ∨ ∃ q, r' = some q ∧ w.heap.size ≤ q) (hs : w.heap.size ≤ w1.heap.size) (k : r2 = r' ∨ ∃ q, r2 = some q ∧ w1.heap.size ≤ q) : r2 = r ∨ ∃ q, r2 = some q ∧ w.heap.size ≤ q := by
  rcases k with rfl | ⟨q, rfl, hq⟩
  · exact hr
  · exact .inr ⟨q, rfl, by omega⟩
section
variable {M K mp : Nat} {av : Value} {N : Nat} {cl : List (List Int)} {r r' : Option Nat} {S : Nat → Prop} {w w1 w2 w' : World}
theorem LTo.refl (h : LS M K mp av N cl r S w) : LTo M K mp av N cl r S w w := ⟨r, h, .inl rfl, .of_below (Below.refl _ _)⟩
theorem LTo.trans (hr : r' = r ∨ ∃ q, r' = some q ∧ w.heap.size ≤ q) (h : Pak.KeptW M r w w1) (k : LTo M K mp av N cl r' S w1 w2) : LTo M K mp av N cl r S w w2 := by
  obtain ⟨r2, k1, k2, k3⟩ := k
  exact ⟨r2, k1, next_trans hr h.size k2, keptW_trans hr h k3⟩
theorem LS.size (h : LS M K mp av N cl r S w) : M < w.heap.size := Nat.lt_of_lt_of_le h.lt.1 h.lt.2
/-- It stands where other blocks are written. -/
theorem LS.keep (h : LS M K mp av N cl r S w) (hsz : w.heap.size ≤ w'.heap.size) (hM : w'.heap[M]? = w.heap[M]?) (hk : ∀ q, (S q ∨ r = some q) → w'.heap[q]? = w.heap[q]?) : LS M K mp av N cl r S w' := by
  obtain ⟨v, h1, h2, h3⟩ := h.ex
  have c := fun j => World.cell?_of_block (a := ⟨M, j, none⟩) hM
  exact ⟨(c 0).trans h.c0, (c 1).trans h.c1, ⟨v, (c 2).trans h1, h2, h3.keep hsz (fun q hq => hk q (by rw [← h2]; exact hq))⟩, h.lo, (c 3).trans h.c3, fun j => (World.frozen?_of_block (a := ⟨M, j, none⟩) hM).trans (h.fz j), ⟨h.lt.1, Nat.le_trans h.lt.2 hsz⟩, fun b hb o => (World.frozen?_of_block (a := ⟨b, o, none⟩) (hk b (.inl hb))).trans (h.nf b hb o)⟩
theorem LS.row (h : LS M K mp av N cl r S w) : ∀ q, r = some q → K ≤ q ∧ q < w.heap.size ∧ ¬ S q := fun q hq => by
  obtain ⟨v, h1, h2, h3⟩ := h.ex
  exact ⟨(h3.lt q (h2.trans hq)).1, (h3.lt q (h2.trans hq)).2, fun hs => (h3.ok q hs).2 (h2.trans hq)⟩
theorem LS.ok (h : LS M K mp av N cl r S w) : ∀ b, S b → b < w.heap.size := fun b hb => by
  obtain ⟨v, h1, h2, h3⟩ := h.ex
  exact (h3.ok b hb).1
theorem LS.below (h : LS M K mp av N cl r S w) (hb : Below w.heap.size w w') : LS M K mp av N cl r S w' :=
  h.keep hb.size (hb.block M h.size) (fun q hq => hb.block q (by
    rcases hq with hq | hq
    · exact h.ok q hq
    · exact (h.row q hq).2.1))
/-- A row of another's grows. -/
theorem LS.grown (h : LS M K mp av N cl r S w) {row : Option Nat} (hg : w.grownBy w' row) (hr : ∀ q, row = some q → q ≠ M ∧ ¬ S q ∧ r ≠ some q) : LS M K mp av N cl r S w' :=
  h.keep hg.size (hg.block M h.size (fun e => (hr M e.symm).1 rfl)) (fun q hq => hg.block q (by
    rcases hq with hq | hq
    · exact h.ok q hq
    · exact (h.row q hq).2.1) (fun e => by
    rcases hq with hq | hq
    · exact (hr q e.symm).2.1 hq
    · exact (hr q e.symm).2.2 hq))
theorem LTo.below (h : LTo M K mp av N cl r S w w1) (hb : Below w1.heap.size w1 w2) : LTo M K mp av N cl r S w w2 := by
  obtain ⟨r2, k1, k2, k3⟩ := h
  exact ⟨r2, k1.below hb, k2, keptW_trans k2 k3 (.of_below hb)⟩
/-- What lies below the maker stands. -/
theorem LS.low (hs : LS M K mp av N cl r S w) (k3 : Pak.KeptW M r w w') : Below M w w' := by
  have h1 := hs.lt
  exact ⟨k3.os, k3.tape, k3.output, k3.size, fun q hq => k3.block q (by omega) (by omega) (fun e => by have := hs.row q e.symm; omega)⟩
theorem grown_set {j : Nat} (v : Value) : w.grownBy (w.setCell ⟨M, j, none⟩ v) (some M) := ⟨rfl, rfl, rfl, by simp [World.setCell], fun q hq hn => Below.heap_setCell _ _ _ _ (fun e => hn (by rw [e]))⟩
/-- The number of variables is stored. -/
theorem LS.count (h : LS M K mp av N cl r S w) (n : Nat) : LTo M K mp av n cl r S w (w.setCell ⟨M, 0, none⟩ (.int .i64 n)) := by
  obtain ⟨v, h1, h2, h3⟩ := h.ex
  have hsz : (w.setCell ⟨M, 0, none⟩ (.int .i64 n)).heap.size = w.heap.size := by simp [World.setCell]
  have hl := h.lt
  refine ⟨r, ⟨World.cell?_setCell_same' _ _ _ (by rw [h.c0]; rfl), (World.cell?_setCell_other w ⟨M, 0, none⟩ ⟨M, 1, none⟩ _ (by simp)).trans h.c1, ⟨v, (World.cell?_setCell_other w ⟨M, 0, none⟩ ⟨M, 2, none⟩ _ (by simp)).trans h1, h2, h3.grown (grown_set _) (fun q hq => ?_)⟩, h.lo, (World.cell?_setCell_other w ⟨M, 0, none⟩ ⟨M, 3, none⟩ _ (by simp)).trans h.c3, fun j => by rw [World.frozen?_setCell]; exact h.fz j, ⟨hl.1, by rw [hsz]; exact hl.2⟩, fun b hb o => by rw [World.frozen?_setCell]; exact h.nf b hb o⟩, .inl rfl, ⟨rfl, rfl, rfl, Nat.le_of_eq hsz.symm, fun q hq h1 h2 => Below.heap_setCell _ _ _ _ h1⟩⟩
  injection hq with hq
  subst hq
  exact ⟨fun hb => by have := h.lo M hb; omega, fun e => by have := (h3.lt M e).1; omega⟩
/-- A clause is added. -/
theorem LS.add {a : Option Addr} {cap : Nat} {xs : List Int} {Sx : Nat → Prop} (h : LS M K mp av N cl r S w) (hn : cl.length ≤ 4194304) (hx : Pak.Sits Pak.intSh Sx w a xs) (hSx : ∀ b, Sx b → K ≤ b ∧ b < w.heap.size ∧ r ≠ some b) (hNx : ∀ b, Sx b → ∀ o, w.frozen? ⟨b, o, none⟩ = false) :
    ∃ v a6 n6 c6 w6, w.cell? ⟨M, 2, none⟩ = some v ∧ (∀ ty, (Builtin.append_ #[31, 31] ty #[v, .slice (some ⟨w.heap.size, 0, none⟩) 1 1]).run Tryd.prog (w.alloc (.cells #[.slice a xs.length cap] 45)) = .ok (.slice a6 n6 c6) w6) ∧ w6.cell? ⟨M, 2, none⟩ = some v ∧ w6.frozen? ⟨M, 2, none⟩ = false ∧ LTo M K mp av N (cl ++ [xs]) r (fun b => S b ∨ Sx b) w (w6.setCell ⟨M, 2, none⟩ (.slice a6 n6 c6)) := by
  obtain ⟨v, h1, h2, h3⟩ := h.ex
  have h4 := h.lo
  have hl := h.lt
  obtain ⟨v6, w6, hr, k1, k2, k3⟩ := h3.put (P := Tryd.prog) (t := 31) (x := xs) (cs := [.slice a xs.length cap]) (Sx := Sx) Tryd.underlying31 (by' := 24) (by kernel_rfl) (by decide) (by decide) hn hl.2 ⟨_, rfl, a, cap, rfl, hx⟩ (fun b hb => ⟨(hSx b hb).2.1, by rw [h2]; exact (hSx b hb).2.2⟩)
  have hrM : v.ownBlock ≠ some M := fun e => by have := (h3.lt M e).1; omega
  have hlt : M < w.heap.size := by omega
  have hg6 : w6.heap[M]? = w.heap[M]? := k2.block M hlt (fun e => hrM e.symm)
  have c := fun j => World.cell?_of_block (a := ⟨M, j, none⟩) hg6
  have hs6 := k2.size
  have hsz : (w6.setCell ⟨M, 2, none⟩ v6).heap.size = w6.heap.size := by simp [World.setCell]
  have k4 : ∀ b, S b ∨ Sx b → K ≤ b := fun b hb => by
    rcases hb with hb | hb
    · exact h4 b hb
    · exact (hSx b hb).1
  have hv6 : ∀ q, v6.ownBlock = some q → K ≤ q := fun q hq => (k1.lt q hq).1
  obtain ⟨a6, c6, e6⟩ := k1.form
  generalize (cl ++ [xs]).length = n6 at e6
  subst e6
  refine ⟨v, a6, n6, c6, w6, h1, hr, (c 2).trans h1, (World.frozen?_of_block (a := ⟨M, 2, none⟩) hg6).trans (h.fz 2), Value.ownBlock (.slice a6 n6 c6), ⟨(World.cell?_setCell_other w6 ⟨M, 2, none⟩ ⟨M, 0, none⟩ _ (by simp)).trans ((c 0).trans h.c0), (World.cell?_setCell_other w6 ⟨M, 2, none⟩ ⟨M, 1, none⟩ _ (by simp)).trans ((c 1).trans h.c1), ⟨_, World.cell?_setCell_same' _ _ _ (by rw [c 2, h1]; rfl), rfl, k1.grown (grown_set _) (fun q hq => ?_)⟩, k4, (World.cell?_setCell_other w6 ⟨M, 2, none⟩ ⟨M, 3, none⟩ _ (by simp)).trans ((c 3).trans h.c3), fun j => ?_, ⟨hl.1, by omega⟩, fun b hb o => ?_⟩, by rw [← h2]; exact k3, ⟨k2.os, k2.tape, k2.output, by omega, fun q hq h5 h6 => ?_⟩⟩
  · injection hq with hq
    subst hq
    exact ⟨fun hb => by have := k4 M hb; omega, fun e => by have := hv6 M e; omega⟩
  · rw [World.frozen?_setCell, World.frozen?_of_block (a := ⟨M, j, none⟩) hg6]
    exact h.fz j
  · have hbz : b < w.heap.size ∧ v.ownBlock ≠ some b := by
      rcases hb with hb | hb
      · exact h3.ok b hb
      · exact ⟨(hSx b hb).2.1, by rw [h2]; exact (hSx b hb).2.2⟩
    rw [World.frozen?_setCell, World.frozen?_of_block (a := ⟨b, o, none⟩) (k2.block b hbz.1 (fun e => hbz.2 e.symm))]
    rcases hb with hb | hb
    · exact h.nf b hb o
    · exact hNx b hb o
  · rw [Below.heap_setCell _ _ _ _ h5, k2.block q hq (by rw [h2]; exact h6)]
end
def LEnd (M K mp : Nat) (av : Value) (N : Nat) (cl : List (List Int)) (r : Option Nat) (S' : Nat → Prop) (w : World) (e : Ending) (w' : World) : Prop := e = .returned (.tuple #[]) ∧ LTo M K mp av N cl r S' w w'
set_option maxHeartbeats 2000000 in
theorem clause_any (M K mp : Nat) (av : Value) (N : Nat) (cl : List (List Int)) (r : Option Nat) (w : World) (a : Option Addr) (n cap : Nat) (xs : List Int) (S Sx : Nat → Prop) (h : LS M K mp av N cl r S w) (hn : cl.length ≤ 4194304) (hxn : xs.length = n) (hx : Pak.Sits Pak.intSh Sx w a xs) (hSx : ∀ b, Sx b → K ≤ b ∧ b < w.heap.size ∧ r ≠ some b) (hNx : ∀ b, Sx b → ∀ o, w.frozen? ⟨b, o, none⟩ = false) :
    Calls Tryd.prog 23 #[.pointer (some ⟨M, 0, none⟩), .slice a n cap] w (LEnd M K mp av N (cl ++ [xs]) r (fun b => S b ∨ Sx b) w) := by
  obtain ⟨v, a6, n6, c6, w6, h1, hr, h2, h3, h4⟩ := h.add (cap := cap) hn hx hSx hNx
  rw [hxn] at hr
  have H4 := Lib.hid h4
  clear h hn hx hSx hNx h4
  go_enter Tryd.func23, Tryd.ntmps23
  go_wp2_with (at_builtin; refine Lib.wpList_append_run _ rfl _ _ _ _ rfl _ _ rfl rfl _ _ (hr _) ?_)
  go_end0
  exact ⟨rfl, H4.out⟩
end Go.Proofs.YtelndcmfddbgiaaDoor

set_option linter.unusedVariables false
set_option linter.unusedSimpArgs false
namespace Go.Proofs.YtelndcmfddbgiaaDoor
set_option maxRecDepth 100000
open Go.RowKit

def sm (B x : Int) : Prop := -B ≤ x ∧ x ≤ B
theorem ints_new (w : World) (xs : List Int) (h : ∀ x ∈ xs, -9223372036854775808 ≤ x ∧ x ≤ 9223372036854775807) (hl : xs.length ≤ 9223372036854775807) : Pak.Sits Pak.intSh (fun b => b = w.heap.size) (w.alloc (.cells (xs.map (Value.int .i64)).toArray 3)) (some ⟨w.heap.size, 0, none⟩) xs := by
  refine ⟨hl, fun i hi => ⟨w.heap.size, 0, [.int .i64 xs[i]], rfl, rfl, fun j u hu => ?_, rfl, h _ (List.getElem_mem hi)⟩⟩
  have hj : j = 0 := by have := (List.getElem?_eq_some_iff.1 hu).1; simp at this; exact this
  subst hj
  rw [cell_of_row _ _ _ _ _ _ (heap_alloc_new w _)]
  simp at hu
  subst hu
  have e : Pak.intSh.k = 1 := rfl
  simp [e, hi]
theorem own_new (w : World) (x : Int) (h : -9223372036854775808 ≤ x ∧ x ≤ 9223372036854775807) {K : Nat} (hK : K ≤ w.heap.size) : OwnP Pak.intSh 3 K (fun _ => False) [x] (.slice (some ⟨w.heap.size, 0, none⟩) 1 1) (w.alloc (.cells #[.int .i64 x] 3)) :=
  ⟨⟨[[.int .i64 x]], rfl, ⟨rfl, .inr ⟨w.heap.size, 1, #[.int .i64 x], rfl, hK, heap_alloc_new w _, Nat.le_refl _, by decide, rfl, rfl⟩⟩, fun i hi hi2 => by
    have : i = 0 := by simp at hi; exact hi
    subst this
    exact ⟨rfl, h⟩⟩, fun b hb => hb.elim⟩
def joinK (v s : Int) (ls : List Int) (k : Nat) : List (List Int) := (ls.take k).map fun l => [-v, s * l]
def lastK (v s : Int) (ls : List Int) (k : Nat) : List Int := v :: (ls.take k).map fun l => -s * l
theorem joinK_succ {v s : Int} {ls : List Int} {k : Nat} (h : k < ls.length) : joinK v s ls (k + 1) = joinK v s ls k ++ [[-v, s * ls[k]]] := by
  unfold joinK; rw [List.take_succ_eq_append_getElem h, List.map_append]; rfl
theorem lastK_succ {v s : Int} {ls : List Int} {k : Nat} (h : k < ls.length) : lastK v s ls (k + 1) = lastK v s ls k ++ [-s * ls[k]] := by
  unfold lastK; rw [List.take_succ_eq_append_getElem h, List.map_append]; rfl
theorem join_all (v s : Int) (ls : List Int) : joinK v s ls ls.length ++ [lastK v s ls ls.length] = joinL v s ls := by
  unfold joinK lastK joinL; rw [List.take_length]
def JEnd (M K mp : Nat) (av : Value) (N : Nat) (cl : List (List Int)) (r : Option Nat) (S : Nat → Prop) (w : World) (w' : World) : Prop := ∃ S', (∀ b, S' b → S b ∨ w.heap.size ≤ b) ∧ LTo M K mp av N cl r S' w w'
set_option maxHeartbeats 8000000 in
theorem join_any (M K mp : Nat) (av : Value) (N : Nat) (cl : List (List Int)) (r : Option Nat) (S Sl : Nat → Prop) (w : World) (v s : Int) (a : Option Addr) (n cap : Nat) (ls : List Int) (h : LS M K mp av N cl r S w) (hn : cl.length + n ≤ 4000000) (hln : ls.length = n) (hl : Pak.Sits Pak.intSh Sl w a ls) (hSl : ∀ b, Sl b → b < w.heap.size ∧ b ≠ M ∧ r ≠ some b)
    (hv : sm 1000000000000 v) (hs : s = 1 ∨ s = -1) (hx : ∀ x ∈ ls, sm 1000000000000 x) :
    Calls Tryd.prog 45 #[.pointer (some ⟨M, 0, none⟩), .int .i64 v, .int .i64 s, .slice a n cap] w fun e w' => e = .returned (.tuple #[]) ∧ JEnd M K mp av N (cl ++ joinL v s ls) r S w w' := by
  unfold sm at hv hx
  have hA : Below w.heap.size w (w.alloc (.cells #[.int .i64 v] 3)) := (Below.refl _ _).alloc (Nat.le_refl _) _
  have hK := h.lt.2
  have HO := Lib.hid (own_new w v (by omega) hK)
  have HS := Lib.hid (h.below hA)
  have HN := Lib.hid hln
  have HL := Lib.hid hl
  have HSL := Lib.hid hSl
  have HX := Lib.hid hx
  have HK := Lib.hid hK
  have hsz : (w.alloc (.cells #[.int .i64 v] 3)).heap.size = w.heap.size + 1 := by simp
  have HZ := Lib.hid hsz
  have HW : Hid (Pak.KeptW M r w (w.alloc (.cells #[.int .i64 v] 3))) := Lib.hid (.of_below hA)
  have HH := Lib.hid h
  have hsm : n ≤ 4000000 := by omega
  have e1 : IntKind.i64.wrap (-v) = -v := IntWalk.i64_in _ (by omega)
  have e2 : IntKind.i64.wrap (-s) = -s := IntWalk.i64_in _ (by omega)
  clear h hl hSl hx hln hA hK hsz
  go_enter Tryd.func45, Tryd.ntmps45
  go_wp2_with fail
  generalize w.alloc (.cells #[.int .i64 v] 3) = W0 at *
  go_loopw [8, 15] (fun o i wr => ∃ k : Nat, i = .int .i64 k ∧ k ≤ n ∧ ∃ r' S', Hid (LS M K mp av N (cl ++ joinK v s ls k) r' S' wr) ∧ Hid (r' = r ∨ ∃ q, r' = some q ∧ w.heap.size ≤ q) ∧ Hid (Pak.KeptW M r w wr) ∧ Hid (∀ b, S' b → S b ∨ w.heap.size ≤ b) ∧ Hid (OwnP Pak.intSh 3 K (fun _ => False) (lastK v s ls k) o wr) ∧ Hid (∀ q, o.ownBlock = some q → w.heap.size ≤ q ∧ r' ≠ some q ∧ ¬ S' q)) (fun _ i _ => n - (intOf i).toNat)
  case atStart =>
    refine ⟨0, rfl, Nat.zero_le _, r, S, Lib.hid (by simpa [joinK] using HS.out), Lib.hid (.inl rfl), HW, Lib.hid (fun b hb => .inl hb), HO, Lib.hid (fun q hq => ?_)⟩
    injection hq with hq
    have hq : w.heap.size = q := hq
    subst hq
    exact ⟨Nat.le_refl _, fun e => by have := (HH.out.row _ e).2.1; omega, fun e => by have := HH.out.ok _ e; omega⟩
  case round =>
    clear HS HO HW
    obtain ⟨k, rfl, hk, r1, S1, hS, hr, hW, hS1, hO, hq⟩ := hrel
    by_cases hlt : k < n
    · have hlti : (k : Int) < (n : Int) := by omega
      have hkl : k < ls.length := by rw [HN.out]; exact hlt
      obtain ⟨b, off, us, rfl, hb, hc, rfl, hi⟩ := HL.out.2 k hkl
      have c1 := hc 0 _ rfl
      have hbl := HSL.out b hb
      have ek : Pak.intSh.k = 1 := rfl
      rw [ek, Nat.mul_one, Nat.add_zero] at c1
      have c2 := (World.cell?_of_block (a := ⟨b, off + k, none⟩) (hW.out.block b hbl.1 hbl.2.1 (fun e => hbl.2.2 e.symm))).trans c1
      have hxk := HX.out _ (List.getElem_mem hkl)
      have HJ := Lib.hid (joinK_succ (v := v) (s := s) hkl)
      have HT := Lib.hid (lastK_succ (v := v) (s := s) hkl)
      clear hc hi c1 hbl ek
      generalize ls[k] = x at *
      have hb1 : -1000000000000 ≤ s * x ∧ s * x ≤ 1000000000000 := by rcases hs with rfl | rfl <;> omega
      have hb2 : -1000000000000 ≤ -s * x ∧ -s * x ≤ 1000000000000 := by rcases hs with rfl | rfl <;> omega
      have e3 : IntKind.i64.wrap (s * x) = s * x := IntWalk.i64_in _ (by omega)
      have e4 : IntKind.i64.wrap (-s * x) = -s * x := IntWalk.i64_in _ (by omega)
      have hA1 : Below wr.heap.size wr (wr.alloc (.cells #[.int .i64 (-v), .int .i64 (s * x)] 3)) := (Below.refl _ _).alloc (Nat.le_refl _) _
      have hI : Pak.Sits Pak.intSh (fun b => b = wr.heap.size) (wr.alloc (.cells #[.int .i64 (-v), .int .i64 (s * x)] 3)) (some ⟨wr.heap.size, 0, none⟩) [-v, s * x] := ints_new wr [-v, s * x] (fun y hy => by
        rcases List.mem_cons.1 hy with rfl | hy
        · omega
        · rw [List.mem_singleton] at hy
          subst hy; omega) (by simp)
      have hKr := hS.out.lt.2
      have hz1 : (wr.alloc (.cells #[.int .i64 (-v), .int .i64 (s * x)] 3)).heap.size = wr.heap.size + 1 := by simp
      have HC := Lib.hid (clause_any M K mp av N _ r1 _ _ 2 2 [-v, s * x] S1 (fun b => b = wr.heap.size) (hS.out.below hA1) (by rw [List.length_append]; unfold joinK; rw [List.length_map, List.length_take]; omega) rfl hI (fun b hb => by
        subst hb
        exact ⟨hKr, by omega, fun e => by have := (hS.out.row _ e).2.1; omega⟩) (fun b hb o => by
        subst hb
        exact frozen_of_row _ _ _ _ _ (heap_alloc_new wr _)))
      have HO1 := Lib.hid (hO.out.below hA1)
      have HW1 := Lib.hid (keptW_trans hr.out hW.out (.of_below hA1))
      have HQ := Lib.hid (fun q h => And.intro (hq.out q h).1 (And.intro (hq.out q h).2.1 (And.intro (hq.out q h).2.2 (hO.out.lt q h).2)))
      have HZ1 : Hid ((wr.alloc (.cells #[.int .i64 (-v), .int .i64 (s * x)] 3)).heap.size = wr.heap.size + 1) := Lib.hid hz1
      have HKW : Hid (w.heap.size ≤ wr.heap.size) := Lib.hid hW.out.size
      clear hA1 hI hKr hz1 hS hO hW hq
      go_wp2_with fail
      clear c2
      generalize wr.alloc (.cells #[.int .i64 (-v), .int .i64 (s * x)] 3) = w1 at *
      refine HC.out.mono ?_
      rintro e w2 ⟨rfl, r2, hS2, hr2, hW2⟩
      have hO2 := HO1.out.keptW hW2 ⟨fun h => h, fun e => by have := (HO1.out.lt _ e).1; have := hS2.lt.1; omega⟩ (fun q e => ⟨fun h => h, fun e2 => (HQ.out q e2).2.1 e⟩)
      have hz2 := hW2.size
      have hlen : (lastK v s ls k).length ≤ 4194304 := by unfold lastK; rw [List.length_cons, List.length_map, List.length_take]; omega
      obtain ⟨v3, w3, hr3, hO3, hg3, hv3⟩ := hO2.put (P := Tryd.prog) (t := 45) (x := -s * x) (cs := [.int .i64 (-s * x)]) (Sx := fun _ => False) Tryd.underlying45 (by' := 8) (by kernel_rfl) (by decide) (by decide) hlen (Nat.le_trans hS2.lt.2 (Nat.le_refl _)) ⟨rfl, by omega⟩ (fun b hb => hb.elim)
      have hS3 := hS2.grown hg3 (fun q e => by
        obtain ⟨q1, q2, q3, q4⟩ := HQ.out q e
        have hM := hS2.lt
        have hK2 := HK.out
        refine ⟨by omega, fun h => ?_, fun h => ?_⟩
        · rcases h with h | h
          · exact q3 h
          · omega
        · rcases hr2 with rfl | ⟨p, rfl, hp⟩
          · exact q2 h
          · injection h with h; have := HZ1.out; omega)
      have hW3 : Pak.KeptW M r w w3 := by
        have h1 := keptW_trans hr.out HW1.out hW2
        refine ⟨hg3.os.trans h1.os, hg3.tape.trans h1.tape, hg3.output.trans h1.output, Nat.le_trans h1.size hg3.size, fun q hq a1 a2 => (hg3.block q (Nat.lt_of_lt_of_le hq h1.size) (fun e => ?_)).trans (h1.block q hq a1 a2)⟩
        have := (HQ.out q e.symm).1
        omega
      obtain ⟨a3, c3, e3'⟩ := hO3.form
      have HF : Hid (∃ r' S', Hid (LS M K mp av N (cl ++ joinK v s ls (k + 1)) r' S' w3) ∧ Hid (r' = r ∨ ∃ q, r' = some q ∧ w.heap.size ≤ q) ∧ Hid (Pak.KeptW M r w w3) ∧ Hid (∀ b, S' b → S b ∨ w.heap.size ≤ b) ∧ Hid (OwnP Pak.intSh 3 K (fun _ => False) (lastK v s ls (k + 1)) v3 w3) ∧ Hid (∀ q, v3.ownBlock = some q → w.heap.size ≤ q ∧ r' ≠ some q ∧ ¬ S' q)) := by
        refine Lib.hid ⟨r2, _, Lib.hid (by rw [HJ.out, ← List.append_assoc]; exact hS3), Lib.hid (next_trans hr.out (Nat.le_trans HKW.out (Nat.le_of_lt (by have := HZ1.out; omega))) hr2), Lib.hid hW3, Lib.hid (fun b hb => ?_), Lib.hid (by rw [HT.out]; exact hO3.more (fun b hb => by rcases hb with hb | hb <;> exact hb) (fun b hb => hb.elim)), Lib.hid (fun q e => ?_)⟩
        · rcases hb with hb | hb
          · exact hS1.out b hb
          · right; have := HKW.out; omega
        · have hz1 := HZ1.out
          rcases hv3 with hv3 | ⟨p, hv3, hp⟩
          · obtain ⟨q1, q2, q3, q4⟩ := HQ.out q (hv3.symm.trans e)
            refine ⟨q1, fun h => ?_, fun h => ?_⟩
            · rcases hr2 with rfl | ⟨p, rfl, hp⟩
              · exact q2 h
              · injection h with h; omega
            · rcases h with h | h
              · exact q3 h
              · omega
          · rw [hv3] at e
            injection e with e
            subst e
            have := HKW.out
            refine ⟨by omega, fun h => by have := (hS2.row _ h).2.1; omega, fun h => by have := hS2.ok _ h; omega⟩
      subst e3'
      generalize (lastK v s ls k ++ [-s * x]).length = n3 at *
      clear hS2 hr2 hW2 hO2 hO3 hg3 hv3 hS3 hW3 HO1 HW1 HC HQ hS1 hr hlen
      go_wp2_with (at_builtin; refine Lib.wpList_append_run _ rfl _ _ _ _ rfl _ _ rfl rfl _ _ (hr3 _) ?_)
      go_roundw
      case rel => exact ⟨k + 1, by go_num, by omega, HF.out⟩
      case measure => simp [intOf]; omega
    · have hlti : ¬ (k : Int) < (n : Int) := by omega
      obtain rfl : k = n := by omega
      have hlen : (lastK v s ls k).length = k + 1 := by unfold lastK; rw [List.length_cons, List.length_map, List.length_take, HN.out]; omega
      obtain ⟨a9, c9, e9, hs9⟩ := hO.out.slot (by omega)
      subst e9
      obtain ⟨m9, y2⟩ : ∃ m9, (lastK v s ls k).length = m9 := ⟨_, rfl⟩
      rw [y2] at hs9 hlen hO hq
      rw [y2]
      have HC := Lib.hid (clause_any M K mp av N _ r1 _ _ _ c9 (lastK v s ls k) S1 _ hS.out (by rw [List.length_append]; unfold joinK; rw [List.length_map, List.length_take]; omega) y2 hs9 (fun b hb => by
        rcases hb with hb | hb
        · exact hb.elim
        · exact ⟨(hO.out.lt b hb).1, (hO.out.lt b hb).2, (hq.out b hb).2.1⟩) (fun b hb o => by
        rcases hb with hb | hb
        · exact hb.elim
        · exact hO.out.nf b hb o))
      have hlo := fun b (hb : S1 b ∨ (False ∨ _)) => (show S b ∨ w.heap.size ≤ b by
        rcases hb with hb | hb | hb
        · exact hS1.out b hb
        · exact hb.elim
        · exact .inr (hq.out b hb).1)
      have HLO := Lib.hid hlo
      have HALL := Lib.hid (join_all v s ls)
      have HNK := Lib.hid HN.out
      clear hlo y2 hs9 hS hO hS1 hq hlen HN HSL HL HX HH HZ
      go_wp2_with fail
      refine HC.out.mono ?_
      rintro e w2 ⟨rfl, r2, hS2, hr2, hW2⟩
      have HE : Hid (JEnd M K mp av N (cl ++ joinL v s ls) r S w w2) := by
        refine Lib.hid ⟨_, HLO.out, ?_⟩
        have hj := HALL.out
        rw [HNK.out] at hj
        rw [← hj, ← List.append_assoc]
        exact ⟨r2, hS2, next_trans hr.out hW.out.size hr2, keptW_trans hr.out hW.out hW2⟩
      clear hS2 hr2 hW2
      go_wp2_with fail
      go_end0
      exact ⟨rfl, HE.out⟩
end Go.Proofs.YtelndcmfddbgiaaDoor

set_option linter.unusedVariables false
set_option linter.unusedSimpArgs false
namespace Go.Proofs.YtelndcmfddbgiaaDoor
set_option maxRecDepth 100000

def decV (l : List UInt8) : Nat := l.foldl (fun a b => a * 10 + (b.toNat - 48)) 0
theorem decV_snoc (l : List UInt8) (b : UInt8) : decV (l ++ [b]) = decV l * 10 + (b.toNat - 48) := by simp [decV, List.foldl_append]
theorem ofNat_dig {d : Nat} (h : d < 10) : (UInt8.ofNat (48 + d)).toNat = 48 + d := by
  show (48 + d) % 256 = _
  omega
theorem decV_digits : ∀ (n u : Nat), u < n → decV (Lib.decDigits u) = u ∧ Lib.decDigits u ≠ [] ∧ ∀ b ∈ Lib.decDigits u, 48 ≤ b.toNat ∧ b.toNat ≤ 57
  | 0, u, h => absurd h (Nat.not_lt_zero _)
  | n + 1, u, h => by
    by_cases h1 : u < 10
    · rw [Lib.decDigits_one h1]
      refine ⟨?_, by simp, fun b hb => ?_⟩
      · show 0 * 10 + ((UInt8.ofNat (48 + u)).toNat - 48) = u
        rw [ofNat_dig h1]; omega
      · rw [List.mem_singleton] at hb
        subst hb
        rw [ofNat_dig h1]; omega
    · obtain ⟨h2, h3, h4⟩ := decV_digits n (u / 10) (by omega)
      have hm : u % 10 < 10 := Nat.mod_lt _ (by decide)
      rw [Lib.decDigits, dif_neg h1]
      refine ⟨?_, by simp, fun b hb => ?_⟩
      · rw [decV_snoc, h2, ofNat_dig hm]; omega
      · rcases List.mem_append.1 hb with hb | hb
        · exact h4 b hb
        · rw [List.mem_singleton] at hb
          subst hb
          rw [ofNat_dig hm]; omega
theorem decDigits_inj {u v : Nat} (h : Lib.decDigits u = Lib.decDigits v) : u = v := by
  rw [← (decV_digits (u + 1) u (by omega)).1, h]
  exact (decV_digits (v + 1) v (by omega)).1
theorem itoa_bytes (i : Int) : ∀ b ∈ Lib.itoa i, b ≠ 32 := fun b hb e => by
  subst e
  unfold Lib.itoa at hb
  split at hb
  · rcases List.mem_cons.1 hb with hb | hb
    · cases hb
    · have := (decV_digits _ _ (Nat.lt_succ_self _)).2.2 _ hb
      have e : (32 : UInt8).toNat = 32 := rfl
      omega
  · have := (decV_digits _ _ (Nat.lt_succ_self _)).2.2 _ hb
    have e : (32 : UInt8).toNat = 32 := rfl
    omega
theorem itoa_inj {i j : Int} (h : Lib.itoa i = Lib.itoa j) : i = j := by
  unfold Lib.itoa at h
  have hd := fun u => (decV_digits (u + 1) u (by omega)).2
  have h45 : (45 : UInt8).toNat = 45 := rfl
  split at h <;> split at h
  · injection h with _ h
    have := decDigits_inj h
    omega
  · have := (hd j.toNat).2 45 (by rw [← h]; simp)
    omega
  · have := (hd i.toNat).2 45 (by rw [h]; simp)
    omega
  · have := decDigits_inj h
    omega
/-- The text of a form. -/
def restT (t : List (Int × Int)) : List UInt8 := t.flatMap fun m => 32 :: (Lib.itoa m.1 ++ 32 :: Lib.itoa m.2)
def textL (c : Int) (t : List (Int × Int)) : List UInt8 := Lib.itoa c ++ restT t
theorem restT_snoc (t : List (Int × Int)) (m : Int × Int) : restT (t ++ [m]) = restT t ++ (32 :: (Lib.itoa m.1 ++ 32 :: Lib.itoa m.2)) := by simp [restT]
theorem cut_space : ∀ {a b x y : List UInt8}, (∀ u ∈ a, u ≠ 32) → (∀ u ∈ b, u ≠ 32) → (x = [] ∨ ∃ r, x = 32 :: r) → (y = [] ∨ ∃ r, y = 32 :: r) → a ++ x = b ++ y → a = b ∧ x = y
  | [], [], x, y, _, _, _, _, h => ⟨rfl, h⟩
  | [], u :: b, x, y, _, hb, hx, _, h => by
    rcases hx with rfl | ⟨r, rfl⟩
    · simp at h
    · simp at h
      exact absurd h.1.symm (hb u (by simp))
  | u :: a, [], x, y, ha, _, _, hy, h => by
    rcases hy with rfl | ⟨r, rfl⟩
    · simp at h
    · simp at h
      exact absurd h.1 (ha u (by simp))
  | u :: a, v :: b, x, y, ha, hb, hx, hy, h => by
    simp at h
    obtain ⟨h1, h2⟩ := cut_space (fun z hz => ha z (by simp [hz])) (fun z hz => hb z (by simp [hz])) hx hy h.2
    exact ⟨by rw [h.1, h1], h2⟩
theorem restT_form (t : List (Int × Int)) : restT t = [] ∨ ∃ r, restT t = 32 :: r := by
  cases t with
  | nil => exact .inl rfl
  | cons m t => exact .inr ⟨_, rfl⟩
theorem restT_inj : ∀ {t u : List (Int × Int)}, restT t = restT u → t = u
  | [], [], _ => rfl
  | [], m :: u, h => by cases h
  | m :: t, [], h => by cases h
  | m :: t, k :: u, h => by
    have e : ∀ (m : Int × Int) t, restT (m :: t) = 32 :: (Lib.itoa m.1 ++ (32 :: (Lib.itoa m.2 ++ restT t))) := fun m t => by simp [restT]
    rw [e, e] at h
    injection h with _ h
    obtain ⟨h1, h2⟩ := cut_space (itoa_bytes _) (itoa_bytes _) (.inr ⟨_, rfl⟩) (.inr ⟨_, rfl⟩) h
    injection h2 with _ h2
    obtain ⟨h3, h4⟩ := cut_space (itoa_bytes _) (itoa_bytes _) (restT_form t) (restT_form u) h2
    rw [restT_inj h4, Prod.ext (itoa_inj h1) (itoa_inj h3)]
theorem textL_inj {c d : Int} {t u : List (Int × Int)} (h : textL c t = textL d u) : c = d ∧ t = u := by
  obtain ⟨h1, h2⟩ := cut_space (itoa_bytes _) (itoa_bytes _) (restT_form t) (restT_form u) h
  exact ⟨itoa_inj h1, restT_inj h2⟩
end Go.Proofs.YtelndcmfddbgiaaDoor
