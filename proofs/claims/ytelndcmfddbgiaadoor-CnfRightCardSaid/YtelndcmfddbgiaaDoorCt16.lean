/- The maker while atoms are gathered. The maker: gather of an atom. -/
import Derived.Test.YtelndcmfddbgiaaDoorCt04
import Derived.Test.YtelndcmfddbgiaaDoorCt14
import Derived.Deep.RegionLaw
import Derived.Deep.AppendLies
import Derived.Laws.MakeOwn
import Derived.OwnWalk
set_option linter.unusedVariables false
set_option linter.unusedSimpArgs false
set_option linter.unusedVariables false
set_option linter.unusedSimpArgs false
namespace Go.Proofs.YtelndcmfddbgiaaDoor
set_option maxRecDepth 100000
open Go.RowKit

/-- Blocks other than the maker, its map and a row stand. -/
structure KeptG (M mp : Nat) (r : Option Nat) (w w' : World) : Prop where
  os : w'.os = w.os
  tape : w'.tape = w.tape
  output : w'.output = w.output
  size : w.heap.size ≤ w'.heap.size
  block : ∀ q, q < w.heap.size → q ≠ M → q ≠ mp → some q ≠ r → w'.heap[q]? = w.heap[q]?
theorem KeptG.of_below {M mp : Nat} {r : Option Nat} {w w' : World} (hb : Below w.heap.size w w') : KeptG M mp r w w' := ⟨hb.os, hb.tape, hb.output, hb.size, fun q hq _ _ _ => hb.block q hq⟩
theorem keptG_trans {M mp : Nat} {r r' : Option Nat} {w w1 w2 : World} (hr : r' = r ∨ ∃ q, r' = some q ∧ w.heap.size ≤ q) (h : KeptG M mp r w w1) (k : KeptG M mp r' w1 w2) : KeptG M mp r w w2 :=
  ⟨k.os.trans h.os, k.tape.trans h.tape, k.output.trans h.output, Nat.le_trans h.size k.size, fun q hq h1 h2 h3 => (k.block q (Nat.lt_of_lt_of_le hq h.size) h1 h2 (fun e => by
    rcases hr with rfl | ⟨p, rfl, hp⟩
    · exact h3 e
    · injection e with e; omega)).trans (h.block q hq h1 h2 h3)⟩
structure GS (M K mp : Nat) (am : List (Int × List (Int × Int))) (r : Option Nat) (S : Nat → Prop) (w : World) : Prop where
  c0 : w.cell? ⟨M, 0, none⟩ = some (.int .i64 0)
  ex : ∃ v, w.cell? ⟨M, 1, none⟩ = some v ∧ v.ownBlock = r ∧ OwnP linSh 24 K S am v w
  c2 : w.cell? ⟨M, 2, none⟩ = some (.slice none 0 0)
  c3 : w.cell? ⟨M, 3, none⟩ = some (.map (some mp))
  lo : ∀ b, S b → K ≤ b
  fz : ∀ j, w.frozen? ⟨M, j, none⟩ = false
  lt : mp < M ∧ M < K ∧ K ≤ w.heap.size
  pl : Places am mp w
  nf : ∀ b, S b → ∀ o, w.frozen? ⟨b, o, none⟩ = false
def GTo (M K mp : Nat) (am : List (Int × List (Int × Int))) (r : Option Nat) (S' : Nat → Prop) (w w' : World) : Prop := ∃ r', GS M K mp am r' S' w' ∧ (r' = r ∨ ∃ q, r' = some q ∧ w.heap.size ≤ q) ∧ KeptG M mp r w w'
section
variable {M K mp : Nat} {am : List (Int × List (Int × Int))} {r r' : Option Nat} {S : Nat → Prop} {w w1 w2 w' : World}
theorem GTo.refl (h : GS M K mp am r S w) : GTo M K mp am r S w w := ⟨r, h, .inl rfl, .of_below (Below.refl _ _)⟩
theorem GTo.trans (hr : r' = r ∨ ∃ q, r' = some q ∧ w.heap.size ≤ q) (h : KeptG M mp r w w1) (k : GTo M K mp am r' S w1 w2) : GTo M K mp am r S w w2 := by
  obtain ⟨r2, k1, k2, k3⟩ := k
  exact ⟨r2, k1, next_trans hr h.size k2, keptG_trans hr h k3⟩
theorem GS.size (h : GS M K mp am r S w) : M < w.heap.size := Nat.lt_of_lt_of_le h.lt.2.1 h.lt.2.2
theorem GS.row (h : GS M K mp am r S w) : ∀ q, r = some q → K ≤ q ∧ q < w.heap.size ∧ ¬ S q := fun q hq => by
  obtain ⟨v, h1, h2, h3⟩ := h.ex
  exact ⟨(h3.lt q (h2.trans hq)).1, (h3.lt q (h2.trans hq)).2, fun hs => (h3.ok q hs).2 (h2.trans hq)⟩
theorem GS.ok (h : GS M K mp am r S w) : ∀ b, S b → b < w.heap.size := fun b hb => by
  obtain ⟨v, h1, h2, h3⟩ := h.ex
  exact (h3.ok b hb).1
/-- It stands where other blocks are written. -/
theorem GS.keep (h : GS M K mp am r S w) (hsz : w.heap.size ≤ w'.heap.size) (hM : w'.heap[M]? = w.heap[M]?) (hmp : w'.heap[mp]? = w.heap[mp]?) (hk : ∀ q, (S q ∨ r = some q) → w'.heap[q]? = w.heap[q]?) : GS M K mp am r S w' := by
  obtain ⟨v, h1, h2, h3⟩ := h.ex
  have c := fun j => World.cell?_of_block (a := ⟨M, j, none⟩) hM
  exact ⟨(c 0).trans h.c0, ⟨v, (c 1).trans h1, h2, h3.keep hsz (fun q hq => hk q (by rw [← h2]; exact hq))⟩, (c 2).trans h.c2, (c 3).trans h.c3, h.lo, fun j => (World.frozen?_of_block (a := ⟨M, j, none⟩) hM).trans (h.fz j), ⟨h.lt.1, h.lt.2.1, Nat.le_trans h.lt.2.2 hsz⟩, h.pl.keep hmp, fun b hb o => (World.frozen?_of_block (a := ⟨b, o, none⟩) (hk b (.inl hb))).trans (h.nf b hb o)⟩
theorem GS.below (h : GS M K mp am r S w) (hb : Below w.heap.size w w') : GS M K mp am r S w' :=
  h.keep hb.size (hb.block M h.size) (hb.block mp (Nat.lt_trans h.lt.1 h.size)) (fun q hq => hb.block q (by
    rcases hq with hq | hq
    · exact h.ok q hq
    · exact (h.row q hq).2.1))
/-- What lies below the map stands. -/
theorem GS.low (hs : GS M K mp am r S w) (k3 : KeptG M mp r w w') : Below mp w w' := by
  have h1 := hs.lt
  exact ⟨k3.os, k3.tape, k3.output, k3.size, fun q hq => k3.block q (by omega) (by omega) (by omega) (fun e => by have := hs.row q e.symm; omega)⟩
/-- An atom is added. -/
theorem GS.add {a : Option Addr} {n cap : Nat} {c : Int} {t : List (Int × Int)} {Sx : Nat → Prop} (h : GS M K mp am r S w) (hn : am.length ≤ 1000000) (h0 : atN am (c, t) = 0) (htn : t.length = n) (hs : (textL c t).length ≤ 4000) (hx : LiesS Sx w a t) (hSx : ∀ b, Sx b → K ≤ b ∧ b < w.heap.size ∧ r ≠ some b) (hNx : ∀ b, Sx b → ∀ o, w.frozen? ⟨b, o, none⟩ = false) :
    ∃ v a6 n6 c6 w6 w8, n6 = am.length + 1 ∧ w.cell? ⟨M, 1, none⟩ = some v ∧ (∀ ty, (Builtin.append_ #[30, 30] ty #[v, .slice (some ⟨w.heap.size, 0, none⟩) 1 1]).run Tryd.prog (w.alloc (.cells #[.int .i64 c, .slice a n cap] 24)) = .ok (.slice a6 n6 c6) w6) ∧ w6.cell? ⟨M, 1, none⟩ = some v ∧ w6.frozen? ⟨M, 1, none⟩ = false ∧
      (w6.setCell ⟨M, 1, none⟩ (.slice a6 n6 c6)).cell? ⟨M, 1, none⟩ = some (.slice a6 n6 c6) ∧ (w6.setCell ⟨M, 1, none⟩ (.slice a6 n6 c6)).cell? ⟨M, 3, none⟩ = some (.map (some mp)) ∧
      (Instr.mapUpdate 60 (.map (some mp)) (.string ⟨(textL c t).toArray⟩) (.int .i64 (n6 : Nat))).run Tryd.prog (w6.setCell ⟨M, 1, none⟩ (.slice a6 n6 c6)).drew = .ok () w8 ∧ GTo M K mp (am ++ [(c, t)]) r (fun b => S b ∨ Sx b) w w8 := by
  obtain ⟨v, h1, h2, h3⟩ := h.ex
  have h4 := h.lo
  have hl := h.lt
  obtain ⟨v6, w6, hr, k1, k2, k3⟩ := h3.put (P := Tryd.prog) (t := 30) (x := (c, t)) (cs := [.int .i64 c, .slice a n cap]) (Sx := Sx) Tryd.underlying30 (by' := 32) (by kernel_rfl) (by decide) (by decide) (by omega) hl.2.2 ⟨a, cap, by rw [htn], hx⟩ (fun b hb => ⟨(hSx b hb).2.1, by rw [h2]; exact (hSx b hb).2.2⟩)
  have hrM : v.ownBlock ≠ some M := fun e => by have := (h3.lt M e).1; omega
  have hrm : v.ownBlock ≠ some mp := fun e => by have := (h3.lt mp e).1; omega
  have hlt : M < w.heap.size := by omega
  have hg6 : w6.heap[M]? = w.heap[M]? := k2.block M hlt (fun e => hrM e.symm)
  have hm6 : w6.heap[mp]? = w.heap[mp]? := k2.block mp (by omega) (fun e => hrm e.symm)
  have cc := fun j => World.cell?_of_block (a := ⟨M, j, none⟩) hg6
  have hs6 := k2.size
  have hsz : (w6.setCell ⟨M, 1, none⟩ v6).heap.size = w6.heap.size := by simp [World.setCell]
  have k4 : ∀ b, S b ∨ Sx b → K ≤ b := fun b hb => by
    rcases hb with hb | hb
    · exact h4 b hb
    · exact (hSx b hb).1
  have hv6 : ∀ q, v6.ownBlock = some q → K ≤ q := fun q hq => (k1.lt q hq).1
  obtain ⟨a6, c6, e6⟩ := k1.form
  rw [List.length_append] at e6
  obtain ⟨n6, hn6⟩ : ∃ n6, n6 = am.length + 1 := ⟨_, rfl⟩
  rw [show am.length + [(c, t)].length = n6 by rw [hn6]; rfl] at e6
  have hp7 : Places am mp (w6.setCell ⟨M, 1, none⟩ v6) := h.pl.keep ((Below.heap_setCell _ _ _ _ (show mp ≠ M by omega)).trans hm6)
  have hd7 : Below (w6.setCell ⟨M, 1, none⟩ v6).heap.size (w6.setCell ⟨M, 1, none⟩ v6) (w6.setCell ⟨M, 1, none⟩ v6).drew := (Below.refl _ _).drew
  obtain ⟨w8, hu, p8, g8'⟩ := (hp7.keep (w' := (w6.setCell ⟨M, 1, none⟩ v6).drew) rfl).put hs hn h0
  have g8 : (w6.setCell ⟨M, 1, none⟩ v6).grownBy w8 (some mp) := ⟨g8'.os.trans hd7.os, g8'.tape.trans hd7.tape, g8'.output.trans hd7.output, Nat.le_trans hd7.size g8'.size, fun q hq hne => (g8'.block q (Nat.lt_of_lt_of_le hq hd7.size) hne).trans (hd7.block q hq)⟩
  rw [← hn6] at hu
  have hne : M ≠ mp := by omega
  have z8 := g8.size
  have b8 : ∀ q, q < w6.heap.size → q ≠ mp → w8.heap[q]? = (w6.setCell ⟨M, 1, none⟩ v6).heap[q]? := fun q hq hne => g8.block q (by rw [hsz]; exact hq) (fun e => by injection e with e; exact hne e)
  have hM6 : M < w6.heap.size := by omega
  have x8 := fun j => World.cell?_of_block (a := ⟨M, j, none⟩) (b8 M hM6 hne)
  have f8 := fun j => World.frozen?_of_block (a := ⟨M, j, none⟩) (b8 M hM6 hne)
  have s1 : (w6.setCell ⟨M, 1, none⟩ v6).cell? ⟨M, 1, none⟩ = some v6 := World.cell?_setCell_same' _ _ _ (by rw [cc 1, h1]; rfl)
  have s3 : (w6.setCell ⟨M, 1, none⟩ v6).cell? ⟨M, 3, none⟩ = some (.map (some mp)) := (World.cell?_setCell_other w6 ⟨M, 1, none⟩ ⟨M, 3, none⟩ _ (by simp)).trans ((cc 3).trans h.c3)
  have ow7 : OwnP linSh 24 K (fun b => S b ∨ Sx b) (am ++ [(c, t)]) v6 (w6.setCell ⟨M, 1, none⟩ v6) := k1.grown (grown_set _) (fun q hq => by
    injection hq with hq
    subst hq
    exact ⟨fun hb => by have := k4 M hb; omega, fun e => by have := hv6 M e; omega⟩)
  have ow8 : OwnP linSh 24 K (fun b => S b ∨ Sx b) (am ++ [(c, t)]) v6 w8 := ow7.grown g8 (fun q hq => by
    injection hq with hq
    subst hq
    exact ⟨fun hb => by have := k4 mp hb; omega, fun e => by have := hv6 mp e; omega⟩)
  rw [hsz] at z8
  subst e6
  refine ⟨v, a6, n6, c6, w6, w8, hn6, h1, hr, (cc 1).trans h1, (World.frozen?_of_block (a := ⟨M, 1, none⟩) hg6).trans (h.fz 1), s1, s3, hu, Value.ownBlock (.slice a6 n6 c6), ⟨(x8 0).trans ((World.cell?_setCell_other w6 ⟨M, 1, none⟩ ⟨M, 0, none⟩ _ (by simp)).trans ((cc 0).trans h.c0)), ⟨_, (x8 1).trans s1, rfl, ow8⟩, (x8 2).trans ((World.cell?_setCell_other w6 ⟨M, 1, none⟩ ⟨M, 2, none⟩ _ (by simp)).trans ((cc 2).trans h.c2)), (x8 3).trans s3, k4, fun j => ?_, ⟨hl.1, hl.2.1, by omega⟩, p8, fun b hb o => ?_⟩, by rw [← h2]; exact k3, ⟨g8.os.trans k2.os, g8.tape.trans k2.tape, g8.output.trans k2.output, by omega, fun q hq h5 h6 h7 => ?_⟩⟩
  · rw [f8 j, World.frozen?_setCell, World.frozen?_of_block (a := ⟨M, j, none⟩) hg6]
    exact h.fz j
  · have hbz : b < w.heap.size ∧ v.ownBlock ≠ some b := by
      rcases hb with hb | hb
      · exact h3.ok b hb
      · exact ⟨(hSx b hb).2.1, by rw [h2]; exact (hSx b hb).2.2⟩
    have hKb := k4 b hb
    rw [World.frozen?_of_block (a := ⟨b, o, none⟩) (b8 b (by omega) (by omega)), World.frozen?_setCell, World.frozen?_of_block (a := ⟨b, o, none⟩) (k2.block b hbz.1 (fun e => hbz.2 e.symm))]
    rcases hb with hb | hb
    · exact h.nf b hb o
    · exact hNx b hb o
  · rw [b8 q (by omega) h6, Below.heap_setCell _ _ _ _ h5, k2.block q hq (by rw [h2]; exact h7)]
end
end Go.Proofs.YtelndcmfddbgiaaDoor

set_option linter.unusedVariables false
set_option linter.unusedSimpArgs false
namespace Go.Proofs.YtelndcmfddbgiaaDoor
set_option maxRecDepth 100000
open Go.RowKit

theorem step_append_run {P : Program} {ops : Array Oper} {o : Oper} {a : Act} {w : World} {K : Act → World → Prop} {Q : Exit → Act → World → Prop} {E : Prop}
    (hg : o.guard = none) (s x : Operand) (t : TypeId) (hop : o.op = Op.call { callee := Callee.builtin Builtin.append, args := #[s, x], argTypes := #[t, t] })
    (v1 v2 v' : Value) (w' : World) (h1 : a.eval s = v1) (h2 : a.eval x = v2) (hr : ∀ ty, (Builtin.append_ #[t, t] ty #[v1, v2]).run P w = .ok v' w') (hK : K (a.put o.dst v') w') :
    if Region.wanted o (yielded ops a.tmps) = true then Oper.wp P o a w K Q else E := by
  have hw : Region.wanted o (yielded ops a.tmps) = true := by simp [Region.wanted, hg]
  rw [if_pos hw]
  unfold Oper.wp
  simp [execOp, hop, resolve, invoke, builtin, h1, h2, hr, Result.andThen]
  exact hK
theorem Row.liesS {B : Nat} {l : List (Int × Int)} {v : Value} {w : World} (h : Row B l v w) : ∃ a cap, v = .slice a l.length cap ∧ LiesS (fun b => B ≤ b ∧ b < w.heap.size ∧ ∀ o, w.frozen? ⟨b, o, none⟩ = false) w a l := by
  obtain ⟨a, cap, rfl, hl, _⟩ := h.lies
  refine ⟨a, cap, rfl, fun i hi => ?_⟩
  obtain ⟨b, off, rfl, hb, g0, g1⟩ := hl i hi
  refine ⟨b, off, rfl, ⟨(World.ownsRow.lt h b rfl).1, hb, fun o => ?_⟩, g0, g1⟩
  obtain ⟨_, ⟨e, _⟩ | ⟨g, cap', cur, e, _, hh, _⟩⟩ := h
  · injection e with e; cases e
  · injection e with e1
    injection e1 with e1
    injection e1 with e1
    subst e1
    exact frozen_of_row _ _ _ _ _ hh
set_option maxHeartbeats 800000 in
theorem clone_any (a : Option Addr) (n cap : Nat) (l : List (Int × Int)) (w : World) (hn : l.length = n) (hm : n ≤ 8192) (hl : Lies w.heap.size w a l) :
    Calls Tryd.prog 44 #[.slice a n cap] w (RowEnd w.heap.size l w) := by
  have he := fun W : World => Lib.run_eql_slice_nil (P := Tryd.prog) W 22 57 a n cap 0 0 Tryd.underlying22
  cases a with
  | none =>
    have hn0 : n = 0 := by
      cases n with
      | zero => rfl
      | succ n => obtain ⟨_, _, e, _⟩ := hl 0 (by omega); cases e
    subst hn0
    have HN := Lib.hid hn
    clear hn hl
    go_enter Tryd.func44, Tryd.ntmps44
    go_wp2_with fail
    go_ret
    exact ⟨_, rfl, by rw [List.eq_nil_of_length_eq_zero HN.out]; exact World.ownsRow_nil _ _ _ _, Below.refl _ _⟩
  | some a =>
    obtain ⟨i0, hi, hz0, hz1, hz2⟩ := Pak.info_parts Tryd.infoMono
    have HN := Lib.hid hn
    have HL := Lib.hid hl
    clear hn hl
    go_enter Tryd.func44, Tryd.ntmps44
    have hown : (w.alloc (.cells #[] 57)).ownsRow w.heap.size 57 2 (.slice (some ⟨w.heap.size, 0, none⟩) 0 0) 0 [] := World.ownsRow_made w #[] 0 (Nat.le_refl _) (by decide) rfl
    have HB := Lib.hid ((Below.refl w.heap.size w).alloc (Nat.le_refl _) (.cells #[] 57))
    go_wp2_with (at_builtin; refine wpList_append_own _ rfl _ _ 22 rfl w.heap.size 57 i0 _ 2 16 Tryd.underlying22 hi hz0 hz1 hz2 rfl (by decide) _ _ _ rfl hown a n cap (flat l) rfl ?c1 ?c2 ?c3 ?c4 ?c5 ?c6 ?_)
    case c1 => rw [flat_len, HN.out]
    case c2 => exact (HL.out.below HB.out).news
    case c3 => exact flat_cells l
    case c4 => unfold maxLen; omega
    case c5 => omega
    case c6 => simp
    intro v' w1 hown' hgrow _
    go_wp2_with fail
    go_ret
    refine ⟨_, rfl, ?_, HB.out.grown hgrow (by simp) (fun k hk => (hown.lt k hk).1)⟩
    unfold Row
    rw [HN.out]
    simpa using hown'
def GEnd (M K mp : Nat) (am : List (Int × List (Int × Int))) (r : Option Nat) (S : Nat → Prop) (w w' : World) : Prop := ∃ S', (∀ b, S' b → S b ∨ w.heap.size ≤ b) ∧ GTo M K mp am r S' w w'
/-- What gather says of formulas of n layers. -/
def GatSaid (B M K mp : Nat) (n : Nat) : Prop :=
  ∀ (f : FT) (cs : List Value) (am : List (Int × List (Int × Int))) (r : Option Nat) (S : Nat → Prop) (w : World), FLies B w n f cs → madeF n f = true → GS M K mp am r S w → Tens mp w → am.length + siz n f ≤ 100000 →
    Calls Tryd.prog 22 #[.pointer (some ⟨M, 0, none⟩), .agg cs.toArray] w fun e w' => e = .returned (.tuple #[]) ∧ GEnd M K mp (gatF n f am) r S w w'
set_option maxHeartbeats 16000000 in
theorem gat_2 (B M K mp : Nat) (hB : B ≤ mp) (n : Nat) (f : FT) (cs : List Value) (am : List (Int × List (Int × Int))) (r : Option Nat) (S : Nat → Prop) (w : World) (h : FLies B w (n + 1) f cs) (hm : madeF (n + 1) f = true) (hS : GS M K mp am r S w) (ht : Tens mp w) (hb : am.length + siz (n + 1) f ≤ 100000) (h2 : f.kind = 2) :
    Calls Tryd.prog 22 #[.pointer (some ⟨M, 0, none⟩), .agg cs.toArray] w fun e w' => e = .returned (.tuple #[]) ∧ GEnd M K mp (gatF (n + 1) f am) r S w w' := by
  obtain ⟨ta, tcap, ka, kcap, rfl, hT, _, _, _⟩ := h
  obtain ⟨hsn, hk0⟩ := made_snd hm h2
  have HG : Hid (gatF (n + 1) f am = addA am (f.c, f.t)) := by
    show _ = _
    rw [gatTo_len, if_pos h2, hk0, gatTo_zero]
  have hlt := hS.lt
  have hMw := hS.size
  have hA : Below w.heap.size w (w.alloc (.cells #[.int .i64 f.kind, .int .i64 f.c, .slice ta f.t.length tcap, .slice ka f.ks.length kcap] 27)) := (Below.refl _ w).alloc (Nat.le_refl _) _
  have HB := box_start w f.kind f.c ta ka f.t.length tcap f.ks.length kcap
  have hl3 := textL_len hsn f.t.length (Nat.le_refl _)
  rw [List.take_length] at hl3
  have ht64 := (snd_iff.1 hsn).2.1
  have HTX := Lib.hid (text_any f.c ta f.t.length tcap f.t (w.alloc (.cells #[.int .i64 f.kind, .int .i64 f.c, .slice ta f.t.length tcap, .slice ka f.ks.length kcap] 27)) rfl ((hT.below (hA.mono (by omega))).mono (Nat.le_trans (show B ≤ w.heap.size by omega) hA.size)) hsn (ht.up (hA.mono (by omega)) (Nat.le_trans (show mp ≤ w.heap.size by omega) hA.size)))
  have HLI := Lib.hid ((hT.below (hA.mono (by omega))).mono (Nat.le_trans (show B ≤ w.heap.size by omega) hA.size))
  have HS := Lib.hid (hS.below hA)
  have HA := Lib.hid hA
  have HLT := Lib.hid hlt
  have HL := Lib.hid hl3
  have HAM := Lib.hid (show am.length ≤ 1000000 by omega)
  have hq1 : w.heap.size < (w.alloc (.cells #[.int .i64 f.kind, .int .i64 f.c, .slice ta f.t.length tcap, .slice ka f.ks.length kcap] 27)).heap.size := by simp
  have HQ1 := Lib.hid hq1
  have HKW := Lib.hid (show K ≤ w.heap.size from hlt.2.2)
  have HRW := Lib.hid (fun q (e : r = some q) => (hS.row q e).2.1)
  have b0 := HB.c0
  have b1 := HB.c1
  have b2 := HB.c2
  have b3 := HB.c3
  rw [h2] at *
  rw [hk0] at *
  clear h2 hk0 hsn hT hl3 hS hA HB hm ht hB hb hMw hlt hq1
  rw [HG.out]
  clear HG
  generalize hc : f.c = c at *
  generalize hft : f.t = t at *
  clear hc hft
  obtain ⟨tx, htx⟩ : ∃ tx, tx = (textL c t).toArray := ⟨_, rfl⟩
  rw [← htx] at HTX
  have HTE := Lib.hid htx
  have HLK : Hid (∀ W, GS M K mp am r S W → (Instr.lookup 60 (.map (some mp)) (.string ⟨tx⟩) false).run Tryd.prog W = .ok (.int .i64 (atN am (c, t))) W) := Lib.hid fun W hW => by
    rw [htx]
    exact hW.pl.look HL.out
  clear htx
  generalize f.ks = fks at *
  go_enter Tryd.func22, Tryd.ntmps22
  go_wp2_with fail
  clear b3
  generalize w.alloc (.cells #[.int .i64 2, .int .i64 c, .slice ta t.length tcap, .slice ka 0 kcap] 27) = W1 at *
  go_loopw [10] (fun i wr => i = .int .i64 0 ∧ Hid (wr = W1)) (fun _ _ => 0)
  case atStart => exact ⟨rfl, rfl⟩
  case round =>
    obtain ⟨rfl, hw⟩ := hrel
    obtain rfl := hw.out
    clear hw
    go_wp2_with fail
    refine HTX.out.mono ?_
    rintro e w2 ⟨rfl, hb2⟩
    have hS2 := HS.out.below hb2
    have c1 := (hb2.cell (p := ⟨w.heap.size, 1, none⟩) HQ1.out).trans b1
    have c2 := (hb2.cell (p := ⟨w.heap.size, 2, none⟩) HQ1.out).trans b2
    have m3 := hS2.c3
    have l2 := HLK.out w2 hS2
    have HS2 := Lib.hid hS2
    have HB2 := Lib.hid hb2
    have HZ2 := Lib.hid hb2.size
    have HLI2 := Lib.hid ((HLI.out.below hb2).mono hb2.size)
    clear hb2 hS2 HTX HLI b0 b1 b2
    by_cases h0 : atN am (c, t) = 0
    · rw [h0] at l2
      obtain ⟨v, mv, _⟩ := HS2.out.ex
      have HCL := Lib.hid (fun W (hb : Below w2.heap.size w2 W) => clone_any ta t.length tcap t W rfl (by omega) ((HLI2.out.below hb).mono hb.size))
      have hMw2 : M < w2.heap.size := HS2.out.size
      have HMW2 := Lib.hid hMw2
      have hqw2 : w.heap.size < w2.heap.size := Nat.lt_of_lt_of_le HQ1.out HZ2.out
      have HQW2 := Lib.hid hqw2
      have QA : Hid (∀ W, Below w2.heap.size w2 W → W.cell? ⟨M, 1, none⟩ = some v ∧ W.cell? ⟨w.heap.size, 1, none⟩ = some (.int .i64 c) ∧ W.cell? ⟨w.heap.size, 2, none⟩ = some (.slice ta t.length tcap)) := fun W hb => ⟨(hb.cell (p := ⟨M, 1, none⟩) HMW2.out).trans mv, (hb.cell (p := ⟨w.heap.size, 1, none⟩) HQW2.out).trans c1, (hb.cell (p := ⟨w.heap.size, 2, none⟩) HQW2.out).trans c2⟩
      have HADD := Lib.hid (fun (w5 : World) (hb : Below w2.heap.size w2 w5) (a5 : Option Addr) (cap5 : Nat) (hx : LiesS (fun b => w2.heap.size ≤ b ∧ b < w5.heap.size ∧ ∀ o, w5.frozen? ⟨b, o, none⟩ = false) w5 a5 t) => (HS2.out.below hb).add (n := t.length) (cap := cap5) HAM.out h0 rfl HL.out hx (fun b hbb => ⟨by have := HKW.out; have := HZ2.out; have := hbb.1; omega, hbb.2.1, fun e => by have := HRW.out b e; have := hbb.1; omega⟩) (fun b hbb => hbb.2.2))
      clear hMw2 hqw2
      go_wp2_with fail
      go_region_law (first
        | (refine step_append_run (by rfl) _ _ _ (by rfl) _ _ _ w6 (by rfl) (by rfl) HRUN.out ?_)
        | (go_simp
           go_at_call 44
           refine (HCL.out _ (Below.refl _ w2).drew).mono ?_
           rintro e w5 ⟨v5, rfl, hrow5, hb5⟩
           obtain ⟨a5, cap5, rfl, hl5⟩ := hrow5.liesS
           have HB5 : Hid (Below w2.heap.size w2 w5) := (Below.refl _ w2).drew.trans hb5
           obtain ⟨v9, a6, n6, c6, w6, w8, hn6, hv9, hrun, m6, f6, m7, x7, hup, hG8⟩ := HADD.out w5 HB5.out a5 cap5 hl5
           have r0 := (QA.out _ HB5.out).1
           have r1 := (QA.out _ HB5.out).2.1
           have r2 := (QA.out _ HB5.out).2.2
           obtain rfl : v = v9 := Option.some.inj (r0.symm.trans hv9)
           have r0a : (w5.alloc (.cells #[.int .i64 c, .slice a5 t.length cap5] 24)).cell? ⟨M, 1, none⟩ = some v := (QA.out _ (HB5.out.trans ((Below.refl _ w5).alloc (Nat.le_refl _) _ |>.mono HB5.out.size))).1
           have HRUN := Lib.hid hrun
           have HG8 := Lib.hid hG8
           have HUP := Lib.hid hup
           have HN6 := Lib.hid hn6
           clear hrow5 hl5 hb5 hrun hG8 hup hn6 hv9))
      all_goals
        have HE : Hid (GEnd M K mp (addA am (c, t)) r S w w8) := Lib.hid (by
          obtain ⟨r8, g1, g2, g3⟩ := HG8.out
          refine ⟨_, fun b hb => ?_, r8, by unfold addA; rw [if_pos h0]; exact g1, next_trans (.inl rfl) (Nat.le_trans HA.out.size (Nat.le_trans HZ2.out HB5.out.size)) g2, keptG_trans (.inl rfl) (.of_below HA.out) (keptG_trans (.inl rfl) (.of_below HB2.out) (keptG_trans (.inl rfl) (.of_below HB5.out) g3))⟩
          rcases hb with hb | hb
          · exact .inl hb
          · exact .inr (by have := hb.1; have := HQW2.out; omega))
        have hup := HUP.out
        rw [← HTE.out] at hup
        clear HG8 HUP HRUN r0 r1 r2 r0a m6 f6 QA HCL HADD HLK HS2 HLI2 HB2 HB5 mv c1 c2 l2 m3
        generalize w6.setCell ⟨M, 1, none⟩ (.slice a6 n6 c6) = w7 at *
        go_wp2_with fail
        go_region
        all_goals
          go_end0
          exact ⟨rfl, HE.out⟩
    · have h00 : ((atN am (c, t) : Nat) : Int) == 0 ↔ False := by simp [h0]
      have HE : Hid (GEnd M K mp (addA am (c, t)) r S w w2) := Lib.hid ⟨S, fun b hb => .inl hb, r, by unfold addA; rw [if_neg h0]; exact HS2.out, .inl rfl, keptG_trans (.inl rfl) (.of_below HA.out) (.of_below HB2.out)⟩
      have h01 : (((atN am (c, t) : Nat) : Int) == 0) = false := by simp [h0]
      clear h00 HS2 HLK HLI2
      generalize ((atN am (c, t) : Nat) : Int) = z at *
      go_wp2_with fail
      go_end0
      exact ⟨rfl, HE.out⟩
end Go.Proofs.YtelndcmfddbgiaaDoor
