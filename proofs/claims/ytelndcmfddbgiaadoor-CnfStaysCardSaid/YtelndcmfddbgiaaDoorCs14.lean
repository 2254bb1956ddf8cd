/- cnf.text. The map from texts to places. The maker: literal of an atom, of its opposite. -/
import Derived.Test.YtelndcmfddbgiaaDoorCs01
import Derived.Test.YtelndcmfddbgiaaDoorCs04
import Derived.Test.YtelndcmfddbgiaaDoorCs08
import Derived.Test.YtelndcmfddbgiaaDoorCs12
import Derived.Test.YtelndcmfddbgiaaDoorCs13
import Derived.Test.YtelndcmfddbgiaaDoorShelf
import Derived.Maps.Own
import Derived.Maps.OwnOps
import Derived.Maps.Views
import Derived.StringKeys
import Derived.Deep.RegionHeld3
set_option linter.unusedVariables false
set_option linter.unusedSimpArgs false
set_option linter.unusedVariables false
set_option linter.unusedSimpArgs false
namespace Go.Proofs.YtelndcmfddbgiaaDoor
set_option maxRecDepth 100000
open Go.RowKit

/-- The table of tens, whatever the call does from B on. -/
abbrev Tens (B : Nat) (w : World) : Prop := Lib.TabBelow Tryd.prog B w "internal/strconv.uint64pow10" .u64 Lib.pow10Tab
theorem Tens.up {B B' : Nat} {w w' : World} (h : Tens B w) (hb : Below B w w') (hB : B ≤ B') : Tens B' w' := fun w2 h2 => h w2 (hb.trans (h2.mono hB))
theorem bcells (l : List UInt8) (m : List UInt8) : Lib.byteCells l ++ Lib.byteCells m = Lib.byteCells (l ++ m) := by simp [Lib.byteCells]
theorem app_int {B : Nat} {l : List UInt8} {i : Int} {v : Value} {w : World} (h : Pak.BRow B l v w) (hB : B ≤ w.heap.size) (hi : -9223372036854775808 ≤ i ∧ i ≤ 9223372036854775807) (hl : l.length + 21 ≤ 140737488355328) (ht : Tens B w) :
    Calls Tryd.prog 64 #[v, .int .i64 i, .int .i64 10] w fun e w' => ∃ v', e = .returned v' ∧ Pak.BRow B (l ++ Lib.itoa i) v' w' ∧ Below B w w' ∧ Lib.OthersKept 5 none w w' := by
  refine (Tryd.strconv_AppendInt_10 B l.length i hi.1 hi.2 v _ w h hB hl ht).mono ?_
  rintro e w' ⟨v', rfl, h2, h3, h4⟩
  refine ⟨v', rfl, ?_, h3, h4⟩
  unfold Pak.BRow
  rw [List.length_append, ← bcells]
  exact h2
theorem app_byte {w : World} {B : Nat} {l : List UInt8} {v : Value} (c : UInt8) (x : Int) (hx : x = (c.toNat : Int)) (hv : Pak.BRow B l v w) (hB : B ≤ w.heap.size) (hsz : l.length + 1 ≤ 140000000000000) :
    ∃ v' w', (∀ ty, (Builtin.append_ #[89, 89] ty #[v, .slice (some ⟨w.heap.size, 0, none⟩) 1 1]).run Tryd.prog (w.alloc (.cells #[.int .u8 x] 5)) = .ok v' w') ∧ Pak.BRow B (l ++ [c]) v' w' ∧ Below B w w' ∧ Lib.OthersKept 5 none w w' := by
  have hA : Below w.heap.size w (w.alloc (.cells #[.int .u8 x] 5)) := (Below.refl _ w).alloc (Nat.le_refl _) _
  have hvA : Pak.BRow B l v (w.alloc (.cells #[.int .u8 x] 5)) := hv.below hA
  obtain ⟨v', w', h1, h2, h3, h4, h5⟩ := Pak.run_cat2 hvA (Pak.byte_new w c x hx) (Nat.le_trans hB hA.size) (by simpa using hsz)
  refine ⟨v', w', h1, h2, (hA.mono hB).trans h3, ((Lib.OthersKept.refl _ _ w).alloc _).grown h4 (fun g hg => ?_)⟩
  rcases hvA.2 with ⟨rfl, _⟩ | ⟨q, cap, cur, rfl, _, hh, _⟩
  · cases hg
  · injection hg with hg
    subst hg
    exact ⟨_, _, hh⟩
/-- A box stands, whatever the call appends to bytes. -/
theorem box_kept {w w' : World} {q : Nat} {x y : Value} (h : w.heap[q]? = some (.cells #[x, y] 57)) (hk : Lib.OthersKept 5 none w w') : w'.heap[q]? = some (.cells #[x, y] 57) :=
  hk q _ h (fun e => by cases e) (fun c fz e => by injection e with _ e _; exact absurd e (by decide))
theorem box_cells {w : World} {q : Nat} {x y : Value} (h : w.heap[q]? = some (.cells #[x, y] 57)) : w.cell? ⟨q, 0, none⟩ = some x ∧ w.cell? ⟨q, 1, none⟩ = some y :=
  ⟨(cell_of_row _ _ _ _ _ _ h).trans rfl, (cell_of_row _ _ _ _ _ _ h).trans rfl⟩
theorem itoa_len (i : Int) (hi : -9223372036854775808 ≤ i ∧ i ≤ 9223372036854775807) : (Lib.itoa i).length ≤ 21 := Lib.itoa_length_le i hi.1 hi.2
theorem restT_len : ∀ (t : List (Int × Int)), (∀ m ∈ t, (-9223372036854775808 ≤ m.1 ∧ m.1 ≤ 9223372036854775807) ∧ (-9223372036854775808 ≤ m.2 ∧ m.2 ≤ 9223372036854775807)) → (restT t).length ≤ 44 * t.length
  | [], _ => Nat.le_refl _
  | m :: t, h => by
    have h1 := restT_len t (fun x hx => h x (List.mem_cons_of_mem _ hx))
    have h2 := h m (by simp)
    have h3 := itoa_len _ h2.1
    have h4 := itoa_len _ h2.2
    have e : restT (m :: t) = 32 :: (Lib.itoa m.1 ++ (32 :: (Lib.itoa m.2 ++ restT t))) := by simp [restT]
    rw [e]
    simp only [List.length_cons, List.length_append]
    omega
theorem textL_len {c : Int} {t : List (Int × Int)} (hs : snd c t = true) : ∀ k, k ≤ t.length → (textL c (t.take k)).length ≤ 4000 := fun k hk => by
  obtain ⟨h1, h2, h3⟩ := snd_iff.1 hs
  have hc : -1073741824 ≤ c ∧ c ≤ 1073741824 := by unfold wi at h1; simpa using h1
  have h4 := itoa_len c (by omega)
  have h5 := restT_len (t.take k) (fun m hm => by
    obtain ⟨i, hi, rfl⟩ := List.getElem_of_mem (List.mem_of_mem_take hm)
    have := okAt_in (h3 i hi)
    rw [List.getD_eq_getElem?_getD, List.getElem?_eq_getElem hi, Option.getD_some] at this
    omega)
  unfold textL
  rw [List.length_append]
  have : (t.take k).length ≤ 64 := by rw [List.length_take]; omega
  omega
theorem textL_next {c : Int} {l : List (Int × Int)} {k : Nat} (h : k < l.length) : textL c (l.take (k + 1)) = (((textL c (l.take k) ++ [32]) ++ Lib.itoa (l.getD k (0, 0)).1) ++ [32]) ++ Lib.itoa (l.getD k (0, 0)).2 := by
  unfold textL
  rw [take_snoc l k h, restT_snoc]
  simp
set_option maxHeartbeats 8000000 in
theorem text_any (c : Int) (a : Option Addr) (n cap : Nat) (l : List (Int × Int)) (w : World) (hn : l.length = n) (hl : Lies w.heap.size w a l) (hs : snd c l = true) (ht : Tens w.heap.size w) :
    Calls Tryd.prog 43 #[.agg #[.int .i64 c, .slice a n cap]] w fun e w' => e = .returned (.string ⟨(textL c l).toArray⟩) ∧ Below w.heap.size w w' := by
  obtain ⟨h1, h64, h3⟩ := snd_iff.1 hs
  have hc : -1073741824 ≤ c ∧ c ≤ 1073741824 := by unfold wi at h1; simpa using h1
  have HTL := Lib.hid (textL_len hs)
  have HOK := Lib.hid h3
  have HN := Lib.hid hn
  have hA : Below w.heap.size w (w.alloc (.cells #[.int .i64 c, .slice a n cap] 24)) := (Below.refl _ _).alloc (Nat.le_refl _) _
  have HA := Lib.hid hA
  have HL := Lib.hid hl
  have HT := Lib.hid (ht.up hA (Nat.le_succ _))
  have hsz : (w.alloc (.cells #[.int .i64 c, .slice a n cap] 24)).heap.size = w.heap.size + 1 := by simp
  have hnw := heap_alloc_new w (.cells #[.int .i64 c, .slice a n cap] 24)
  have hb1 : (w.alloc (.cells #[.int .i64 c, .slice a n cap] 24)).cell? ⟨w.heap.size, 1, none⟩ = some (.slice a n cap) := (cell_of_row _ _ _ _ _ _ hnw).trans rfl
  have HB1 := Lib.hid hb1
  have HC := Lib.hid (app_int (Pak.BRow.nil (w.heap.size + 1) (w.alloc (.cells #[.int .i64 c, .slice a n cap] 24))) (Nat.le_of_eq hsz.symm) (i := c) (by omega) (by decide) HT.out)
  have hnm : n ≤ 64 := by omega
  have HZ := Lib.hid hsz
  clear h1 h64 h3 hs hn hl ht hA hsz hnw hb1
  go_enter Tryd.func43, Tryd.ntmps43
  go_wp2_with fail
  refine HC.out.mono ?_
  rintro e w1 ⟨v, rfl, hr, hb, _⟩
  rw [List.nil_append] at hr
  have x1 := (hb.cell (p := ⟨w.heap.size, 1, none⟩) (Nat.lt_succ_self _)).trans HB1.out
  have HR1 : Hid (Pak.BRow (w.heap.size + 1) (textL c (l.take 0)) v w1) := by
    show Pak.BRow (w.heap.size + 1) (Lib.itoa c ++ []) v w1
    rw [List.append_nil]; exact hr
  have HB : Hid (Below (w.heap.size + 1) (w.alloc (.cells #[.int .i64 c, .slice a n cap] 24)) w1) := hb
  clear hr hb HC HB1
  go_wp2_with fail
  clear x1
  generalize w.alloc (.cells #[.int .i64 c, .slice a n cap] 24) = W0 at *
  go_loopw [3, 12] (fun b i wr => ∃ k : Nat, i = .int .i64 k ∧ k ≤ n ∧ Hid (Pak.BRow (w.heap.size + 1) (textL c (l.take k)) b wr) ∧ Hid (Below (w.heap.size + 1) W0 wr)) (fun _ i _ => n - (intOf i).toNat)
  case atStart => exact ⟨0, rfl, Nat.zero_le _, HR1, HB⟩
  case round =>
    clear HR1 HB
    obtain ⟨k, rfl, hk, hR, hB⟩ := hrel
    by_cases hlt : k < n
    · have hlti : (k : Int) < (n : Int) := by omega
      have hBw : Below w.heap.size w wr := HA.out.trans (hB.out.mono (Nat.le_succ _))
      obtain ⟨b, off, rfl, hblt, c1, c2⟩ := (HL.out.below hBw) k (by rw [HN.out]; exact hlt)
      have hi := okAt_in (HOK.out k (by rw [HN.out]; exact hlt))
      have HX := textL_next (c := c) (l := l) (k := k) (by rw [HN.out]; exact hlt)
      have hlen := HTL.out k (by rw [HN.out]; exact hk)
      have hlen2 := HTL.out (k + 1) (by rw [HN.out]; exact hlt)
      rw [HX] at hlen2
      have HX2 := Lib.hid HX
      clear HX
      generalize (l.getD k (0, 0)).1 = x at *
      generalize (l.getD k (0, 0)).2 = y at *
      have hA2 : Below wr.heap.size wr (wr.alloc (.cells #[.int .i64 x, .int .i64 y] 57)) := (Below.refl _ _).alloc (Nat.le_refl _) _
      have hq2 := heap_alloc_new wr (.cells #[.int .i64 x, .int .i64 y] 57)
      have hz2 : W0.heap.size ≤ wr.heap.size := hB.out.size
      have hzz : w.heap.size + 1 ≤ wr.heap.size := by have := HZ.out; omega
      simp only [List.length_append, List.length_cons, List.length_nil] at hlen2
      obtain ⟨v2, w2, hr2, ho2, hb2, hk2⟩ := app_byte (w := wr.alloc (.cells #[.int .i64 x, .int .i64 y] 57)) 32 32 rfl (hR.out.below hA2) (Nat.le_trans hzz hA2.size) (by omega)
      have q2 := box_kept hq2 hk2
      have B2 : Hid (Below (w.heap.size + 1) W0 w2) := hB.out.trans ((hA2.mono hzz).trans hb2)
      have h02 := (box_cells q2).1
      have hz3 : w.heap.size + 1 ≤ w2.heap.size := Nat.le_trans hzz (Nat.le_trans hA2.size hb2.size)
      have HC2 := Lib.hid (app_int ho2 hz3 (i := x) (by omega) (by simp; omega) (HT.out.up B2.out (Nat.le_refl _)))
      have Q2 := Lib.hid q2
      have HZ3 := Lib.hid hz3
      simp only [World.size_alloc] at hr2
      clear hA2 hq2 hz2 ho2 hb2 hk2 q2 hR hB
      go_wp2_with (at_builtin; refine Lib.wpList_append_run _ rfl _ _ _ _ rfl _ _ rfl rfl _ _ (hr2 _) ?_)
      clear hr2 c1 c2
      refine HC2.out.mono ?_
      rintro e w3 ⟨v3, rfl, hr3, hb3, hk3⟩
      have q3 := box_kept Q2.out hk3
      have hz4 : w.heap.size + 1 ≤ w3.heap.size := Nat.le_trans HZ3.out hb3.size
      obtain ⟨v4, w4, hr4, ho4, hb4, hk4⟩ := app_byte (w := w3) 32 32 rfl hr3 hz4 (by simp only [List.length_append, List.length_cons, List.length_nil]; omega)
      have q4 := box_kept q3 hk4
      have B4 : Hid (Below (w.heap.size + 1) W0 w4) := B2.out.trans (hb3.trans hb4)
      have h14 := (box_cells q4).2
      have HC4 := Lib.hid (app_int ho4 (Nat.le_trans hz4 hb4.size) (i := y) (by omega) (by simp only [List.length_append, List.length_cons, List.length_nil]; omega) (HT.out.up B4.out (Nat.le_refl _)))
      clear hr3 hb3 hk3 q3 hz4 ho4 hb4 hk4 q4 h02 HC2 Q2 HZ3 B2
      go_wp2_with (at_builtin; refine Lib.wpList_append_run _ rfl _ _ _ _ rfl _ _ rfl rfl _ _ (hr4 _) ?_)
      clear hr4 h14
      refine HC4.out.mono ?_
      rintro e w5 ⟨v5, rfl, hr5, hb5, hk5⟩
      rw [← HX2.out] at hr5
      have HR5 := Lib.hid hr5
      have B5 := Lib.hid (B4.out.trans hb5)
      clear hr5 hb5 hk5 HC4 B4 HX2
      go_wp2_with fail
      go_roundw
      case rel => exact ⟨k + 1, by go_num, by omega, HR5, B5⟩
      case measure => simp [intOf]; omega
    · have hlti : ¬ (k : Int) < (n : Int) := by omega
      obtain rfl : k = n := by omega
      have hR2 := hR.out
      rw [← HN.out, List.take_length] at hR2
      have hl4 := HTL.out k (by rw [HN.out]; exact Nat.le_refl _)
      rw [← HN.out, List.take_length] at hl4
      have hcv := hR2.conv (by omega)
      have HE : Hid (Below w.heap.size w wr) := HA.out.trans (hB.out.mono (Nat.le_succ _))
      obtain ⟨a9, cap9, rfl⟩ := hR2.slice
      clear hR hB hR2 hl4 HTL
      obtain ⟨ta, hta⟩ : ∃ ta, ta = (textL c l).toArray := ⟨_, rfl⟩
      rw [← hta] at hcv
      have HTA := Lib.hid hta
      clear hta
      generalize (textL c l).length = tn at hcv
      go_wp2_with fail
      go_ret
      exact ⟨by rw [← HTA.out]; rfl, HE.out⟩
end Go.Proofs.YtelndcmfddbgiaaDoor

set_option linter.unusedVariables false
set_option linter.unusedSimpArgs false
namespace Go.Proofs.YtelndcmfddbgiaaDoor
set_option maxRecDepth 100000
open Go.RowKit Go.Maps

theorem Tryd.lawStr : Keyed Tryd.prog 9 := string_keyed Tryd.underlying9
theorem Tryd.zeroInt (w : World) : (zeroValue 3).run Tryd.prog w = .ok (.int .i64 0) w := by kernel_rfl
/-- The places of atoms, by their texts. -/
structure Places (am : List (Int × List (Int × Int))) (mp : Nat) (w : World) : Prop where
  ex : ∃ D : DataW Unit, w.ownsMap Tryd.prog 9 (plainElem Tryd.prog 3) mp am.length D ∧ ∀ c t, D.atKey (.string (textL c t)) (.lit (.int .i64 0)) = .lit (.int .i64 (atN am (c, t)))
theorem Places.made (w : World) : Places [] w.heap.size (w.alloc (.map #[] 0)) := ⟨.map [], World.ownsMap_made _ _ _ _, fun c t => rfl⟩
theorem Places.keep {am : List (Int × List (Int × Int))} {mp : Nat} {w w' : World} (h : Places am mp w) (hk : w'.heap[mp]? = w.heap[mp]?) : Places am mp w' := by
  obtain ⟨D, ⟨es, clock, hb, F, hs, hD⟩, h2⟩ := h.ex
  exact ⟨D, ⟨es, clock, hk.trans hb, F, hs, hD⟩, h2⟩
theorem Places.lt {am : List (Int × List (Int × Int))} {mp : Nat} {w : World} (h : Places am mp w) : mp < w.heap.size := by
  obtain ⟨D, h1, _⟩ := h.ex
  exact h1.lt
theorem key_of {c : Int} {t : List (Int × Int)} (hs : (textL c t).length ≤ 4000) : keyOf Tryd.prog 9 (.string ⟨(textL c t).toArray⟩) = some (.string (textL c t)) := by
  have := Go.WideMaps.keyOf_string_mk (P := Tryd.prog) Tryd.underlying9 (s := ⟨(textL c t).toArray⟩) (by show (textL c t).toArray.size ≤ _; rw [List.size_toArray]; unfold maxLen; omega)
  simpa using this
theorem Places.look {am : List (Int × List (Int × Int))} {mp : Nat} {w : World} (h : Places am mp w) {c : Int} {t : List (Int × Int)} (hs : (textL c t).length ≤ 4000) :
    (Instr.lookup 60 (.map (some mp)) (.string ⟨(textL c t).toArray⟩) false).run Tryd.prog w = .ok (.int .i64 (atN am (c, t))) w := by
  obtain ⟨D, h1, h2⟩ := h.ex
  obtain ⟨x, hr, hx, _⟩ := h1.lookup_int Tryd.lawStr Tryd.underlying60 Tryd.underlying3 (Tryd.zeroInt _) (key_of hs)
  rw [h2] at hx
  injection hx with hx
  injection hx with _ hx
  rw [hr, hx]
theorem Places.put {am : List (Int × List (Int × Int))} {mp : Nat} {w : World} (h : Places am mp w) {c : Int} {t : List (Int × Int)} (hs : (textL c t).length ≤ 4000) (hn : am.length ≤ 1000000) (h0 : atN am (c, t) = 0) :
    ∃ w', (Instr.mapUpdate 60 (.map (some mp)) (.string ⟨(textL c t).toArray⟩) (.int .i64 (am.length + 1 : Nat))).run Tryd.prog w = .ok () w' ∧ Places (am ++ [(c, t)]) mp w' ∧ w.grownBy w' (some mp) := by
  obtain ⟨D, h1, h2⟩ := h.ex
  obtain ⟨w', hr, h3, h4⟩ := h1.update Tryd.lawStr Tryd.underlying60 (by unfold maxLen; omega) (key_of hs) (plainElem_int Tryd.underlying3 (a := ((am.length + 1 : Nat) : Int)) (WalkArith.wf_i64 (by omega)))
  refine ⟨w', hr, ⟨_, by rw [List.length_append]; exact h3, fun c' t' => ?_⟩, h4⟩
  rw [atN_snoc]
  by_cases e : (c, t) = (c', t')
  · obtain ⟨rfl, rfl⟩ : c = c' ∧ t = t' := by injection e with e1 e2; exact ⟨e1, e2⟩
    rw [if_pos h0, if_pos rfl]
    exact atKey_put_same h1.isMap (by exact trivial) _ _
  · rw [atKey_put_other (fun h => by
      injection h with h
      obtain ⟨h5, h6⟩ := textL_inj h
      exact e (by rw [h5, h6])) _ _, h2]
    by_cases h5 : atN am (c', t') = 0
    · rw [if_pos h5, if_neg e, h5]
    · rw [if_neg h5]
end Go.Proofs.YtelndcmfddbgiaaDoor

set_option linter.unusedVariables false
set_option linter.unusedSimpArgs false
namespace Go.Proofs.YtelndcmfddbgiaaDoor
set_option maxRecDepth 100000
open Go.RowKit

/-- What literal says of formulas of n layers. -/
def LitSaid (am : List (Int × List (Int × Int))) (B M K mp : Nat) (av : Value) (n : Nat) : Prop :=
  ∀ (f : FT) (cs : List Value) (N : Nat) (cl : List (List Int)) (r : Option Nat) (S : Nat → Prop) (w : World), FLies B w n f cs → madeF n f = true → LS M K mp av N cl r S w → Places am mp w → Tens M w → am.length + N + siz n f ≤ 100000 → cl.length + 2 * siz n f ≤ 1000000 →
    Calls Tryd.prog 24 #[.pointer (some ⟨M, 0, none⟩), .agg cs.toArray] w fun e w' => e = .returned (.int .i64 (mkF am n f N cl).lit) ∧ ∃ S', (∀ b, S' b → S b ∨ w.heap.size ≤ b) ∧ LTo M K mp av (mkF am n f N cl).n (mkF am n f N cl).cl r S' w w'
set_option maxHeartbeats 8000000 in
theorem lit_2 (am : List (Int × List (Int × Int))) (B M K mp : Nat) (av : Value) (hB : B ≤ M) (hmp : mp < M) (n : Nat) (f : FT) (cs : List Value) (N : Nat) (cl : List (List Int)) (r : Option Nat) (S : Nat → Prop) (w : World) (h : FLies B w (n + 1) f cs) (hm : madeF (n + 1) f = true) (hS : LS M K mp av N cl r S w) (hp : Places am mp w) (ht : Tens M w) (h2 : f.kind = 2) :
    Calls Tryd.prog 24 #[.pointer (some ⟨M, 0, none⟩), .agg cs.toArray] w fun e w' => e = .returned (.int .i64 (mkF am (n + 1) f N cl).lit) ∧ ∃ S', (∀ b, S' b → S b ∨ w.heap.size ≤ b) ∧ LTo M K mp av (mkF am (n + 1) f N cl).n (mkF am (n + 1) f N cl).cl r S' w w' := by
  obtain ⟨ta, tcap, ka, kcap, rfl, hT, _, _, _⟩ := h
  obtain ⟨hsn, hk0⟩ := made_snd hm h2
  clear hk0
  rw [mkF_2 h2]
  have hMw := hS.size
  have hA : Below w.heap.size w (w.alloc (.cells #[.int .i64 f.kind, .int .i64 f.c, .slice ta f.t.length tcap, .slice ka f.ks.length kcap] 27)) := (Below.refl _ w).alloc (Nat.le_refl _) _
  have HB := box_start w f.kind f.c ta ka f.t.length tcap f.ks.length kcap
  have hl3 := textL_len hsn f.t.length (Nat.le_refl _)
  rw [List.take_length] at hl3
  have HTX := Lib.hid (text_any f.c ta f.t.length tcap f.t (w.alloc (.cells #[.int .i64 f.kind, .int .i64 f.c, .slice ta f.t.length tcap, .slice ka f.ks.length kcap] 27)).drew rfl ((hT.below (hA.drew.mono (by omega))).mono (Nat.le_trans (Nat.le_trans hB (Nat.le_of_lt hMw)) hA.size)) hsn (ht.up (hA.drew.mono (Nat.le_of_lt hMw)) (Nat.le_trans (Nat.le_of_lt hMw) hA.size)))
  have HP := Lib.hid hp
  have HS := Lib.hid hS
  have HA := Lib.hid hA
  have HQ := Lib.hid hMw
  have HMP := Lib.hid hmp
  have HL := Lib.hid hl3
  have m3 := (hA.cell (p := ⟨M, 3, none⟩) hMw).trans hS.c3
  have b0 := HB.c0
  have b1 := HB.c1
  have b2 := HB.c2
  have hnq : M < w.heap.size := hMw
  rw [h2] at *
  clear h2 hsn hT hl3 hp hS hA HB hm ht hmp hB
  generalize f.ks.length = kl at *
  generalize hc : f.c = c at *
  generalize hft : f.t = t at *
  clear hc hft
  obtain ⟨tx, htx⟩ : ∃ tx, tx = (textL c t).toArray := ⟨_, rfl⟩
  rw [← htx] at HTX
  have HLK : Hid (∀ W, Below w.heap.size (w.alloc (.cells #[.int .i64 2, .int .i64 c, .slice ta t.length tcap, .slice ka kl kcap] 27)) W → (Instr.lookup 60 (.map (some mp)) (.string ⟨tx⟩) false).run Tryd.prog W = .ok (.int .i64 (atN am (c, t))) W) := Lib.hid fun W hW => by
    rw [htx]
    exact (HP.out.keep (((HA.out.trans hW).block mp (by have := HMP.out; omega)))).look HL.out
  clear htx
  go_enter Tryd.func24, Tryd.ntmps24
  go_wp2_with fail
  have hq1 : w.heap.size < (w.alloc (.cells #[.int .i64 2, .int .i64 c, .slice ta t.length tcap, .slice ka kl kcap] 27)).drew.heap.size := by simp [World.drew]
  generalize hW1 : w.alloc (.cells #[.int .i64 2, .int .i64 c, .slice ta t.length tcap, .slice ka kl kcap] 27) = W1 at *
  clear hW1
  go_region_held3 (fun w' => w'.cell? ⟨M, 3, none⟩ = some (.map (some mp)) ∧ w'.cell? ⟨w.heap.size, 1, none⟩ = some (.int .i64 c) ∧ w'.cell? ⟨w.heap.size, 2, none⟩ = some (.slice ta t.length tcap))
    (first | go_keep)
    (first
      | (go_at_call 43
         refine HTX.out.mono ?_
         rintro e w5 ⟨rfl, hb5⟩
         have l5 := HLK.out w5 (((Below.refl _ W1).drew).trans (hb5.mono (Nat.le_of_lt hq1)))
         have x3 : w5.cell? ⟨M, 3, none⟩ = some (.map (some mp)) := (hb5.cell (p := ⟨M, 3, none⟩) (Nat.lt_trans hnq hq1)).trans m3
         have x1 : w5.cell? ⟨w.heap.size, 1, none⟩ = some (.int .i64 c) := (hb5.cell (p := ⟨w.heap.size, 1, none⟩) hq1).trans b1
         have x2 : w5.cell? ⟨w.heap.size, 2, none⟩ = some (.slice ta t.length tcap) := (hb5.cell (p := ⟨w.heap.size, 2, none⟩) hq1).trans b2
         have hb6 := Lib.hid (((Below.refl _ W1).drew).trans (hb5.mono (Nat.le_of_lt hq1)))
         clear hb5))
  have HE : Hid (∃ S', (∀ b, S' b → S b ∨ w.heap.size ≤ b) ∧ LTo M K mp av N cl r S' w w5) := Lib.hid ⟨S, fun b hb => .inl hb, (LTo.refl HS.out).below (HA.out.trans hb6.out)⟩
  clear l5 x3 x1 x2 hb6 HLK HTX HS HP
  go_wp2_with fail
  go_ret
  exact ⟨rfl, HE.out⟩
theorem mkF_far {am : List (Int × List (Int × Int))} {n : Nat} {f : FT} {N : Nat} {cl : List (List Int)} (h : madeF n f = true) (hb : am.length + N + siz n f ≤ 100000) : -100000 ≤ (mkF am n f N cl).lit ∧ (mkF am n f N cl).lit ≤ 100000 := by
  have := (mkF_fits am n f N cl h).2
  omega
/-- What stands in a world that the maker has turned. -/
theorem Tens.low {M : Nat} {w w' : World} (h : Tens M w) (hb : Below M w w') : Tens M w' := h.up hb (Nat.le_refl _)
set_option maxHeartbeats 8000000 in
theorem lit_4 (am : List (Int × List (Int × Int))) (B M K mp : Nat) (av : Value) (hB : B ≤ M) (hmp : mp < M) (n : Nat) (IH : LitSaid am B M K mp av n) (f : FT) (cs : List Value) (N : Nat) (cl : List (List Int)) (r : Option Nat) (S : Nat → Prop) (w : World) (h : FLies B w (n + 1) f cs) (hm : madeF (n + 1) f = true) (hS : LS M K mp av N cl r S w) (hp : Places am mp w) (ht : Tens M w) (hb1 : am.length + N + siz (n + 1) f ≤ 100000) (hb2 : cl.length + 2 * siz (n + 1) f ≤ 1000000) (h4 : f.kind = 4) :
    Calls Tryd.prog 24 #[.pointer (some ⟨M, 0, none⟩), .agg cs.toArray] w fun e w' => e = .returned (.int .i64 (mkF am (n + 1) f N cl).lit) ∧ ∃ S', (∀ b, S' b → S b ∨ w.heap.size ≤ b) ∧ LTo M K mp av (mkF am (n + 1) f N cl).n (mkF am (n + 1) f N cl).cl r S' w w' := by
  obtain ⟨ta, tcap, ka, kcap, rfl, hT, hl1, hl2, hks⟩ := h
  obtain ⟨hk1, hkk⟩ := made_not hm h4
  have hs0 : siz n (f.ks.getD 0 default) ≤ siz (n + 1) f := by
    have e1 := sizTo_succ n f.ks 0 (by omega)
    have e2 := sizTo_len n f
    rw [hk1] at e2
    rw [sizTo_zero, show (0 : Nat) + 1 = 1 from rfl] at e1
    omega
  rw [mkF_4 h4]
  have hmk := made_kids hm 0 (by omega)
  have hfar := mkF_far (cl := cl) hmk (show am.length + N + siz n (f.ks.getD 0 default) ≤ 100000 by omega)
  obtain ⟨b, off, c0, c1, c2, c3, rfl, hbl, g0, g1, g2, g3, hf⟩ := hks 0 (by omega)
  obtain ⟨ck, cc, cta, ctn, ctcap, cka, ckn, ckcap, rfl, rfl, rfl, rfl⟩ := hf.form
  have hMw := hS.size
  have hA : Below w.heap.size w (w.alloc (.cells #[.int .i64 f.kind, .int .i64 f.c, .slice ta f.t.length tcap, .slice (some ⟨b, off, none⟩) f.ks.length kcap] 27)) := (Below.refl _ w).alloc (Nat.le_refl _) _
  have hih := IH (f.ks.getD 0 default) _ N cl r S _ (hf.below (hA.mono (by omega))) hmk (hS.below hA) (hp.keep (hA.block mp (by omega))) (ht.low (hA.mono (Nat.le_of_lt hMw))) (by omega) (by omega)
  have HB := box_start w f.kind f.c ta (some ⟨b, off, none⟩) f.t.length tcap f.ks.length kcap
  have b0 := HB.c0
  have b3 := HB.c3
  have hbw : b < w.heap.size := by omega
  rw [← hA.cell (p := ⟨b, _, none⟩) hbw] at g0 g1 g2 g3
  have HA := Lib.hid hA
  have HIH := Lib.hid hih
  clear hks hT hmk hf hih IH hS hp ht HB hA hs0 hb1 hb2 hm hl1 hl2 hkk
  rw [h4] at *
  rw [hk1] at *
  clear hk1 h4
  generalize mkF am n (f.ks.getD 0 default) N cl = q at *
  have hw : IntKind.i64.wrap (-q.lit) = -q.lit := IntWalk.i64_in _ (by omega)
  simp only [Nat.zero_mul, Nat.add_zero] at g0 g1 g2 g3
  generalize f.c = fc at *
  generalize f.t.length = ft at *
  go_enter Tryd.func24, Tryd.ntmps24
  go_wp2_with fail
  generalize w.alloc (.cells #[.int .i64 4, .int .i64 fc, .slice ta ft tcap, .slice (some ⟨b, off, none⟩) 1 kcap] 27) = W1 at *
  refine HIH.out.mono ?_
  rintro e w2 ⟨rfl, S', hS1, r2, hL, hr, hK⟩
  have HE : Hid (∃ S', (∀ b, S' b → S b ∨ w.heap.size ≤ b) ∧ LTo M K mp av q.n q.cl r S' w w2) := Lib.hid ⟨S', fun b hb => (hS1 b hb).imp id (fun h => Nat.le_trans HA.out.size h), r2, hL, next_trans (.inl rfl) HA.out.size hr, keptW_trans (.inl rfl) (.of_below HA.out) hK⟩
  clear hS1 hL hr hK g0 g1 g2 g3 b0 b3 HIH HA
  go_wp2_with fail
  go_ret
  exact ⟨rfl, HE.out⟩
end Go.Proofs.YtelndcmfddbgiaaDoor
