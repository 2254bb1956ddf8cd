/- The document's clauses: what the walk stands on; of an atom, of an opposite. Rows of Booleans; the values of a formula's parts, by the document. The values of a formula's parts, by the document: told. -/
import Derived.Test.YtelndcmfddbgiaaDoorCt17
import Derived.Test.YtelndcmfddbgiaaDoorCt18
set_option linter.unusedVariables false
set_option linter.unusedSimpArgs false
set_option linter.unusedVariables false
set_option linter.unusedSimpArgs false
namespace Go.Proofs.YtelndcmfddbgiaaDoor
set_option maxRecDepth 100000
open Go.RowKit

theorem RowTo.other {T : Type} {sh : Pak.Sh T} {ty : TypeId} {K : Nat} {S1 : Nat → Prop} {xs1 : List T} {v v1 : Value} {w w1 w2 : World} {r : Option Nat} (h : RowTo sh ty K S1 xs1 v w v1 w1) (g : w1.grownBy w2 r) (hr : ∀ q, r = some q → w.heap.size ≤ q ∧ ¬ S1 q ∧ v1.ownBlock ≠ some q) : RowTo sh ty K S1 xs1 v w v1 w2 :=
  ⟨h.1.grown g (fun q e => (hr q e).2), ⟨g.os.trans h.2.1.os, g.tape.trans h.2.1.tape, g.output.trans h.2.1.output, Nat.le_trans h.2.1.size g.size, fun q hq hn => (g.block q (Nat.lt_of_lt_of_le hq h.2.1.size) (fun e => by have := (hr q e.symm).1; omega)).trans (h.2.1.block q hq hn)⟩, h.2.2⟩
abbrev CRow (K : Nat) (S : Nat → Prop) (cl : List (List Int)) (v : Value) (w : World) : Prop := OwnP Pak.clauseSh 45 K S cl v w
abbrev CTo (K : Nat) (S : Nat → Prop) (cl : List (List Int)) (v : Value) (w : World) (v' : Value) (w' : World) : Prop := RowTo Pak.clauseSh 45 K S cl v w v' w'
abbrev IRow (K : Nat) (xs : List Int) (v : Value) (w : World) : Prop := OwnP Pak.intSh 3 K (fun _ => False) xs v w
def RMEnd (K : Nat) (p : MkR) (S : Nat → Prop) (v : Value) (w : World) (e : Ending) (w' : World) : Prop :=
  ∃ v' S', e = .returned (.tuple #[v', .int .i64 p.n, .int .i64 p.lit]) ∧ (∀ b, S' b → S b ∨ w.heap.size ≤ b) ∧ CTo K S' p.cl v w v' w'
/-- What make1 says of formulas of n layers. -/
def RMkSaid (am : List (Int × List (Int × Int))) (B K : Nat) (la : Option Addr) (lc : Nat) (n : Nat) : Prop :=
  ∀ (f : FT) (cs : List Value) (N : Nat) (cl : List (List Int)) (S : Nat → Prop) (v : Value) (w : World), FLies B w n f cs → madeF n f = true → Pak.Sits linSh (Pak.Lo K) w la am → CRow K S cl v w → K ≤ w.heap.size → am.length + N + siz n f ≤ 100000 → cl.length + 2 * siz n f ≤ 1000000 →
    Calls Tryd.prog 28 #[.agg cs.toArray, .slice la am.length lc, .int .i64 N, v] w (RMEnd K (mkF am n f N cl) S v w)
set_option maxHeartbeats 16000000 in
theorem rmk_2 (am : List (Int × List (Int × Int))) (B K : Nat) (la : Option Addr) (lc : Nat) (hB : B ≤ K) (hsh : short am) (n : Nat) (f : FT) (cs : List Value) (N : Nat) (cl : List (List Int)) (S : Nat → Prop) (v : Value) (w : World) (h : FLies B w (n + 1) f cs) (hm : madeF (n + 1) f = true) (hl : Pak.Sits linSh (Pak.Lo K) w la am) (hv : CRow K S cl v w) (hK : K ≤ w.heap.size) (h2 : f.kind = 2) :
    Calls Tryd.prog 28 #[.agg cs.toArray, .slice la am.length lc, .int .i64 N, v] w (RMEnd K (mkF am (n + 1) f N cl) S v w) := by
  obtain ⟨ta, tcap, ka, kcap, rfl, hT, _, _, _⟩ := h
  obtain ⟨hsn, hk0⟩ := made_snd hm h2
  rw [mkF_2 h2]
  have ht64 := (snd_iff.1 hsn).2.1
  have hA : Below w.heap.size w (w.alloc (.cells #[.int .i64 f.kind, .int .i64 f.c, .slice ta f.t.length tcap, .slice ka f.ks.length kcap] 27)) := (Below.refl _ w).alloc (Nat.le_refl _) _
  have HB := box_start w f.kind f.c ta ka f.t.length tcap f.ks.length kcap
  have HAT := Lib.hid (at_any _ la am.length lc am f.c ta f.t.length tcap f.t _ (hl.up (hA.mono hK)) (fun b (hb : b < K) => by simp; omega) rfl (fun y hy => by have := hsh y hy; omega) ((hT.below (hA.mono (by omega))).mono (Nat.le_trans (show B ≤ w.heap.size by omega) hA.size)) rfl (by omega))
  have HV := Lib.hid hv
  have HA := Lib.hid hA
  have b0 := HB.c0
  have b1 := HB.c1
  have b2 := HB.c2
  obtain ⟨va, vc, hvf⟩ := hv.form
  rw [h2] at *
  clear h2 hk0 hsn hT hv hA HB hm hsh hB hK hl
  subst hvf
  generalize cl.length = cll at *
  generalize atN am (f.c, f.t) = z at *
  generalize f.c = c at *
  generalize f.t.length = tl at *
  generalize f.ks.length = kl at *
  generalize am.length = al at *
  go_enter Tryd.func28, Tryd.ntmps28
  go_wp2_with fail
  clear b0 b1 b2
  refine HAT.out.mono ?_
  rintro e w2 ⟨rfl, hb2⟩
  have HE : Hid (RMEnd K ⟨N, cl, z⟩ S (.slice va cll vc) w (.returned (.tuple #[.slice va cll vc, .int .i64 N, .int .i64 z])) w2) := Lib.hid ⟨_, S, rfl, fun b hb => .inl hb, ((RowTo.refl HV.out).after (HA.out.trans (hb2.mono HA.out.size)))⟩
  clear hb2 HAT
  go_wp2_with fail
  go_ret3
  exact HE.out
set_option maxHeartbeats 16000000 in
theorem rmk_4 (am : List (Int × List (Int × Int))) (B K : Nat) (la : Option Addr) (lc : Nat) (hB : B ≤ K) (n : Nat) (IH : RMkSaid am B K la lc n) (f : FT) (cs : List Value) (N : Nat) (cl : List (List Int)) (S : Nat → Prop) (v : Value) (w : World) (h : FLies B w (n + 1) f cs) (hm : madeF (n + 1) f = true) (hl : Pak.Sits linSh (Pak.Lo K) w la am) (hv : CRow K S cl v w) (hK : K ≤ w.heap.size) (hb1 : am.length + N + siz (n + 1) f ≤ 100000) (hb2 : cl.length + 2 * siz (n + 1) f ≤ 1000000) (h4 : f.kind = 4) :
    Calls Tryd.prog 28 #[.agg cs.toArray, .slice la am.length lc, .int .i64 N, v] w (RMEnd K (mkF am (n + 1) f N cl) S v w) := by
  obtain ⟨ta, tcap, ka, kcap, rfl, hT, hl1, hl2, hks⟩ := h
  obtain ⟨hk1, hkk⟩ := made_not hm h4
  have hs0 : siz n (f.ks.getD 0 default) ≤ siz (n + 1) f := by
    have e1 := sizTo_succ n f.ks 0 (by omega)
    have e2 := sizTo_len n f
    rw [hk1] at e2
    rw [sizTo_zero, show (0 : Nat) + 1 = 1 from rfl] at e1
    omega
  rw [mkF_4 h4]
  have hmk := made_kids hm 0 (by omega)
  have hfar := mkF_far (cl := cl) hmk (show am.length + N + siz n (f.ks.getD 0 default) ≤ 100000 by omega)
  obtain ⟨b, off, c0, c1, c2, c3, rfl, hbl, g0, g1, g2, g3, hf⟩ := hks 0 (by omega)
  obtain ⟨ck, cc, cta, ctn, ctcap, cka, ckn, ckcap, rfl, rfl, rfl, rfl⟩ := hf.form
  have hA : Below w.heap.size w (w.alloc (.cells #[.int .i64 f.kind, .int .i64 f.c, .slice ta f.t.length tcap, .slice (some ⟨b, off, none⟩) f.ks.length kcap] 27)) := (Below.refl _ w).alloc (Nat.le_refl _) _
  have hih := IH (f.ks.getD 0 default) _ N cl S v _ (hf.below (hA.mono (by omega))) hmk (hl.up (hA.mono hK)) (hv.below hA) (Nat.le_trans hK hA.size) (by omega) (by omega)
  have HB := box_start w f.kind f.c ta (some ⟨b, off, none⟩) f.t.length tcap f.ks.length kcap
  have b0 := HB.c0
  have b3 := HB.c3
  have hbw : b < w.heap.size := by omega
  rw [← hA.cell (p := ⟨b, _, none⟩) hbw] at g0 g1 g2 g3
  obtain ⟨va, vc, hvf⟩ := hv.form
  have HA := Lib.hid hA
  have HIH := Lib.hid hih
  clear hks hT hmk hf hih IH hv HB hA hs0 hb1 hb2 hm hl1 hl2 hkk hl hB hK
  rw [h4] at *
  rw [hk1] at *
  clear hk1 h4
  generalize mkF am n (f.ks.getD 0 default) N cl = q at *
  have hw : IntKind.i64.wrap (-q.lit) = -q.lit := IntWalk.i64_in _ (by omega)
  simp only [Nat.zero_mul, Nat.add_zero] at g0 g1 g2 g3
  subst hvf
  generalize cl.length = cll at *
  generalize am.length = al at *
  generalize f.c = fc at *
  generalize f.t.length = ft at *
  go_enter Tryd.func28, Tryd.ntmps28
  go_wp2_with fail
  generalize w.alloc (.cells #[.int .i64 4, .int .i64 fc, .slice ta ft tcap, .slice (some ⟨b, off, none⟩) 1 kcap] 27) = W1 at *
  refine HIH.out.mono ?_
  rintro e w2 ⟨v2, S2, rfl, hS2, hR2⟩
  obtain ⟨a2, c2', e2⟩ := hR2.1.form
  generalize q.cl.length = ql at e2
  subst e2
  have HE : Hid (RMEnd K ⟨q.n, q.cl, -q.lit⟩ S (.slice va cll vc) w (.returned (.tuple #[.slice a2 ql c2', .int .i64 q.n, .int .i64 (-q.lit)])) w2) := Lib.hid ⟨_, S2, rfl, fun b hb => (hS2 b hb).imp id (fun h => Nat.le_trans HA.out.size h), hR2.before HA.out⟩
  clear hS2 hR2 HIH HA g0 g1 g2 g3 b0 b3
  go_wp2_with fail
  go_ret3
  exact HE.out
end Go.Proofs.YtelndcmfddbgiaaDoor

set_option linter.unusedVariables false
set_option linter.unusedSimpArgs false
namespace Go.Proofs.YtelndcmfddbgiaaDoor
set_option maxRecDepth 100000
open Go.RowKit

theorem Tryd.infoBool : (Tryd.prog.info? 4).map (fun i => (i.zero, i.size, i.bytes)) = some (some (.bool false), 1, 1) := by kernel_rfl
def boCells (l : List Bool) : List Value := l.map Value.bool
/-- Booleans of the call's own. -/
def BoRow (B : Nat) (l : List Bool) (v : Value) (w : World) : Prop := w.ownsRow B 4 1 v l.length (boCells l)
theorem BoRow.nil (B : Nat) (w : World) : BoRow B [] (.slice none 0 0) w := World.ownsRow_nil _ _ _ _
theorem BoRow.below {B : Nat} {l : List Bool} {v : Value} {w w' : World} (h : BoRow B l v w) (hb : Below w.heap.size w w') : BoRow B l v w' :=
  World.ownsRow.kept (row := none) h ⟨hb.os, hb.tape, hb.output, hb.size, fun q hq _ => hb.block q hq⟩ (by cases v.ownBlock <;> simp)
theorem BoRow.lower {B B' : Nat} {l : List Bool} {v : Value} {w : World} (h : BoRow B l v w) (hb : B' ≤ B) : BoRow B' l v w := by
  obtain ⟨h1, h2⟩ := h
  exact ⟨h1, h2.imp id fun ⟨g, cap', cur, e1, e2, e3⟩ => ⟨g, cap', cur, e1, Nat.le_trans hb e2, e3⟩⟩
theorem BoRow.form {B : Nat} {l : List Bool} {v : Value} {w : World} (h : BoRow B l v w) : ∃ a cap, v = .slice a l.length cap := Pak.own_slice h
theorem BoRow.bools {B : Nat} {l : List Bool} {v : Value} {w : World} (h : BoRow B l v w) : ∃ a cap, v = .slice a l.length cap ∧ Prp.Bools w.heap.size w a l := by
  have hc := fun g => World.ownsRow.cells h (g := g)
  have hlt := World.ownsRow.lt h
  obtain ⟨_, ⟨rfl, h0⟩ | ⟨g, cap, cur, rfl, _⟩⟩ := h
  · exact ⟨none, 0, by rw [h0], fun i hi => by omega⟩
  · refine ⟨some ⟨g, 0, none⟩, cap, rfl, fun i hi => ⟨g, 0, rfl, (hlt g rfl).2, ?_⟩⟩
    have := hc g rfl i (.bool l[i]) (by simp [boCells, hi])
    rw [show (⟨g, 0, none⟩ : Addr).add i = ⟨g, 0 + i, none⟩ by unfold Addr.add; split <;> simp_all] at this
    rw [this, List.getD_eq_getElem?_getD, List.getElem?_eq_getElem hi, Option.getD_some]
/-- append(own, Booleans...). -/
theorem bo_cat {w : World} {B Bx : Nat} {l m : List Bool} {v : Value} {a : Option Addr} {cap : Nat} (hv : BoRow B l v w) (hu : Prp.Bools Bx w a m) (hB : B ≤ w.heap.size) (hsz : l.length + m.length ≤ 140000000000000) :
    ∃ v' w', (∀ ty, (Builtin.append_ #[50, 50] ty #[v, .slice a m.length cap]).run Tryd.prog w = .ok v' w') ∧ BoRow B (l ++ m) v' w' ∧ w.grownBy w' v.ownBlock := by
  obtain ⟨i0, hi, hz0, hz1, hz2⟩ := Pak.info_parts Tryd.infoBool
  by_cases h0 : m.length = 0
  · have hy : m = [] := List.length_eq_zero_iff.1 h0
    subst hy
    have key : ∀ ty, (Builtin.append_ #[50, 50] ty #[v, .slice a 0 cap]).run Tryd.prog w = .ok v w := fun ty => by
      have hf : ∀ ad : Addr, (Builtin.firstCells 1 0 (.slice (some ad) 0 cap)).run Tryd.prog w = .ok #[] w := fun ad => run_firstCells_some w 1 0 ad 0 cap [] (by simp) (fun j u h => by cases h)
      have hf0 := run_firstCells_none (P := Tryd.prog) w 1 0 0 cap
      have ht := Tryd.underlying50
      rcases hv.2 with ⟨rfl, hl0⟩ | ⟨g, cap', cur, rfl, _, _, hnc, _⟩
      · cases a <;> simp [Builtin.append_, run_underlying ht, sizeOf, typeInfo, hi, hz1, Builtin.lenOf, hf, hf0]
      · cases a <;> simp [Builtin.append_, run_underlying ht, sizeOf, typeInfo, hi, hz1, Builtin.lenOf, hf, hf0, hnc, storeCells]
    exact ⟨v, w, key, by simpa using hv, ⟨rfl, rfl, rfl, Nat.le_refl _, fun _ _ _ => rfl⟩⟩
  · obtain ⟨b, off, rfl, _⟩ := hu 0 (by omega)
    have hnews : ∀ j u, (boCells m)[j]? = some u → w.cell? ((⟨b, off, none⟩ : Addr).add j) = some u := fun j u hj => by
      have hjl : j < m.length := by have := (List.getElem?_eq_some_iff.1 hj).1; simpa [boCells] using this
      obtain ⟨b', off', e, _, hc⟩ := hu j hjl
      injection e with e
      injection e with e1 e2 e3
      subst e1 e2
      rw [show (⟨b, off, none⟩ : Addr).add j = ⟨b, off + j, none⟩ by unfold Addr.add; split <;> simp_all, hc]
      rw [List.getD_eq_getElem?_getD, List.getElem?_eq_getElem hjl, Option.getD_some]
      simpa [boCells, hjl] using hj
    have hrun := fun ty => run_append_own_at (P := Tryd.prog) w B 50 ty 4 i0 _ 1 1 Tryd.underlying50 hi hz0 hz1 hz2 rfl (by decide) v l.length (boCells l) hv ⟨b, off, none⟩ m.length cap (boCells m) (by simp [boCells]) hnews (fun u hu => by
      obtain ⟨x, _, rfl⟩ := List.mem_map.1 hu; rfl) (by unfold maxLen; omega) (by omega) hB
    obtain ⟨v', w', hr, h2, h3, _⟩ := hrun 50
    refine ⟨v', w', fun ty => hr, ?_, h3⟩
    unfold BoRow boCells at *
    rw [List.length_append, List.map_append]
    exact h2
theorem bo_one (w : World) (x : Bool) : Prp.Bools (w.heap.size + 1) (w.alloc (.cells #[.bool x] 4)) (some ⟨w.heap.size, 0, none⟩) [x] := fun i hi => by
  have hi0 : i = 0 := by simp at hi; exact hi
  subst hi0
  exact ⟨_, 0, rfl, Nat.lt_succ_self _, (cell_of_row _ _ _ _ _ _ (heap_alloc_new w _)).trans rfl⟩
theorem bo_new (w : World) (x : Bool) {B : Nat} (hB : B ≤ w.heap.size) : BoRow B [x] (.slice (some ⟨w.heap.size, 0, none⟩) 1 1) (w.alloc (.cells #[.bool x] 4)) :=
  ⟨rfl, .inr ⟨w.heap.size, 1, #[.bool x], rfl, hB, heap_alloc_new w _, Nat.le_refl _, by decide, rfl, rfl⟩⟩
/-- append(own, b). -/
theorem bo_snoc {w : World} {B : Nat} {l : List Bool} {v : Value} (x : Bool) (hv : BoRow B l v w) (hB : B ≤ w.heap.size) (hsz : l.length + 1 ≤ 140000000000000) :
    ∃ a' n' c' w', n' = l.length + 1 ∧ (∀ ty, (Builtin.append_ #[50, 50] ty #[v, .slice (some ⟨w.heap.size, 0, none⟩) 1 1]).run Tryd.prog (w.alloc (.cells #[.bool x] 4)) = .ok (.slice a' n' c') w') ∧ BoRow B (l ++ [x]) (.slice a' n' c') w' ∧ Below B w w' := by
  have hA : Below w.heap.size w (w.alloc (.cells #[.bool x] 4)) := (Below.refl _ w).alloc (Nat.le_refl _) _
  obtain ⟨v', w', h1, h2, h3⟩ := bo_cat (cap := 1) (hv.below hA) (bo_one w x) (Nat.le_trans hB hA.size) (by simpa using hsz)
  obtain ⟨a', c', e⟩ := h2.form
  rw [List.length_append] at e
  subst e
  exact ⟨a', _, c', w', rfl, h1, h2, (hA.mono hB).grown h3 (Nat.le_trans hB hA.size) (fun g hg => (World.ownsRow.lt hv g hg).1)⟩
/-- The value of a form, whatever it is. -/
theorem rv_any (c : Int) (a : Option Addr) (n cap : Nat) (l : List (Int × Int)) (a2 : Option Addr) (n2 cap2 : Nat) (zs : List Int) (w : World) (hn : l.length = n) (hn2 : zs.length = n2) (hm2 : n2 ≤ 9223372036854775807) (hl : Lies w.heap.size w a l) (hz : Nums w.heap.size w a2 zs) (hs : snd c l = true) :
    Calls Tryd.prog 36 #[.agg #[.int .i64 c, .slice a n cap], .slice a2 n2 cap2] w fun e w' => ∃ r, e = .returned (.tuple #[.int .i64 (rvI zs (c, l)), .int .i64 r]) ∧ Below w.heap.size w w' := by
  by_cases h : ∀ i, i < l.length → near l zs i = true
  · have e : rvI zs (c, l) = sAt c l zs l.length := by unfold rvI; rw [if_pos h]
    rw [e]
    exact (rvalue_any c a n cap l a2 n2 cap2 zs w hn hn2 hm2 hl hz hs _ 0 (.inl ⟨by rw [hn], rfl, fun i hi => h i (by omega)⟩)).mono fun _ _ hh => ⟨_, hh⟩
  · have e : rvI zs (c, l) = 0 := by unfold rvI; rw [if_neg h]
    rw [e]
    exact (rvalue_any c a n cap l a2 n2 cap2 zs w hn hn2 hm2 hl hz hs 0 1 (.inr ⟨rfl, rfl, fun hh => h (fun i hi => hh i (by omega))⟩)).mono fun _ _ hh => ⟨_, hh⟩
end Go.Proofs.YtelndcmfddbgiaaDoor

set_option linter.unusedVariables false
set_option linter.unusedSimpArgs false
namespace Go.Proofs.YtelndcmfddbgiaaDoor
set_option maxRecDepth 100000
open Go.RowKit

def TEnd (p : List Bool × Bool) (w : World) (e : Ending) (w' : World) : Prop := ∃ a n c, e = .returned (.tuple #[.slice a n c, .bool p.2]) ∧ n = p.1.length ∧ BoRow w.heap.size p.1 (.slice a n c) w' ∧ Below w.heap.size w w'
theorem tF_len (zs : List Int) : ∀ (n : Nat) (f : FT), madeF n f = true → (tF zs n f).1.length ≤ siz n f
  | 0, f, hm => by cases hm
  | n + 1, f, hm => by
    have hmk := made_kids hm
    have hp := siz_pos n f
    rcases made_kind hm with hk | hk | hk | hk | hk | hk
    · rw [tF, if_pos hk]; exact hp
    · rw [tF, if_neg (by omega), if_pos hk]; exact hp
    · rw [tF_2 hk]; exact Nat.zero_le _
    · rw [tF_4 hk]
      have hl := (made_not hm hk).1
      have := tF_len zs n _ (hmk 0 (by omega))
      have e1 := sizTo_succ n f.ks 0 (by omega)
      have e2 := sizTo_len n f
      rw [hl] at e2
      rw [sizTo_zero, show (0 : Nat) + 1 = 1 from rfl] at e1
      show (tF zs n (f.ks.getD 0 default)).1.length ≤ _
      omega
    all_goals
      rw [tF_x (by omega)]
      have hto : ∀ i, i ≤ f.ks.length → (tTo zs n f.ks i).1.length ≤ sizTo n f.ks i := fun i => by
        induction i with
        | zero => exact fun _ => Nat.le_refl _
        | succ i ih =>
          intro hi
          rw [tTo_succ zs n f.ks i hi, sizTo_succ n f.ks i hi]
          have h1 := ih (by omega)
          have h2 := tF_len zs n _ (hmk i hi)
          show ((tTo zs n f.ks i).1 ++ (tF zs n (f.ks.getD i default)).1).length ≤ _
          rw [List.length_append]; omega
      have := hto _ (Nat.le_refl _)
      rw [List.length_append, sizTo_len]
      simp only [List.length_cons, List.length_nil]
      omega
theorem tTo_len (zs : List Int) (n : Nat) (ks : List FT) (hmk : ∀ i, i < ks.length → madeF n (ks.getD i default) = true) : ∀ i, i ≤ ks.length → (tTo zs n ks i).1.length ≤ sizTo n ks i := fun i => by
  induction i with
  | zero => exact fun _ => Nat.le_refl _
  | succ i ih =>
    intro hi
    rw [tTo_succ zs n ks i hi, sizTo_succ n ks i hi]
    have h1 := ih (by omega)
    have h2 := tF_len zs n _ (hmk i hi)
    show ((tTo zs n ks i).1 ++ (tF zs n (ks.getD i default)).1).length ≤ _
    rw [List.length_append]; omega
/-- What told says of formulas of n layers. -/
def ToldSaid (a2 : Option Addr) (n2 cap2 : Nat) (zs : List Int) (B : Nat) (n : Nat) : Prop :=
  ∀ (f : FT) (cs : List Value) (w : World), FLies B w n f cs → B ≤ w.heap.size → Nums B w a2 zs → madeF n f = true → siz n f ≤ 100000 →
    Calls Tryd.prog 37 #[.agg cs.toArray, .slice a2 n2 cap2] w (TEnd (tF zs n f) w)
set_option maxHeartbeats 4000000 in
theorem told_0 (a2 : Option Addr) (n2 cap2 : Nat) (zs : List Int) (B : Nat) (n : Nat) (f : FT) (cs : List Value) (w : World) (h : FLies B w (n + 1) f cs) (hk : f.kind = 0) :
    Calls Tryd.prog 37 #[.agg cs.toArray, .slice a2 n2 cap2] w (TEnd (tF zs (n + 1) f) w) := by
  obtain ⟨ta, tcap, ka, kcap, rfl, _, _, _, _⟩ := h
  have e : tF zs (n + 1) f = ([true], true) := by rw [tF, if_pos hk]
  rw [e]
  have hA : Below w.heap.size w (w.alloc (.cells #[.int .i64 f.kind, .int .i64 f.c, .slice ta f.t.length tcap, .slice ka f.ks.length kcap] 27)) := (Below.refl _ w).alloc (Nat.le_refl _) _
  have b0 := (box_start w f.kind f.c ta ka f.t.length tcap f.ks.length kcap).c0
  have HE := Lib.hid (bo_new (w.alloc (.cells #[.int .i64 f.kind, .int .i64 f.c, .slice ta f.t.length tcap, .slice ka f.ks.length kcap] 27)) true hA.size)
  have HB : Hid (Below w.heap.size w ((w.alloc (.cells #[.int .i64 f.kind, .int .i64 f.c, .slice ta f.t.length tcap, .slice ka f.ks.length kcap] 27)).alloc (.cells #[.bool true] 4))) := Lib.hid (hA.alloc hA.size _)
  have hz : (w.alloc (.cells #[.int .i64 f.kind, .int .i64 f.c, .slice ta f.t.length tcap, .slice ka f.ks.length kcap] 27)).heap.size = w.heap.size + 1 := by simp
  rw [hz] at HE
  rw [hk] at *
  clear e hA hz hk
  generalize f.c = c at *
  generalize f.t.length = tl at *
  generalize f.ks.length = kl at *
  go_enter Tryd.func37, Tryd.ntmps37
  go_wp2_with fail
  go_ret2
  exact ⟨_, _, _, rfl, rfl, HE.out, HB.out⟩
set_option maxHeartbeats 4000000 in
theorem told_1 (a2 : Option Addr) (n2 cap2 : Nat) (zs : List Int) (B : Nat) (n : Nat) (f : FT) (cs : List Value) (w : World) (h : FLies B w (n + 1) f cs) (hk : f.kind = 1) :
    Calls Tryd.prog 37 #[.agg cs.toArray, .slice a2 n2 cap2] w (TEnd (tF zs (n + 1) f) w) := by
  obtain ⟨ta, tcap, ka, kcap, rfl, _, _, _, _⟩ := h
  have e : tF zs (n + 1) f = ([false], false) := by rw [tF, if_neg (by omega), if_pos hk]
  rw [e]
  have hA : Below w.heap.size w (w.alloc (.cells #[.int .i64 f.kind, .int .i64 f.c, .slice ta f.t.length tcap, .slice ka f.ks.length kcap] 27)) := (Below.refl _ w).alloc (Nat.le_refl _) _
  have b0 := (box_start w f.kind f.c ta ka f.t.length tcap f.ks.length kcap).c0
  have HE := Lib.hid (bo_new (w.alloc (.cells #[.int .i64 f.kind, .int .i64 f.c, .slice ta f.t.length tcap, .slice ka f.ks.length kcap] 27)) false hA.size)
  have HB : Hid (Below w.heap.size w ((w.alloc (.cells #[.int .i64 f.kind, .int .i64 f.c, .slice ta f.t.length tcap, .slice ka f.ks.length kcap] 27)).alloc (.cells #[.bool false] 4))) := Lib.hid (hA.alloc hA.size _)
  have hz : (w.alloc (.cells #[.int .i64 f.kind, .int .i64 f.c, .slice ta f.t.length tcap, .slice ka f.ks.length kcap] 27)).heap.size = w.heap.size + 1 := by simp
  rw [hz] at HE
  rw [hk] at *
  clear e hA hz hk
  generalize f.c = c at *
  generalize f.t.length = tl at *
  generalize f.ks.length = kl at *
  go_enter Tryd.func37, Tryd.ntmps37
  go_wp2_with fail
  go_ret2
  exact ⟨_, _, _, rfl, rfl, HE.out, HB.out⟩
set_option maxHeartbeats 4000000 in
theorem told_2 (a2 : Option Addr) (n2 cap2 : Nat) (zs : List Int) (hn2 : zs.length = n2) (hm2 : n2 ≤ 9223372036854775807) (B : Nat) (n : Nat) (f : FT) (cs : List Value) (w : World) (h : FLies B w (n + 1) f cs) (hB : B ≤ w.heap.size) (hz : Nums B w a2 zs) (hm : madeF (n + 1) f = true) (hk : f.kind = 2) :
    Calls Tryd.prog 37 #[.agg cs.toArray, .slice a2 n2 cap2] w (TEnd (tF zs (n + 1) f) w) := by
  obtain ⟨ta, tcap, ka, kcap, rfl, hT, _, _, _⟩ := h
  obtain ⟨hsn, hk0⟩ := made_snd hm hk
  rw [tF_2 hk]
  have hA : Below w.heap.size w (w.alloc (.cells #[.int .i64 f.kind, .int .i64 f.c, .slice ta f.t.length tcap, .slice ka f.ks.length kcap] 27)) := (Below.refl _ w).alloc (Nat.le_refl _) _
  have hbx := box_start w f.kind f.c ta ka f.t.length tcap f.ks.length kcap
  have b0 := hbx.c0
  have b1 := hbx.c1
  have b2 := hbx.c2
  have HV := Lib.hid (rv_any f.c ta f.t.length tcap f.t a2 n2 cap2 zs _ rfl hn2 hm2 ((hT.below (hA.mono hB)).mono (Nat.le_trans hB hA.size)) ((hz.below (hA.mono hB)).mono (Nat.le_trans hB hA.size)) hsn)
  have HA := Lib.hid hA
  rw [hk] at *
  clear hA hT hz hm hk hsn hbx hB hk0
  unfold leB
  generalize rvI zs (f.c, f.t) = rv at *
  generalize f.c = c at *
  generalize f.t.length = tl at *
  generalize f.ks.length = kl at *
  go_enter Tryd.func37, Tryd.ntmps37
  go_wp2_with fail
  generalize w.alloc (.cells #[.int .i64 2, .int .i64 c, .slice ta tl tcap, .slice ka kl kcap] 27) = W1 at *
  refine HV.out.mono ?_
  rintro e w2 ⟨r, rfl, hb2⟩
  have HB2 := Lib.hid (HA.out.trans (hb2.mono HA.out.size))
  clear hb2 HV b0 b1 b2
  go_wp2_with fail
  go_ret2
  exact ⟨_, _, _, rfl, rfl, BoRow.nil _ _, HB2.out⟩
set_option maxHeartbeats 4000000 in
theorem told_4 (a2 : Option Addr) (n2 cap2 : Nat) (zs : List Int) (B : Nat) (n : Nat) (IH : ToldSaid a2 n2 cap2 zs B n) (f : FT) (cs : List Value) (w : World) (h : FLies B w (n + 1) f cs) (hB : B ≤ w.heap.size) (hz : Nums B w a2 zs) (hm : madeF (n + 1) f = true) (hsz : siz (n + 1) f ≤ 100000) (h4 : f.kind = 4) :
    Calls Tryd.prog 37 #[.agg cs.toArray, .slice a2 n2 cap2] w (TEnd (tF zs (n + 1) f) w) := by
  obtain ⟨ta, tcap, ka, kcap, rfl, hT, hl1, hl2, hks⟩ := h
  obtain ⟨hk1, hkk⟩ := made_not hm h4
  have hs0 : siz n (f.ks.getD 0 default) ≤ siz (n + 1) f := by
    have e1 := sizTo_succ n f.ks 0 (by omega)
    have e2 := sizTo_len n f
    rw [hk1] at e2
    rw [sizTo_zero, show (0 : Nat) + 1 = 1 from rfl] at e1
    omega
  rw [tF_4 h4]
  have hmk := made_kids hm 0 (by omega)
  obtain ⟨b, off, c0, c1, c2, c3, rfl, hbl, g0, g1, g2, g3, hf⟩ := hks 0 (by omega)
  obtain ⟨ck, cc, cta, ctn, ctcap, cka, ckn, ckcap, rfl, rfl, rfl, rfl⟩ := hf.form
  have hA : Below w.heap.size w (w.alloc (.cells #[.int .i64 f.kind, .int .i64 f.c, .slice ta f.t.length tcap, .slice (some ⟨b, off, none⟩) f.ks.length kcap] 27)) := (Below.refl _ w).alloc (Nat.le_refl _) _
  have HIH := Lib.hid (IH (f.ks.getD 0 default) _ _ (hf.below (hA.mono hB)) (Nat.le_trans hB hA.size) (hz.below (hA.mono hB)) hmk (by omega))
  have HB := box_start w f.kind f.c ta (some ⟨b, off, none⟩) f.t.length tcap f.ks.length kcap
  have b0 := HB.c0
  have b3 := HB.c3
  have hbw : b < w.heap.size := by omega
  rw [← hA.cell (p := ⟨b, _, none⟩) hbw] at g0 g1 g2 g3
  have HA := Lib.hid hA
  clear hks hT hmk hf IH hz HB hA hs0 hsz hm hl1 hl2 hkk hB hbw hbl
  rw [h4] at *
  rw [hk1] at *
  clear hk1 h4
  generalize tF zs n (f.ks.getD 0 default) = q at *
  simp only [Nat.zero_mul, Nat.add_zero] at g0 g1 g2 g3
  generalize f.c = fc at *
  generalize f.t.length = ft at *
  go_enter Tryd.func37, Tryd.ntmps37
  go_wp2_with fail
  generalize w.alloc (.cells #[.int .i64 4, .int .i64 fc, .slice ta ft tcap, .slice (some ⟨b, off, none⟩) 1 kcap] 27) = W1 at *
  refine HIH.out.mono ?_
  rintro e w2 ⟨a3, n3, c3, rfl, hn3, hr3, hb3⟩
  have HE : Hid (TEnd (q.1, !q.2) w (.returned (.tuple #[.slice a3 n3 c3, .bool (!q.2)])) w2) := Lib.hid ⟨_, _, _, rfl, hn3, hr3.lower HA.out.size, HA.out.trans (hb3.mono HA.out.size)⟩
  clear hn3 hr3 hb3 HIH HA g0 g1 g2 g3 b0 b3
  go_wp2_with fail
  go_ret2
  exact HE.out
end Go.Proofs.YtelndcmfddbgiaaDoor
