/- lin.Value: the value of a form by values. formula.value. What the variables of a formula are: all clauses but the last one are true, the last one just if the formula is. -/
import Derived.Test.YtelndcmfddbgiaaDoorCt03
import Derived.Test.YtelndcmfddbgiaaDoorCt05
import Derived.Test.YtelndcmfddbgiaaDoorCt07
import Derived.Test.YtelndcmfddbgiaaDoorCt14
set_option linter.unusedVariables false
set_option linter.unusedSimpArgs false
namespace Go.Proofs.YtelndcmfddbgiaaDoor
open Go.RowKit

/-- The numbers zs lie in memory from a on, in a block below B. -/
def Nums (B : Nat) (w : World) (a : Option Addr) (zs : List Int) : Prop :=
  ∀ i, i < zs.length → ∃ b off, a = some ⟨b, off, none⟩ ∧ b < B ∧ w.cell? ⟨b, off + i, none⟩ = some (.int .i64 (zs.getD i 0))
theorem Nums.mono {B B' : Nat} {w : World} {a : Option Addr} {l : List Int} (h : Nums B w a l) (hb : B ≤ B') : Nums B' w a l := fun i hi => by
  obtain ⟨b, off, ha, hlt, h1⟩ := h i hi
  exact ⟨b, off, ha, Nat.lt_of_lt_of_le hlt hb, h1⟩
theorem Nums.below {B : Nat} {w w' : World} {a : Option Addr} {l : List Int} (h : Nums B w a l) (hb : Below B w w') : Nums B w' a l := fun i hi => by
  obtain ⟨b, off, ha, hlt, h1⟩ := h i hi
  exact ⟨b, off, ha, hlt, by rw [hb.cell (p := ⟨b, _, none⟩) hlt]; exact h1⟩

/-- A variable's value. -/
def valOf (zs : List Int) (v : Int) : Int := if v < zs.length then zs.getD v.toNat 0 else 0

/-- The numbers' own variable: a block that holds the slice. -/
def Held (w : World) (pv : Nat) (a : Option Addr) (n cap : Nat) : Prop := pv < w.heap.size ∧ w.cell? ⟨pv, 0, none⟩ = some (.slice a n cap)

/-- A form's value so far. -/
def sAt (c : Int) (l : List (Int × Int)) (zs : List Int) : Nat → Int
  | 0 => c
  | i + 1 => sAt c l zs i + (l.getD i (0, 0)).2 * valOf zs (l.getD i (0, 0)).1
def near (l : List (Int × Int)) (zs : List Int) (i : Nat) : Bool := wi (valOf zs (l.getD i (0, 0)).1) 16777216

theorem sAt_in (c : Int) (l : List (Int × Int)) (zs : List Int) (hc : -1073741824 ≤ c ∧ c ≤ 1073741824) : ∀ i, i ≤ 64 → (∀ j, j < i → -1073741824 ≤ (l.getD j (0, 0)).2 ∧ (l.getD j (0, 0)).2 ≤ 1073741824) → (∀ j, j < i → near l zs j = true) →
    -(1073741824 + i * 18014398509481984 : Int) ≤ sAt c l zs i ∧ sAt c l zs i ≤ 1073741824 + i * 18014398509481984
  | 0, _, _, _ => by unfold sAt; omega
  | i + 1, hi, hk, hx => by
    have h1 := sAt_in c l zs hc i (by omega) (fun j hj => hk j (by omega)) (fun j hj => hx j (by omega))
    have h2 := hk i (by omega)
    have h3 := hx i (by omega)
    unfold near wi at h3
    have h3 : -16777216 ≤ valOf zs (l.getD i (0, 0)).1 ∧ valOf zs (l.getD i (0, 0)).1 ≤ 16777216 := by simpa using h3
    have h4 : ((l.getD i (0, 0)).2 * valOf zs (l.getD i (0, 0)).1).natAbs ≤ 1073741824 * 16777216 := by
      rw [Int.natAbs_mul]; exact Nat.mul_le_mul (by omega) (by omega)
    unfold sAt
    omega

/-- What the closure has of the world. -/
def VInv (pv q : Nat) (a2 : Option Addr) (n2 cap2 : Nat) (P : Int → Prop) (W : World) : Prop := Held W pv a2 n2 cap2 ∧ ∃ s, P s ∧ Own W q s
theorem VInv.alloc {pv q : Nat} {a2 : Option Addr} {n2 cap2 : Nat} {P : Int → Prop} {W : World} (h : VInv pv q a2 n2 cap2 P W) (o : Obj) : VInv pv q a2 n2 cap2 P (W.alloc o) := by
  obtain ⟨⟨h1, h2⟩, s, hp, ho⟩ := h
  have hb := (Below.refl W.heap.size W).alloc (Nat.le_refl _) o
  exact ⟨⟨Nat.lt_of_lt_of_le h1 hb.size, by rw [hb.cell (p := ⟨pv, 0, none⟩) h1]; exact h2⟩, s, hp, ho.alloc o⟩
theorem Held.below {w w' : World} {pv q : Nat} {a : Option Addr} {n cap : Nat} (h : Held w pv a n cap) (hq : pv < q) (hb : Below q w w') : Held w' pv a n cap :=
  ⟨Nat.lt_of_lt_of_le h.1 hb.size, by rw [hb.cell (p := ⟨pv, 0, none⟩) hq]; exact h.2⟩

end Go.Proofs.YtelndcmfddbgiaaDoor

namespace Go.Proofs.YtelndcmfddbgiaaDoor
open Go.RowKit

def vStep (b : Bool) (p q : Bool × Bool) : Bool × Bool := (if (q.1 != b) = true then !b else p.1, p.2 && q.2)
/-- A formula's value, and whether the values of its variables may be. -/
def vOf (zs : List Int) : Nat → FT → Bool × Bool
  | 0, _ => (false, false)
  | n + 1, f =>
    if f.kind = 0 then (true, true)
    else if f.kind = 1 then (false, true)
    else if f.kind = 2 ∨ f.kind = 3 then
      if ∀ i, i < f.t.length → near f.t zs i = true then (decide (sAt f.c f.t zs f.t.length = 0) || (decide (sAt f.c f.t zs f.t.length < 0) && decide (f.kind = 2)), true) else (true, false)
    else if f.kind = 4 then (!(vOf zs n (f.ks.getD 0 default)).1, (vOf zs n (f.ks.getD 0 default)).2)
    else (f.ks.map (vOf zs n)).foldl (vStep (f.kind == 5)) (f.kind == 5, true)
def vTo (zs : List Int) (n : Nat) (b : Bool) (ks : List FT) (k : Nat) : Bool × Bool := ((ks.take k).map (vOf zs n)).foldl (vStep b) (b, true)
theorem vTo_succ (zs : List Int) (n : Nat) (b : Bool) (ks : List FT) (k : Nat) (h : k < ks.length) : vTo zs n b ks (k + 1) = vStep b (vTo zs n b ks k) (vOf zs n (ks.getD k default)) := by
  unfold vTo
  rw [List.take_succ_eq_append_getElem h, List.map_append, List.foldl_append]
  simp [List.getD_eq_getElem?_getD, h]
theorem ownF_form {f : FT} (h : ownF f = true) (hk : f.kind = 2 ∨ f.kind = 3) : snd f.c f.t = true := by
  unfold ownF ownV at h
  rw [if_neg (by omega), if_pos hk] at h
  simp at h
  exact h.1
theorem ownF_not {f : FT} (h : ownF f = true) (hk : f.kind = 4) : f.ks.length = 1 := by
  unfold ownF ownV at h
  rw [if_neg (by omega), if_neg (by omega), if_pos hk] at h
  simp at h
  omega
theorem ownF_kind {f : FT} (h : ownF f = true) : f.kind = 0 ∨ f.kind = 1 ∨ (f.kind = 2 ∨ f.kind = 3) ∨ f.kind = 4 ∨ f.kind = 5 ∨ f.kind = 6 := by
  by_cases hk : f.kind = 0 ∨ f.kind = 1 ∨ (f.kind = 2 ∨ f.kind = 3) ∨ f.kind = 4 ∨ f.kind = 5 ∨ f.kind = 6
  · exact hk
  · unfold ownF ownV at h
    rw [if_neg (by omega), if_neg (by omega), if_neg (by omega), if_neg (by omega)] at h
    cases h
theorem sndF_split {n : Nat} {f : FT} (h : sndF (n + 1) f = true) : ownF f = true ∧ ∀ i, i < f.ks.length → sndF n (f.ks.getD i default) = true := by
  have : (ownF f && decide (∀ i, i < f.ks.length → sndF n (f.ks.getD i default) = true)) = true := h
  rw [Bool.and_eq_true] at this
  exact ⟨this.1, of_decide_eq_true this.2⟩

/-- What formula.value answers. -/
def ValEnd (B : Nat) (p : Bool × Bool) (w : World) (e : Ending) (w' : World) : Prop := e = .returned (.tuple #[.bool p.1, .bool p.2]) ∧ Below B w w'
end Go.Proofs.YtelndcmfddbgiaaDoor

set_option linter.unusedVariables false
set_option linter.unusedSimpArgs false
namespace Go.Proofs.YtelndcmfddbgiaaDoor
set_option maxRecDepth 100000

def rvI (zs : List Int) (x : Int × List (Int × Int)) : Int := if ∀ i, i < x.2.length → near x.2 zs i = true then sAt x.1 x.2 zs x.2.length else 0
def leB (zs : List Int) (x : Int × List (Int × Int)) : Bool := decide (rvI zs x ≤ 0)
def tStep (a : List Bool × Bool × Bool) (q : List Bool × Bool) : List Bool × Bool × Bool := (a.1 ++ q.1, a.2.1 && q.2, a.2.2 || q.2)
/-- The values of the variables of a formula's parts; its own. -/
def tF (zs : List Int) : Nat → FT → List Bool × Bool
  | 0, _ => ([], false)
  | n + 1, f =>
    if f.kind = 0 then ([true], true)
    else if f.kind = 1 then ([false], false)
    else if f.kind = 2 then ([], leB zs (f.c, f.t))
    else if f.kind = 4 then ((tF zs n (f.ks.getD 0 default)).1, !(tF zs n (f.ks.getD 0 default)).2)
    else
      let r := (f.ks.map (tF zs n)).foldl tStep ([], true, false)
      let own := if f.kind = 5 then r.2.1 else r.2.2
      (r.1 ++ [own], own)
def tTo (zs : List Int) (n : Nat) (ks : List FT) (i : Nat) : List Bool × Bool × Bool := ((ks.take i).map (tF zs n)).foldl tStep ([], true, false)
theorem tTo_zero (zs : List Int) (n : Nat) (ks : List FT) : tTo zs n ks 0 = ([], true, false) := rfl
theorem tTo_succ (zs : List Int) (n : Nat) (ks : List FT) (k : Nat) (h : k < ks.length) : tTo zs n ks (k + 1) = tStep (tTo zs n ks k) (tF zs n (ks.getD k default)) := by
  unfold tTo
  rw [List.take_succ_eq_append_getElem h, List.map_append, List.foldl_append]
  simp [List.getD_eq_getElem?_getD, h]
theorem tF_x {zs : List Int} {n : Nat} {f : FT} (h : f.kind = 5 ∨ f.kind = 6) : tF zs (n + 1) f = ((tTo zs n f.ks f.ks.length).1 ++ [if f.kind = 5 then (tTo zs n f.ks f.ks.length).2.1 else (tTo zs n f.ks f.ks.length).2.2], if f.kind = 5 then (tTo zs n f.ks f.ks.length).2.1 else (tTo zs n f.ks f.ks.length).2.2) := by
  rw [tF, if_neg (by omega), if_neg (by omega), if_neg (by omega), if_neg (by omega)]
  unfold tTo
  rw [List.take_length]
theorem tF_4 {zs : List Int} {n : Nat} {f : FT} (h : f.kind = 4) : tF zs (n + 1) f = ((tF zs n (f.ks.getD 0 default)).1, !(tF zs n (f.ks.getD 0 default)).2) := by
  rw [tF, if_neg (by omega), if_neg (by omega), if_neg (by omega), if_pos h]
theorem tF_2 {zs : List Int} {n : Nat} {f : FT} (h : f.kind = 2) : tF zs (n + 1) f = ([], leB zs (f.c, f.t)) := by
  rw [tF, if_neg (by omega), if_neg (by omega), if_pos h]
/-- A vector that holds these from N on. -/
def Agr (V : List Bool) (N : Nat) (l : List Bool) : Prop := ∀ i, i < l.length → V[N + i]? = l[i]?
theorem Agr.left {V : List Bool} {N : Nat} {a b : List Bool} (h : Agr V N (a ++ b)) : Agr V N a := fun i hi => by
  rw [h i (by rw [List.length_append]; omega), List.getElem?_append_left hi]
theorem Agr.right {V : List Bool} {N : Nat} {a b : List Bool} (h : Agr V N (a ++ b)) : Agr V (N + a.length) b := fun i hi => by
  have := h (a.length + i) (by rw [List.length_append]; omega)
  rw [List.getElem?_append_right (by omega), show a.length + i - a.length = i by omega] at this
  rw [Nat.add_assoc]
  exact this
theorem lit_at {V : List Bool} {k : Nat} {b : Bool} (h : V[k]? = some b) : Prp.litV V ((k + 1 : Nat) : Int) = b ∧ Prp.litV V (-((k + 1 : Nat) : Int)) = !b := by
  have hk : k < V.length := (List.getElem?_eq_some_iff.1 h).1
  have e1 : (((k + 1 : Nat) : Int) - 1).toNat = k := by omega
  have e2 : (-(-((k + 1 : Nat) : Int)) - 1).toNat = k := by omega
  constructor
  · unfold Prp.litV
    rw [if_pos (by omega), e1, List.getD_eq_getElem?_getD, h, decide_eq_true (by omega)]
    rfl
  · unfold Prp.litV
    rw [if_neg (by omega), e2, List.getD_eq_getElem?_getD, h, decide_eq_true (by omega)]
    rfl
/-- Each form of a formula has a place. -/
def hasA (am : List (Int × List (Int × Int))) : Nat → FT → Prop
  | 0, _ => False
  | n + 1, f => (f.kind = 2 → atN am (f.c, f.t) ≠ 0) ∧ ∀ i, i < f.ks.length → hasA am n (f.ks.getD i default)
theorem hasA_mono {am bm : List (Int × List (Int × Int))} (h : ∀ x, atN am x ≠ 0 → atN bm x ≠ 0) : ∀ {n : Nat} {f : FT}, hasA am n f → hasA bm n f
  | 0, _, hh => hh
  | n + 1, f, hh => ⟨fun h2 => h _ (hh.1 h2), fun i hi => hasA_mono h (hh.2 i hi)⟩
theorem addA_mono {am : List (Int × List (Int × Int))} {y x : Int × List (Int × Int)} (h : atN am x ≠ 0) : atN (addA am y) x ≠ 0 := by
  unfold addA
  split
  · rw [atN_snoc, if_neg h]; exact h
  · exact h
theorem addA_has (am : List (Int × List (Int × Int))) (y : Int × List (Int × Int)) : atN (addA am y) y ≠ 0 := by
  unfold addA
  split
  · rename_i h
    rw [atN_snoc, if_pos h, if_pos rfl]; omega
  · assumption
theorem gatF_mono {x : Int × List (Int × Int)} : ∀ (n : Nat) (f : FT) (am : List (Int × List (Int × Int))), atN am x ≠ 0 → atN (gatF n f am) x ≠ 0
  | 0, f, am, h => h
  | n + 1, f, am, h => by
    have hto : ∀ i, i ≤ f.ks.length → atN (gatTo n f.ks am i) x ≠ 0 := fun i => by
      induction i with
      | zero => exact fun _ => h
      | succ i ih =>
        intro hi
        rw [gatTo_succ n f.ks am i hi]
        exact gatF_mono n _ _ (ih (by omega))
    rw [gatTo_len]
    split
    · exact addA_mono (hto _ (Nat.le_refl _))
    · exact hto _ (Nat.le_refl _)
theorem gatTo_mono {x : Int × List (Int × Int)} (n : Nat) (ks : List FT) (am : List (Int × List (Int × Int))) {i : Nat} : ∀ j, i ≤ j → j ≤ ks.length → atN (gatTo n ks am i) x ≠ 0 → atN (gatTo n ks am j) x ≠ 0
  | 0, h1, _, h => by
    obtain rfl : i = 0 := by omega
    exact h
  | j + 1, h1, h2, h => by
    by_cases e : i = j + 1
    · subst e; exact h
    · rw [gatTo_succ n ks am j h2]
      exact gatF_mono n _ _ (gatTo_mono n ks am j (by omega) (by omega) h)
theorem gat_has : ∀ (n : Nat) (f : FT) (am : List (Int × List (Int × Int))), madeF n f = true → hasA (gatF n f am) n f
  | 0, f, am, hm => by cases hm
  | n + 1, f, am, hm => by
    have hk := made_kids hm
    have hto : ∀ i, i < f.ks.length → hasA (gatTo n f.ks am f.ks.length) n (f.ks.getD i default) := fun i hi => by
      have := gat_has n (f.ks.getD i default) (gatTo n f.ks am i) (hk i hi)
      rw [← gatTo_succ n f.ks am i hi] at this
      exact hasA_mono (fun x hx => gatTo_mono n f.ks am f.ks.length hi (Nat.le_refl _) hx) this
    rw [gatTo_len]
    by_cases h2 : f.kind = 2
    · rw [if_pos h2]
      exact ⟨fun _ => addA_has _ _, fun i hi => hasA_mono (fun x hx => addA_mono hx) (hto i hi)⟩
    · rw [if_neg h2]
      exact ⟨fun h => absurd h h2, hto⟩
/-- What is made of a formula, by such values. -/
structure TSv (V : List Bool) (N : Nat) (cl : List (List Int)) (p : MkR) (q : List Bool × Bool) : Prop where
  n : p.n = N + q.1.length
  lit : Prp.litV V p.lit = q.2
  neg : Prp.litV V (-p.lit) = !q.2
  cl : ∀ c ∈ p.cl, c ∈ cl ∨ Prp.anyV V c = true
theorem any_one (V : List Bool) (x : Int) : Prp.anyV V [x] = Prp.litV V x := by simp [Prp.anyV]
theorem any_two (V : List Bool) (x y : Int) : Prp.anyV V [x, y] = (Prp.litV V x || Prp.litV V y) := by simp [Prp.anyV]
theorem ts (am : List (Int × List (Int × Int))) (zs : List Int) (V : List Bool) (hA : ∀ k (h : k < am.length), V[k]? = some (leB zs am[k])) : ∀ (n : Nat) (f : FT) (N : Nat) (cl : List (List Int)), madeF n f = true → hasA am n f → Agr V N (tF zs n f).1 → TSv V N cl (mkF am n f N cl) (tF zs n f)
  | 0, f, N, cl, hm, _, _ => by cases hm
  | n + 1, f, N, cl, hm, hh, hv => by
    have hmk := made_kids hm
    rcases made_kind hm with hk | hk | hk | hk | hk | hk
    · have e : tF zs (n + 1) f = ([true], true) := by rw [tF, if_pos hk]
      have h0 := made_none hm (.inl hk)
      rw [e] at hv ⊢
      rw [mkF_x ⟨by omega, by omega⟩, hk, h0, mkTo_zero, ownC_0]
      obtain ⟨h1, h2⟩ := lit_at (hv 0 (by simp))
      rw [Nat.add_zero] at h1 h2
      refine ⟨rfl, h1, h2, fun c hc => ?_⟩
      rcases List.mem_append.1 hc with hc | hc
      · exact .inl hc
      · rw [List.mem_singleton] at hc
        subst hc
        exact .inr (by rw [any_one]; exact h1)
    · have e : tF zs (n + 1) f = ([false], false) := by rw [tF, if_neg (by omega), if_pos hk]
      have h0 := made_none hm (.inr hk)
      rw [e] at hv ⊢
      rw [mkF_x ⟨by omega, by omega⟩, hk, h0, mkTo_zero, ownC_1]
      obtain ⟨h1, h2⟩ := lit_at (hv 0 (by simp))
      rw [Nat.add_zero] at h1 h2
      refine ⟨rfl, h1, h2, fun c hc => ?_⟩
      rcases List.mem_append.1 hc with hc | hc
      · exact .inl hc
      · rw [List.mem_singleton] at hc
        subst hc
        exact .inr (by rw [any_one]; exact h2)
    · rw [mkF_2 hk, tF_2 hk]
      have h0 := hh.1 hk
      obtain ⟨k, hkk⟩ : ∃ k, atN am (f.c, f.t) = k + 1 := ⟨atN am (f.c, f.t) - 1, by omega⟩
      have hg := atN_get am _ k hkk
      obtain ⟨hlt, hge⟩ := List.getElem?_eq_some_iff.1 hg
      obtain ⟨h1, h2⟩ := lit_at (hA k hlt)
      rw [hge] at h1 h2
      refine ⟨rfl, ?_, ?_, fun c hc => .inl hc⟩
      · show Prp.litV V ((atN am (f.c, f.t) : Nat) : Int) = _
        rw [hkk]; exact h1
      · show Prp.litV V (-((atN am (f.c, f.t) : Nat) : Int)) = _
        rw [hkk]; exact h2
    · rw [tF_4 hk] at hv ⊢
      rw [mkF_4 hk]
      have hl := (made_not hm hk).1
      obtain ⟨t1, t2, t3, t4⟩ := ts am zs V hA n (f.ks.getD 0 default) N cl (hmk 0 (by omega)) (hh.2 0 (by omega)) hv
      exact ⟨t1, t3, by show Prp.litV V (- -(mkF am n (f.ks.getD 0 default) N cl).lit) = !!_; rw [Int.neg_neg, t2, Bool.not_not], t4⟩
    all_goals
      rw [tF_x (by omega)] at hv ⊢
      rw [mkF_x ⟨by omega, by omega⟩]
      have hto : ∀ i, i ≤ f.ks.length → Agr V N (tTo zs n f.ks i).1 → (mkTo am n f.ks N cl i).1 = N + (tTo zs n f.ks i).1.length ∧ (tTo zs n f.ks i).2.1 = (mkTo am n f.ks N cl i).2.2.all (Prp.litV V) ∧ (tTo zs n f.ks i).2.2 = (mkTo am n f.ks N cl i).2.2.any (Prp.litV V) ∧ (∀ l ∈ (mkTo am n f.ks N cl i).2.2, Prp.litV V (-l) = !Prp.litV V l) ∧ ∀ c ∈ (mkTo am n f.ks N cl i).2.1, c ∈ cl ∨ Prp.anyV V c = true := fun i => by
        induction i with
        | zero => exact fun _ _ => ⟨rfl, rfl, rfl, fun l hl => (by cases hl), fun c hc => .inl hc⟩
        | succ i ih =>
          intro hi ha
          rw [tTo_succ zs n f.ks i hi] at ha ⊢
          rw [mkTo_succ am n f.ks N cl i hi]
          have ha : Agr V N ((tTo zs n f.ks i).1 ++ (tF zs n (f.ks.getD i default)).1) := ha
          obtain ⟨a1, a2, a3, a4, a5⟩ := ih (by omega) ha.left
          have hr := ha.right
          rw [← a1] at hr
          obtain ⟨t1, t2, t3, t4⟩ := ts am zs V hA n (f.ks.getD i default) (mkTo am n f.ks N cl i).1 (mkTo am n f.ks N cl i).2.1 (hmk i hi) (hh.2 i hi) hr
          refine ⟨?_, ?_, ?_, fun l hl => ?_, fun c hc => ?_⟩
          · show (mkF am n (f.ks.getD i default) (mkTo am n f.ks N cl i).1 (mkTo am n f.ks N cl i).2.1).n = N + ((tTo zs n f.ks i).1 ++ (tF zs n (f.ks.getD i default)).1).length
            rw [t1, a1, List.length_append]; omega
          · show ((tTo zs n f.ks i).2.1 && (tF zs n (f.ks.getD i default)).2) = ((mkTo am n f.ks N cl i).2.2 ++ [(mkF am n (f.ks.getD i default) (mkTo am n f.ks N cl i).1 (mkTo am n f.ks N cl i).2.1).lit]).all (Prp.litV V)
            rw [List.all_append, ← a2, ← t2]; simp
          · show ((tTo zs n f.ks i).2.2 || (tF zs n (f.ks.getD i default)).2) = ((mkTo am n f.ks N cl i).2.2 ++ [(mkF am n (f.ks.getD i default) (mkTo am n f.ks N cl i).1 (mkTo am n f.ks N cl i).2.1).lit]).any (Prp.litV V)
            rw [List.any_append, ← a3, ← t2]; simp
          · rcases List.mem_append.1 hl with hl | hl
            · exact a4 l hl
            · rw [List.mem_singleton] at hl
              subst hl
              rw [t3, t2]
          · rcases t4 c hc with hc | hc
            · exact a5 c hc
            · exact .inr hc
      obtain ⟨a1, a2, a3, a4, a5⟩ := hto f.ks.length (Nat.le_refl _) hv.left
      have hr := hv.right
      rw [← a1] at hr
      obtain ⟨h1, h2⟩ := lit_at (hr 0 (by simp))
      rw [Nat.add_zero] at h1 h2
      generalize mkTo am n f.ks N cl f.ks.length = p at *
      generalize tTo zs n f.ks f.ks.length = q at *
    · simp only [hk, if_true] at h1 h2 ⊢
      rw [ownC_5]
      refine ⟨by rw [List.length_append, ← Nat.add_assoc, ← a1]; rfl, h1, h2, fun c hc => ?_⟩
      rcases List.mem_append.1 hc with hc | hc
      · exact a5 c hc
      · refine .inr ?_
        unfold joinL at hc
        rcases List.mem_append.1 hc with hc | hc
        · obtain ⟨l, hl, rfl⟩ := List.mem_map.1 hc
          rw [any_two, h2, Int.one_mul, a2]
          cases hb : p.2.2.all (Prp.litV V) with
          | false => rfl
          | true => rw [List.all_eq_true.1 hb l hl]; rfl
        · rw [List.mem_singleton] at hc
          subst hc
          unfold Prp.anyV
          rw [List.any_cons, h1, a2]
          cases hb : p.2.2.all (Prp.litV V) with
          | true => rfl
          | false =>
            rw [Bool.false_or]
            obtain ⟨l, hl, hf⟩ := List.all_eq_false.1 hb
            refine List.any_eq_true.2 ⟨-1 * l, List.mem_map.2 ⟨l, hl, rfl⟩, ?_⟩
            rw [Int.neg_one_mul, a4 l hl]
            simpa using hf
    · have h5 : ¬ f.kind = 5 := by omega
      simp only [hk, show ¬ ((6 : Int) = 5) by decide, if_false] at h1 h2 ⊢
      rw [ownC_6]
      refine ⟨by rw [List.length_append, ← Nat.add_assoc, ← a1]; rfl, h1, h2, fun c hc => ?_⟩
      rcases List.mem_append.1 hc with hc | hc
      · exact a5 c hc
      · refine .inr ?_
        unfold joinL at hc
        rcases List.mem_append.1 hc with hc | hc
        · obtain ⟨l, hl, rfl⟩ := List.mem_map.1 hc
          rw [any_two, Int.neg_neg, h1, Int.neg_one_mul, a4 l hl, a3]
          cases hb : p.2.2.any (Prp.litV V) with
          | true => rfl
          | false =>
            rw [Bool.false_or]
            have := List.any_eq_false.1 hb l hl
            simpa using this
        · rw [List.mem_singleton] at hc
          subst hc
          unfold Prp.anyV
          rw [List.any_cons, h2, a3]
          cases hb : p.2.2.any (Prp.litV V) with
          | false => rfl
          | true =>
            obtain ⟨l, hl, hf⟩ := List.any_eq_true.1 hb
            rw [Bool.not_true, Bool.false_or]
            exact List.any_eq_true.2 ⟨- -1 * l, List.mem_map.2 ⟨l, hl, rfl⟩, by rw [Int.neg_neg, Int.one_mul]; exact hf⟩
end Go.Proofs.YtelndcmfddbgiaaDoor
