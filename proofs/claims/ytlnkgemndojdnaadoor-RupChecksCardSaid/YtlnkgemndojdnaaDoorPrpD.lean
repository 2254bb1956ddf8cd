/- The follower's look. -/
import Derived.Test.YtlnkgemndojdnaaDoorPrpC
set_option linter.unusedVariables false
set_option linter.unusedSimpArgs false
namespace Go.Proofs.YtlnkgemndojdnaaDoor
set_option maxRecDepth 100000
open Go.RowKit

theorem nat_xor_one (x : Nat) : x ^^^ 1 = oth x := by
  have h1 : (x ^^^ 1) / 2 = x / 2 := by rw [Nat.xor_div_two]; simp
  have h2 : (x ^^^ 1) % 2 = (x + 1) % 2 := by
    have h := Nat.xor_mod_two_pow (a := x) (b := 1) (n := 1)
    have e : x % 2 = 0 ∨ x % 2 = 1 := by omega
    simp only [Nat.pow_one] at h
    rw [h]
    rcases e with e | e <;> rw [e]
    · show 1 = _; omega
    · show 0 = _; omega
  unfold oth
  split <;> omega
theorem bits_xor_one (x : Nat) (hx : x < 1073741824) : bits .xor .i64 (x : Int) 1 = (oth x : Nat) := by
  have h2 : x ^^^ 1 = oth x := nat_xor_one x
  have h3 : oth x < 1073741825 := by unfold oth; split <;> omega
  have e : (BitVec.ofInt 64 (x : Int) ^^^ BitVec.ofInt 64 1).toNat = oth x := by
    have e1 : BitVec.ofInt 64 (x : Int) = BitVec.ofNat 64 x := by simp
    have e2 : BitVec.ofInt 64 1 = BitVec.ofNat 64 1 := by decide
    rw [e1, e2, BitVec.toNat_xor, BitVec.toNat_ofNat, BitVec.toNat_ofNat, Nat.mod_eq_of_lt (by omega)]
    exact h2
  have hw : IntKind.i64.wrap (oth x : Nat) = (oth x : Nat) := IntWalk.i64_in _ (by omega)
  show IntKind.i64.wrap ((BitVec.ofInt 64 (x : Int) ^^^ BitVec.ofInt 64 1).toNat : Int) = _
  rw [e, hw]

def Nums (B : Nat) (w : World) (a : Option Addr) (zs : List Int) : Prop :=
  ∀ i, i < zs.length → ∃ b off, a = some ⟨b, off, none⟩ ∧ b < B ∧ w.cell? ⟨b, off + i, none⟩ = some (.int .i64 (zs.getD i 0))
theorem Nums.mono {B B' : Nat} {w : World} {a : Option Addr} {l : List Int} (h : Nums B w a l) (hb : B ≤ B') : Nums B' w a l := fun i hi => by
  obtain ⟨b, off, ha, hlt, h1⟩ := h i hi
  exact ⟨b, off, ha, Nat.lt_of_lt_of_le hlt hb, h1⟩
theorem Nums.below {B : Nat} {w w' : World} {a : Option Addr} {l : List Int} (h : Nums B w a l) (hb : Below B w w') : Nums B w' a l := fun i hi => by
  obtain ⟨b, off, ha, hlt, h1⟩ := h i hi
  exact ⟨b, off, ha, hlt, by rw [hb.cell (p := ⟨b, _, none⟩) hlt]; exact h1⟩
/-- Clauses that lie in memory. -/
def CLies (B : Nat) (w : World) (a : Option Addr) (cs : List (List Int)) : Prop :=
  ∀ i, i < cs.length → ∃ b off ta tcap, a = some ⟨b, off, none⟩ ∧ b < B ∧ w.cell? ⟨b, off + i, none⟩ = some (.slice ta (cs.getD i []).length tcap) ∧ Nums B w ta (cs.getD i [])
theorem CLies.mono {B B' : Nat} {w : World} {a : Option Addr} {cs : List (List Int)} (h : CLies B w a cs) (hb : B ≤ B') : CLies B' w a cs := fun i hi => by
  obtain ⟨b, off, ta, tcap, ha, hlt, h1, h2⟩ := h i hi
  exact ⟨b, off, ta, tcap, ha, Nat.lt_of_lt_of_le hlt hb, h1, h2.mono hb⟩
theorem CLies.below {B : Nat} {w w' : World} {a : Option Addr} {cs : List (List Int)} (h : CLies B w a cs) (hb : Below B w w') : CLies B w' a cs := fun i hi => by
  obtain ⟨b, off, ta, tcap, ha, hlt, h1, h2⟩ := h i hi
  exact ⟨b, off, ta, tcap, ha, hlt, by rw [hb.cell (p := ⟨b, _, none⟩) hlt]; exact h1, h2.below hb⟩
structure Ctx (n : Nat) (cs : List (List Int)) (ls : List Int) : Prop where
  sane : Sane n cs ls
  hn : n ≤ 8192
  hm : cs.length ≤ 16384
  hk : ∀ c, c ∈ cs → c.length ≤ 131072
structure St (B n : Nat) (cs : List (List Int)) (ls : List Int) (p : FolS) (w : World) (A Wd H T S : Nat → Int) (Q : List Int) (L : Int → List Nat) (R : List Nat) : Prop where
  fol : Fol B n cs.length p w A Wd H T S Q
  asg : Asg n cs ls A Q
  wat : Wat cs n A Q Wd H T S L R
  qb : Q.length + zeros A n ≤ n
  cl : CLies B w p.ca cs
structure Rest (cs : List (List Int)) (n : Nat) (A : Nat → Int) (Q : List Int) (Wd T : Nat → Int) (d cur : Int) (R : List Nat) : Prop where
  ch : Ch T cur R
  nd : R.Nodup
  mem : ∀ y, y ∈ R → isW cs y ∧ Wd y = d
  dr : inR n d
  f : va A d = -1
  dd : dead A Q d
def Grow (A A' : Nat → Int) : Prop := ∀ l : Int, l ≠ 0 → va A l = 1 → va A' l = 1
theorem Grow.refl (A : Nat → Int) : Grow A A := fun _ _ h => h
theorem Grow.trans {A B C : Nat → Int} (h : Grow A B) (k : Grow B C) : Grow A C := fun l h0 h1 => k l h0 (h l h0 h1)
def LookEnd (B n : Nat) (cs : List (List Int)) (ls : List Int) (p : FolS) (A T : Nat → Int) (Q : List Int) (d : Int) (x : Nat) (R : List Nat) (w : World) (e : Ending) (w' : World) : Prop :=
  Below B w w' ∧ ((e = .returned (.bool false) ∧ Conf cs ls) ∨ (e = .returned (.bool true) ∧ ∃ A' Wd' H' T' S' Q' L', St B n cs ls p w' A' Wd' H' T' S' Q' L' R ∧ Rest cs n A' Q' Wd' T' d (T x) R ∧ Grow A A' ∧ Q'.length + zeros A' n = Q.length + zeros A n))
section
variable {B n : Nat} {cs : List (List Int)} {ls : List Int} {p : FolS} {w w' : World} {A Wd H T S : Nat → Int} {Q : List Int} {L : Int → List Nat} {R : List Nat} {d : Int} {x : Nat}
theorem Rest.next (h : Rest cs n A Q Wd T d x (x :: R)) : Rest cs n A Q Wd T d (T x) R :=
  ⟨h.ch.2, (List.nodup_cons.1 h.nd).2, fun y hy => h.mem y (List.mem_cons_of_mem _ hy), h.dr, h.f, h.dd⟩
/-- What the three ways come to. -/
theorem look_true (h : St B n cs ls p w A Wd H T S Q L (x :: R)) (hr : Rest cs n A Q Wd T d x (x :: R)) (ho : va A (Wd (oth x)) = 1) : LookEnd B n cs ls p A T Q d x R w (.returned (.bool true)) w :=
  ⟨Below.refl _ _, .inr ⟨rfl, A, Wd, H, T, S, Q, L, ⟨h.fol, h.asg, h.wat.drop ho, h.qb, h.cl⟩, hr.next, Grow.refl _, rfl⟩⟩
theorem look_move (hs : Sane n cs ls) (h : St B n cs ls p w A Wd H T S Q L (x :: R)) (hr : Rest cs n A Q Wd T d x (x :: R)) {c : List Int} {m : Nat} (hc : cs[x / 2]? = some c) (hm : m < c.length)
    (hx1 : c.getD m 0 ≠ Wd (oth x)) (hx2 : 0 ≤ va A (c.getD m 0)) (hk : ∀ k, k < m → c.getD k 0 = Wd (2 * (x / 2)) ∨ c.getD k 0 = Wd (2 * (x / 2) + 1) ∨ va A (c.getD k 0) = -1)
    (hf : Fol B n cs.length p w' A (upd Wd x (c.getD m 0)) (upd H (place (c.getD m 0)) x) (upd T x (H (place (c.getD m 0)))) (upd S (x / 2) (m + 1 : Nat)) Q) (hb : Below B w w') : LookEnd B n cs ls p A T Q d x R w (.returned (.bool true)) w' := by
  have hx := hr.mem x List.mem_cons_self
  have hxR := (List.nodup_cons.1 hr.nd).1
  obtain ⟨L', hW⟩ := h.wat.move hs hxR hx.1 (by rw [hx.2]; exact hr.f) (by rw [hx.2]; exact hr.dd) hc hm hx1 hx2 hk
  have hn := hr.next
  exact ⟨hb, .inr ⟨rfl, A, _, _, _, _, Q, L', ⟨hf, h.asg, hW, h.qb, h.cl.below hb⟩, ⟨hn.ch.upd hxR, hn.nd, fun y hy => ⟨(hn.mem y hy).1, by rw [upd_ne (fun e => hxR (by rw [← e]; exact hy))]; exact (hn.mem y hy).2⟩, hn.dr, hn.f, hn.dd⟩, Grow.refl _, rfl⟩⟩
theorem look_make (hs : Sane n cs ls) (h : St B n cs ls p w A Wd H T S Q L (x :: R)) (hr : Rest cs n A Q Wd T d x (x :: R)) {c : List Int} (hc : cs[x / 2]? = some c)
    (hk : ∀ k, k < c.length → c.getD k 0 = Wd (2 * (x / 2)) ∨ c.getD k 0 = Wd (2 * (x / 2) + 1) ∨ va A (c.getD k 0) = -1) (hno : va A (Wd (oth x)) ≤ 0)
    {w1 : World} (hb1 : Below B w w1) {e : Ending} (hm : MakeEnd B n cs.length p A Wd H T (upd S (x / 2) (c.length : Nat)) Q (Wd (oth x)) w1 e w') : LookEnd B n cs ls p A T Q d x R w e w' := by
  have hx := hr.mem x List.mem_cons_self
  have hxR := (List.nodup_cons.1 hr.nd).1
  obtain ⟨r1, r2, r3, _⟩ := act_inR hs h.wat hx.1
  have hder : Der cs ls (Wd (oth x)) := h.wat.rule hs h.asg hx.1 hc (by rw [hx.2]; exact hr.f) hk
  obtain ⟨he, hb2, hm1, hm2⟩ := hm
  refine ⟨hb1.trans hb2, ?_⟩
  have ht := va_tri h.asg.tri (Wd (oth x))
  have hS : Wat cs n A Q Wd H T (upd S (x / 2) (c.length : Nat)) L (x :: R) := h.wat.seen hc (Nat.le_refl _) hk
  by_cases h0 : va A (Wd (oth x)) = 0
  · have hf := hm2 h0
    rw [h0] at he
    have hz := zeros_make r2 h0
    have hn := hr.next
    have hmo := fun y (hy : y ≠ 0) => va_mono r2.1 hy h0
    refine .inr ⟨he, setL A (Wd (oth x)), Wd, H, T, _, _, L, ⟨hf, h.asg.make r2 h0 hder, ?_, ?_, h.cl.below (hb1.trans hb2)⟩, ⟨hn.ch, hn.nd, hn.mem, hn.dr, (hmo _ hn.dr.1).2 hn.f, (dead_make h.asg r2.1 h0 hn.dr.1).2 hn.dd⟩, fun l hl hv => (hmo l hl).1 hv, ?_⟩
    · exact (hS.make hs h.asg r2 h0).drop (by rw [va_setL r2.1 r2.1, if_pos rfl])
    · have := h.qb; rw [List.length_append, List.length_singleton]; omega
    · rw [List.length_append, List.length_singleton]; omega
  · have h1 : va A (Wd (oth x)) = -1 := by omega
    rw [h1] at he
    exact .inl ⟨he, .inr ⟨_, hder, h.asg.snd _ r2.neg (by rw [va_neg r2.1, h1]; decide)⟩⟩
end
end Go.Proofs.YtlnkgemndojdnaaDoor
