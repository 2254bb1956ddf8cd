/- What follows from clauses and literals: the least set; the follower's states, without memory. -/
import Derived.WalkKit
set_option linter.unusedVariables false
set_option linter.unusedSimpArgs false
namespace Go.Proofs.YtlnkgemndojdnaaDoor
set_option maxRecDepth 100000

/-- A literal follows. -/
inductive Der (cs : List (List Int)) (ls : List Int) : Int → Prop
  | told {l : Int} : l ∈ ls → Der cs ls l
  | rule {c : List Int} {l : Int} : c ∈ cs → l ∈ c → (∀ x, x ∈ c → x ≠ l → Der cs ls (-x)) → Der cs ls l
def Conf (cs : List (List Int)) (ls : List Int) : Prop := [] ∈ cs ∨ ∃ l, Der cs ls l ∧ Der cs ls (-l)
def va (A : Nat → Int) (l : Int) : Int := if 0 < l then A l.toNat else -A (-l).toNat
def inR (n : Nat) (l : Int) : Prop := l ≠ 0 ∧ -(n : Int) ≤ l ∧ l ≤ n
def upd (f : Nat → Int) (i : Nat) (v : Int) : Nat → Int := fun j => if j = i then v else f j
theorem upd_same {f : Nat → Int} {i : Nat} {v : Int} : upd f i v i = v := if_pos rfl
theorem upd_ne {f : Nat → Int} {i j : Nat} {v : Int} (h : j ≠ i) : upd f i v j = f j := if_neg h
def setL (A : Nat → Int) (l : Int) : Nat → Int := if 0 < l then upd A l.toNat 1 else upd A (-l).toNat (-1)
theorem va_neg {A : Nat → Int} {l : Int} (h : l ≠ 0) : va A (-l) = -va A l := by
  unfold va
  by_cases h1 : 0 < l
  · rw [if_pos h1, if_neg (by omega), Int.neg_neg]
  · rw [if_neg h1, if_pos (by omega)]; omega
theorem va_setL {A : Nat → Int} {l x : Int} (hl : l ≠ 0) (hx : x ≠ 0) : va (setL A l) x = if x = l then 1 else if x = -l then -1 else va A x := by
  unfold va setL upd
  by_cases h1 : 0 < l <;> by_cases h2 : 0 < x <;> simp only [h1, h2, if_true, if_false]
  · by_cases e : x = l
    · subst e; simp
    · rw [if_neg (by omega), if_neg e, if_neg (by omega)]
  · by_cases e : x = -l
    · rw [if_pos (by omega), if_neg (by omega), if_pos e]
    · rw [if_neg (by omega), if_neg (by omega), if_neg e]
  · by_cases e : x = -l
    · rw [if_pos (by omega), if_neg (by omega), if_pos e]
    · rw [if_neg (by omega), if_neg (by omega), if_neg e]
  · by_cases e : x = l
    · subst e; simp
    · rw [if_neg (by omega), if_neg e, if_neg (by omega)]
theorem inR.neg {n : Nat} {l : Int} (h : inR n l) : inR n (-l) := ⟨by have := h.1; omega, by have := h.2.2; omega, by have := h.2.1; omega⟩

structure Sane (n : Nat) (cs : List (List Int)) (ls : List Int) : Prop where
  hc : ∀ c, c ∈ cs → ∀ x, x ∈ c → inR n x
  hl : ∀ l, l ∈ ls → inR n l
theorem Der.inR {n : Nat} {cs : List (List Int)} {ls : List Int} (hs : Sane n cs ls) {l : Int} (h : Der cs ls l) : inR n l := by
  cases h with
  | told h => exact hs.hl _ h
  | rule hc hl _ => exact hs.hc _ hc _ hl

/-- What Follow answers. -/
inductive FollowIs (n : Nat) (cs : List (List Int)) (ls : List Int) : Bool → (Nat → Int) → Prop
  | conf {A : Nat → Int} : Conf cs ls → FollowIs n cs ls true A
  | ok {A : Nat → Int} : (∀ i, A i = -1 ∨ A i = 0 ∨ A i = 1) → A 0 = 0 → (∀ l, inR n l → (va A l = 1 ↔ Der cs ls l)) → ¬ Conf cs ls → FollowIs n cs ls false A
theorem FollowIs.unique {n : Nat} {cs : List (List Int)} {ls : List Int} {b c : Bool} {A A' : Nat → Int} (h : FollowIs n cs ls b A) (h' : FollowIs n cs ls c A') : b = c ∧ (b = false → ∀ i, i ≤ n → A i = A' i) := by
  cases h with
  | conf h =>
    cases h' with
    | conf h' => exact ⟨rfl, fun h => by cases h⟩
    | ok _ _ _ h' => exact absurd h h'
  | ok t z d h =>
    cases h' with
    | conf h' => exact absurd h' h
    | ok t' z' d' h' =>
      refine ⟨rfl, fun _ i hi => ?_⟩
      by_cases h0 : i = 0
      · subst h0; rw [z, z']
      · have e1 := (d i ⟨by omega, by omega, by omega⟩).trans (d' i ⟨by omega, by omega, by omega⟩).symm
        have e2 := (d (-i) ⟨by omega, by omega, by omega⟩).trans (d' (-i) ⟨by omega, by omega, by omega⟩).symm
        have v1 : ∀ B : Nat → Int, va B (i : Int) = B i := fun B => by unfold va; rw [if_pos (by omega), Int.toNat_natCast]
        have v2 : ∀ B : Nat → Int, va B (-(i : Int)) = -B i := fun B => by rw [va_neg (by omega), v1]
        rw [v1, v1] at e1
        rw [v2, v2] at e2
        have a := t i
        have a' := t' i
        omega

/-! The follower. -/
/-- Two literals of the clause differ. -/
def act (c : List Int) : Prop := ∃ x, x ∈ c ∧ x ≠ c.headD 0
def isW (cs : List (List Int)) (w : Nat) : Prop := ∃ c, cs[w / 2]? = some c ∧ act c
def oth (w : Nat) : Nat := if w % 2 = 0 then w + 1 else w - 1
theorem oth_div (w : Nat) : oth w / 2 = w / 2 := by unfold oth; split <;> omega
theorem oth_ne (w : Nat) : oth w ≠ w := by unfold oth; split <;> omega
theorem oth_oth (w : Nat) : oth (oth w) = w := by unfold oth; split <;> split <;> omega
def place (l : Int) : Nat := if 0 < l then (2 * l).toNat else (-2 * l + 1).toNat
theorem place_inj {n : Nat} {l x : Int} (h1 : inR n l) (h2 : inR n x) (h : place l = place x) : l = x := by
  have a := h1.1; have b := h2.1
  unfold place at h
  split at h <;> split at h <;> omega
theorem place_lt {n : Nat} {l : Int} (h : inR n l) : place l < 2 * n + 2 := by
  have a := h.2.1; have b := h.2.2
  unfold place; split <;> omega
/-- A list of watches, through 'after'. -/
def Ch (T : Nat → Int) : Int → List Nat → Prop
  | x, [] => x = -1
  | x, w :: r => x = w ∧ Ch T (T w) r
theorem Ch.upd {T : Nat → Int} {w : Nat} {v : Int} : ∀ {x : Int} {r : List Nat}, Ch T x r → w ∉ r → Ch (upd T w v) x r
  | _, [], h, _ => h
  | _, y :: r, h, hn => ⟨h.1, by
    rw [upd_ne (fun e => hn (by rw [← e]; exact List.mem_cons_self))]
    exact Ch.upd h.2 (fun hm => hn (List.mem_cons_of_mem _ hm))⟩

structure Asg (n : Nat) (cs : List (List Int)) (ls : List Int) (A : Nat → Int) (Q : List Int) : Prop where
  tri : ∀ i, A i = -1 ∨ A i = 0 ∨ A i = 1
  zero : A 0 = 0
  snd : ∀ l, inR n l → va A l = 1 → Der cs ls l
  qin : ∀ l, l ∈ Q → inR n l ∧ va A l = 1
  qnd : Q.Nodup
theorem va_tri {A : Nat → Int} (h : ∀ i, A i = -1 ∨ A i = 0 ∨ A i = 1) (l : Int) : va A l = -1 ∨ va A l = 0 ∨ va A l = 1 := by
  unfold va
  split
  · exact h _
  · have := h (-l).toNat; omega
/-- A literal that is false, and has been gone through. -/
def dead (A : Nat → Int) (Q : List Int) (l : Int) : Prop := va A (-l) = 1 ∧ -l ∉ Q
structure Wat (cs : List (List Int)) (n : Nat) (A : Nat → Int) (Q : List Int) (Wd F T S : Nat → Int) (L : Int → List Nat) (R : List Nat) : Prop where
  two : ∀ i c, cs[i]? = some c → act c → Wd (2 * i) ∈ c ∧ Wd (2 * i + 1) ∈ c ∧ Wd (2 * i) ≠ Wd (2 * i + 1) ∧ 0 ≤ S i ∧ S i ≤ c.length ∧
    ∀ k, k < (S i).toNat → c.getD k 0 = Wd (2 * i) ∨ c.getD k 0 = Wd (2 * i + 1) ∨ va A (c.getD k 0) = -1
  chain : ∀ l, inR n l → ¬ dead A Q l → Ch T (F (place l)) (L l)
  mem : ∀ l, inR n l → ¬ dead A Q l → ∀ w, w ∈ L l ↔ (isW cs w ∧ Wd w = l)
  nd : ∀ l, inR n l → ¬ dead A Q l → (L l).Nodup
  done : ∀ w, isW cs w → dead A Q (Wd w) → va A (Wd (oth w)) = 1 ∨ w ∈ R

/-- A literal is made true. -/
theorem Asg.make {n : Nat} {cs : List (List Int)} {ls : List Int} {A : Nat → Int} {Q : List Int} (h : Asg n cs ls A Q) {l : Int} (hl : inR n l) (hv : va A l = 0) (hd : Der cs ls l) : Asg n cs ls (setL A l) (Q ++ [l]) := by
  have h0 := hl.1
  refine ⟨fun i => ?_, ?_, fun x hx hxv => ?_, fun x hx => ?_, ?_⟩
  · unfold setL upd
    have := h.tri i
    split <;> (simp only; split <;> omega)
  · unfold setL upd
    have := h.zero
    split <;> (simp only; rw [if_neg (by omega)]; exact this)
  · rw [va_setL h0 hx.1] at hxv
    split at hxv
    · rename_i e; subst e; exact hd
    · split at hxv
      · omega
      · exact h.snd x hx hxv
  · rcases List.mem_append.1 hx with hx | hx
    · obtain ⟨h1, h2⟩ := h.qin x hx
      refine ⟨h1, ?_⟩
      rw [va_setL h0 h1.1]
      split
      · rfl
      · split
        · rename_i _ e
          subst e
          rw [va_neg h0, hv] at h2
          omega
        · exact h2
    · rw [List.mem_singleton] at hx
      subst hx
      exact ⟨hl, by rw [va_setL h0 h0, if_pos rfl]⟩
  · refine List.nodup_append.2 ⟨h.qnd, (by simp), fun a ha b hb e => ?_⟩
    rw [List.mem_singleton] at hb
    have := (h.qin a ha).2
    rw [e, hb, hv] at this
    omega
theorem dead_make {n : Nat} {cs : List (List Int)} {ls : List Int} {A : Nat → Int} {Q : List Int} (h : Asg n cs ls A Q) {l : Int} (hl : l ≠ 0) (hv : va A l = 0) {x : Int} (hx : x ≠ 0) : dead (setL A l) (Q ++ [l]) x ↔ dead A Q x := by
  unfold dead
  rw [va_setL hl (by omega), List.mem_append, List.mem_singleton]
  by_cases e : -x = l
  · rw [if_pos e, e, hv]
    constructor
    · rintro ⟨_, h2⟩; exact absurd (Or.inr rfl) h2
    · rintro ⟨h1, _⟩; omega
  · rw [if_neg e]
    by_cases e2 : -x = -l
    · rw [if_pos e2]
      have : x = l := by omega
      subst this
      rw [va_neg hx, hv]
      constructor
      · rintro ⟨h1, _⟩; omega
      · rintro ⟨h1, _⟩; omega
    · rw [if_neg e2]
      constructor
      · rintro ⟨h1, h2⟩; exact ⟨h1, fun h => h2 (.inl h)⟩
      · rintro ⟨h1, h2⟩; exact ⟨h1, fun h => h.elim h2 e⟩
theorem va_mono {A : Nat → Int} {l x : Int} (hl : l ≠ 0) (hx : x ≠ 0) (hv : va A l = 0) : (va A x = 1 → va (setL A l) x = 1) ∧ (va A x = -1 → va (setL A l) x = -1) := by
  rw [va_setL hl hx]
  constructor
  · intro h
    split
    · rfl
    · split
      · rename_i _ e; subst e; rw [va_neg hl, hv] at h; omega
      · exact h
  · intro h
    split
    · rename_i e; subst e; omega
    · split
      · rfl
      · exact h
theorem act_inR {n : Nat} {cs : List (List Int)} {ls : List Int} (hs : Sane n cs ls) {A : Nat → Int} {Q : List Int} {Wd F T S : Nat → Int} {L : Int → List Nat} {R : List Nat} (h : Wat cs n A Q Wd F T S L R) {w : Nat} (hw : isW cs w) : inR n (Wd w) ∧ inR n (Wd (oth w)) ∧ Wd w ≠ Wd (oth w) ∧ ∃ c, cs[w / 2]? = some c ∧ Wd w ∈ c ∧ Wd (oth w) ∈ c := by
  obtain ⟨c, hc, ha⟩ := hw
  obtain ⟨h1, h2, h3, _⟩ := h.two _ c hc ha
  have hm : c ∈ cs := List.mem_of_getElem? hc
  unfold oth
  by_cases e : w % 2 = 0
  · rw [if_pos e]
    have e1 : 2 * (w / 2) = w := by omega
    rw [e1] at h1 h2 h3
    exact ⟨hs.hc c hm _ h1, hs.hc c hm _ h2, h3, c, hc, h1, h2⟩
  · rw [if_neg e]
    have e1 : 2 * (w / 2) + 1 = w := by omega
    have e2 : 2 * (w / 2) = w - 1 := by omega
    rw [e1] at h2 h3
    rw [e2] at h1 h3
    exact ⟨hs.hc c hm _ h2, hs.hc c hm _ h1, fun h => h3 h.symm, c, hc, h2, h1⟩
theorem Wat.make {n : Nat} {cs : List (List Int)} {ls : List Int} (hs : Sane n cs ls) {A : Nat → Int} {Q : List Int} {Wd F T S : Nat → Int} {L : Int → List Nat} {R : List Nat} (hA : Asg n cs ls A Q) (h : Wat cs n A Q Wd F T S L R) {l : Int} (hl : inR n l) (hv : va A l = 0) : Wat cs n (setL A l) (Q ++ [l]) Wd F T S L R := by
  have hdm : ∀ x, inR n x → (dead (setL A l) (Q ++ [l]) x ↔ dead A Q x) := fun x hx => dead_make hA hl.1 hv hx.1
  refine ⟨fun i c hc ha => ?_, fun x hx hd => h.chain x hx (fun e => hd ((hdm x hx).2 e)), fun x hx hd => h.mem x hx (fun e => hd ((hdm x hx).2 e)), fun x hx hd => h.nd x hx (fun e => hd ((hdm x hx).2 e)), fun w hw hd => ?_⟩
  · obtain ⟨h1, h2, h3, h4, h5, h6⟩ := h.two i c hc ha
    refine ⟨h1, h2, h3, h4, h5, fun k hk => ?_⟩
    rcases h6 k hk with e | e | e
    · exact .inl e
    · exact .inr (.inl e)
    · have hk2 : k < c.length := by omega
      have hm : c.getD k 0 ∈ c := by rw [List.getD_eq_getElem?_getD, List.getElem?_eq_getElem hk2]; exact List.getElem_mem hk2
      exact .inr (.inr ((va_mono hl.1 (hs.hc c (List.mem_of_getElem? hc) _ hm).1 hv).2 e))
  · obtain ⟨r1, r2, _⟩ := act_inR hs h hw
    rcases h.done w hw ((hdm _ r1).1 hd) with e | e
    · exact .inl ((va_mono hl.1 r2.1 hv).1 e)
    · exact .inr e
/-- The first of the queue is gone through. -/
theorem Asg.deq {n : Nat} {cs : List (List Int)} {ls : List Int} {A : Nat → Int} {q : Int} {Q : List Int} (h : Asg n cs ls A (q :: Q)) : Asg n cs ls A Q :=
  ⟨h.tri, h.zero, h.snd, fun l hl => h.qin l (List.mem_cons_of_mem _ hl), (List.nodup_cons.1 h.qnd).2⟩
theorem dead_deq {A : Nat → Int} {q : Int} {Q : List Int} {x : Int} : dead A (q :: Q) x → dead A Q x := fun h => ⟨h.1, fun hm => h.2 (List.mem_cons_of_mem _ hm)⟩
theorem dead_deq2 {A : Nat → Int} {q : Int} {Q : List Int} {x : Int} (h : dead A Q x) : dead A (q :: Q) x ∨ x = -q := by
  by_cases e : x = -q
  · exact .inr e
  · refine .inl ⟨h.1, fun hm => ?_⟩
    rcases List.mem_cons.1 hm with h1 | h1
    · omega
    · exact h.2 h1
theorem Wat.deq {n : Nat} {cs : List (List Int)} {ls : List Int} {A : Nat → Int} {q : Int} {Q : List Int} {Wd F T S : Nat → Int} {L : Int → List Nat} (hA : Asg n cs ls A (q :: Q)) (h : Wat cs n A (q :: Q) Wd F T S L []) :
    Wat cs n A Q Wd F T S L (L (-q)) ∧ Ch T (F (place (-q))) (L (-q)) ∧ (L (-q)).Nodup ∧ (∀ w, w ∈ L (-q) → isW cs w ∧ Wd w = -q) ∧ va A (-q) = -1 ∧ dead A Q (-q) := by
  obtain ⟨hqr, hqv⟩ := hA.qin q List.mem_cons_self
  have hnd : ¬ dead A (q :: Q) (-q) := fun h => h.2 (by rw [Int.neg_neg]; exact List.mem_cons_self)
  have hdq : dead A Q (-q) := ⟨by rw [Int.neg_neg]; exact hqv, by rw [Int.neg_neg]; exact (List.nodup_cons.1 hA.qnd).1⟩
  refine ⟨⟨h.two, fun l hl hd => h.chain l hl (fun e => hd (dead_deq e)), fun l hl hd => h.mem l hl (fun e => hd (dead_deq e)), fun l hl hd => h.nd l hl (fun e => hd (dead_deq e)), fun w hw hd => ?_⟩, h.chain _ hqr.neg hnd, h.nd _ hqr.neg hnd, fun w hw => (h.mem _ hqr.neg hnd w).1 hw, by rw [va_neg hqr.1, hqv], hdq⟩
  rcases dead_deq2 hd with e | e
  · rcases h.done w hw e with e | e
    · exact .inl e
    · cases e
  · exact .inr ((h.mem _ hqr.neg hnd w).2 ⟨hw, e⟩)
/-- A watch is done with: the other literal is true. -/
theorem Wat.drop {n : Nat} {cs : List (List Int)} {A : Nat → Int} {Q : List Int} {Wd F T S : Nat → Int} {L : Int → List Nat} {w : Nat} {R : List Nat} (h : Wat cs n A Q Wd F T S L (w :: R)) (ho : va A (Wd (oth w)) = 1) : Wat cs n A Q Wd F T S L R :=
  ⟨h.two, h.chain, h.mem, h.nd, fun x hx hd => by
    rcases h.done x hx hd with e | e
    · exact .inl e
    · rcases List.mem_cons.1 e with e | e
      · subst e; exact .inl ho
      · exact .inr e⟩
/-- A clause has been looked through up to m. -/
theorem Wat.seen {n : Nat} {cs : List (List Int)} {A : Nat → Int} {Q : List Int} {Wd F T S : Nat → Int} {L : Int → List Nat} {R : List Nat} (h : Wat cs n A Q Wd F T S L R) {i m : Nat} {c : List Int} (hc : cs[i]? = some c) (hm : m ≤ c.length)
    (hk : ∀ k, k < m → c.getD k 0 = Wd (2 * i) ∨ c.getD k 0 = Wd (2 * i + 1) ∨ va A (c.getD k 0) = -1) : Wat cs n A Q Wd F T (upd S i m) L R := by
  refine ⟨fun j d hd ha => ?_, h.chain, h.mem, h.nd, h.done⟩
  obtain ⟨h1, h2, h3, h4, h5, h6⟩ := h.two j d hd ha
  by_cases e : j = i
  · subst e
    obtain rfl : c = d := Option.some.inj (hc.symm.trans hd)
    rw [upd_same]
    exact ⟨h1, h2, h3, by omega, by omega, fun k hk2 => hk k (by omega)⟩
  · rw [upd_ne e]
    exact ⟨h1, h2, h3, h4, h5, h6⟩
/-- A watch moves to another literal of its clause, which isn't false. -/
theorem Wat.move {n : Nat} {cs : List (List Int)} {ls : List Int} (hs : Sane n cs ls) {A : Nat → Int} {Q : List Int} {Wd F T S : Nat → Int} {L : Int → List Nat} {w : Nat} {R : List Nat} {c : List Int} {m : Nat}
    (h : Wat cs n A Q Wd F T S L (w :: R)) (hR : w ∉ R) (hw : isW cs w) (hf : va A (Wd w) = -1) (hdd : dead A Q (Wd w)) (hc : cs[w / 2]? = some c) (hm : m < c.length)
    (hx1 : c.getD m 0 ≠ Wd (oth w)) (hx2 : 0 ≤ va A (c.getD m 0))
    (hk : ∀ k, k < m → c.getD k 0 = Wd (2 * (w / 2)) ∨ c.getD k 0 = Wd (2 * (w / 2) + 1) ∨ va A (c.getD k 0) = -1) :
    ∃ L', Wat cs n A Q (upd Wd w (c.getD m 0)) (upd F (place (c.getD m 0)) w) (upd T w (F (place (c.getD m 0)))) (upd S (w / 2) (m + 1 : Nat)) L' R := by
  obtain ⟨r1, r2, r3, _⟩ := act_inR hs h hw
  have hcm : c ∈ cs := List.mem_of_getElem? hc
  have hxm : c.getD m 0 ∈ c := by rw [List.getD_eq_getElem?_getD, List.getElem?_eq_getElem hm]; exact List.getElem_mem hm
  generalize hxe : c.getD m 0 = x at hx1 hx2 hxm ⊢
  have hxr : inR n x := hs.hc c hcm x hxm
  have hxnd : ¬ dead A Q x := fun hd => by have := hd.1; rw [va_neg hxr.1] at this; omega
  have hxw : x ≠ Wd w := fun e => by rw [e, hf] at hx2; omega
  have hactc : act c := by obtain ⟨d, hd, ha⟩ := hw; obtain rfl := Option.some.inj (hc.symm.trans hd); exact ha
  have hwx : w ∉ L x := fun hm => hxw ((h.mem x hxr hxnd w).1 hm).2.symm
  have hpair : ∀ k, k < m → c.getD k 0 = Wd (oth w) ∨ va A (c.getD k 0) = -1 := fun k hk2 => by
    rcases hk k hk2 with e | e | e
    · by_cases p : w % 2 = 0
      · rw [show 2 * (w / 2) = w by omega] at e; right; rw [e]; exact hf
      · left; rw [e]; unfold oth; rw [if_neg p]; congr 1; omega
    · by_cases p : w % 2 = 0
      · left; rw [e]; unfold oth; rw [if_pos p]; congr 1; omega
      · rw [show 2 * (w / 2) + 1 = w by omega] at e; right; rw [e]; exact hf
    · exact .inr e
  refine ⟨fun l => if l = x then w :: L x else L l, fun j d hd ha => ?_, fun l hl hnd => ?_, fun l hl hnd y => ?_, fun l hl hnd => ?_, fun y hy hd => ?_⟩
  · by_cases e : j = w / 2
    · subst e
      obtain rfl : c = d := Option.some.inj (hc.symm.trans hd)
      obtain ⟨h1, h2, h3, h4, h5, h6⟩ := h.two _ c hd ha
      rw [upd_same]
      by_cases p : w % 2 = 0
      · have e1 : 2 * (w / 2) = w := by omega
        have eo : oth w = w + 1 := by unfold oth; rw [if_pos p]
        rw [e1, upd_same, upd_ne (by omega)]
        rw [eo] at hx1 hpair
        refine ⟨hxm, by rw [e1] at h2; exact h2, hx1, by omega, by omega, fun k hk2 => ?_⟩
        by_cases ek : k = m
        · subst ek; exact .inl hxe
        · rcases hpair k (by omega) with e | e
          · exact .inr (.inl e)
          · exact .inr (.inr e)
      · have e1 : 2 * (w / 2) + 1 = w := by omega
        have e2 : 2 * (w / 2) = w - 1 := by omega
        have eo : oth w = w - 1 := by unfold oth; rw [if_neg p]
        rw [e1, upd_same, e2, upd_ne (by omega)]
        rw [eo] at hx1 hpair
        refine ⟨by rw [e2] at h1; exact h1, hxm, fun e => hx1 e.symm, by omega, by omega, fun k hk2 => ?_⟩
        by_cases ek : k = m
        · subst ek; exact .inr (.inl hxe)
        · rcases hpair k (by omega) with e | e
          · exact .inl e
          · exact .inr (.inr e)
    · obtain ⟨h1, h2, h3, h4, h5, h6⟩ := h.two j d hd ha
      rw [upd_ne e, upd_ne (show 2 * j ≠ w by omega), upd_ne (show 2 * j + 1 ≠ w by omega)]
      exact ⟨h1, h2, h3, h4, h5, h6⟩
  · by_cases e : l = x
    · subst e
      rw [if_pos rfl, upd_same]
      refine ⟨rfl, ?_⟩
      rw [upd_same]
      exact (h.chain l hl hnd).upd hwx
    · rw [if_neg e, upd_ne (fun e2 => e (place_inj hl hxr e2))]
      refine (h.chain l hl hnd).upd (fun hm => ?_)
      have := ((h.mem l hl hnd w).1 hm).2
      rw [← this] at hnd
      exact hnd hdd
  · by_cases e : l = x
    · subst e
      rw [if_pos rfl, List.mem_cons]
      constructor
      · rintro (rfl | hy)
        · exact ⟨hw, upd_same⟩
        · obtain ⟨a, b⟩ := (h.mem l hl hnd y).1 hy
          refine ⟨a, ?_⟩
          rw [upd_ne (fun e => hwx (by rw [← e]; exact hy))]; exact b
      · rintro ⟨a, b⟩
        by_cases e : y = w
        · exact .inl e
        · rw [upd_ne e] at b
          exact .inr ((h.mem l hl hnd y).2 ⟨a, b⟩)
    · rw [if_neg e]
      constructor
      · intro hy
        obtain ⟨a, b⟩ := (h.mem l hl hnd y).1 hy
        refine ⟨a, ?_⟩
        rw [upd_ne (fun e => ?_)]; exact b
        subst e; rw [← b] at hnd; exact hnd hdd
      · rintro ⟨a, b⟩
        by_cases e2 : y = w
        · subst e2; rw [upd_same] at b; exact absurd b.symm e
        · rw [upd_ne e2] at b
          exact (h.mem l hl hnd y).2 ⟨a, b⟩
  · by_cases e : l = x
    · subst e
      rw [if_pos rfl]
      exact List.nodup_cons.2 ⟨hwx, h.nd l hl hnd⟩
    · rw [if_neg e]; exact h.nd l hl hnd
  · by_cases e : y = w
    · subst e
      rw [upd_same] at hd
      exact absurd hd hxnd
    · rw [upd_ne e] at hd
      have ho : oth y = w → va A (upd Wd w x (oth y)) = 1 ∨ y ∈ R := fun eo => by
        rw [eo, upd_same]
        have ey : oth w = y := by rw [← eo, oth_oth]
        rcases h.done y hy hd with e1 | e1
        · rw [eo, hf] at e1; omega
        · rcases List.mem_cons.1 e1 with e1 | e1
          · exact absurd e1 e
          · exact .inr e1
      by_cases eo : oth y = w
      · exact ho eo
      · rw [upd_ne eo]
        rcases h.done y hy hd with e1 | e1
        · exact .inl e1
        · rcases List.mem_cons.1 e1 with e1 | e1
          · exact absurd e1 e
          · exact .inr e1
/-- No other literal is left: the other one follows. -/
theorem Wat.rule {n : Nat} {cs : List (List Int)} {ls : List Int} (hs : Sane n cs ls) {A : Nat → Int} {Q : List Int} {Wd F T S : Nat → Int} {L : Int → List Nat} {R : List Nat} (hA : Asg n cs ls A Q) (h : Wat cs n A Q Wd F T S L R) {w : Nat} (hw : isW cs w) {c : List Int} (hc : cs[w / 2]? = some c) (hf : va A (Wd w) = -1)
    (hk : ∀ k, k < c.length → c.getD k 0 = Wd (2 * (w / 2)) ∨ c.getD k 0 = Wd (2 * (w / 2) + 1) ∨ va A (c.getD k 0) = -1) : Der cs ls (Wd (oth w)) := by
  obtain ⟨r1, r2, r3, d, hd, m1, m2⟩ := act_inR hs h hw
  obtain rfl : c = d := Option.some.inj (hc.symm.trans hd)
  have hcm : c ∈ cs := List.mem_of_getElem? hc
  refine .rule hcm m2 (fun x hx hne => ?_)
  obtain ⟨k, hk2, rfl⟩ := List.getElem_of_mem hx
  have hxr := hs.hc c hcm _ hx
  have := hk k hk2
  rw [List.getD_eq_getElem?_getD, List.getElem?_eq_getElem hk2, Option.getD_some] at this
  have hfx : va A c[k] = -1 := by
    rcases this with e | e | e
    · by_cases p : w % 2 = 0
      · rw [show 2 * (w / 2) = w by omega] at e; rw [e]; exact hf
      · exact absurd (by rw [e]; unfold oth; rw [if_neg p]; congr 1; omega) hne
    · by_cases p : w % 2 = 0
      · exact absurd (by rw [e]; unfold oth; rw [if_pos p]; congr 1; omega) hne
      · rw [show 2 * (w / 2) + 1 = w by omega] at e; rw [e]; exact hf
    · exact e
  exact hA.snd _ hxr.neg (by rw [va_neg hxr.1, hfx]; decide)
/-- Nothing is left to be gone through. -/
theorem Wat.ends {n : Nat} {cs : List (List Int)} {ls : List Int} (hs : Sane n cs ls) {A : Nat → Int} {Wd F T S : Nat → Int} {L : Int → List Nat} (hA : Asg n cs ls A []) (h : Wat cs n A [] Wd F T S L []) (hls : ∀ l, l ∈ ls → va A l = 1) (hun : ∀ c, c ∈ cs → ¬ act c → c ≠ [] ∧ va A (c.headD 0) = 1) : FollowIs n cs ls false A := by
  have hcomp : ∀ l, Der cs ls l → va A l = 1 := fun l hd => by
    induction hd with
    | told h => exact hls _ h
    | @rule c l hc hl hr ih =>
      by_cases ha : act c
      · obtain ⟨i, hi, hci⟩ := List.getElem_of_mem hc
        have hcs : cs[i]? = some c := by rw [List.getElem?_eq_getElem hi, hci]
        have hw0 : isW cs (2 * i) := ⟨c, by rw [show 2 * i / 2 = i by omega]; exact hcs, ha⟩
        have hw1 : isW cs (2 * i + 1) := ⟨c, by rw [show (2 * i + 1) / 2 = i by omega]; exact hcs, ha⟩
        obtain ⟨h1, h2, h3, _⟩ := h.two i c hcs ha
        have o0 : oth (2 * i) = 2 * i + 1 := by unfold oth; rw [if_pos (by omega)]
        have o1 : oth (2 * i + 1) = 2 * i := by unfold oth; rw [if_neg (by omega)]; omega
        have key : ∀ a b : Nat, isW cs a → oth a = b → Wd a ∈ c → Wd b ∈ c → Wd a ≠ l → va A l = 1 := fun a b hwa hab ma mb hne => by
          have hra := hs.hc c hc _ ma
          have hrb := hs.hc c hc _ mb
          have h9 := ih _ ma hne
          have hdd : dead A [] (Wd a) := ⟨h9, List.not_mem_nil⟩
          rcases h.done a hwa hdd with e | e
          · rw [hab] at e
            by_cases e2 : Wd b = l
            · rw [← e2]; exact e
            · have := ih _ mb e2
              rw [va_neg hrb.1, e] at this; omega
          · cases e
        by_cases e : Wd (2 * i) = l
        · exact key (2 * i + 1) (2 * i) hw1 o1 h2 h1 (fun e2 => h3 (e.trans e2.symm))
        · exact key (2 * i) (2 * i + 1) hw0 o0 h1 h2 e
      · obtain ⟨_, h2⟩ := hun c hc ha
        have : l = c.headD 0 := Classical.byContradiction fun hne => ha ⟨l, hl, hne⟩
        rw [this]; exact h2
  refine .ok hA.tri hA.zero (fun l hl => ⟨fun hv => hA.snd l hl hv, hcomp l⟩) (fun hcf => ?_)
  rcases hcf with he | ⟨l, h1, h2⟩
  · exact (hun [] he (fun ⟨x, hx, _⟩ => by cases hx)).1 rfl
  · have a := hcomp _ h1
    have b := hcomp _ h2
    rw [va_neg (h1.inR hs).1, a] at b; omega

/-- How many variables are open. -/
def zeros (A : Nat → Int) : Nat → Nat
  | 0 => 0
  | n + 1 => zeros A n + if A (n + 1) = 0 then 1 else 0
theorem zeros_upd {A : Nat → Int} {i : Nat} {v : Int} (hv : v ≠ 0) (h0 : A i = 0) (hi : 1 ≤ i) : ∀ n, zeros (upd A i v) n + (if i ≤ n then 1 else 0) = zeros A n
  | 0 => by simp [zeros]; omega
  | n + 1 => by
    have ih := zeros_upd hv h0 hi n
    simp only [zeros]
    by_cases e : n + 1 = i
    · subst e
      rw [upd_same, if_neg hv, h0, if_pos rfl, if_pos (Nat.le_refl _)]
      rw [if_neg (by omega)] at ih
      omega
    · rw [upd_ne e]
      by_cases e2 : i ≤ n
      · have e3 : (if i ≤ n + 1 then 1 else 0) = 1 := if_pos (by omega)
        rw [if_pos e2] at ih; rw [e3]; omega
      · have e3 : (if i ≤ n + 1 then 1 else 0) = 0 := if_neg (by omega)
        rw [if_neg e2] at ih; rw [e3]; omega
theorem zeros_make {n : Nat} {A : Nat → Int} {l : Int} (hl : inR n l) (hv : va A l = 0) : zeros (setL A l) n + 1 = zeros A n := by
  have h1 := hl.1; have h2 := hl.2.1; have h3 := hl.2.2
  unfold va at hv
  unfold setL
  by_cases h : 0 < l
  · rw [if_pos h] at hv ⊢
    have := zeros_upd (v := 1) (by decide) hv (by omega) n
    rwa [if_pos (by omega)] at this
  · rw [if_neg h] at hv ⊢
    have := zeros_upd (v := -1) (by decide) (show A (-l).toNat = 0 by omega) (by omega) n
    rwa [if_pos (by omega)] at this
end Go.Proofs.YtlnkgemndojdnaaDoor
