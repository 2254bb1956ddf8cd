/- What a source's tokens are: a step at a place; runs of runes as runs of bytes. -/
import Derived.Test.YtceknhhdgmappaaDoorScnA
set_option linter.unusedVariables false
set_option linter.unusedSimpArgs false
namespace Go.Proofs.YtceknhhdgmappaaDoor

/-- A text's bytes. -/
def bs (s : String) : List UInt8 := s.toUTF8.data.toList
def keysL : List (List UInt8) := [[112, 114, 111, 99], [114, 101, 113, 117, 105, 114, 101, 115], [101, 110, 115, 117, 114, 101, 115], [115, 107, 105, 112], [112, 117, 116], [103, 101, 116], [110, 101, 119], [102, 114, 101, 101], [105, 102], [101, 108, 115, 101], [119, 104, 105, 108, 101], [105, 110, 118, 97, 114, 105, 97, 110, 116], [97, 115, 115, 101, 114, 116], [99, 97, 108, 108], [116, 114, 117, 101], [102, 97, 108, 115, 101], [101, 109, 112], [97, 99, 99], [112, 116, 115]]
def keyB (l : List UInt8) : Bool := keysL.contains l
def twosL : List (List UInt8) := [[58, 61], [61, 61], [33, 61], [60, 61], [38, 38], [124, 124]]
def onesL : List UInt8 := [40, 41, 123, 125, 91, 93, 44, 59, 46, 43, 45, 42, 60, 33, 38]
def opsL : List (List UInt8) := twosL ++ onesL.map (fun c => [c])
/-- How many bytes the operation has that a list begins with. -/
def opN (l : List UInt8) : Nat := if twosL.contains (l.take 2) then 2 else match l with
  | [] => 0
  | c :: _ => if onesL.contains c then 1 else 0
inductive Stp where
  | done
  | bad (c : Int)
  | skip (n : Nat)
  | tok (kind : Int) (n : Nat)
def glueB (l : List UInt8) : Bool := match l with
  | [] => false
  | c :: _ => isLet c
def numS (l : List UInt8) : Stp := if numBad (l.take (runN isDig l)) (glueB (l.drop (runN isDig l))) then .bad 5 else .tok 3 (runN isDig l)
def stp (l : List UInt8) : Stp := match l with
  | [] => .done
  | c :: r =>
    if isBl c then .skip 1
    else if c.toNat = 47 ∧ r.head? = some 47 then .skip (runN notNl l)
    else if 32 < wordN l then .bad 2
    else if 0 < wordN l then .tok (if keyB (l.take (wordN l)) then 2 else 1) (wordN l)
    else if 0 < runN isDig l then numS l
    else if opN l = 0 then .bad 10
    else .tok 4 (opN l)
structure Tok where
  kind : Int
  at' : Nat
  text : ByteArray
inductive Res where
  | ok (l : List Tok)
  | bad (c : Int) (at' : Nat)
def scanF : Nat → List UInt8 → Nat → List Tok → Res
  | 0, _, _, ts => .ok ts
  | f + 1, l, i, ts => match stp l with
    | .done => .ok ts
    | .bad c => .bad c i
    | .skip n => scanF f (l.drop n) (i + n) ts
    | .tok k n => scanF f (l.drop n) (i + n) (ts ++ [⟨k, i, ⟨(l.take n).toArray⟩⟩])
/-- Behind i bytes and these tokens it ends so. -/
def ScanEq (l : List UInt8) (i : Nat) (ts : List Tok) (R : Res) : Prop := ∃ f, l.length - i ≤ f ∧ scanF f (l.drop i) i ts = R
theorem ScanEq.start (l : List UInt8) : ScanEq l 0 [] (scanF l.length l 0 []) := ⟨l.length, by omega, by rw [List.drop_zero]⟩
theorem ScanEq.fin {l : List UInt8} {i : Nat} {ts : List Tok} {R : Res} (h : ScanEq l i ts R) (hi : l.length ≤ i) : R = .ok ts := by
  obtain ⟨f, _, h⟩ := h
  rw [List.drop_eq_nil_of_le hi] at h
  cases f with
  | zero => exact h.symm
  | succ f => exact h.symm
theorem ScanEq.next {l : List UInt8} {i : Nat} {ts : List Tok} {R : Res} (h : ScanEq l i ts R) (hi : i < l.length) : ∃ f, l.length - i ≤ f + 1 ∧ scanF (f + 1) (l.drop i) i ts = R := by
  obtain ⟨f, hf, h⟩ := h
  cases f with
  | zero => omega
  | succ f => exact ⟨f, hf, h⟩
theorem ScanEq.bad {l : List UInt8} {i : Nat} {ts : List Tok} {R : Res} (h : ScanEq l i ts R) (hi : i < l.length) {c : Int} (hs : stp (l.drop i) = .bad c) : R = .bad c i := by
  obtain ⟨f, _, h⟩ := h.next hi
  rw [scanF, hs] at h
  exact h.symm
theorem ScanEq.skip {l : List UInt8} {i : Nat} {ts : List Tok} {R : Res} (h : ScanEq l i ts R) (hi : i < l.length) {n : Nat} (hs : stp (l.drop i) = .skip n) (hn : 1 ≤ n) : ScanEq l (i + n) ts R := by
  obtain ⟨f, hf, h⟩ := h.next hi
  rw [scanF, hs] at h
  simp only [List.drop_drop] at h
  exact ⟨f, by omega, h⟩
theorem ScanEq.tok {l : List UInt8} {i : Nat} {ts : List Tok} {R : Res} (h : ScanEq l i ts R) (hi : i < l.length) {n : Nat} {k : Int} (hs : stp (l.drop i) = .tok k n) (hn : 1 ≤ n) : ScanEq l (i + n) (ts ++ [⟨k, i, ⟨((l.drop i).take n).toArray⟩⟩]) R := by
  obtain ⟨f, hf, h⟩ := h.next hi
  rw [scanF, hs] at h
  simp only [List.drop_drop] at h
  exact ⟨f, by omega, h⟩
/-- Blanks and comments. -/
inductive Skips (l : List UInt8) : Nat → Prop
  | start : Skips l 0
  | step {b n : Nat} (h : Skips l b) (hb : b < l.length) (hs : stp (l.drop b) = .skip n) (hn : 1 ≤ n) : Skips l (b + n)
theorem runN_one {p : UInt8 → Bool} {l : List UInt8} : runN p l ≤ l.length := runN_le p l
theorem stp_skip_le {l : List UInt8} {n : Nat} (h : stp l = .skip n) : n ≤ l.length := by
  cases l with
  | nil => cases h
  | cons c r =>
    rw [stp] at h
    split at h
    · cases h; simp
    · split at h
      · cases h; exact runN_le _ _
      · repeat' split at h
        all_goals first | (cases h; done) | (unfold numS at h; split at h <;> cases h)
theorem Skips.le {l : List UInt8} {b : Nat} (h : Skips l b) : b ≤ l.length := by
  induction h with
  | start => omega
  | step h hb hs hn ih => have := stp_skip_le hs; rw [List.length_drop] at this; omega
theorem ScanEq.skips {l : List UInt8} {i b : Nat} {ts : List Tok} {R : Res} (h : ScanEq l i ts R) (hi : i ≤ l.length) (hs : Skips (l.drop i) b) : ScanEq l (i + b) ts R := by
  induction hs with
  | start => exact h
  | step hs hb he hn ih =>
    rw [List.length_drop] at hb
    rw [List.drop_drop] at he
    have := ih.skip (by omega) he hn
    rw [Nat.add_assoc] at this
    exact this
theorem cons_of {l : List UInt8} {i : Nat} (hi : i < l.length) : l.drop i = l[i] :: l.drop (i + 1) := by rw [List.drop_eq_getElem_cons hi]
theorem Skips.blanks {l : List UInt8} {b : Nat} (h : Skips l b) (k : Nat) (hk : k ≤ runN isBl (l.drop b)) : Skips l (b + k) := by
  induction k with
  | zero => exact h
  | succ k ih =>
    obtain ⟨h1, h2⟩ := runN_lt (p := isBl) (l := l.drop b) (k := k) (by omega)
    rw [List.length_drop] at h1
    rw [List.getElem_drop] at h2
    refine Skips.step (b := b + k) (n := 1) (ih (by omega)) (by omega) ?_ (Nat.le_refl _)
    rw [cons_of (i := b + k) (by omega), stp, if_pos h2]
theorem notBl_slash {c : UInt8} (h : c.toNat = 47) : isBl c = false := by simp [isBl, h]
theorem Skips.comment {l : List UInt8} {b : Nat} (h : Skips l b) (hb : b + 1 < l.length) (h0 : (l[b]'(by omega)).toNat = 47) (h1 : (l[b + 1]'hb).toNat = 47) : Skips l (b + runN notNl (l.drop b)) ∧ 1 ≤ runN notNl (l.drop b) := by
  have hb2 : b < l.length := by omega
  have e := cons_of (l := l) (i := b) hb2
  have e2 := cons_of (l := l) (i := b + 1) hb
  have h1' : l[b + 1]'hb = 47 := UInt8.toNat_inj.1 h1
  have hn : 1 ≤ runN notNl (l.drop b) := by
    rw [e, runN_cons, if_pos (by simp [notNl, h0])]; omega
  refine ⟨Skips.step h hb2 ?_ hn, hn⟩
  rw [e, stp, notBl_slash h0, if_neg (by simp), if_pos ⟨h0, by rw [e2, h1']; rfl⟩]
/-- Nothing is skipped there. -/
def NoSkip (l : List UInt8) : Prop := ∀ n, stp l ≠ .skip n
theorem noSkip_of {l : List UInt8} (h0 : runN isBl l = 0) (h1 : ¬ ∃ h : 1 < l.length, (l[0]'(by omega)).toNat = 47 ∧ (l[1]'h).toNat = 47) : NoSkip l := fun n => by
  cases l with
  | nil => intro h; cases h
  | cons c r =>
    rw [runN_cons] at h0
    have hc : isBl c = false := by
      cases hb : isBl c with
      | false => rfl
      | true => rw [if_pos hb] at h0; omega
    rw [stp, hc, if_neg (by simp)]
    have h2 : ¬ (c.toNat = 47 ∧ r.head? = some 47) := fun ⟨a, b⟩ => h1 (by
      cases r with
      | nil => cases b
      | cons d r => exact ⟨by simp, a, by simp only [List.head?_cons, Option.some.injEq] at b; simp [b]⟩)
    rw [if_neg h2]
    repeat' split
    all_goals first | (intro h; cases h) | (unfold numS; split <;> (intro h; cases h))
end Go.Proofs.YtceknhhdgmappaaDoor
