/- What was read takes no more bytes than ten times what was there. -/
import Derived.Test.YtgaipfkblfommaaPakVb
set_option linter.unusedVariables false
set_option linter.unusedSimpArgs false
namespace Go.Proofs.Ytgaipfkblfommaa
set_option maxRecDepth 100000
open Go.RowKit

/-- A parser whose things take at most ten bytes for each that was read. -/
def PL {T : Type} (p : Ps T) (f : T → List UInt8) : Prop := ∀ l x r, p l = some (x, r) → (f x).length + 10 * r.length ≤ 10 * l.length
theorem numGo_of : ∀ (l : List UInt8) (k acc A : Nat) (r : List UInt8), numGo k acc l = some (A, r) → acc < 128 ^ k → k ≤ 9 → A < 18446744073709551616 ∧ r.length < l.length
  | [], k, acc, A, r, h, _, _ => by cases h
  | b :: l, k, acc, A, r, h, ha, hk => by
    rw [numGo] at h
    split at h
    · cases h
    · rename_i hc
      have hb := b.toNat_lt
      have hall := all_lt (x := b.toNat % 128) ha hk (by omega) (fun e => by omega)
      split at h
      · simp at h
        obtain ⟨rfl, rfl⟩ := h
        exact ⟨hall, by simp⟩
      · rename_i hs
        have h9 : k ≠ 9 := fun e => by omega
        have := numGo_of l (k + 1) _ A r h (acc_lt ha (by omega)) (by omega)
        exact ⟨this.1, by rw [List.length_cons]; omega⟩
theorem pNum_of {l : List UInt8} {x : Int} {r : List UInt8} (h : pNum l = some (x, r)) : i64 x ∧ r.length < l.length := by
  unfold pNum at h
  cases hg : numGo 0 0 l with
  | none => rw [hg] at h; cases h
  | some q =>
    rw [hg] at h
    simp at h
    obtain ⟨rfl, rfl⟩ := h
    obtain ⟨h1, h2⟩ := numGo_of l 0 0 q.1 q.2 hg (by decide) (by decide)
    refine ⟨?_, h2⟩
    by_cases hp : q.1 % 2 = 1
    · exact (unzig_odd q.1 h1 hp).2
    · exact (unzig_even q.1 h1 hp).2
theorem pl_num : PL pNum num := fun l x r h => by
  obtain ⟨h1, h2⟩ := pNum_of h
  have := num_len h1
  omega
theorem pMany_of {l : List UInt8} {n : Nat} {r : List UInt8} (h : pMany l = some (n, r)) : n ≤ r.length ∧ r.length < l.length := by
  unfold pMany at h
  cases hp : pNum l with
  | none => rw [hp] at h; cases h
  | some q =>
    obtain ⟨x, r2⟩ := q
    rw [hp] at h
    simp only at h
    split at h
    · rename_i hc
      simp at h
      obtain ⟨rfl, rfl⟩ := h
      exact ⟨by omega, (pNum_of hp).2⟩
    · cases h
theorem go_of {T : Type} {p : Ps T} {f : T → List UInt8} (hp : PL p f) : ∀ (n : Nat) (l : List UInt8) (xs : List T) (r : List UInt8), pGo p n (some l) = some (xs, r) → xs.length = n ∧ (xs.flatMap f).length + 10 * r.length ≤ 10 * l.length
  | 0, l, xs, r, h => by
    simp [pGo] at h
    obtain ⟨rfl, rfl⟩ := h
    exact ⟨rfl, by simp⟩
  | n + 1, l, xs, r, h => by
    unfold pGo at h
    cases hg : pGo p n (some l) with
    | none => rw [hg] at h; cases h
    | some q =>
      obtain ⟨ys, r2⟩ := q
      rw [hg] at h
      simp only at h
      cases hq : p r2 with
      | none => rw [hq] at h; cases h
      | some q2 =>
        obtain ⟨y, r3⟩ := q2
        rw [hq] at h
        simp at h
        obtain ⟨rfl, rfl⟩ := h
        obtain ⟨h1, h2⟩ := go_of hp n l ys r2 hg
        have h3 := hp r2 y r3 hq
        refine ⟨by simp [h1], ?_⟩
        rw [List.flatMap_append, List.length_append]
        simp only [List.flatMap_cons, List.flatMap_nil, List.append_nil]
        omega
theorem pl_each {T : Type} {p : Ps T} {f : T → List UInt8} (hp : PL p f) (hl : ∀ l : List UInt8, ∀ n r, pMany l = some (n, r) → n ≤ 9223372036854775807) : PL (pEach p) (encList f) := fun l x r h => by
  unfold pEach at h
  cases hm : pMany l with
  | none => rw [hm] at h; cases h
  | some q =>
    obtain ⟨n, r2⟩ := q
    rw [hm] at h
    simp only at h
    obtain ⟨h1, h2⟩ := go_of hp n r2 x r h
    have h3 := (pMany_of hm).2
    have h4 := numn_len (n := x.length) (by rw [h1]; exact hl l n r2 hm)
    unfold encList
    rw [List.length_append]
    omega
theorem pMany_le (l : List UInt8) (n : Nat) (r : List UInt8) (h : pMany l = some (n, r)) : n ≤ 9223372036854775807 := by
  unfold pMany at h
  cases hp : pNum l with
  | none => rw [hp] at h; cases h
  | some q =>
    obtain ⟨x, r2⟩ := q
    rw [hp] at h
    simp only at h
    split at h
    · simp at h
      obtain ⟨rfl, rfl⟩ := h
      have := (pNum_of hp).1.2
      omega
    · cases h
theorem pl_seq {A B C : Type} {p1 : Ps A} {p2 : Ps B} {f : A → B → C} {e1 : A → List UInt8} {e2 : B → List UInt8} {e : C → List UInt8} (h1 : PL p1 e1) (h2 : PL p2 e2) (he : ∀ a b, (e (f a b)).length = (e1 a).length + (e2 b).length) : PL (pSeq p1 p2 f) e := fun l x r h => by
  unfold pSeq at h
  cases hp : p1 l with
  | none => rw [hp] at h; cases h
  | some q =>
    obtain ⟨a, r2⟩ := q
    rw [hp] at h
    simp only at h
    cases hq : p2 r2 with
    | none => rw [hq] at h; cases h
    | some q2 =>
      obtain ⟨b, r3⟩ := q2
      rw [hq] at h
      simp at h
      obtain ⟨rfl, rfl⟩ := h
      have k1 := h1 l a r2 hp
      have k2 := h2 r2 b r3 hq
      rw [he]
      omega
theorem pl_part : PL pPart encPart := pl_seq pl_num pl_num (fun a b => by unfold encPart; rw [List.length_append])
theorem pl_step : PL pStep encStep := pl_seq (pl_each pl_part pMany_le) pl_num (fun a b => by unfold encStep; rw [List.length_append])
theorem pl_clause : PL pClause encClause := pl_each pl_num pMany_le
theorem pl_lem : PL pLem encLem := pl_seq pl_clause (pl_each pl_step pMany_le) (fun a b => by unfold encLem; rw [List.length_append])
theorem pl_cert : PL pCert (fun c => encList encLem c.1 ++ encList encClause c.2) := pl_seq (pl_each pl_lem pMany_le) (pl_each pl_clause pMany_le) (fun a b => by rw [List.length_append])
theorem pl_reply : PL pReply encReply := fun l x r h => by
  cases l with
  | nil => cases h
  | cons b l =>
    unfold pReply at h
    simp only [pTake] at h
    split at h
    · simp at h
      obtain ⟨rfl, rfl⟩ := h
      simp [encReply]
      omega
    · split at h
      · cases hc : pCert l with
        | none => rw [hc] at h; cases h
        | some q =>
          rw [hc] at h
          simp at h
          obtain ⟨rfl, rfl⟩ := h
          have := pl_cert l q.1 q.2 hc
          simp only [List.length_append] at this
          simp only [encReply, List.length_append, List.length_cons, List.length_nil, if_true]
          omega
      · cases h
theorem pl_name : PL pName (fun s => num s.size ++ s.data.toList) := fun l x r h => by
  unfold pName at h
  cases hp : pNum l with
  | none => rw [hp] at h; cases h
  | some q =>
    obtain ⟨n, r2⟩ := q
    rw [hp] at h
    simp only at h
    obtain ⟨h1, h2⟩ := pNum_of hp
    unfold pText at h
    split at h
    · rename_i hc
      simp at h
      obtain ⟨rfl, rfl⟩ := h
      have hsz : (ByteArray.size ⟨(List.take n.toNat r2).toArray⟩) = n.toNat := by
        show ((List.take n.toNat r2).toArray).size = _
        rw [List.size_toArray, List.length_take]; omega
      have h4 := numn_len (n := n.toNat) (by have := h1.2; omega)
      rw [List.length_append, hsz, size_list, hsz]
      rw [List.length_drop]
      omega
    · cases h
theorem pl_rec : PL pRec encRec := pl_seq pl_name (pl_each pl_reply pMany_le) (fun a b => by unfold encRec; simp only [List.length_append])
theorem read_enc {l : List UInt8} {xs : List Rec} {er : Value} {n : Int} (h : ReadIs l xs er n) (hl : l.length ≤ 4194304) : (encWit xs).length ≤ 140000000000000 := by
  have h0 : (encWit []).length ≤ 10 := by
    unfold encWit encList
    have := numn_len (n := 0) (by decide)
    simpa using this
  cases h with
  | long => omega
  | form => omega
  | more => omega
  | fine _ _ hp =>
    have : (encWit xs).length + 10 * ([] : List UInt8).length ≤ 10 * l.length := pl_each pl_rec pMany_le l xs [] hp
    omega
theorem read_one {l : List UInt8} {xs ys : List Rec} {er er2 : Value} {n n2 : Int} (h : ReadIs l xs er n) (h2 : ReadIs l ys er2 n2) : xs = ys ∧ er = er2 ∧ n = n2 := by
  cases h with
  | long a =>
    cases h2 with
    | long => exact ⟨rfl, rfl, rfl⟩
    | form b => omega
    | more _ _ b => omega
    | fine _ b => omega
  | form a c =>
    cases h2 with
    | long b => omega
    | form => exact ⟨rfl, rfl, rfl⟩
    | more _ _ _ d => rw [c] at d; cases d
    | fine _ _ d => rw [c] at d; cases d
  | more y r a c e =>
    cases h2 with
    | long b => omega
    | form _ d => rw [c] at d; cases d
    | more => exact ⟨rfl, rfl, rfl⟩
    | fine _ _ d => rw [c] at d; simp at d; rw [d.2] at e; exact absurd e (by decide)
  | fine _ a c =>
    cases h2 with
    | long b => omega
    | form _ d => rw [c] at d; cases d
    | more _ _ _ d e => rw [c] at d; simp at d; rw [d.2] at e; exact absurd e (by decide)
    | fine _ _ d => rw [c] at d; simp at d; exact ⟨d, rfl, rfl⟩
end Go.Proofs.Ytgaipfkblfommaa
