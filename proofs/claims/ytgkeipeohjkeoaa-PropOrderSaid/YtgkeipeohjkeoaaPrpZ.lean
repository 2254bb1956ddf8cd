/- The reach of clauses. -/
import Derived.Test.YtgkeipeohjkeoaaPrpP0
import Derived.SizedLaws
set_option linter.unusedVariables false
set_option linter.unusedSimpArgs false
namespace Go.Proofs.Ytgkeipeohjkeoaa
open Go.ChangeShapes Go.WideShapes Go.ChangeAt Go.RowKit Go.Deep
variable {H : Type} {enc : TypeId × Value → H} {w : World} {base : Nat} {spare : Nat → Bool} {held : Bool}
theorem Try.bytesInt : Try.prog.bytesOf 3 = 8 := by kernel_rfl
theorem Try.bytesInts : Try.prog.bytesOf 33 = 24 := by kernel_rfl
theorem weights_mem_all {P : Program} {e : TypeId} : ∀ {ds : List (DataW H)} {d : DataW H}, d ∈ ds → ∀ n ∈ d.weights P e, n ∈ DataW.weightsAll P e ds
  | d0 :: ds, d, hd, n, hn => by
    simp only [DataW.weightsAll, List.mem_append]
    rcases List.mem_cons.1 hd with rfl | hd
    · exact .inl hn
    · exact .inr (weights_mem_all hd n hn)
theorem weights_slice {P : Program} {t e : TypeId} (elems spare : List (DataW H)) (hu : P.underlying t = some (.slice e)) : (DataW.slice elems spare : DataW H).weights P t = (elems.length + spare.length) * P.bytesOf e :: (DataW.weightsAll P e elems ++ DataW.weightsAll P e spare) := by simp [DataW.weights, hu]
set_option maxRecDepth 100000 in
theorem clauses_reach {ts : List TypeId} {ds : List (DataW H)} {j : Nat} {a : Option Addr} {n cap : Nat} {d : DataW H} {p : List MemPlace} (hsz : (DataW.weightsEach Try.prog ts ds).all (· ≤ reachBytes) = true)
    (h : DataW.Trod enc Try.prog w base spare held 22 (.slice a n cap) d p) (ht : ts[j]? = some 22) (hd : ds[j]? = some d) :
    ∀ i, i < n → ∀ b off ta tn tcap, a = some ⟨b, off, none⟩ → w.cell? ⟨b, off + i, none⟩ = some (.slice ta tn tcap) → tn * 8 ≤ 140737488351232 := by
  obtain ⟨fuel, hf⟩ := h
  rcases DataW.trod_slice Try.underlying22 hf with ⟨hcs, _⟩ | ⟨x, len, cap', elems, rest, m, _, hcs, hx, _, _, _, hel, hi, _⟩
  · simp [Value.cells] at hcs
    obtain ⟨_, rfl, _⟩ := hcs
    exact fun i hi => absurd hi (Nat.not_lt_zero _)
  · simp [Value.cells] at hcs
    obtain ⟨rfl, rfl, _⟩ := hcs
    injection hx with hx _
    subst hx
    intro i hin b off ta tn tcap ha hc
    injection ha with ha
    subst ha
    have h2 := hi i hin
    rw [show Try.prog.cellsOf 33 = 1 from by kernel_rfl, Nat.mul_one] at h2
    rw [List.getElem?_eq_getElem (by omega)] at h2
    obtain ⟨cs', hcs', ht'⟩ := Option.bind_eq_some_iff.1 h2
    obtain ⟨_, hcl, hat⟩ := World.cells?_some hcs'
    have hcell := hat 0 (by omega)
    have hcl2 : 0 < cs'.length := by omega
    have h1 : cs' = [cs'[0]] := by
      match cs', hcl with
      | [c], _ => rfl
    rw [List.getElem?_eq_getElem hcl2, Go.Deep.add_add, Nat.add_zero, Go.WideShapes.add_plain, hc] at hcell
    injection hcell with hcell
    rw [h1, ← hcell] at ht'
    rcases DataW.trod_slice Try.underlying33 ht' with ⟨hcs2, _⟩ | ⟨x2, len2, cap2, elems2, rest2, m2, _, hcs2, hx2, _, _, _, hel2, _⟩
    · simp at hcs2
      omega
    · simp at hcs2
      obtain ⟨_, rfl, _⟩ := hcs2
      have hmem : (elems2.length + rest2.length) * 8 ∈ DataW.weightsEach Try.prog ts ds := by
        have hx21 : elems[i].1 = .slice (elems2.map (·.1)) (rest2.map (·.1)) := by rw [hx2]
        have e3 : (elems2.length + rest2.length) * 8 ∈ (DataW.slice (elems2.map (·.1)) (rest2.map (·.1)) : DataW H).weights Try.prog 33 := by
          rw [weights_slice _ _ Try.underlying33, Try.bytesInt, List.length_map, List.length_map]
          exact List.mem_cons_self
        have e1 : (elems2.length + rest2.length) * 8 ∈ DataW.weightsAll Try.prog 33 (elems.map (·.1)) := weights_mem_all (d := elems[i].1) (List.mem_map.2 ⟨_, List.getElem_mem _, rfl⟩) _ (by rw [hx21]; exact e3)
        refine DataW.weights_mem_each ht hd _ ?_
        rw [weights_slice _ _ Try.underlying22]
        exact List.mem_cons_of_mem _ (List.mem_append_left _ e1)
      have := List.all_eq_true.1 hsz _ hmem
      have h9 : (elems2.length + rest2.length) * 8 ≤ reachBytes := of_decide_eq_true this
      rw [hel2] at h9
      simp only [reachBytes] at h9
      omega
end Go.Proofs.Ytgkeipeohjkeoaa
