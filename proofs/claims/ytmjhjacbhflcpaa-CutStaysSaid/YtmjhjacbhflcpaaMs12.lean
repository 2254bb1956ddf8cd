/- The reach of premises. What the frames of layer 4 share. The frame of CutStays. -/
import Derived.Test.YtmjhjacbhflcpaaMs09
import Derived.Test.YtmjhjacbhflcpaaMs11
import Derived.SizedLaws
import Derived.Test.YtmjhjacbhflcpaaRows
import Derived.BigQuiet
set_option linter.unusedVariables false
set_option linter.unusedSimpArgs false
namespace Go.Proofs.Ytmjhjacbhflcpaa
open Go.ChangeShapes Go.WideShapes Go.ChangeAt Go.RowKit Go.Deep
variable {H : Type} {enc : TypeId × Value → H} {w : World} {base : Nat} {spare : Nat → Bool} {held : Bool}
theorem Try.bytesMono : Try.prog.bytesOf 41 = 16 := by kernel_rfl
theorem Try.bytesLin : Try.prog.bytesOf 35 = 32 := by kernel_rfl
theorem weights_mem_all {P : Program} {e : TypeId} : ∀ {ds : List (DataW H)} {d : DataW H}, d ∈ ds → ∀ n ∈ d.weights P e, n ∈ DataW.weightsAll P e ds
  | d0 :: ds, d, hd, n, hn => by
    simp only [DataW.weightsAll, List.mem_append]
    rcases List.mem_cons.1 hd with rfl | hd
    · exact .inl hn
    · exact .inr (weights_mem_all hd n hn)
theorem weights_slice {P : Program} {t e : TypeId} (elems spare : List (DataW H)) (hu : P.underlying t = some (.slice e)) : (DataW.slice elems spare : DataW H).weights P t = (elems.length + spare.length) * P.bytesOf e :: (DataW.weightsAll P e elems ++ DataW.weightsAll P e spare) := by simp [DataW.weights, hu]
theorem weights_struct {P : Program} {t : TypeId} {fs : Array Field} (parts : List (DataW H)) (hu : P.underlying t = some (.struct fs)) : (DataW.agg parts : DataW H).weights P t = DataW.weightsEach P (fs.toList.map (·.type)) parts := by simp [DataW.weights, hu]
set_option maxRecDepth 100000 in
/-- The reach of what is read bounds premises, and their terms. -/
theorem lins_reach {ts : List TypeId} {ds : List (DataW H)} {j : Nat} {a : Option Addr} {n cap : Nat} {d : DataW H} {p : List MemPlace} (hsz : (DataW.weightsEach Try.prog ts ds).all (· ≤ reachBytes) = true)
    (h : DataW.Trod enc Try.prog w base spare held 22 (.slice a n cap) d p) (ht : ts[j]? = some 22) (hd : ds[j]? = some d) :
    n * 32 ≤ 140737488351232 ∧ ∀ i, i < n → ∀ b off ta tn tcap, a = some ⟨b, off, none⟩ → w.cell? ⟨b, off + i * 2 + 1, none⟩ = some (.slice ta tn tcap) → tn * 16 ≤ 140737488351232 := by
  obtain ⟨fuel, hf⟩ := h
  rcases DataW.trod_slice Try.underlying22 hf with ⟨hcs, _⟩ | ⟨x, len, cap', elems, rest, m, _, hcs, hx, _, _, _, hel, hi, _⟩
  · simp [Value.cells] at hcs
    obtain ⟨_, rfl, _⟩ := hcs
    exact ⟨by omega, fun i hi => absurd hi (Nat.not_lt_zero _)⟩
  · simp [Value.cells] at hcs
    obtain ⟨rfl, rfl, _⟩ := hcs
    injection hx with hx _
    subst hx
    have h1 := sized_slice hsz ht hd Try.underlying22
    rw [Try.bytesLin] at h1
    simp only [List.length_map, reachBytes] at h1
    refine ⟨by omega, fun i hin b off ta tn tcap ha hc => ?_⟩
    injection ha with ha
    subst ha
    have h2 := hi i hin
    rw [show Try.prog.cellsOf 35 = 2 from by kernel_rfl] at h2
    rw [List.getElem?_eq_getElem (by omega)] at h2
    obtain ⟨cs', hcs', ht'⟩ := Option.bind_eq_some_iff.1 h2
    obtain ⟨_, hcl, hat⟩ := World.cells?_some hcs'
    obtain ⟨ys, n', _, hye, _, hyl, hfy⟩ := DataW.trod_struct Try.underlying35 ht'
    have h3 : DataW.trod enc Try.prog w base spare held n' 33 ((cs'.drop 1).take (Try.prog.cellsOf 33)) = ys[1]? := hfy 1 _ rfl
    rw [show Try.prog.cellsOf 33 = 1 from by kernel_rfl] at h3
    have hcell := hat 1 (by omega)
    have hcl2 : 1 < cs'.length := by omega
    rw [show (cs'.drop 1).take 1 = [cs'[1]] from by rw [List.drop_eq_getElem_cons hcl2]; rfl] at h3
    rw [List.getElem?_eq_getElem hcl2, Go.Deep.add_add, Go.WideShapes.add_plain, ← Nat.add_assoc, hc] at hcell
    injection hcell with hcell
    rw [← hcell] at h3
    have hy1 : 1 < ys.length := by rw [hyl]; decide
    rw [List.getElem?_eq_getElem hy1] at h3
    rcases DataW.trod_slice Try.underlying33 h3 with ⟨hcs2, _⟩ | ⟨x2, len2, cap2, elems2, rest2, m2, _, hcs2, hx2, _, _, _, hel2, _⟩
    · simp at hcs2
      omega
    · simp at hcs2
      obtain ⟨_, rfl, _⟩ := hcs2
      have hmem : (elems2.length + rest2.length) * 16 ∈ DataW.weightsEach Try.prog ts ds := by
        have hye1 : elems[i].1 = .agg (ys.map (·.1)) := by rw [hye]
        have hx21 : ys[1].1 = .slice (elems2.map (·.1)) (rest2.map (·.1)) := by rw [hx2]
        have e3 : (elems2.length + rest2.length) * 16 ∈ (DataW.slice (elems2.map (·.1)) (rest2.map (·.1)) : DataW H).weights Try.prog 33 := by
          rw [weights_slice _ _ Try.underlying33, Try.bytesMono, List.length_map, List.length_map]
          exact List.mem_cons_self
        have e2 : (elems2.length + rest2.length) * 16 ∈ (DataW.agg (ys.map (·.1)) : DataW H).weights Try.prog 35 := by
          rw [weights_struct _ Try.underlying35]
          exact DataW.weights_mem_each (j := 1) (t := 33) (d := ys[1].1) rfl (by rw [List.getElem?_map, List.getElem?_eq_getElem hy1]; rfl) _ (by rw [hx21]; exact e3)
        have e1 : (elems2.length + rest2.length) * 16 ∈ DataW.weightsAll Try.prog 35 (elems.map (·.1)) := weights_mem_all (d := elems[i].1) (List.mem_map.2 ⟨_, List.getElem_mem _, rfl⟩) _ (by rw [hye1]; exact e2)
        refine DataW.weights_mem_each ht hd _ ?_
        rw [weights_slice _ _ Try.underlying22]
        exact List.mem_cons_of_mem _ (List.mem_append_left _ e1)
      have := List.all_eq_true.1 hsz _ hmem
      have h9 : (elems2.length + rest2.length) * 16 ≤ reachBytes := of_decide_eq_true this
      rw [hel2] at h9
      simp only [reachBytes] at h9
      omega
end Go.Proofs.Ytmjhjacbhflcpaa

namespace Go.Proofs.Ytmjhjacbhflcpaa
open Go.ChangeShapes Go.WideShapes Go.ChangeAt Go.RowKit
theorem Try.own : ownKnob Try.prog.godebug = none := by kernel_rfl
theorem Try.laidOut : laidOutB Try.prog = true := by kernel_rfl
end Go.Proofs.Ytmjhjacbhflcpaa

namespace Go.Proofs.Ytmjhjacbhflcpaa
open Go.ChangeShapes Go.WideShapes Go.ChangeAt Go.RowKit

set_option maxRecDepth 100000 in
theorem cutStays_lifted (hup : UpSaid4) (os : Os) (started : os.Started) (H : Type) (enc : TypeId × Value → H) :
    ReturnsInHanded {} Try.checked os 4 .any (Rows.cutStaysSpec.pre6 enc Try.prog Try.f4 Rows.cutStaysRow.domain false) (Rows.cutStaysSpec.post enc Try.prog Try.f4 false true false false) := by
  refine returnsInHanded_of_change_sized (C := Try.checked) Try.own started (by kernel_rfl) Try.func4
    (ChangeSpec.witness6 (enc := enc) (C := Try.checked) false ⟨#[], #[.slice none 0 0, .slice none 0 0], []⟩ 8 (by kernel_rfl) (by kernel_rfl) (by kernel_rfl) (by kernel_rfl)) ?_
  intro W base args ds gs before hval0 hW hcnd hsz0 _
  have hsz : (DataW.weightsEach Try.prog (Try.f4.params.toList ++ Rows.cutStaysSpec.plain.varTypes Try.prog) (ds ++ gs)).all (· ≤ reachBytes) = true := hsz0
  clear hsz0
  have hval : ∀ (j : Nat) t v, Try.f4.params[j]? = some t → args[j]? = some v → Value.okWide Try.prog W .any base t v := hval0
  have hW' := hW
  obtain ⟨p, q, hA0, hV, rfl, hfz, hnd⟩ := hW
  have hA : DataW.TrodAll enc Try.prog W 0 (fun _ => true) true Try.f4.params.toList args.toList ds p := hA0
  rw [Try.params4] at hA hval hsz
  obtain ⟨v0, vs0, d0, ds0, p0, q0, hargs, rfl, rfl, h0, r0⟩ := trodAll_cons hA
  obtain ⟨v1, vs1, d1, ds1, p1, q1, rfl, rfl, rfl, h1, r1⟩ := trodAll_cons r0
  obtain ⟨rfl, rfl, rfl⟩ := trodAll_nil r1
  obtain rfl : args = #[v0, v1] := by cases args; simp_all
  obtain ⟨rfl, rfl⟩ := trodVars_none hV
  have k0 := h0
  have lt0 : ∀ x ∈ p0, x.block < W.heap.size := by obtain ⟨m, hm⟩ := k0; exact DataW.trod_lt m _ _ _ hm
  have k1 := h1
  have lt1 : ∀ x ∈ p1, x.block < W.heap.size := by obtain ⟨m, hm⟩ := k1; exact DataW.trod_lt m _ _ _ hm
  obtain ⟨a, n, cap, ls, rfl, hln0, hnm0, hll0, hlm0⟩ := open_lins (hval 0 22 v0 rfl rfl) h0
  have hm0 : n ≤ 9223372036854775807 := by unfold maxLen at hnm0; omega
  obtain ⟨sa, sn, scap, ss, rfl, hln1, hnm1, hsl1⟩ := open_steps (hval 1 23 v1 rfl rfl) h1
  have hm1 : sn ≤ 9223372036854775807 := by unfold maxLen at hnm1; omega
  clear hA0 hval0
  have hre0 := lins_reach hsz h0 (j := 0) rfl rfl
  have hre1 : ∀ i, i < n → (ls.getD i (0, [])).2.length * 16 ≤ 140737488351232 := fun i hi => by
    obtain ⟨b, off, ta, tcap, ea, _, _, c1, _⟩ := hll0 i (by omega)
    exact hre0.2 i hi b off ta _ tcap ea c1
  refine (cutStays_any hup a n cap ls sa sn scap ss W (Given.mk hln0 hll0 hlm0 hln1 hsl1 hm0 hm1) hre0.1 hre1).mono fun e W' ⟨he, bel⟩ => ?_
  subst he
  exact ⟨_, rfl, _, _, _, [], _, [], hW', trodAll_mk1 (shut_bool Try.underlying4 _), (trodAll_cons_mk (Below.trod Try.laidOut (by kernel_rfl) (of_decide_eq_true (by kernel_rfl)) k0 bel lt0) (trodAll_cons_mk (Below.trod Try.laidOut (by kernel_rfl) (of_decide_eq_true (by kernel_rfl)) k1 bel lt1) trodAll_mk0)), rfl, bel.frame _, fun h => by cases h⟩

theorem cutStays_over (hup : UpSaid4) : Rows.CutStaysSaid :=
  OpenClaim.holds_of_wide 4 Try.f4 rfl rfl rfl rfl rfl rfl rfl ⟨rfl, rfl, rfl, rfl, rfl⟩ rfl rfl rfl rfl rfl (by kernel_rfl) Try.func4 (by kernel_rfl)
    (of_decide_eq_true (by kernel_rfl)) (by unfold Func.isWrapper; first | (rw [if_pos (by decide +kernel)]; kernel_rfl) | (rw [if_neg (by decide +kernel)]; exact ⟨rfl, rfl⟩))
    (fun os started H enc _ => cutStays_lifted hup os started H enc)
end Go.Proofs.Ytmjhjacbhflcpaa
