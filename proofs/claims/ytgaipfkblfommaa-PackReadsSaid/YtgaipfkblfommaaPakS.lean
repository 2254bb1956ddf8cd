/- The reader: several numbers. -/
import Derived.Test.YtgaipfkblfommaaPakR
set_option linter.unusedVariables false
set_option linter.unusedSimpArgs false
namespace Go.Proofs.Ytgaipfkblfommaa
set_option maxRecDepth 100000
open Go.RowKit

section
variable {T : Type}
theorem Own.keptG {sh : Sh T} {e : TypeId} {B g : Nat} {xs : List T} {v : Value} {w w5 : World} (h : Own sh e B xs v w) (k : KeptG g w w5) (hg : g < B) : Own sh e B xs v w5 := by
  obtain ⟨css, h1, h2, h3⟩ := h.row
  refine ⟨⟨css, h1, World.ownsRow.kept (row := some g) h2 ⟨k.os, k.tape, k.output, k.size, fun q hq hne => k.block q hq (fun e => hne (by rw [e]))⟩ (.inr fun e1 => by have := (World.ownsRow.lt h2 g e1).1; omega), fun i hi hi2 => sh.keep (fun b ⟨a1, a2, a3⟩ => ⟨a1, Nat.lt_of_lt_of_le a2 k.size, a3⟩) (fun b o ⟨a1, a2, _⟩ => World.cell?_of_block (k.block b a2 (by omega))) (h3 i hi hi2)⟩⟩
theorem Own.lt {sh : Sh T} {e : TypeId} {B : Nat} {xs : List T} {v : Value} {w : World} (h : Own sh e B xs v w) : ∀ q, v.ownBlock = some q → q < w.heap.size := fun q hq => by
  obtain ⟨css, h1, h2, h3⟩ := h.row
  exact (World.ownsRow.lt h2 q hq).2
/-- append(own, T{..}). -/
theorem Own.snoc {P : Program} {sh : Sh T} {t e : TypeId} {B : Nat} {xs : List T} {x : T} {v : Value} {w : World} {cs : List Value} (ht : P.underlying t = some (.slice e)) {by' : Nat} (hin : (P.info? e).map (fun i => (i.zero.map fun z => z.cells.size, i.size, i.bytes)) = some (some sh.k, sh.k, by')) (hk : 0 < sh.k) (hby : by' ≤ 100)
    (h : Own sh e B xs v w) (hn : xs.length ≤ 4194304) (hB : B ≤ w.heap.size) (hx : sh.rel (fun b => B ≤ b ∧ b < w.heap.size ∧ v.ownBlock ≠ some b) w cs x) :
    ∃ v6 w6, (∀ ty, (Builtin.append_ #[t, t] ty #[v, .slice (some ⟨w.heap.size, 0, none⟩) 1 1]).run P (w.alloc (.cells cs.toArray e)) = .ok v6 w6) ∧ Own sh e B (xs ++ [x]) v6 w6 ∧ Below B w w6 := by
  have hA : Below w.heap.size w (w.alloc (.cells cs.toArray e)) := (Below.refl _ w).alloc (Nat.le_refl _) _
  obtain ⟨css, h1, h2, h3⟩ := (h.below hA).row
  obtain ⟨i0, hi, hz, hs, hb⟩ : ∃ i0, P.info? e = some i0 ∧ (∃ z, i0.zero = some z ∧ z.cells.size = sh.k) ∧ i0.size = sh.k ∧ i0.bytes = by' := by
    cases hp : P.info? e with
    | none => rw [hp] at hin; cases hin
    | some i =>
      rw [hp] at hin
      simp at hin
      obtain ⟨⟨z, a1, a2⟩, a3, a4⟩ := hin
      exact ⟨i, rfl, ⟨z, a1, a2⟩, a3, a4⟩
  obtain ⟨z, hz1, hz2⟩ := hz
  have hlen := sh.len hx
  have hrun := fun ty => run_append_own_at (P := P) (w.alloc (.cells cs.toArray e)) B t ty e i0 z sh.k by' ht hi hz1 hs hb hz2 hk v xs.length css.flatten h2 ⟨w.heap.size, 0, none⟩ 1 1 cs (by rw [hlen]; omega) (by
    have := World.news_of_block (heap_alloc_new w (.cells cs.toArray e))
    simpa using this) (sh.one hx) (by unfold maxLen; omega) (by
    have : (xs.length + 1) * by' ≤ (4194304 + 1) * 100 := Nat.mul_le_mul (by omega) hby
    omega) (Nat.le_trans hB hA.size)
  obtain ⟨v6, w6, hr, k2, k3, _, k5⟩ := hrun t
  have hvb : ∀ q, v.ownBlock = some q → q < w.heap.size := h.lt
  have hvB : ∀ q, v.ownBlock = some q → B ≤ q := fun q hq => (World.ownsRow.lt h2 q hq).1
  have hkeep : ∀ b o, b < w.heap.size → v.ownBlock ≠ some b → w6.cell? ⟨b, o, none⟩ = w.cell? ⟨b, o, none⟩ := fun b o hb hne => (World.cell?_of_block (k3.block b (Nat.lt_of_lt_of_le hb hA.size) (fun e => hne e.symm))).trans (hA.cell (p := ⟨b, o, none⟩) hb)
  have hsz : w.heap.size ≤ w6.heap.size := Nat.le_trans hA.size k3.size
  have hne6 : ∀ b, b < w.heap.size → v.ownBlock ≠ some b → v6.ownBlock ≠ some b := fun b hb hne e => by
    rcases k5 with k5 | k5
    · exact hne (k5.symm.trans e)
    · rw [k5] at e
      injection e with e
      simp at e
      omega
  obtain ⟨css0, g1, g2, g3⟩ := h.row
  refine ⟨v6, w6, fun ty => hr, ⟨⟨css ++ [cs], by simp [h1], ?_, fun i hi hi2 => ?_⟩⟩, (hA.mono hB).trans (Below.grown (Below.refl B _) k3 (Nat.le_trans hB hA.size) hvB)⟩
  · rw [List.length_append, List.flatten_append]
    simpa using k2
  · by_cases hlt : i < xs.length
    · rw [List.getElem_append_left hlt, List.getElem_append_left (by omega)]
      have h3' := h3 i hlt (by omega)
      have hvb2 : ∀ q, v.ownBlock = some q → q < (w.alloc (.cells cs.toArray e)).heap.size := fun q hq => Nat.lt_of_lt_of_le (hvb q hq) hA.size
      refine sh.keep (fun b ⟨a1, a2, a3⟩ => ⟨a1, Nat.lt_of_lt_of_le a2 k3.size, fun e => ?_⟩) (fun b o ⟨a1, a2, a3⟩ => World.cell?_of_block (k3.block b a2 (fun e => a3 e.symm))) h3'
      rcases k5 with k5 | k5
      · exact a3 (k5.symm.trans e)
      · rw [k5] at e
        injection e with e
        omega
    · have hi' : i = xs.length := by simp at hi; omega
      subst hi'
      simp only [List.getElem_concat_length]
      have e2 : (css ++ [cs])[xs.length]'hi2 = cs := by simp only [← h1, List.getElem_concat_length]
      rw [e2]
      exact sh.keep (fun b ⟨a1, a2, a3⟩ => ⟨a1, Nat.lt_of_lt_of_le a2 hsz, hne6 b a2 a3⟩) (fun b o ⟨a1, a2, a3⟩ => hkeep b o a2 a3) hx
/-- Structs. -/
def Va (sh : Sh T) (w w' : World) (v : Value) (x : T) : Prop := ∃ cs, v = .agg cs.toArray ∧ sh.rel (fun b => w.heap.size ≤ b ∧ b < w'.heap.size) w' cs x
/-- Rows. -/
def Vr (sh : Sh T) (w w' : World) (v : Value) (xs : List T) : Prop := Slot sh (fun b => w.heap.size ≤ b ∧ b < w'.heap.size) w' v xs
end
theorem nxt_some {T : Type} {p : Ps T} {st : Option (List UInt8)} {r : List UInt8} (h : nxt p st = some r) : ∃ x, st.bind p = some (x, r) := by
  unfold nxt at h
  cases hb : st.bind p with
  | none => rw [hb] at h; cases h
  | some q => rw [hb] at h; simp at h; exact ⟨q.1, by rw [← h]⟩
theorem nxt_none {T : Type} {p : Ps T} {st : Option (List UInt8)} (h : nxt p st = none) : st.bind p = none := by
  unfold nxt at h
  cases hb : st.bind p with
  | none => rfl
  | some q => rw [hb] at h; cases h
theorem each_none {T : Type} (p : Ps T) {st : Option (List UInt8)} (h : st.bind pNum = none) : st.bind (pEach p) = none := by
  cases st with
  | none => rfl
  | some l =>
    have h : pNum l = none := h
    show pEach p l = none
    unfold pEach pMany
    rw [h]
theorem each_bad {T : Type} (p : Ps T) {st : Option (List UInt8)} {x : Int} {r : List UInt8} (h : st.bind pNum = some (x, r)) (hx : x < 0 ∨ (r.length : Int) < x) : st.bind (pEach p) = none := by
  cases st with
  | none => rfl
  | some l =>
    have h : pNum l = some (x, r) := h
    show pEach p l = none
    unfold pEach pMany
    rw [h]
    simp only
    rw [if_neg (by omega)]
theorem each_go {T : Type} (p : Ps T) {st : Option (List UInt8)} {n : Nat} {r : List UInt8} (h : st.bind pNum = some ((n : Int), r)) (hx : n ≤ r.length) : st.bind (pEach p) = pGo p n (some r) := by
  cases st with
  | none => cases h
  | some l =>
    have h : pNum l = some ((n : Int), r) := h
    show pEach p l = _
    unfold pEach pMany
    rw [h]
    simp only
    rw [if_pos (by omega)]
    rfl
theorem go_none {T : Type} {p : Ps T} {st : Option (List UInt8)} {k : Nat} (h : pGo p k st = none) : ∀ n, k ≤ n → pGo p n st = none := fun n hn => by
  induction n with
  | zero => obtain rfl : k = 0 := by omega
            exact h
  | succ n ih =>
    by_cases e : k = n + 1
    · rw [← e]; exact h
    · unfold pGo
      rw [ih (by omega)]
/-- Within the loop. -/
structure Eg {T : Type} (sh : Sh T) (e : TypeId) (p : Ps T) (g : Nat) (w : World) (r : List UInt8) (k : Nat) (xs : List T) (sk : Option (List UInt8)) (u : Value) (wr : World) : Prop where
  rs : RSt g sk wr
  own : Own sh e w.heap.size xs u wr
  kept : KeptG g w wr
  len : xs.length ≤ k
  go : pGo p k (some r) = sk.map fun l => (xs, l)
theorem Eg.bad {T : Type} {sh : Sh T} {e : TypeId} {p : Ps T} {g : Nat} {w : World} {st : Option (List UInt8)} {r : List UInt8} {n k : Nat} {xs : List T} {u : Value} {wr : World} (h : Eg sh e p g w r k xs none u wr) (hk : k ≤ n) (hs : st.bind pNum = some ((n : Int), r)) (hn : n ≤ r.length) (hm : xs.length ≤ 4194304) : PEnd (Vr sh) (pEach p) g st w (.returned u) wr := by
  have e1 : st.bind (pEach p) = none := by rw [each_go p hs hn]; exact go_none h.go n hk
  exact ⟨_, xs, rfl, h.own.sits (by omega), by unfold nxt; rw [e1]; exact h.rs, fun y r e => (by rw [e1] at e; cases e), h.kept⟩
theorem Eg.done {T : Type} {sh : Sh T} {e : TypeId} {p : Ps T} {g : Nat} {w : World} {st : Option (List UInt8)} {r : List UInt8} {n : Nat} {xs : List T} {sk : Option (List UInt8)} {u : Value} {wr : World} (h : Eg sh e p g w r n xs sk u wr) (hs : st.bind pNum = some ((n : Int), r)) (hn : n ≤ r.length) (hm : xs.length ≤ 4194304) : PEnd (Vr sh) (pEach p) g st w (.returned u) wr := by
  have e1 : st.bind (pEach p) = sk.map fun l => (xs, l) := by rw [each_go p hs hn]; exact h.go
  refine ⟨_, xs, rfl, h.own.sits (by omega), by unfold nxt; rw [e1]; cases sk <;> exact h.rs, fun y r e => ?_, h.kept⟩
  rw [e1] at e
  cases sk with
  | none => cases e
  | some l => simp at e; exact e.1
theorem RS.low {g B : Nat} {rest : List UInt8} {bad : Bool} {w w' : World} (h : RS g rest bad w) (hb : Below B w w') (hg : g < B) : RS g rest bad w' := by
  obtain ⟨a, c, h1, h2, h3, h4, h5⟩ := h.st
  exact ⟨⟨a, c, (hb.cell (p := ⟨g, 0, none⟩) hg).trans h1, (hb.cell (p := ⟨g, 1, none⟩) hg).trans h2, h3.up (hb.mono (Nat.le_of_lt hg)), h4, h5⟩, fun j => (hb.frozen (p := ⟨g, j, none⟩) hg).trans (h.fr j), Nat.lt_of_lt_of_le h.lt hb.size, h.len⟩
theorem KeptG.trans_low {g B : Nat} {a b c : World} (h : KeptG g a b) (k : Below B b c) (hB : a.heap.size ≤ b.heap.size) (hB2 : a.heap.size = B := by rfl) : KeptG g a c :=
  ⟨k.os.trans h.os, k.tape.trans h.tape, k.output.trans h.output, Nat.le_trans h.size k.size, fun q h1 h2 => (k.block q (by omega)).trans (h.block q h1 h2)⟩
theorem Try.eachIntInfo : (Try.prog.info? 3).map (fun i => (i.zero.map fun z => z.cells.size, i.size, i.bytes)) = some (some 1, 1, 8) := by kernel_rfl
set_option maxHeartbeats 8000000 in
theorem eachInt_any (g : Nat) (st : Option (List UInt8)) (w : World) (h : RSt g st w) :
    Calls Try.prog 55 #[.pointer (some ⟨g, 0, none⟩), .func (.func 37) #[.pointer (some ⟨g, 0, none⟩)] #[]] w (PEnd (Vr intSh) (pEach pNum) g st w) := by
  have HNU := Lib.hid (rdnum_any g st w h)
  have hgw := h.lt
  clear h
  go_enter Try.func55, Try.ntmps55
  go_wp2_with fail
  refine HNU.out.mono ?_
  rintro e w1 ⟨v1, x, rfl, ⟨rfl, hx⟩, hst1, hx1, hk1⟩
  by_cases hgo : ∃ r, nxt pNum st = some r ∧ 0 ≤ x ∧ x ≤ r.length
  · obtain ⟨r, hnx, h0, hxl⟩ := hgo
    obtain ⟨y, hy⟩ := nxt_some hnx
    obtain rfl := hx1 _ _ hy
    obtain ⟨n, rfl⟩ := Int.eq_ofNat_of_zero_le h0
    have hn : n ≤ r.length := by omega
    rw [hnx] at hst1
    have hrs : RS g r false w1 := hst1
    have HY := Lib.hid hy
    have hrl := hrs.len
    have HEG : Hid (Eg intSh 3 pNum g w r 0 [] (some r) (.slice none 0 0) w1) := ⟨hrs, Own.nil _ _ _ _, hk1, Nat.zero_le _, rfl⟩
    obtain ⟨a, c, g1, g2, _⟩ := hrs.st
    have hb1 : ¬ ((n : Int) < 0) := by omega
    have hb2 : ¬ ((r.length : Int) < (n : Int)) := by omega
    have hb3 : ¬ r.length < n := by omega
    clear hst1 hx1 hk1 hnx hx h0 hxl hrs HNU hy
    go_wp2_with fail
    go_loopw [6, 7] (fun u i wr => ∃ (k : Nat) (xs : List Int) (sk : Option (List UInt8)), i = .int .i64 k ∧ k ≤ n ∧ Hid (Eg intSh 3 pNum g w r k xs sk u wr)) (fun _ i _ => n - (intOf i).toNat)
    case atStart => exact ⟨0, [], some r, rfl, Nat.zero_le _, HEG⟩
    case round =>
      clear HEG g1 g2
      obtain ⟨k, xs, sk, rfl, hk, hE⟩ := hrel
      have hxl : xs.length ≤ 4194304 := by have := hE.out.len; omega
      by_cases hlt : k < n
      · have hlti : (k : Int) < (n : Int) := by omega
        cases sk with
        | none =>
          have HE := Lib.hid (hE.out.bad hk HY.out hn hxl)
          obtain ⟨rest, hrs⟩ := hE.out.rs
          obtain ⟨_, _, _, g2, _⟩ := hrs.st
          clear hrs hE HY
          go_wp2_with fail
          go_ret
          exact HE.out
        | some l =>
          have hrs : RS g l false wr := hE.out.rs
          obtain ⟨_, _, _, g2, _⟩ := hrs.st
          have HC := Lib.hid (rdnum_any g (some l) wr hE.out.rs)
          clear hrs
          go_wp2_with fail
          refine HC.out.mono ?_
          rintro e w5 ⟨v5, x, rfl, hV, hst5, hx5, hk5⟩
          have hsz5 := hk5.size
          have hown5 := hE.out.own.keptG hk5 hgw
          have hov := hE.out.own.lt
          have hszr := hE.out.kept.size
          obtain ⟨rfl, hi⟩ := hV
          have hR : intSh.rel (fun b => wr.heap.size ≤ b ∧ b < w5.heap.size) w5 [.int .i64 x] x := ⟨rfl, hi⟩
          have hV := hR
          obtain ⟨v6, w6, hr6, ho6, hb6⟩ := Own.snoc (P := Try.prog) (t := 74) (cs := [.int .i64 x]) Try.underlying74 Try.eachIntInfo (by decide) (by decide) hown5 hxl (Nat.le_trans hszr hsz5) (x := x) (by
            have hV := hR
            exact Sh.keep intSh (fun b ⟨a1, a2⟩ => ⟨Nat.le_trans hszr a1, a2, fun e => by have := hov b e; omega⟩) (fun _ _ _ => rfl) hV)
          have HEG : Hid (Eg intSh 3 pNum g w r (k + 1) (xs ++ [x]) (nxt pNum (some l)) v6 w6) := by
            refine ⟨?_, ho6, ?_, by rw [List.length_append]; have := hE.out.len; simp; omega, ?_⟩
            · have hlt5 := hst5.lt
              cases hnn : nxt pNum (some l) with
              | none =>
                rw [hnn] at hst5
                obtain ⟨rest, hrs⟩ := hst5
                exact ⟨rest, hrs.low hb6 hgw⟩
              | some l2 =>
                rw [hnn] at hst5
                exact RS.low hst5 hb6 hgw
            · exact (hE.out.kept.trans hk5).trans_low hb6 (Nat.le_trans hszr hsz5)
            · have hg := hE.out.go
              show pGo pNum (k + 1) (some r) = _
              unfold pGo
              rw [hg]
              show (pNum l).map _ = (((some l).bind pNum).map Prod.snd).map _
              cases hp : pNum l with
              | none => simp [hp]
              | some q =>
                have := hx5 q.1 q.2 hp
                subst this
                simp [hp]
          clear hV hR hst5 hx5 hk5 hE ho6 hb6 HC hown5 hov
          go_wp2_with (at_builtin; refine Lib.wpList_append_run _ rfl _ _ _ _ rfl _ _ rfl rfl _ _ (hr6 _) ?_)
          go_roundw
          case rel => exact ⟨k + 1, _, _, by go_num, by omega, HEG⟩
          case measure => simp [intOf]; omega
      · have hlti : ¬ (k : Int) < (n : Int) := by omega
        obtain rfl : k = n := by omega
        have HE := Lib.hid (hE.out.done HY.out hn hxl)
        clear hE HY
        go_wp2_with fail
        go_ret
        exact HE.out
  · have hn : st.bind (pEach pNum) = none := by
      cases hnx : nxt pNum st with
      | none => exact each_none _ (nxt_none hnx)
      | some r =>
        obtain ⟨y, hy⟩ := nxt_some hnx
        obtain rfl := hx1 _ _ hy
        refine each_bad _ hy ?_
        by_cases h0 : x < 0
        · exact .inl h0
        · exact .inr (Int.not_le.1 fun h4 => hgo ⟨r, hnx, by omega, h4⟩)
    obtain ⟨rest, bad, hrs, hbd⟩ : ∃ rest bad, RS g rest bad w1 ∧ (bad = true ∨ x < 0 ∨ (rest.length : Int) < x) := by
      cases hnx : nxt pNum st with
      | none =>
        rw [hnx] at hst1
        obtain ⟨rest, hrs⟩ := hst1
        exact ⟨rest, true, hrs, .inl rfl⟩
      | some r =>
        rw [hnx] at hst1
        refine ⟨r, false, hst1, .inr ?_⟩
        by_cases h0 : x < 0
        · exact .inl h0
        · exact .inr (Int.not_le.1 fun h4 => hgo ⟨r, hnx, by omega, h4⟩)
    have HE2 : Hid (PEnd (Vr intSh) (pEach pNum) g st w (.returned (.slice none 0 0)) (w1.setCell ⟨g, 1, none⟩ (.bool true))) := ⟨_, [], rfl, ⟨none, 0, rfl, Sits.nil _ _ _ _⟩, by unfold nxt; rw [hn]; exact hrs.fail, fun y r e => (by rw [hn] at e; cases e), hk1.trans KeptG.set⟩
    have f1 := hrs.fr 1
    obtain ⟨a, c, g1, g2, _⟩ := hrs.st
    by_cases h0 : x < 0
    · have hx0 : ¬ (0 : Int) < x := by omega
      clear hst1 hx1 hk1 hrs hn hgo hbd hx HNU
      go_wp2_with fail
      go_loopw [6, 7] (fun u i wr => u = .slice none 0 0 ∧ i = .int .i64 0 ∧ (w1.setCell ⟨g, 1, none⟩ (.bool true)) = wr) (fun _ _ _ => 0)
      case atStart => exact ⟨rfl, rfl, rfl⟩
      case round =>
        obtain ⟨rfl, rfl, rfl⟩ := hrel
        go_wp2_with fail
        go_ret
        exact HE2.out
    · by_cases h1 : (rest.length : Int) < x
      · have hx0 : (0 : Int) < x := by omega
        clear hst1 hx1 hk1 hrs hn hgo hbd hx HNU
        go_wp2_with fail
        go_loopw [6, 7] (fun u i wr => u = .slice none 0 0 ∧ i = .int .i64 0 ∧ (w1.setCell ⟨g, 1, none⟩ (.bool true)) = wr) (fun _ _ _ => 0)
        case atStart => exact ⟨rfl, rfl, rfl⟩
        case round =>
          obtain ⟨rfl, rfl, rfl⟩ := hrel
          go_wp2_with fail
          go_ret
          exact HE2.out
      · obtain rfl : bad = true := by rcases hbd with h | h | h; exact h; exact absurd h h0; exact absurd h h1
        have HE1 : Hid (PEnd (Vr intSh) (pEach pNum) g st w (.returned (.slice none 0 0)) w1) := ⟨_, [], rfl, ⟨none, 0, rfl, Sits.nil _ _ _ _⟩, by unfold nxt; rw [hn]; exact ⟨rest, hrs⟩, fun y r e => (by rw [hn] at e; cases e), hk1⟩
        by_cases hx0 : (0 : Int) < x
        · clear hst1 hx1 hk1 hrs hn hgo hbd hx HNU HE2
          go_wp2_with fail
          go_loopw [6, 7] (fun u i wr => u = .slice none 0 0 ∧ i = .int .i64 0 ∧ w1 = wr) (fun _ _ _ => 0)
          case atStart => exact ⟨rfl, rfl, rfl⟩
          case round =>
            obtain ⟨rfl, rfl, rfl⟩ := hrel
            go_wp2_with fail
            go_ret
            exact HE1.out
        · clear hst1 hx1 hk1 hrs hn hgo hbd hx HNU HE2
          go_wp2_with fail
          go_loopw [6, 7] (fun u i wr => u = .slice none 0 0 ∧ i = .int .i64 0 ∧ w1 = wr) (fun _ _ _ => 0)
          case atStart => exact ⟨rfl, rfl, rfl⟩
          case round =>
            obtain ⟨rfl, rfl, rfl⟩ := hrel
            go_wp2_with fail
            go_ret
            exact HE1.out
end Go.Proofs.Ytgaipfkblfommaa
