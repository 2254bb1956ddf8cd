/- The reader: a step, a clause. -/
import Derived.Test.YtgaipfkblfommaaPakT
set_option linter.unusedVariables false
set_option linter.unusedSimpArgs false
namespace Go.Proofs.Ytgaipfkblfommaa
set_option maxRecDepth 100000
open Go.RowKit

set_option maxHeartbeats 4000000 in
theorem rdstep_any (g : Nat) (st : Option (List UInt8)) (w : World) (h : RSt g st w) :
    Calls Try.prog 54 #[.pointer (some ⟨g, 0, none⟩)] w (PEnd (Va stepSh) pStep g st w) := by
  have HA : Hid (Below w.heap.size w (w.alloc (.cells #[.slice none 0 0, .int .i64 0] 80))) := (Below.refl _ _).alloc (Nat.le_refl _) _
  have hgl := h.lt
  have hne : w.heap.size ≠ g := by omega
  have hsz : (w.alloc (.cells #[.slice none 0 0, .int .i64 0] 80)).heap.size = w.heap.size + 1 := by simp
  have z0 := cell_of_row (w.alloc (.cells #[.slice none 0 0, .int .i64 0] 80)) w.heap.size 0 _ _ _ (heap_alloc_new w _)
  have z1 := cell_of_row (w.alloc (.cells #[.slice none 0 0, .int .i64 0] 80)) w.heap.size 1 _ _ _ (heap_alloc_new w _)
  have zf := fun j => frozen_new w #[.slice none 0 0, .int .i64 0] 80 j
  have HN := Lib.hid (eachPart_any g st (w.alloc (.cells #[.slice none 0 0, .int .i64 0] 80)) (h.below HA.out))
  have HZ := Lib.hid (And.intro z0 (And.intro z1 (And.intro zf hsz)))
  clear h z0 z1 zf hsz
  go_enter Try.func54, Try.ntmps54
  go_wp2_with fail
  refine HN.out.mono ?_
  rintro e w1 ⟨v1, x1, rfl, hV1, hst1, hx1, hk1⟩
  have HN2 := Lib.hid (rdnum_any g _ w1 hst1)
  have HX1 := Lib.hid hx1
  have HK1 := Lib.hid hk1
  obtain ⟨a1, cap1, rfl, hV1⟩ := hV1
  have HV1 := Lib.hid hV1
  clear hst1 hx1 hk1 HN hV1
  go_wp2_with fail
  refine HN2.out.mono ?_
  rintro e w2 ⟨v2, x2, rfl, hV2, hst2, hx2, hk2⟩
  obtain ⟨z0, z1, zf, hsz⟩ := HZ.out
  have hs1 := HK1.out.size
  have hs2 := hk2.size
  have q0 := (hk2.cell (h := w.heap.size) (by omega) hne 0).trans ((HK1.out.cell (h := w.heap.size) (by omega) hne 0).trans z0)
  have q1 := (hk2.cell (h := w.heap.size) (by omega) hne 1).trans ((HK1.out.cell (h := w.heap.size) (by omega) hne 1).trans z1)
  have qf := fun j => (hk2.frozen (h := w.heap.size) (by omega) hne j).trans ((HK1.out.frozen (h := w.heap.size) (by omega) hne j).trans (zf j))
  have qf0 := qf 0
  have qf1 := qf 1
  obtain ⟨rfl, hV2⟩ := hV2
  have FR : Far w.heap.size w2 ((w2.setCell ⟨w.heap.size, 0, none⟩ (.slice a1 x1.length cap1)).setCell ⟨w.heap.size, 1, none⟩ (.int .i64 x2)) := ((Far.refl _ _).set _).set _
  have HE : Hid (PEnd (Va stepSh) pStep g st w (.returned (.agg #[.slice a1 x1.length cap1, .int .i64 x2])) ((w2.setCell ⟨w.heap.size, 0, none⟩ (.slice a1 x1.length cap1)).setCell ⟨w.heap.size, 1, none⟩ (.int .i64 x2))) := by
    have hV1 := HV1.out
    have hsf := FR.size
    refine ⟨_, ⟨x1, x2⟩, rfl, ⟨[.slice a1 x1.length cap1, .int .i64 x2], rfl, ?_⟩, ?_, fun y r e => ?_, ((KeptG.of_below HA.out).trans (HK1.out.trans hk2)).far FR (Nat.le_refl _)⟩
    · have k2 : Slot partSh (fun b => (w.alloc (.cells #[.slice none 0 0, .int .i64 0] 80)).heap.size ≤ b ∧ b < w1.heap.size) w2 (.slice a1 x1.length cap1) x1 := Slot.keep (fun b h => h) (fun b o ⟨p1, p2⟩ => hk2.cell p2 (by omega) o) ⟨a1, cap1, rfl, hV1⟩
      exact ⟨_, rfl, hV2, k2.far FR (fun b ⟨p1, p2⟩ => ⟨by omega, by omega⟩) (fun b ⟨p1, p2⟩ => by omega)⟩
    · have e : nxt pStep st = _ := seq_nxt (pEach pPart) pNum Step.mk st
      rw [e]
      exact hst2.low (FR.below (B := w.heap.size) (Nat.le_refl _)) hgl
    · obtain ⟨a, b, r1, e1, e2, rfl⟩ := seq_val (show st.bind (pSeq (pEach pPart) pNum Step.mk) = some (y, r) from e)
      rw [HX1.out a r1 e1, hx2 b r e2]
  obtain ⟨e0, e1⟩ := res2 (.slice a1 x1.length cap1) (.int .i64 x2) (q0.trans rfl) (q1.trans rfl)
  clear hV2 hst2 hx2 hk2 FR HV1 HX1 HK1 qf z0 z1 zf
  go_wp2_with fail
  refine bodyPost_ret (v := .agg #[.slice a1 x1.length cap1, .int .i64 x2]) ?_ rfl HE.out
  clear q0 q1 qf0 qf1 HE
  simp [results, Try.results54, go_sem, e0, e1]
theorem Try.eachStepInfo : (Try.prog.info? 80).map (fun i => (i.zero.map fun z => z.cells.size, i.size, i.bytes)) = some (some 2, 2, 32) := by kernel_rfl
set_option maxHeartbeats 8000000 in
theorem eachStep_any (g : Nat) (st : Option (List UInt8)) (w : World) (h : RSt g st w) :
    Calls Try.prog 53 #[.pointer (some ⟨g, 0, none⟩), .func (.func 54) #[.pointer (some ⟨g, 0, none⟩)] #[]] w (PEnd (Vr stepSh) (pEach pStep) g st w) := by
  have HNU := Lib.hid (rdnum_any g st w h)
  have hgw := h.lt
  clear h
  go_enter Try.func53, Try.ntmps53
  go_wp2_with fail
  refine HNU.out.mono ?_
  rintro e w1 ⟨v1, x, rfl, ⟨rfl, hx⟩, hst1, hx1, hk1⟩
  by_cases hgo : ∃ r, nxt pNum st = some r ∧ 0 ≤ x ∧ x ≤ r.length
  · obtain ⟨r, hnx, h0, hxl⟩ := hgo
    obtain ⟨y, hy⟩ := nxt_some hnx
    obtain rfl := hx1 _ _ hy
    obtain ⟨n, rfl⟩ := Int.eq_ofNat_of_zero_le h0
    have hn : n ≤ r.length := by omega
    rw [hnx] at hst1
    have hrs : RS g r false w1 := hst1
    have HY := Lib.hid hy
    have hrl := hrs.len
    have HEG : Hid (Eg stepSh 80 pStep g w r 0 [] (some r) (.slice none 0 0) w1) := ⟨hrs, Own.nil _ _ _ _, hk1, Nat.zero_le _, rfl⟩
    obtain ⟨a, c, g1, g2, _⟩ := hrs.st
    have hb1 : ¬ ((n : Int) < 0) := by omega
    have hb2 : ¬ ((r.length : Int) < (n : Int)) := by omega
    have hb3 : ¬ r.length < n := by omega
    clear hst1 hx1 hk1 hnx hx h0 hxl hrs HNU hy
    go_wp2_with fail
    go_loopw [6, 7] (fun u i wr => ∃ (k : Nat) (xs : List Step) (sk : Option (List UInt8)), i = .int .i64 k ∧ k ≤ n ∧ Hid (Eg stepSh 80 pStep g w r k xs sk u wr)) (fun _ i _ => n - (intOf i).toNat)
    case atStart => exact ⟨0, [], some r, rfl, Nat.zero_le _, HEG⟩
    case round =>
      clear HEG g1 g2
      obtain ⟨k, xs, sk, rfl, hk, hE⟩ := hrel
      have hxl : xs.length ≤ 4194304 := by have := hE.out.len; omega
      by_cases hlt : k < n
      · have hlti : (k : Int) < (n : Int) := by omega
        cases sk with
        | none =>
          have HE := Lib.hid (hE.out.bad hk HY.out hn hxl)
          obtain ⟨rest, hrs⟩ := hE.out.rs
          obtain ⟨_, _, _, g2, _⟩ := hrs.st
          clear hrs hE HY
          go_wp2_with fail
          go_ret
          exact HE.out
        | some l =>
          have hrs : RS g l false wr := hE.out.rs
          obtain ⟨_, _, _, g2, _⟩ := hrs.st
          have HC := Lib.hid (rdstep_any g (some l) wr hE.out.rs)
          clear hrs
          go_wp2_with fail
          refine HC.out.mono ?_
          rintro e w5 ⟨v5, x, rfl, hV, hst5, hx5, hk5⟩
          have hsz5 := hk5.size
          have hown5 := hE.out.own.keptG hk5 hgw
          have hov := hE.out.own.lt
          have hszr := hE.out.kept.size
          obtain ⟨cs, rfl, hV⟩ := hV
          have hR := hV
          obtain ⟨v, rfl, _, a1, cap1, rfl, _⟩ := hV
          have hV := hR
          obtain ⟨v6, w6, hr6, ho6, hb6⟩ := Own.snoc (P := Try.prog) (t := 75) (cs := [.slice a1 x.parts.length cap1, .int .i64 x.div]) Try.underlying75 Try.eachStepInfo (by decide) (by decide) hown5 hxl (Nat.le_trans hszr hsz5) (x := x) (by
            have hV := hR
            exact Sh.keep stepSh (fun b ⟨a1, a2⟩ => ⟨Nat.le_trans hszr a1, a2, fun e => by have := hov b e; omega⟩) (fun _ _ _ => rfl) hV)
          have HEG : Hid (Eg stepSh 80 pStep g w r (k + 1) (xs ++ [x]) (nxt pStep (some l)) v6 w6) := by
            refine ⟨?_, ho6, ?_, by rw [List.length_append]; have := hE.out.len; simp; omega, ?_⟩
            · have hlt5 := hst5.lt
              cases hnn : nxt pStep (some l) with
              | none =>
                rw [hnn] at hst5
                obtain ⟨rest, hrs⟩ := hst5
                exact ⟨rest, hrs.low hb6 hgw⟩
              | some l2 =>
                rw [hnn] at hst5
                exact RS.low hst5 hb6 hgw
            · exact (hE.out.kept.trans hk5).trans_low hb6 (Nat.le_trans hszr hsz5)
            · have hg := hE.out.go
              show pGo pStep (k + 1) (some r) = _
              unfold pGo
              rw [hg]
              show (pStep l).map _ = (((some l).bind pStep).map Prod.snd).map _
              cases hp : pStep l with
              | none => simp [hp]
              | some q =>
                have := hx5 q.1 q.2 hp
                subst this
                simp [hp]
          clear hV hR hst5 hx5 hk5 hE ho6 hb6 HC hown5 hov
          go_wp2_with (at_builtin; refine Lib.wpList_append_run _ rfl _ _ _ _ rfl _ _ rfl rfl _ _ (hr6 _) ?_)
          go_roundw
          case rel => exact ⟨k + 1, _, _, by go_num, by omega, HEG⟩
          case measure => simp [intOf]; omega
      · have hlti : ¬ (k : Int) < (n : Int) := by omega
        obtain rfl : k = n := by omega
        have HE := Lib.hid (hE.out.done HY.out hn hxl)
        clear hE HY
        go_wp2_with fail
        go_ret
        exact HE.out
  · have hn : st.bind (pEach pStep) = none := by
      cases hnx : nxt pNum st with
      | none => exact each_none _ (nxt_none hnx)
      | some r =>
        obtain ⟨y, hy⟩ := nxt_some hnx
        obtain rfl := hx1 _ _ hy
        refine each_bad _ hy ?_
        by_cases h0 : x < 0
        · exact .inl h0
        · exact .inr (Int.not_le.1 fun h4 => hgo ⟨r, hnx, by omega, h4⟩)
    obtain ⟨rest, bad, hrs, hbd⟩ : ∃ rest bad, RS g rest bad w1 ∧ (bad = true ∨ x < 0 ∨ (rest.length : Int) < x) := by
      cases hnx : nxt pNum st with
      | none =>
        rw [hnx] at hst1
        obtain ⟨rest, hrs⟩ := hst1
        exact ⟨rest, true, hrs, .inl rfl⟩
      | some r =>
        rw [hnx] at hst1
        refine ⟨r, false, hst1, .inr ?_⟩
        by_cases h0 : x < 0
        · exact .inl h0
        · exact .inr (Int.not_le.1 fun h4 => hgo ⟨r, hnx, by omega, h4⟩)
    have HE2 : Hid (PEnd (Vr stepSh) (pEach pStep) g st w (.returned (.slice none 0 0)) (w1.setCell ⟨g, 1, none⟩ (.bool true))) := ⟨_, [], rfl, ⟨none, 0, rfl, Sits.nil _ _ _ _⟩, by unfold nxt; rw [hn]; exact hrs.fail, fun y r e => (by rw [hn] at e; cases e), hk1.trans KeptG.set⟩
    have f1 := hrs.fr 1
    obtain ⟨a, c, g1, g2, _⟩ := hrs.st
    by_cases h0 : x < 0
    · have hx0 : ¬ (0 : Int) < x := by omega
      clear hst1 hx1 hk1 hrs hn hgo hbd hx HNU
      go_wp2_with fail
      go_loopw [6, 7] (fun u i wr => u = .slice none 0 0 ∧ i = .int .i64 0 ∧ (w1.setCell ⟨g, 1, none⟩ (.bool true)) = wr) (fun _ _ _ => 0)
      case atStart => exact ⟨rfl, rfl, rfl⟩
      case round =>
        obtain ⟨rfl, rfl, rfl⟩ := hrel
        go_wp2_with fail
        go_ret
        exact HE2.out
    · by_cases h1 : (rest.length : Int) < x
      · have hx0 : (0 : Int) < x := by omega
        clear hst1 hx1 hk1 hrs hn hgo hbd hx HNU
        go_wp2_with fail
        go_loopw [6, 7] (fun u i wr => u = .slice none 0 0 ∧ i = .int .i64 0 ∧ (w1.setCell ⟨g, 1, none⟩ (.bool true)) = wr) (fun _ _ _ => 0)
        case atStart => exact ⟨rfl, rfl, rfl⟩
        case round =>
          obtain ⟨rfl, rfl, rfl⟩ := hrel
          go_wp2_with fail
          go_ret
          exact HE2.out
      · obtain rfl : bad = true := by rcases hbd with h | h | h; exact h; exact absurd h h0; exact absurd h h1
        have HE1 : Hid (PEnd (Vr stepSh) (pEach pStep) g st w (.returned (.slice none 0 0)) w1) := ⟨_, [], rfl, ⟨none, 0, rfl, Sits.nil _ _ _ _⟩, by unfold nxt; rw [hn]; exact ⟨rest, hrs⟩, fun y r e => (by rw [hn] at e; cases e), hk1⟩
        by_cases hx0 : (0 : Int) < x
        · clear hst1 hx1 hk1 hrs hn hgo hbd hx HNU HE2
          go_wp2_with fail
          go_loopw [6, 7] (fun u i wr => u = .slice none 0 0 ∧ i = .int .i64 0 ∧ w1 = wr) (fun _ _ _ => 0)
          case atStart => exact ⟨rfl, rfl, rfl⟩
          case round =>
            obtain ⟨rfl, rfl, rfl⟩ := hrel
            go_wp2_with fail
            go_ret
            exact HE1.out
        · clear hst1 hx1 hk1 hrs hn hgo hbd hx HNU HE2
          go_wp2_with fail
          go_loopw [6, 7] (fun u i wr => u = .slice none 0 0 ∧ i = .int .i64 0 ∧ w1 = wr) (fun _ _ _ => 0)
          case atStart => exact ⟨rfl, rfl, rfl⟩
          case round =>
            obtain ⟨rfl, rfl, rfl⟩ := hrel
            go_wp2_with fail
            go_ret
            exact HE1.out
set_option maxHeartbeats 4000000 in
theorem rdclause_any (g : Nat) (st : Option (List UInt8)) (w : World) (h : RSt g st w) :
    Calls Try.prog 52 #[.pointer (some ⟨g, 0, none⟩)] w (PEnd (Vr intSh) pClause g st w) := by
  have HN := Lib.hid (eachInt_any g st w h)
  clear h
  go_enter Try.func52, Try.ntmps52
  go_wp2_with fail
  refine HN.out.mono ?_
  rintro e w1 ⟨v1, x1, rfl, ⟨a1, cap1, rfl, hV1⟩, hst1, hx1, hk1⟩
  have HE : Hid (PEnd (Vr intSh) pClause g st w (.returned (.slice a1 x1.length cap1)) w1) := ⟨_, x1, rfl, ⟨a1, cap1, rfl, hV1⟩, hst1, hx1, hk1⟩
  clear hV1 hst1 hx1 hk1 HN
  go_wp2_with fail
  go_ret
  exact HE.out
theorem Try.eachClauseInfo : (Try.prog.info? 74).map (fun i => (i.zero.map fun z => z.cells.size, i.size, i.bytes)) = some (some 1, 1, 24) := by kernel_rfl
set_option maxHeartbeats 8000000 in
theorem eachClause_any (g : Nat) (st : Option (List UInt8)) (w : World) (h : RSt g st w) :
    Calls Try.prog 51 #[.pointer (some ⟨g, 0, none⟩), .func (.func 52) #[.pointer (some ⟨g, 0, none⟩)] #[]] w (PEnd (Vr clauseSh) (pEach pClause) g st w) := by
  have HNU := Lib.hid (rdnum_any g st w h)
  have hgw := h.lt
  clear h
  go_enter Try.func51, Try.ntmps51
  go_wp2_with fail
  refine HNU.out.mono ?_
  rintro e w1 ⟨v1, x, rfl, ⟨rfl, hx⟩, hst1, hx1, hk1⟩
  by_cases hgo : ∃ r, nxt pNum st = some r ∧ 0 ≤ x ∧ x ≤ r.length
  · obtain ⟨r, hnx, h0, hxl⟩ := hgo
    obtain ⟨y, hy⟩ := nxt_some hnx
    obtain rfl := hx1 _ _ hy
    obtain ⟨n, rfl⟩ := Int.eq_ofNat_of_zero_le h0
    have hn : n ≤ r.length := by omega
    rw [hnx] at hst1
    have hrs : RS g r false w1 := hst1
    have HY := Lib.hid hy
    have hrl := hrs.len
    have HEG : Hid (Eg clauseSh 74 pClause g w r 0 [] (some r) (.slice none 0 0) w1) := ⟨hrs, Own.nil _ _ _ _, hk1, Nat.zero_le _, rfl⟩
    obtain ⟨a, c, g1, g2, _⟩ := hrs.st
    have hb1 : ¬ ((n : Int) < 0) := by omega
    have hb2 : ¬ ((r.length : Int) < (n : Int)) := by omega
    have hb3 : ¬ r.length < n := by omega
    clear hst1 hx1 hk1 hnx hx h0 hxl hrs HNU hy
    go_wp2_with fail
    go_loopw [6, 7] (fun u i wr => ∃ (k : Nat) (xs : List (List Int)) (sk : Option (List UInt8)), i = .int .i64 k ∧ k ≤ n ∧ Hid (Eg clauseSh 74 pClause g w r k xs sk u wr)) (fun _ i _ => n - (intOf i).toNat)
    case atStart => exact ⟨0, [], some r, rfl, Nat.zero_le _, HEG⟩
    case round =>
      clear HEG g1 g2
      obtain ⟨k, xs, sk, rfl, hk, hE⟩ := hrel
      have hxl : xs.length ≤ 4194304 := by have := hE.out.len; omega
      by_cases hlt : k < n
      · have hlti : (k : Int) < (n : Int) := by omega
        cases sk with
        | none =>
          have HE := Lib.hid (hE.out.bad hk HY.out hn hxl)
          obtain ⟨rest, hrs⟩ := hE.out.rs
          obtain ⟨_, _, _, g2, _⟩ := hrs.st
          clear hrs hE HY
          go_wp2_with fail
          go_ret
          exact HE.out
        | some l =>
          have hrs : RS g l false wr := hE.out.rs
          obtain ⟨_, _, _, g2, _⟩ := hrs.st
          have HC := Lib.hid (rdclause_any g (some l) wr hE.out.rs)
          clear hrs
          go_wp2_with fail
          refine HC.out.mono ?_
          rintro e w5 ⟨v5, x, rfl, hV, hst5, hx5, hk5⟩
          have hsz5 := hk5.size
          have hown5 := hE.out.own.keptG hk5 hgw
          have hov := hE.out.own.lt
          have hszr := hE.out.kept.size
          obtain ⟨a1, cap1, rfl, hV⟩ := hV
          have hR : clauseSh.rel (fun b => wr.heap.size ≤ b ∧ b < w5.heap.size) w5 [.slice a1 x.length cap1] x := ⟨_, rfl, a1, cap1, rfl, hV⟩
          have hV := hR
          obtain ⟨v6, w6, hr6, ho6, hb6⟩ := Own.snoc (P := Try.prog) (t := 46) (cs := [.slice a1 x.length cap1]) Try.underlying46 Try.eachClauseInfo (by decide) (by decide) hown5 hxl (Nat.le_trans hszr hsz5) (x := x) (by
            have hV := hR
            exact Sh.keep clauseSh (fun b ⟨a1, a2⟩ => ⟨Nat.le_trans hszr a1, a2, fun e => by have := hov b e; omega⟩) (fun _ _ _ => rfl) hV)
          have HEG : Hid (Eg clauseSh 74 pClause g w r (k + 1) (xs ++ [x]) (nxt pClause (some l)) v6 w6) := by
            refine ⟨?_, ho6, ?_, by rw [List.length_append]; have := hE.out.len; simp; omega, ?_⟩
            · have hlt5 := hst5.lt
              cases hnn : nxt pClause (some l) with
              | none =>
                rw [hnn] at hst5
                obtain ⟨rest, hrs⟩ := hst5
                exact ⟨rest, hrs.low hb6 hgw⟩
              | some l2 =>
                rw [hnn] at hst5
                exact RS.low hst5 hb6 hgw
            · exact (hE.out.kept.trans hk5).trans_low hb6 (Nat.le_trans hszr hsz5)
            · have hg := hE.out.go
              show pGo pClause (k + 1) (some r) = _
              unfold pGo
              rw [hg]
              show (pClause l).map _ = (((some l).bind pClause).map Prod.snd).map _
              cases hp : pClause l with
              | none => simp [hp]
              | some q =>
                have := hx5 q.1 q.2 hp
                subst this
                simp [hp]
          clear hV hR hst5 hx5 hk5 hE ho6 hb6 HC hown5 hov
          go_wp2_with (at_builtin; refine Lib.wpList_append_run _ rfl _ _ _ _ rfl _ _ rfl rfl _ _ (hr6 _) ?_)
          go_roundw
          case rel => exact ⟨k + 1, _, _, by go_num, by omega, HEG⟩
          case measure => simp [intOf]; omega
      · have hlti : ¬ (k : Int) < (n : Int) := by omega
        obtain rfl : k = n := by omega
        have HE := Lib.hid (hE.out.done HY.out hn hxl)
        clear hE HY
        go_wp2_with fail
        go_ret
        exact HE.out
  · have hn : st.bind (pEach pClause) = none := by
      cases hnx : nxt pNum st with
      | none => exact each_none _ (nxt_none hnx)
      | some r =>
        obtain ⟨y, hy⟩ := nxt_some hnx
        obtain rfl := hx1 _ _ hy
        refine each_bad _ hy ?_
        by_cases h0 : x < 0
        · exact .inl h0
        · exact .inr (Int.not_le.1 fun h4 => hgo ⟨r, hnx, by omega, h4⟩)
    obtain ⟨rest, bad, hrs, hbd⟩ : ∃ rest bad, RS g rest bad w1 ∧ (bad = true ∨ x < 0 ∨ (rest.length : Int) < x) := by
      cases hnx : nxt pNum st with
      | none =>
        rw [hnx] at hst1
        obtain ⟨rest, hrs⟩ := hst1
        exact ⟨rest, true, hrs, .inl rfl⟩
      | some r =>
        rw [hnx] at hst1
        refine ⟨r, false, hst1, .inr ?_⟩
        by_cases h0 : x < 0
        · exact .inl h0
        · exact .inr (Int.not_le.1 fun h4 => hgo ⟨r, hnx, by omega, h4⟩)
    have HE2 : Hid (PEnd (Vr clauseSh) (pEach pClause) g st w (.returned (.slice none 0 0)) (w1.setCell ⟨g, 1, none⟩ (.bool true))) := ⟨_, [], rfl, ⟨none, 0, rfl, Sits.nil _ _ _ _⟩, by unfold nxt; rw [hn]; exact hrs.fail, fun y r e => (by rw [hn] at e; cases e), hk1.trans KeptG.set⟩
    have f1 := hrs.fr 1
    obtain ⟨a, c, g1, g2, _⟩ := hrs.st
    by_cases h0 : x < 0
    · have hx0 : ¬ (0 : Int) < x := by omega
      clear hst1 hx1 hk1 hrs hn hgo hbd hx HNU
      go_wp2_with fail
      go_loopw [6, 7] (fun u i wr => u = .slice none 0 0 ∧ i = .int .i64 0 ∧ (w1.setCell ⟨g, 1, none⟩ (.bool true)) = wr) (fun _ _ _ => 0)
      case atStart => exact ⟨rfl, rfl, rfl⟩
      case round =>
        obtain ⟨rfl, rfl, rfl⟩ := hrel
        go_wp2_with fail
        go_ret
        exact HE2.out
    · by_cases h1 : (rest.length : Int) < x
      · have hx0 : (0 : Int) < x := by omega
        clear hst1 hx1 hk1 hrs hn hgo hbd hx HNU
        go_wp2_with fail
        go_loopw [6, 7] (fun u i wr => u = .slice none 0 0 ∧ i = .int .i64 0 ∧ (w1.setCell ⟨g, 1, none⟩ (.bool true)) = wr) (fun _ _ _ => 0)
        case atStart => exact ⟨rfl, rfl, rfl⟩
        case round =>
          obtain ⟨rfl, rfl, rfl⟩ := hrel
          go_wp2_with fail
          go_ret
          exact HE2.out
      · obtain rfl : bad = true := by rcases hbd with h | h | h; exact h; exact absurd h h0; exact absurd h h1
        have HE1 : Hid (PEnd (Vr clauseSh) (pEach pClause) g st w (.returned (.slice none 0 0)) w1) := ⟨_, [], rfl, ⟨none, 0, rfl, Sits.nil _ _ _ _⟩, by unfold nxt; rw [hn]; exact ⟨rest, hrs⟩, fun y r e => (by rw [hn] at e; cases e), hk1⟩
        by_cases hx0 : (0 : Int) < x
        · clear hst1 hx1 hk1 hrs hn hgo hbd hx HNU HE2
          go_wp2_with fail
          go_loopw [6, 7] (fun u i wr => u = .slice none 0 0 ∧ i = .int .i64 0 ∧ w1 = wr) (fun _ _ _ => 0)
          case atStart => exact ⟨rfl, rfl, rfl⟩
          case round =>
            obtain ⟨rfl, rfl, rfl⟩ := hrel
            go_wp2_with fail
            go_ret
            exact HE1.out
        · clear hst1 hx1 hk1 hrs hn hgo hbd hx HNU HE2
          go_wp2_with fail
          go_loopw [6, 7] (fun u i wr => u = .slice none 0 0 ∧ i = .int .i64 0 ∧ w1 = wr) (fun _ _ _ => 0)
          case atStart => exact ⟨rfl, rfl, rfl⟩
          case round =>
            obtain ⟨rfl, rfl, rfl⟩ := hrel
            go_wp2_with fail
            go_ret
            exact HE1.out
end Go.Proofs.Ytgaipfkblfommaa
