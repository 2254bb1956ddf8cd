/- The reader: a record. -/
import Derived.Test.YtgaipfkblfommaaPakUc
set_option linter.unusedVariables false
set_option linter.unusedSimpArgs false
namespace Go.Proofs.Ytgaipfkblfommaa
set_option maxRecDepth 100000
open Go.RowKit

theorem name_of {st : Option (List UInt8)} {x : Int} (hx : ∀ y r, st.bind pNum = some (y, r) → x = y) : nxt pName st = nxt (pText x) (nxt pNum st) ∧ ∀ y r, st.bind pName = some (y, r) → (nxt pNum st).bind (pText x) = some (y, r) := by
  cases st with
  | none => exact ⟨rfl, fun y r e => by cases e⟩
  | some l =>
    show ((pName l).map Prod.snd) = ((((pNum l).map Prod.snd).bind (pText x)).map Prod.snd) ∧ ∀ y r, pName l = some (y, r) → ((pNum l).map Prod.snd).bind (pText x) = some (y, r)
    unfold pName
    cases hp : pNum l with
    | none => exact ⟨rfl, fun y r e => by cases e⟩
    | some q =>
      obtain rfl := hx q.1 q.2 hp
      exact ⟨rfl, fun y r e => e⟩
set_option maxHeartbeats 4000000 in
theorem rdrec_any (g : Nat) (st : Option (List UInt8)) (w : World) (h : RSt g st w) :
    Calls Try.prog 24 #[.pointer (some ⟨g, 0, none⟩)] w (PEnd (Va recSh) pRec g st w) := by
  have HA : Hid (Below w.heap.size w (w.alloc (.cells #[.string ByteArray.empty, .slice none 0 0] 37))) := (Below.refl _ _).alloc (Nat.le_refl _) _
  have hgl := h.lt
  have hne : w.heap.size ≠ g := by omega
  have hsz : (w.alloc (.cells #[.string ByteArray.empty, .slice none 0 0] 37)).heap.size = w.heap.size + 1 := by simp
  have z0 := cell_of_row (w.alloc (.cells #[.string ByteArray.empty, .slice none 0 0] 37)) w.heap.size 0 _ _ _ (heap_alloc_new w _)
  have z1 := cell_of_row (w.alloc (.cells #[.string ByteArray.empty, .slice none 0 0] 37)) w.heap.size 1 _ _ _ (heap_alloc_new w _)
  have zf := fun j => frozen_new w #[.string ByteArray.empty, .slice none 0 0] 37 j
  have HN := Lib.hid (rdnum_any g st (w.alloc (.cells #[.string ByteArray.empty, .slice none 0 0] 37)) (h.below HA.out))
  have HZ := Lib.hid (And.intro z0 (And.intro z1 (And.intro zf hsz)))
  clear h z0 z1 zf hsz
  go_enter Try.func24, Try.ntmps24
  go_wp2_with fail
  refine HN.out.mono ?_
  rintro e w0 ⟨v0, x0, rfl, ⟨rfl, hi0⟩, hst0, hx0, hk0⟩
  have HX0 := Lib.hid (name_of hx0)
  have HT := Lib.hid (rdtext_any g _ x0 w0 hst0 hi0)
  have HK0 := Lib.hid hk0
  clear hst0 hx0 hk0 hi0 HN
  go_wp2_with fail
  refine HT.out.mono ?_
  rintro e w1 ⟨v1, x1, rfl, rfl, hst1, hx1, hk1⟩
  have HN2 := Lib.hid (eachReply_any g _ w1 hst1)
  have HX1 := Lib.hid hx1
  have HK1 := Lib.hid (HK0.out.trans hk1)
  clear hst1 hx1 hk1 HT HK0
  go_wp2_with fail
  refine HN2.out.mono ?_
  rintro e w2 ⟨v2, x2, rfl, ⟨a2, cap2, rfl, hV2⟩, hst2, hx2, hk2⟩
  obtain ⟨z0, z1, zf, hsz⟩ := HZ.out
  have hs1 := HK1.out.size
  have hs2 := hk2.size
  have q0 := (hk2.cell (h := w.heap.size) (by omega) hne 0).trans ((HK1.out.cell (h := w.heap.size) (by omega) hne 0).trans z0)
  have q1 := (hk2.cell (h := w.heap.size) (by omega) hne 1).trans ((HK1.out.cell (h := w.heap.size) (by omega) hne 1).trans z1)
  have qf := fun j => (hk2.frozen (h := w.heap.size) (by omega) hne j).trans ((HK1.out.frozen (h := w.heap.size) (by omega) hne j).trans (zf j))
  have qf0 := qf 0
  have qf1 := qf 1
  have FR : Far w.heap.size w2 ((w2.setCell ⟨w.heap.size, 0, none⟩ (.string x1)).setCell ⟨w.heap.size, 1, none⟩ (.slice a2 x2.length cap2)) := ((Far.refl _ _).set _).set _
  have HE : Hid (PEnd (Va recSh) pRec g st w (.returned (.agg #[.string x1, .slice a2 x2.length cap2])) ((w2.setCell ⟨w.heap.size, 0, none⟩ (.string x1)).setCell ⟨w.heap.size, 1, none⟩ (.slice a2 x2.length cap2))) := by
    have hsf := FR.size
    have k3 : Slot replySh (fun b => w1.heap.size ≤ b ∧ b < w2.heap.size) w2 (.slice a2 x2.length cap2) x2 := ⟨a2, cap2, rfl, hV2⟩
    refine ⟨_, ⟨x1, x2⟩, rfl, ⟨[.string x1, .slice a2 x2.length cap2], rfl, _, rfl, k3.far FR (fun b ⟨p1, p2⟩ => ⟨by omega, by omega⟩) (fun b ⟨p1, p2⟩ => by omega)⟩, ?_, fun y r e => ?_, ((KeptG.of_below HA.out).trans (HK1.out.trans hk2)).far FR (Nat.le_refl _)⟩
    · have e : nxt pRec st = _ := seq_nxt pName (pEach pReply) Rec.mk st
      rw [e, HX0.out.1]
      exact hst2.low (FR.below (B := w.heap.size) (Nat.le_refl _)) hgl
    · obtain ⟨a, b, r1, e1, e2, rfl⟩ := seq_val (show st.bind (pSeq pName (pEach pReply) Rec.mk) = some (y, r) from e)
      rw [HX0.out.1] at e2
      rw [HX1.out a r1 (HX0.out.2 a r1 e1), hx2 b r e2]
  obtain ⟨e0, e1⟩ := res2 (.string x1) (.slice a2 x2.length cap2) (q0.trans rfl) (q1.trans rfl)
  clear hV2 hst2 hx2 hk2 FR HX0 HX1 HK1 qf z0 z1 zf
  go_wp2_with fail
  refine bodyPost_ret (v := .agg #[.string x1, .slice a2 x2.length cap2]) ?_ rfl HE.out
  clear q0 q1 qf0 qf1 HE
  simp [results, Try.results24, go_sem, e0, e1]
theorem Try.eachRecInfo : (Try.prog.info? 37).map (fun i => (i.zero.map fun z => z.cells.size, i.size, i.bytes)) = some (some 2, 2, 40) := by kernel_rfl
set_option maxHeartbeats 8000000 in
theorem eachRec_any (g : Nat) (st : Option (List UInt8)) (w : World) (h : RSt g st w) :
    Calls Try.prog 23 #[.pointer (some ⟨g, 0, none⟩), .func (.func 24) #[.pointer (some ⟨g, 0, none⟩)] #[]] w (PEnd (Vr recSh) (pEach pRec) g st w) := by
  have HNU := Lib.hid (rdnum_any g st w h)
  have hgw := h.lt
  clear h
  go_enter Try.func23, Try.ntmps23
  go_wp2_with fail
  refine HNU.out.mono ?_
  rintro e w1 ⟨v1, x, rfl, ⟨rfl, hx⟩, hst1, hx1, hk1⟩
  by_cases hgo : ∃ r, nxt pNum st = some r ∧ 0 ≤ x ∧ x ≤ r.length
  · obtain ⟨r, hnx, h0, hxl⟩ := hgo
    obtain ⟨y, hy⟩ := nxt_some hnx
    obtain rfl := hx1 _ _ hy
    obtain ⟨n, rfl⟩ := Int.eq_ofNat_of_zero_le h0
    have hn : n ≤ r.length := by omega
    rw [hnx] at hst1
    have hrs : RS g r false w1 := hst1
    have HY := Lib.hid hy
    have hrl := hrs.len
    have HEG : Hid (Eg recSh 37 pRec g w r 0 [] (some r) (.slice none 0 0) w1) := ⟨hrs, Own.nil _ _ _ _, hk1, Nat.zero_le _, rfl⟩
    obtain ⟨a, c, g1, g2, _⟩ := hrs.st
    have hb1 : ¬ ((n : Int) < 0) := by omega
    have hb2 : ¬ ((r.length : Int) < (n : Int)) := by omega
    have hb3 : ¬ r.length < n := by omega
    clear hst1 hx1 hk1 hnx hx h0 hxl hrs HNU hy
    go_wp2_with fail
    go_loopw [6, 7] (fun u i wr => ∃ (k : Nat) (xs : List Rec) (sk : Option (List UInt8)), i = .int .i64 k ∧ k ≤ n ∧ Hid (Eg recSh 37 pRec g w r k xs sk u wr)) (fun _ i _ => n - (intOf i).toNat)
    case atStart => exact ⟨0, [], some r, rfl, Nat.zero_le _, HEG⟩
    case round =>
      clear HEG g1 g2
      obtain ⟨k, xs, sk, rfl, hk, hE⟩ := hrel
      have hxl : xs.length ≤ 4194304 := by have := hE.out.len; omega
      by_cases hlt : k < n
      · have hlti : (k : Int) < (n : Int) := by omega
        cases sk with
        | none =>
          have HE := Lib.hid (hE.out.bad hk HY.out hn hxl)
          obtain ⟨rest, hrs⟩ := hE.out.rs
          obtain ⟨_, _, _, g2, _⟩ := hrs.st
          clear hrs hE HY
          go_wp2_with fail
          go_ret
          exact HE.out
        | some l =>
          have hrs : RS g l false wr := hE.out.rs
          obtain ⟨_, _, _, g2, _⟩ := hrs.st
          have HC := Lib.hid (rdrec_any g (some l) wr hE.out.rs)
          clear hrs
          go_wp2_with fail
          refine HC.out.mono ?_
          rintro e w5 ⟨v5, x, rfl, hV, hst5, hx5, hk5⟩
          have hsz5 := hk5.size
          have hown5 := hE.out.own.keptG hk5 hgw
          have hov := hE.out.own.lt
          have hszr := hE.out.kept.size
          obtain ⟨cs, rfl, hV⟩ := hV
          have hR := hV
          obtain ⟨v, rfl, ⟨a1, cap1, rfl, _⟩⟩ := hV
          have hV := hR
          obtain ⟨v6, w6, hr6, ho6, hb6⟩ := Own.snoc (P := Try.prog) (t := 22) (cs := [.string x.name, .slice a1 x.reps.length cap1]) Try.underlying22 Try.eachRecInfo (by decide) (by decide) hown5 hxl (Nat.le_trans hszr hsz5) (x := x) (by
            have hV := hR
            exact Sh.keep recSh (fun b ⟨a1, a2⟩ => ⟨Nat.le_trans hszr a1, a2, fun e => by have := hov b e; omega⟩) (fun _ _ _ => rfl) hV)
          have HEG : Hid (Eg recSh 37 pRec g w r (k + 1) (xs ++ [x]) (nxt pRec (some l)) v6 w6) := by
            refine ⟨?_, ho6, ?_, by rw [List.length_append]; have := hE.out.len; simp; omega, ?_⟩
            · have hlt5 := hst5.lt
              cases hnn : nxt pRec (some l) with
              | none =>
                rw [hnn] at hst5
                obtain ⟨rest, hrs⟩ := hst5
                exact ⟨rest, hrs.low hb6 hgw⟩
              | some l2 =>
                rw [hnn] at hst5
                exact RS.low hst5 hb6 hgw
            · exact (hE.out.kept.trans hk5).trans_low hb6 (Nat.le_trans hszr hsz5)
            · have hg := hE.out.go
              show pGo pRec (k + 1) (some r) = _
              unfold pGo
              rw [hg]
              show (pRec l).map _ = (((some l).bind pRec).map Prod.snd).map _
              cases hp : pRec l with
              | none => simp [hp]
              | some q =>
                have := hx5 q.1 q.2 hp
                subst this
                simp [hp]
          clear hV hR hst5 hx5 hk5 hE ho6 hb6 HC hown5 hov
          go_wp2_with (at_builtin; refine Lib.wpList_append_run _ rfl _ _ _ _ rfl _ _ rfl rfl _ _ (hr6 _) ?_)
          go_roundw
          case rel => exact ⟨k + 1, _, _, by go_num, by omega, HEG⟩
          case measure => simp [intOf]; omega
      · have hlti : ¬ (k : Int) < (n : Int) := by omega
        obtain rfl : k = n := by omega
        have HE := Lib.hid (hE.out.done HY.out hn hxl)
        clear hE HY
        go_wp2_with fail
        go_ret
        exact HE.out
  · have hn : st.bind (pEach pRec) = none := by
      cases hnx : nxt pNum st with
      | none => exact each_none _ (nxt_none hnx)
      | some r =>
        obtain ⟨y, hy⟩ := nxt_some hnx
        obtain rfl := hx1 _ _ hy
        refine each_bad _ hy ?_
        by_cases h0 : x < 0
        · exact .inl h0
        · exact .inr (Int.not_le.1 fun h4 => hgo ⟨r, hnx, by omega, h4⟩)
    obtain ⟨rest, bad, hrs, hbd⟩ : ∃ rest bad, RS g rest bad w1 ∧ (bad = true ∨ x < 0 ∨ (rest.length : Int) < x) := by
      cases hnx : nxt pNum st with
      | none =>
        rw [hnx] at hst1
        obtain ⟨rest, hrs⟩ := hst1
        exact ⟨rest, true, hrs, .inl rfl⟩
      | some r =>
        rw [hnx] at hst1
        refine ⟨r, false, hst1, .inr ?_⟩
        by_cases h0 : x < 0
        · exact .inl h0
        · exact .inr (Int.not_le.1 fun h4 => hgo ⟨r, hnx, by omega, h4⟩)
    have HE2 : Hid (PEnd (Vr recSh) (pEach pRec) g st w (.returned (.slice none 0 0)) (w1.setCell ⟨g, 1, none⟩ (.bool true))) := ⟨_, [], rfl, ⟨none, 0, rfl, Sits.nil _ _ _ _⟩, by unfold nxt; rw [hn]; exact hrs.fail, fun y r e => (by rw [hn] at e; cases e), hk1.trans KeptG.set⟩
    have f1 := hrs.fr 1
    obtain ⟨a, c, g1, g2, _⟩ := hrs.st
    by_cases h0 : x < 0
    · have hx0 : ¬ (0 : Int) < x := by omega
      clear hst1 hx1 hk1 hrs hn hgo hbd hx HNU
      go_wp2_with fail
      go_loopw [6, 7] (fun u i wr => u = .slice none 0 0 ∧ i = .int .i64 0 ∧ (w1.setCell ⟨g, 1, none⟩ (.bool true)) = wr) (fun _ _ _ => 0)
      case atStart => exact ⟨rfl, rfl, rfl⟩
      case round =>
        obtain ⟨rfl, rfl, rfl⟩ := hrel
        go_wp2_with fail
        go_ret
        exact HE2.out
    · by_cases h1 : (rest.length : Int) < x
      · have hx0 : (0 : Int) < x := by omega
        clear hst1 hx1 hk1 hrs hn hgo hbd hx HNU
        go_wp2_with fail
        go_loopw [6, 7] (fun u i wr => u = .slice none 0 0 ∧ i = .int .i64 0 ∧ (w1.setCell ⟨g, 1, none⟩ (.bool true)) = wr) (fun _ _ _ => 0)
        case atStart => exact ⟨rfl, rfl, rfl⟩
        case round =>
          obtain ⟨rfl, rfl, rfl⟩ := hrel
          go_wp2_with fail
          go_ret
          exact HE2.out
      · obtain rfl : bad = true := by rcases hbd with h | h | h; exact h; exact absurd h h0; exact absurd h h1
        have HE1 : Hid (PEnd (Vr recSh) (pEach pRec) g st w (.returned (.slice none 0 0)) w1) := ⟨_, [], rfl, ⟨none, 0, rfl, Sits.nil _ _ _ _⟩, by unfold nxt; rw [hn]; exact ⟨rest, hrs⟩, fun y r e => (by rw [hn] at e; cases e), hk1⟩
        by_cases hx0 : (0 : Int) < x
        · clear hst1 hx1 hk1 hrs hn hgo hbd hx HNU HE2
          go_wp2_with fail
          go_loopw [6, 7] (fun u i wr => u = .slice none 0 0 ∧ i = .int .i64 0 ∧ w1 = wr) (fun _ _ _ => 0)
          case atStart => exact ⟨rfl, rfl, rfl⟩
          case round =>
            obtain ⟨rfl, rfl, rfl⟩ := hrel
            go_wp2_with fail
            go_ret
            exact HE1.out
        · clear hst1 hx1 hk1 hrs hn hgo hbd hx HNU HE2
          go_wp2_with fail
          go_loopw [6, 7] (fun u i wr => u = .slice none 0 0 ∧ i = .int .i64 0 ∧ w1 = wr) (fun _ _ _ => 0)
          case atStart => exact ⟨rfl, rfl, rfl⟩
          case round =>
            obtain ⟨rfl, rfl, rfl⟩ := hrel
            go_wp2_with fail
            go_ret
            exact HE1.out
end Go.Proofs.Ytgaipfkblfommaa
