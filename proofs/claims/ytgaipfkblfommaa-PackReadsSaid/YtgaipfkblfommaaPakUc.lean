/- The reader: a reply. -/
import Derived.Test.YtgaipfkblfommaaPakUb
set_option linter.unusedVariables false
set_option linter.unusedSimpArgs false
namespace Go.Proofs.Ytgaipfkblfommaa
set_option maxRecDepth 100000
open Go.RowKit

theorem res3 {w : World} {h : Nat} {z0 z1 z2 : Value} (a b c : Value) (c0 : w.cell? ⟨h, 0, none⟩ = some z0) (c1 : w.cell? ⟨h, 1, none⟩ = some z1) (c2 : w.cell? ⟨h, 2, none⟩ = some z2) :
    (((w.setCell ⟨h, 0, none⟩ a).setCell ⟨h, 1, none⟩ b).setCell ⟨h, 2, none⟩ c).cell? ⟨h, 0, none⟩ = some a ∧ (((w.setCell ⟨h, 0, none⟩ a).setCell ⟨h, 1, none⟩ b).setCell ⟨h, 2, none⟩ c).cell? ⟨h, 1, none⟩ = some b ∧ (((w.setCell ⟨h, 0, none⟩ a).setCell ⟨h, 1, none⟩ b).setCell ⟨h, 2, none⟩ c).cell? ⟨h, 2, none⟩ = some c := by
  obtain ⟨e0, e1⟩ := res2 a b c0 c1
  have e2 : ((w.setCell ⟨h, 0, none⟩ a).setCell ⟨h, 1, none⟩ b).cell? ⟨h, 2, none⟩ = some z2 := (World.cell?_setCell_other _ ⟨h, 1, none⟩ ⟨h, 2, none⟩ b (by simp)).trans ((World.cell?_setCell_other w ⟨h, 0, none⟩ ⟨h, 2, none⟩ a (by simp)).trans c2)
  exact ⟨(World.cell?_setCell_other _ ⟨h, 2, none⟩ ⟨h, 0, none⟩ c (by simp)).trans e0, (World.cell?_setCell_other _ ⟨h, 2, none⟩ ⟨h, 1, none⟩ c (by simp)).trans e1, World.cell?_setCell_same' _ _ _ (by rw [e2]; rfl)⟩
theorem reply_zero {st : Option (List UInt8)} {x : UInt8} (hx : ∀ y r, st.bind pTake = some (y, r) → x = y) (h : x.toNat = 0) : nxt pReply st = nxt pTake st ∧ ∀ y r, st.bind pReply = some (y, r) → y = ⟨false, [], []⟩ := by
  rcases st with _ | _ | ⟨b, l⟩
  · exact ⟨rfl, fun y r e => by cases e⟩
  · exact ⟨rfl, fun y r e => by cases e⟩
  · obtain rfl := hx b l rfl
    have e1 : pReply (x :: l) = some (⟨false, [], []⟩, l) := by simp [pReply, pTake, h]
    refine ⟨?_, fun y r e => ?_⟩
    · show ((pReply (x :: l)).map Prod.snd) = _
      rw [e1]; rfl
    · have e : pReply (x :: l) = some (y, r) := e
      rw [e1] at e
      simp at e
      exact e.1.symm
theorem reply_one {st : Option (List UInt8)} {x : UInt8} (hx : ∀ y r, st.bind pTake = some (y, r) → x = y) (h : x.toNat = 1) : nxt pReply st = nxt pCert (nxt pTake st) ∧ ∀ y r, st.bind pReply = some (y, r) → ∃ c, (nxt pTake st).bind pCert = some (c, r) ∧ y = ⟨true, c.1, c.2⟩ := by
  rcases st with _ | _ | ⟨b, l⟩
  · exact ⟨rfl, fun y r e => by cases e⟩
  · exact ⟨rfl, fun y r e => by cases e⟩
  · obtain rfl := hx b l rfl
    have e1 : pReply (x :: l) = (pCert l).map fun q => (⟨true, q.1.1, q.1.2⟩, q.2) := by simp [pReply, pTake, h]
    refine ⟨?_, fun y r e => ?_⟩
    · show ((pReply (x :: l)).map Prod.snd) = ((pCert l).map Prod.snd)
      rw [e1]
      cases pCert l <;> rfl
    · have e : pReply (x :: l) = some (y, r) := e
      rw [e1] at e
      show ∃ c, pCert l = some (c, r) ∧ _
      cases hc : pCert l with
      | none => rw [hc] at e; cases e
      | some q =>
        rw [hc] at e
        simp at e
        exact ⟨q.1, by rw [← e.2], e.1.symm⟩
theorem reply_else {st : Option (List UInt8)} {x : UInt8} (hx : ∀ y r, st.bind pTake = some (y, r) → x = y) (h : x.toNat ≠ 0) (h1 : x.toNat ≠ 1) : st.bind pReply = none := by
  rcases st with _ | _ | ⟨b, l⟩
  · rfl
  · rfl
  · obtain rfl := hx b l rfl
    show pReply (x :: l) = none
    simp [pReply, pTake, h, h1]
set_option maxHeartbeats 4000000 in
theorem rdreply_any (g : Nat) (st : Option (List UInt8)) (w : World) (h : RSt g st w) :
    Calls Try.prog 40 #[.pointer (some ⟨g, 0, none⟩)] w (PEnd (Va replySh) pReply g st w) := by
  have HA : Hid (Below w.heap.size w (w.alloc (.cells #[.bool false, .slice none 0 0, .slice none 0 0] 50))) := (Below.refl _ _).alloc (Nat.le_refl _) _
  have hgl := h.lt
  have hne : w.heap.size ≠ g := by omega
  have hsz : (w.alloc (.cells #[.bool false, .slice none 0 0, .slice none 0 0] 50)).heap.size = w.heap.size + 1 := by simp
  have z0 := cell_of_row (w.alloc (.cells #[.bool false, .slice none 0 0, .slice none 0 0] 50)) w.heap.size 0 _ _ _ (heap_alloc_new w _)
  have z1 := cell_of_row (w.alloc (.cells #[.bool false, .slice none 0 0, .slice none 0 0] 50)) w.heap.size 1 _ _ _ (heap_alloc_new w _)
  have z2 := cell_of_row (w.alloc (.cells #[.bool false, .slice none 0 0, .slice none 0 0] 50)) w.heap.size 2 _ _ _ (heap_alloc_new w _)
  have zf := fun j => frozen_new w #[.bool false, .slice none 0 0, .slice none 0 0] 50 j
  have HN := Lib.hid (take_any g st (w.alloc (.cells #[.bool false, .slice none 0 0, .slice none 0 0] 50)) (h.below HA.out))
  have HZ := Lib.hid (And.intro z0 (And.intro z1 (And.intro z2 (And.intro zf hsz))))
  clear h z0 z1 z2 zf hsz
  go_enter Try.func40, Try.ntmps40
  go_wp2_with fail
  refine HN.out.mono ?_
  rintro e w1 ⟨v1, x1, rfl, rfl, hst1, hx1, hk1⟩
  have HX1 := Lib.hid hx1
  have HK1 := Lib.hid hk1
  obtain ⟨z0, z1, z2, zf, hsz⟩ := HZ.out
  have hs1 := hk1.size
  have q0 := (hk1.cell (h := w.heap.size) (by omega) hne 0).trans z0
  have q1 := (hk1.cell (h := w.heap.size) (by omega) hne 1).trans z1
  have q2 := (hk1.cell (h := w.heap.size) (by omega) hne 2).trans z2
  have qf := fun j => (hk1.frozen (h := w.heap.size) (by omega) hne j).trans (zf j)
  obtain ⟨xb, hxb⟩ : ∃ xb, x1.toNat = xb := ⟨_, rfl⟩
  rw [hxb]
  by_cases hb0 : xb = 0
  · have e0 : ((xb : Int) == 0) = true := by rw [hb0]; rfl
    have FR : Far w.heap.size w1 (((w1.setCell ⟨w.heap.size, 0, none⟩ (.bool false)).setCell ⟨w.heap.size, 1, none⟩ (.slice none 0 0)).setCell ⟨w.heap.size, 2, none⟩ (.slice none 0 0)) := (((Far.refl _ _).set _).set _).set _
    have HE : Hid (PEnd (Va replySh) pReply g st w (.returned (.agg #[.bool false, .slice none 0 0, .slice none 0 0])) (((w1.setCell ⟨w.heap.size, 0, none⟩ (.bool false)).setCell ⟨w.heap.size, 1, none⟩ (.slice none 0 0)).setCell ⟨w.heap.size, 2, none⟩ (.slice none 0 0))) := by
      obtain ⟨r1, r2⟩ := reply_zero HX1.out (by rw [hxb]; exact hb0)
      exact ⟨_, ⟨false, [], []⟩, rfl, ⟨[.bool false, .slice none 0 0, .slice none 0 0], rfl, _, _, rfl, ⟨none, 0, rfl, Sits.nil _ _ _ _⟩, ⟨none, 0, rfl, Sits.nil _ _ _ _⟩⟩, by rw [r1]; exact hst1.low (FR.below (B := w.heap.size) (Nat.le_refl _)) hgl, fun y r e => (r2 y r e).symm, ((KeptG.of_below HA.out).trans HK1.out).far FR (Nat.le_refl _)⟩
    obtain ⟨k0, k1, k2⟩ := res3 (.bool false) (.slice none 0 0) (.slice none 0 0) (q0.trans rfl) (q1.trans rfl) (q2.trans rfl)
    have qf0 := qf 0
    have qf1 := qf 1
    have qf2 := qf 2
    clear hst1 hx1 hk1 HN FR HX1 HK1 HZ z0 z1 z2 zf qf hb0 hxb
    go_wp2_with fail
    refine bodyPost_ret (v := .agg #[.bool false, .slice none 0 0, .slice none 0 0]) ?_ rfl HE.out
    clear q0 q1 q2 qf0 qf1 qf2 HE
    simp [results, Try.results40, go_sem, k0, k1, k2]
  · have e0 : ((xb : Int) == 0) = false := by simp; omega
    by_cases hb1 : xb = 1
    · have e1 : ((xb : Int) == 1) = true := by rw [hb1]; rfl
      have HC := Lib.hid (rdcert_any g _ w1 hst1)
      clear hst1 hx1 hk1 HN z0 z1 z2 zf
      go_wp2_with fail
      refine HC.out.mono ?_
      rintro e w2 ⟨v2, x2, rfl, ⟨cs, rfl, v, u, rfl, ⟨a1, cap1, rfl, hV1⟩, ⟨a2, cap2, rfl, hV2⟩⟩, hst2, hx2, hk2⟩
      have hs2 := hk2.size
      have p0 := (hk2.cell (h := w.heap.size) (by omega) hne 0).trans q0
      have p1 := (hk2.cell (h := w.heap.size) (by omega) hne 1).trans q1
      have p2 := (hk2.cell (h := w.heap.size) (by omega) hne 2).trans q2
      have pf := fun j => (hk2.frozen (h := w.heap.size) (by omega) hne j).trans (qf j)
      have pf0 := pf 0
      have pf1 := pf 1
      have pf2 := pf 2
      have FR : Far w.heap.size w2 (((w2.setCell ⟨w.heap.size, 0, none⟩ (.bool true)).setCell ⟨w.heap.size, 1, none⟩ (.slice a1 x2.1.length cap1)).setCell ⟨w.heap.size, 2, none⟩ (.slice a2 x2.2.length cap2)) := (((Far.refl _ _).set _).set _).set _
      have HE : Hid (PEnd (Va replySh) pReply g st w (.returned (.agg #[.bool true, .slice a1 x2.1.length cap1, .slice a2 x2.2.length cap2])) (((w2.setCell ⟨w.heap.size, 0, none⟩ (.bool true)).setCell ⟨w.heap.size, 1, none⟩ (.slice a1 x2.1.length cap1)).setCell ⟨w.heap.size, 2, none⟩ (.slice a2 x2.2.length cap2))) := by
        obtain ⟨r1, r2⟩ := reply_one HX1.out (by rw [hxb]; exact hb1)
        have hsf := FR.size
        have k2 : Slot lemSh (fun b => w1.heap.size ≤ b ∧ b < w2.heap.size) w2 (.slice a1 x2.1.length cap1) x2.1 := ⟨a1, cap1, rfl, hV1⟩
        have k3 : Slot clauseSh (fun b => w1.heap.size ≤ b ∧ b < w2.heap.size) w2 (.slice a2 x2.2.length cap2) x2.2 := ⟨a2, cap2, rfl, hV2⟩
        refine ⟨_, ⟨true, x2.1, x2.2⟩, rfl, ⟨[.bool true, .slice a1 x2.1.length cap1, .slice a2 x2.2.length cap2], rfl, _, _, rfl, k2.far FR (fun b ⟨p1, p2⟩ => ⟨by omega, by omega⟩) (fun b ⟨p1, p2⟩ => by omega), k3.far FR (fun b ⟨p1, p2⟩ => ⟨by omega, by omega⟩) (fun b ⟨p1, p2⟩ => by omega)⟩, by rw [r1]; exact hst2.low (FR.below (B := w.heap.size) (Nat.le_refl _)) hgl, fun y r e => ?_, ((KeptG.of_below HA.out).trans (HK1.out.trans hk2)).far FR (Nat.le_refl _)⟩
        obtain ⟨c, e2, rfl⟩ := r2 y r e
        rw [hx2 c r e2]
      obtain ⟨k0, k1, k2⟩ := res3 (.bool true) (.slice a1 x2.1.length cap1) (.slice a2 x2.2.length cap2) (p0.trans rfl) (p1.trans rfl) (p2.trans rfl)
      clear hV1 hV2 hst2 hx2 hk2 FR HX1 HK1 HZ q0 q1 q2 qf pf hb0 hb1 hxb HC
      go_wp2_with fail
      refine bodyPost_ret (v := .agg #[.bool true, .slice a1 x2.1.length cap1, .slice a2 x2.2.length cap2]) ?_ rfl HE.out
      clear p0 p1 p2 pf0 pf1 pf2 HE
      simp [results, Try.results40, go_sem, k0, k1, k2]
    · have e1 : ((xb : Int) == 1) = false := by simp; omega
      have hn := reply_else HX1.out (by rw [hxb]; exact hb0) (by rw [hxb]; exact hb1)
      obtain ⟨rest, bad, hrs⟩ : ∃ rest bad, RS g rest bad w1 := by
        cases hnx : nxt pTake st with
        | none => rw [hnx] at hst1; obtain ⟨rest, hrs⟩ := hst1; exact ⟨rest, true, hrs⟩
        | some r => rw [hnx] at hst1; exact ⟨r, false, hst1⟩
      have KF : KeptG g w1 (w1.setCell ⟨g, 1, none⟩ (.bool true)) := KeptG.set
      have hsk := KF.size
      have p0 := (KF.cell (h := w.heap.size) (by omega) hne 0).trans q0
      have p1 := (KF.cell (h := w.heap.size) (by omega) hne 1).trans q1
      have p2 := (KF.cell (h := w.heap.size) (by omega) hne 2).trans q2
      have FR : Far w.heap.size (w1.setCell ⟨g, 1, none⟩ (.bool true)) ((((w1.setCell ⟨g, 1, none⟩ (.bool true)).setCell ⟨w.heap.size, 0, none⟩ (.bool false)).setCell ⟨w.heap.size, 1, none⟩ (.slice none 0 0)).setCell ⟨w.heap.size, 2, none⟩ (.slice none 0 0)) := (((Far.refl _ _).set _).set _).set _
      have HE : Hid (PEnd (Va replySh) pReply g st w (.returned (.agg #[.bool false, .slice none 0 0, .slice none 0 0])) ((((w1.setCell ⟨g, 1, none⟩ (.bool true)).setCell ⟨w.heap.size, 0, none⟩ (.bool false)).setCell ⟨w.heap.size, 1, none⟩ (.slice none 0 0)).setCell ⟨w.heap.size, 2, none⟩ (.slice none 0 0))) := by
        exact ⟨_, ⟨false, [], []⟩, rfl, ⟨[.bool false, .slice none 0 0, .slice none 0 0], rfl, _, _, rfl, ⟨none, 0, rfl, Sits.nil _ _ _ _⟩, ⟨none, 0, rfl, Sits.nil _ _ _ _⟩⟩, by unfold nxt; rw [hn]; exact hrs.fail.low (FR.below (B := w.heap.size) (Nat.le_refl _)) hgl, fun y r e => (by rw [hn] at e; cases e), ((KeptG.of_below HA.out).trans (HK1.out.trans KF)).far FR (Nat.le_refl _)⟩
      obtain ⟨k0, k1, k2⟩ := res3 (.bool false) (.slice none 0 0) (.slice none 0 0) (p0.trans rfl) (p1.trans rfl) (p2.trans rfl)
      have qf0 := qf 0
      have qf1 := qf 1
      have qf2 := qf 2
      have f1 := hrs.fr 1
      obtain ⟨_, _, _, g2, _⟩ := hrs.st
      clear hst1 hx1 hk1 HN FR HX1 HK1 HZ z0 z1 z2 zf qf hb0 hb1 hxb hrs KF hn p0 p1 p2
      go_wp2_with fail
      refine bodyPost_ret (v := .agg #[.bool false, .slice none 0 0, .slice none 0 0]) ?_ rfl HE.out
      clear q0 q1 q2 qf0 qf1 qf2 HE f1 g2
      simp [results, Try.results40, go_sem, k0, k1, k2]
theorem Try.eachReplyInfo : (Try.prog.info? 50).map (fun i => (i.zero.map fun z => z.cells.size, i.size, i.bytes)) = some (some 3, 3, 56) := by kernel_rfl
set_option maxHeartbeats 8000000 in
theorem eachReply_any (g : Nat) (st : Option (List UInt8)) (w : World) (h : RSt g st w) :
    Calls Try.prog 39 #[.pointer (some ⟨g, 0, none⟩), .func (.func 40) #[.pointer (some ⟨g, 0, none⟩)] #[]] w (PEnd (Vr replySh) (pEach pReply) g st w) := by
  have HNU := Lib.hid (rdnum_any g st w h)
  have hgw := h.lt
  clear h
  go_enter Try.func39, Try.ntmps39
  go_wp2_with fail
  refine HNU.out.mono ?_
  rintro e w1 ⟨v1, x, rfl, ⟨rfl, hx⟩, hst1, hx1, hk1⟩
  by_cases hgo : ∃ r, nxt pNum st = some r ∧ 0 ≤ x ∧ x ≤ r.length
  · obtain ⟨r, hnx, h0, hxl⟩ := hgo
    obtain ⟨y, hy⟩ := nxt_some hnx
    obtain rfl := hx1 _ _ hy
    obtain ⟨n, rfl⟩ := Int.eq_ofNat_of_zero_le h0
    have hn : n ≤ r.length := by omega
    rw [hnx] at hst1
    have hrs : RS g r false w1 := hst1
    have HY := Lib.hid hy
    have hrl := hrs.len
    have HEG : Hid (Eg replySh 50 pReply g w r 0 [] (some r) (.slice none 0 0) w1) := ⟨hrs, Own.nil _ _ _ _, hk1, Nat.zero_le _, rfl⟩
    obtain ⟨a, c, g1, g2, _⟩ := hrs.st
    have hb1 : ¬ ((n : Int) < 0) := by omega
    have hb2 : ¬ ((r.length : Int) < (n : Int)) := by omega
    have hb3 : ¬ r.length < n := by omega
    clear hst1 hx1 hk1 hnx hx h0 hxl hrs HNU hy
    go_wp2_with fail
    go_loopw [6, 7] (fun u i wr => ∃ (k : Nat) (xs : List Reply) (sk : Option (List UInt8)), i = .int .i64 k ∧ k ≤ n ∧ Hid (Eg replySh 50 pReply g w r k xs sk u wr)) (fun _ i _ => n - (intOf i).toNat)
    case atStart => exact ⟨0, [], some r, rfl, Nat.zero_le _, HEG⟩
    case round =>
      clear HEG g1 g2
      obtain ⟨k, xs, sk, rfl, hk, hE⟩ := hrel
      have hxl : xs.length ≤ 4194304 := by have := hE.out.len; omega
      by_cases hlt : k < n
      · have hlti : (k : Int) < (n : Int) := by omega
        cases sk with
        | none =>
          have HE := Lib.hid (hE.out.bad hk HY.out hn hxl)
          obtain ⟨rest, hrs⟩ := hE.out.rs
          obtain ⟨_, _, _, g2, _⟩ := hrs.st
          clear hrs hE HY
          go_wp2_with fail
          go_ret
          exact HE.out
        | some l =>
          have hrs : RS g l false wr := hE.out.rs
          obtain ⟨_, _, _, g2, _⟩ := hrs.st
          have HC := Lib.hid (rdreply_any g (some l) wr hE.out.rs)
          clear hrs
          go_wp2_with fail
          refine HC.out.mono ?_
          rintro e w5 ⟨v5, x, rfl, hV, hst5, hx5, hk5⟩
          have hsz5 := hk5.size
          have hown5 := hE.out.own.keptG hk5 hgw
          have hov := hE.out.own.lt
          have hszr := hE.out.kept.size
          obtain ⟨cs, rfl, hV⟩ := hV
          have hR := hV
          obtain ⟨v, u, rfl, ⟨a1, cap1, rfl, _⟩, ⟨a2, cap2, rfl, _⟩⟩ := hV
          have hV := hR
          obtain ⟨v6, w6, hr6, ho6, hb6⟩ := Own.snoc (P := Try.prog) (t := 35) (cs := [.bool x.yes, .slice a1 x.lems.length cap1, .slice a2 x.refute.length cap2]) Try.underlying35 Try.eachReplyInfo (by decide) (by decide) hown5 hxl (Nat.le_trans hszr hsz5) (x := x) (by
            have hV := hR
            exact Sh.keep replySh (fun b ⟨a1, a2⟩ => ⟨Nat.le_trans hszr a1, a2, fun e => by have := hov b e; omega⟩) (fun _ _ _ => rfl) hV)
          have HEG : Hid (Eg replySh 50 pReply g w r (k + 1) (xs ++ [x]) (nxt pReply (some l)) v6 w6) := by
            refine ⟨?_, ho6, ?_, by rw [List.length_append]; have := hE.out.len; simp; omega, ?_⟩
            · have hlt5 := hst5.lt
              cases hnn : nxt pReply (some l) with
              | none =>
                rw [hnn] at hst5
                obtain ⟨rest, hrs⟩ := hst5
                exact ⟨rest, hrs.low hb6 hgw⟩
              | some l2 =>
                rw [hnn] at hst5
                exact RS.low hst5 hb6 hgw
            · exact (hE.out.kept.trans hk5).trans_low hb6 (Nat.le_trans hszr hsz5)
            · have hg := hE.out.go
              show pGo pReply (k + 1) (some r) = _
              unfold pGo
              rw [hg]
              show (pReply l).map _ = (((some l).bind pReply).map Prod.snd).map _
              cases hp : pReply l with
              | none => simp [hp]
              | some q =>
                have := hx5 q.1 q.2 hp
                subst this
                simp [hp]
          clear hV hR hst5 hx5 hk5 hE ho6 hb6 HC hown5 hov
          go_wp2_with (at_builtin; refine Lib.wpList_append_run _ rfl _ _ _ _ rfl _ _ rfl rfl _ _ (hr6 _) ?_)
          go_roundw
          case rel => exact ⟨k + 1, _, _, by go_num, by omega, HEG⟩
          case measure => simp [intOf]; omega
      · have hlti : ¬ (k : Int) < (n : Int) := by omega
        obtain rfl : k = n := by omega
        have HE := Lib.hid (hE.out.done HY.out hn hxl)
        clear hE HY
        go_wp2_with fail
        go_ret
        exact HE.out
  · have hn : st.bind (pEach pReply) = none := by
      cases hnx : nxt pNum st with
      | none => exact each_none _ (nxt_none hnx)
      | some r =>
        obtain ⟨y, hy⟩ := nxt_some hnx
        obtain rfl := hx1 _ _ hy
        refine each_bad _ hy ?_
        by_cases h0 : x < 0
        · exact .inl h0
        · exact .inr (Int.not_le.1 fun h4 => hgo ⟨r, hnx, by omega, h4⟩)
    obtain ⟨rest, bad, hrs, hbd⟩ : ∃ rest bad, RS g rest bad w1 ∧ (bad = true ∨ x < 0 ∨ (rest.length : Int) < x) := by
      cases hnx : nxt pNum st with
      | none =>
        rw [hnx] at hst1
        obtain ⟨rest, hrs⟩ := hst1
        exact ⟨rest, true, hrs, .inl rfl⟩
      | some r =>
        rw [hnx] at hst1
        refine ⟨r, false, hst1, .inr ?_⟩
        by_cases h0 : x < 0
        · exact .inl h0
        · exact .inr (Int.not_le.1 fun h4 => hgo ⟨r, hnx, by omega, h4⟩)
    have HE2 : Hid (PEnd (Vr replySh) (pEach pReply) g st w (.returned (.slice none 0 0)) (w1.setCell ⟨g, 1, none⟩ (.bool true))) := ⟨_, [], rfl, ⟨none, 0, rfl, Sits.nil _ _ _ _⟩, by unfold nxt; rw [hn]; exact hrs.fail, fun y r e => (by rw [hn] at e; cases e), hk1.trans KeptG.set⟩
    have f1 := hrs.fr 1
    obtain ⟨a, c, g1, g2, _⟩ := hrs.st
    by_cases h0 : x < 0
    · have hx0 : ¬ (0 : Int) < x := by omega
      clear hst1 hx1 hk1 hrs hn hgo hbd hx HNU
      go_wp2_with fail
      go_loopw [6, 7] (fun u i wr => u = .slice none 0 0 ∧ i = .int .i64 0 ∧ (w1.setCell ⟨g, 1, none⟩ (.bool true)) = wr) (fun _ _ _ => 0)
      case atStart => exact ⟨rfl, rfl, rfl⟩
      case round =>
        obtain ⟨rfl, rfl, rfl⟩ := hrel
        go_wp2_with fail
        go_ret
        exact HE2.out
    · by_cases h1 : (rest.length : Int) < x
      · have hx0 : (0 : Int) < x := by omega
        clear hst1 hx1 hk1 hrs hn hgo hbd hx HNU
        go_wp2_with fail
        go_loopw [6, 7] (fun u i wr => u = .slice none 0 0 ∧ i = .int .i64 0 ∧ (w1.setCell ⟨g, 1, none⟩ (.bool true)) = wr) (fun _ _ _ => 0)
        case atStart => exact ⟨rfl, rfl, rfl⟩
        case round =>
          obtain ⟨rfl, rfl, rfl⟩ := hrel
          go_wp2_with fail
          go_ret
          exact HE2.out
      · obtain rfl : bad = true := by rcases hbd with h | h | h; exact h; exact absurd h h0; exact absurd h h1
        have HE1 : Hid (PEnd (Vr replySh) (pEach pReply) g st w (.returned (.slice none 0 0)) w1) := ⟨_, [], rfl, ⟨none, 0, rfl, Sits.nil _ _ _ _⟩, by unfold nxt; rw [hn]; exact ⟨rest, hrs⟩, fun y r e => (by rw [hn] at e; cases e), hk1⟩
        by_cases hx0 : (0 : Int) < x
        · clear hst1 hx1 hk1 hrs hn hgo hbd hx HNU HE2
          go_wp2_with fail
          go_loopw [6, 7] (fun u i wr => u = .slice none 0 0 ∧ i = .int .i64 0 ∧ w1 = wr) (fun _ _ _ => 0)
          case atStart => exact ⟨rfl, rfl, rfl⟩
          case round =>
            obtain ⟨rfl, rfl, rfl⟩ := hrel
            go_wp2_with fail
            go_ret
            exact HE1.out
        · clear hst1 hx1 hk1 hrs hn hgo hbd hx HNU HE2
          go_wp2_with fail
          go_loopw [6, 7] (fun u i wr => u = .slice none 0 0 ∧ i = .int .i64 0 ∧ w1 = wr) (fun _ _ _ => 0)
          case atStart => exact ⟨rfl, rfl, rfl⟩
          case round =>
            obtain ⟨rfl, rfl, rfl⟩ := hrel
            go_wp2_with fail
            go_ret
            exact HE1.out
end Go.Proofs.Ytgaipfkblfommaa
