/- The document's own Make. -/
import Derived.Test.YtnefolkhoeocjaaLinRS
import Derived.Test.YtnefolkhoeocjaaLinO
namespace Go.Proofs.Ytnefolkhoeocjaa
open Go.RowKit

/-- An answer: a form and what is amiss. -/
def LinAns (B : Nat) (c : Int) (R : List (Int × Int)) (x : Value) (w : World) (e : Ending) (w' : World) : Prop := ∃ v, e = .returned (.tuple #[.agg #[.int .i64 c, v], x]) ∧ Row B R v w' ∧ Below B w w'
theorem LinOk.ans {B : Nat} {c : Int} {R : List (Int × Int)} {w : World} {e : Ending} {w' : World} (h : LinOk B c R w e w') : LinAns B c R .nilIface w e w' := h
theorem LinErr.ans {B : Nat} {k : Int} {w : World} {e : Ending} {w' : World} (h : LinErr B k w e w') : LinAns B 0 [] (.iface 30 (.int .i64 k)) w e w' :=
  ⟨_, h.1, World.ownsRow_nil _ _ _ _, h.2⟩
/-- What the document's Sum answers: the constant, the terms, the error's number. -/
def rAns (c : Int) (R : List (Int × Int)) : Int × List (Int × Int) × Int := if farB c R 1048576 = true then (0, [], 3) else if 64 < R.length then (0, [], 2) else (c, R, 0)
theorem RSum.ans {c : Int} {R : List (Int × Int)} {B : Nat} {w : World} {e : Ending} {w' : World} (h : RSum c R B w e w') : LinAns B (rAns c R).1 (rAns c R).2.1 (.int .i64 (rAns c R).2.2) w e w' := by
  obtain ⟨hb, h⟩ := h
  unfold rAns
  by_cases h1 : farB c R 1048576 = true
  · rw [if_pos h1] at h ⊢
    exact ⟨_, h, World.ownsRow_nil _ _ _ _, hb⟩
  · rw [if_neg h1] at h ⊢
    by_cases h2 : 64 < R.length
    · rw [if_pos h2] at h ⊢
      exact ⟨_, h, World.ownsRow_nil _ _ _ _, hb⟩
    · rw [if_neg h2] at h ⊢
      obtain ⟨v, he, hr⟩ := h
      exact ⟨v, he, hr, hb⟩

set_option maxHeartbeats 1600000 in
theorem rmake_bad (c : Int) (a : Option Addr) (n cap : Nat) (l : List (Int × Int)) (w : World) (hn : l.length = n) (hm : n ≤ 9223372036854775807) (hl : Lies w.heap.size w a l) (h : ¬ argOk c l) :
    Calls Try.prog 15 #[.int .i64 c, .slice a n cap] w (LinAns w.heap.size 0 [] (.int .i64 1) w) := by
  have hb0 : Below w.heap.size w (w.alloc (.cells #[.int .i64 0, .slice none 0 0] 24)) := (Below.refl _ w).alloc (Nat.le_refl _) _
  have hco := fun W => coef_any c W
  by_cases hc : wi c 1073741824 = true
  · rw [hc] at hco
    by_cases h4 : n ≤ 4096
    · have hno : ¬ ∀ i, i < n → mayAt l i = true := fun hh => h ⟨hc, by omega, by rw [hn]; exact hh⟩
      obtain ⟨j, hj, hyes, hbad⟩ := first_no _ _ hno
      have HN := Lib.hid hn
      have HL := Lib.hid hl
      have HY := Lib.hid hyes
      have HBad := Lib.hid hbad
      have HB0 := Lib.hid hb0
      clear hn hl h hno hyes hbad hb0 hc
      go_enter Try.func15, Try.ntmps15
      go_wp2_with (go_at_call 27; refine (hco _).mono ?_; rintro e w' ⟨rfl, rfl⟩)
      go_loop [6] (fun i => ∃ k : Nat, k ≤ j ∧ i = .int .i64 k) (fun i => j - (intOf i).toNat)
      case atStart => exact ⟨0, Nat.zero_le _, rfl⟩
      case round =>
        obtain ⟨k, hk, rfl⟩ := hrel
        obtain ⟨b, off, rfl, hblt, c1, c2⟩ := (HL.out.below HB0.out) k (by rw [HN.out]; omega)
        by_cases hkj : k < j
        · have hmay := HY.out k hkj
          unfold mayAt at hmay
          generalize (l.getD k (0, 0)).1 = v at c1 hmay
          generalize (l.getD k (0, 0)).2 = u at c2 hmay
          have hv : 0 ≤ v ∧ v < 1048576 := by
            by_cases hv : 0 ≤ v ∧ v < 1048576
            · exact hv
            · rw [mst_f1 hv] at hmay; cases hmay
          rw [mst_t1 hv] at hmay
          have hcu := fun W => coef_any u W
          rw [hmay] at hcu
          clear hmay
          go_wp2_with (go_at_call 27; refine (hcu _).mono ?_; rintro e w' ⟨rfl, rfl⟩)
          go_round
          case rel => exact ⟨k + 1, by omega, by go_num⟩
          case measure => simp [intOf]; omega
        · have hkj' : k = j := by omega
          subst hkj'
          have hmay := HBad.out
          unfold mayAt at hmay
          generalize (l.getD k (0, 0)).1 = v at c1 hmay
          generalize (l.getD k (0, 0)).2 = u at c2 hmay
          have hcu := fun W => coef_any u W
          by_cases hv : 0 ≤ v ∧ v < 1048576
          · rw [mst_t1 hv] at hmay
            rw [hmay] at hcu
            clear hmay
            go_wp2_with (go_at_call 27; refine (hcu _).mono ?_; rintro e w' ⟨rfl, rfl⟩)
            refine bodyPost_ret (v := .tuple #[.agg #[.int .i64 0, .slice none 0 0], .int .i64 1]) ?_ rfl ⟨_, rfl, World.ownsRow_nil _ _ _ _, HB0.out⟩
            simp [results, Try.results15, go_sem]
          · clear hmay
            generalize wi u 1073741824 = wu at hcu
            cases wu with
            | false =>
              go_wp2_with (go_at_call 27; refine (hcu _).mono ?_; rintro e w' ⟨rfl, rfl⟩)
              refine bodyPost_ret (v := .tuple #[.agg #[.int .i64 0, .slice none 0 0], .int .i64 1]) ?_ rfl ⟨_, rfl, World.ownsRow_nil _ _ _ _, HB0.out⟩
              simp [results, Try.results15, go_sem]
            | true =>
              by_cases hv0 : v < 0
              · go_wp2_with (go_at_call 27; refine (hcu _).mono ?_; rintro e w' ⟨rfl, rfl⟩)
                refine bodyPost_ret (v := .tuple #[.agg #[.int .i64 0, .slice none 0 0], .int .i64 1]) ?_ rfl ⟨_, rfl, World.ownsRow_nil _ _ _ _, HB0.out⟩
                simp [results, Try.results15, go_sem]
              · go_wp2_with (go_at_call 27; refine (hcu _).mono ?_; rintro e w' ⟨rfl, rfl⟩)
                refine bodyPost_ret (v := .tuple #[.agg #[.int .i64 0, .slice none 0 0], .int .i64 1]) ?_ rfl ⟨_, rfl, World.ownsRow_nil _ _ _ _, HB0.out⟩
                simp [results, Try.results15, go_sem]
    · clear hn hl h hc
      go_enter Try.func15, Try.ntmps15
      go_wp2_with (go_at_call 27; refine (hco _).mono ?_; rintro e w' ⟨rfl, rfl⟩)
      refine bodyPost_ret (v := .tuple #[.agg #[.int .i64 0, .slice none 0 0], .int .i64 1]) ?_ rfl ⟨_, rfl, World.ownsRow_nil _ _ _ _, hb0⟩
      simp [results, Try.results15, go_sem]
  · have hc' : wi c 1073741824 = false := by simpa using hc
    rw [hc'] at hco
    clear hn hl h hc hc'
    go_enter Try.func15, Try.ntmps15
    go_wp2_with (go_at_call 27; refine (hco _).mono ?_; rintro e w' ⟨rfl, rfl⟩)
    refine bodyPost_ret (v := .tuple #[.agg #[.int .i64 0, .slice none 0 0], .int .i64 1]) ?_ rfl ⟨_, rfl, World.ownsRow_nil _ _ _ _, hb0⟩
    simp [results, Try.results15, go_sem]

set_option maxHeartbeats 1600000 in
theorem rmake_ok (c : Int) (a : Option Addr) (n cap : Nat) (l R : List (Int × Int)) (w : World) (hn : l.length = n) (hl : Lies w.heap.size w a l) (h : argOk c l) (hR : IsSum l R) :
    Calls Try.prog 15 #[.int .i64 c, .slice a n cap] w (LinAns w.heap.size (rAns c R).1 (rAns c R).2.1 (.int .i64 (rAns c R).2.2) w) := by
  have hb0 : Below w.heap.size w (w.alloc (.cells #[.int .i64 0, .slice none 0 0] 24)) := (Below.refl _ w).alloc (Nat.le_refl _) _
  have hbdV := argOk_bd h
  obtain ⟨hc, h4, hall⟩ := h
  rw [hn] at h4 hall
  have hsum := fun W (hb : Below w.heap.size w W) => (rsum_any c a n cap l R W hn (by omega) ((hl.below hb).mono hb.size) hbdV.1 hbdV.2 hR).mono fun _ _ h => h.ans
  generalize (rAns c R).1 = c' at hsum
  generalize (rAns c R).2.1 = R' at hsum
  generalize (rAns c R).2.2 = r at hsum
  have hco := fun W => coef_any c W
  rw [hc] at hco
  have HN := Lib.hid hn
  have HL := Lib.hid hl
  have HY := Lib.hid hall
  have HS := Lib.hid (hsum _ hb0)
  have HB0 := Lib.hid hb0
  clear hn hl hall hc hsum hb0 hbdV
  go_enter Try.func15, Try.ntmps15
  go_wp2_with (go_at_call 27; refine (hco _).mono ?_; rintro e w' ⟨rfl, rfl⟩)
  go_loop [6] (fun i => ∃ k : Nat, k ≤ n ∧ i = .int .i64 k) (fun i => n - (intOf i).toNat)
  case atStart => exact ⟨0, Nat.zero_le _, rfl⟩
  case round =>
    obtain ⟨k, hk, rfl⟩ := hrel
    by_cases hkj : k < n
    · obtain ⟨b, off, rfl, hblt, c1, c2⟩ := (HL.out.below HB0.out) k (by rw [HN.out]; omega)
      have hmay := HY.out k hkj
      unfold mayAt at hmay
      generalize (l.getD k (0, 0)).1 = v at c1 hmay
      generalize (l.getD k (0, 0)).2 = u at c2 hmay
      have hv : 0 ≤ v ∧ v < 1048576 := by
        by_cases hv : 0 ≤ v ∧ v < 1048576
        · exact hv
        · rw [mst_f1 hv] at hmay; cases hmay
      rw [mst_t1 hv] at hmay
      have hcu := fun W => coef_any u W
      rw [hmay] at hcu
      clear hmay
      go_wp2_with (go_at_call 27; refine (hcu _).mono ?_; rintro e w' ⟨rfl, rfl⟩)
      go_round
      case rel => exact ⟨k + 1, by omega, by go_num⟩
      case measure => simp [intOf]; omega
    · go_wp2_with fail
      refine HS.out.mono ?_
      rintro e w5 ⟨v5, rfl, hrow5, hb5⟩
      obtain ⟨a5, cap5, rfl, _, _⟩ := hrow5.lies
      obtain ⟨hc5, hf5⟩ := bcell hb5
      have hz5 : w.heap.size < w5.heap.size := by have := hb5.size; simp at this; omega
      have q0 : w5.cell? ⟨w.heap.size, 0, none⟩ = some (.int .i64 0) := by rw [hc5 _ _ (by simp)]; simp
      have q1 : w5.cell? ⟨w.heap.size, 1, none⟩ = some (.slice none 0 0) := by rw [hc5 _ _ (by simp)]; simp
      have qf : ∀ o, w5.frozen? ⟨w.heap.size, o, none⟩ = false := fun o => by rw [hf5 _ _ (by simp)]; simp
      have H5 : Below w.heap.size w w5 := HB0.out.trans (hb5.mono (by simp))
      have hrowf : Row w.heap.size R' (.slice a5 R'.length cap5) ((w5.setCell ⟨w.heap.size, 0, none⟩ (.int .i64 c')).setCell ⟨w.heap.size, 1, none⟩ (.slice a5 R'.length cap5)) :=
        Row.mono (ownsRow_setCell_below (ownsRow_setCell_below hrow5 (by simp) _) (by simp) _) (by simp)
      have hbf := (H5.setCell (p := ⟨w.heap.size, 0, none⟩) (Nat.le_refl _) (.int .i64 c')).setCell (p := ⟨w.heap.size, 1, none⟩) (Nat.le_refl _) (.slice a5 R'.length cap5)
      obtain ⟨e0, e1⟩ := res_cells w5 w.heap.size (.int .i64 c') (.slice a5 R'.length cap5) _ _ q0 q1
      have HROW := Lib.hid hrowf
      have HBF := Lib.hid hbf
      clear hrow5 hrowf hbf hb5 hc5 hf5
      go_wp2_with fail
      refine bodyPost_ret (v := .tuple #[.agg #[.int .i64 c', .slice a5 R'.length cap5], .int .i64 r]) ?_ rfl ⟨_, rfl, HROW.out, HBF.out⟩
      clear q0 q1 qf
      simp [results, Try.results15, go_sem, e0, e1]
end Go.Proofs.Ytnefolkhoeocjaa
