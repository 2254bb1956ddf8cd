/- The document's Set: its walk; that it is what Set answers. -/
import Derived.Test.YteiomafciignkaaHepH
set_option linter.unusedVariables false
set_option linter.unusedSimpArgs false
namespace Go.Proofs.Yteiomafciignkaa
set_option maxRecDepth 100000
open Go.RowKit

def insTo (rs : List HC) (c : HC) : Nat → List HC × Bool
  | 0 => ([], false)
  | k + 1 => if (!(insTo rs c k).2 && kl (hkey c) (hkey (rs.getD k hc0))) = true then ((insTo rs c k).1 ++ [c] ++ [rs.getD k hc0], true) else ((insTo rs c k).1 ++ [rs.getD k hc0], (insTo rs c k).2)
def insF (rs : List HC) (c : HC) : List HC := if (insTo rs c rs.length).2 = true then (insTo rs c rs.length).1 else (insTo rs c rs.length).1 ++ [c]
theorem insTo_len (rs : List HC) (c : HC) : ∀ k, (insTo rs c k).1.length ≤ 2 * k
  | 0 => by simp [insTo]
  | k + 1 => by
    have := insTo_len rs c k
    unfold insTo
    split <;> simp <;> omega
theorem insTo_is {rs : List HC} {c : HC} {i : Nat} (hi : i ≤ rs.length) (h1 : ∀ j, j < i → ¬ kl (hkey c) (hkey (rs.getD j hc0)) = true) (h2 : i < rs.length → kl (hkey c) (hkey (rs.getD i hc0)) = true) : ∀ k, k ≤ rs.length →
    insTo rs c k = if k ≤ i then (rs.take k, false) else (rs.take i ++ [c] ++ (rs.take k).drop i, true)
  | 0, _ => by rw [if_pos (Nat.zero_le _)]; rfl
  | k + 1, hk => by
    have ih := insTo_is hi h1 h2 k (by omega)
    unfold insTo
    rw [ih]
    by_cases hki : k + 1 ≤ i
    · rw [if_pos (show k ≤ i by omega), if_pos hki]
      have := h1 k (by omega)
      rw [if_neg (by simpa using this), take_snocH rs k (by omega)]
    · rw [if_neg hki]
      by_cases e : k = i
      · subst e
        rw [if_pos (Nat.le_refl k)]
        have := h2 (by omega)
        rw [if_pos (by simpa using this), take_snocH rs k (by omega)]
        rw [List.drop_append_of_le_length (by rw [List.length_take]; omega), List.drop_eq_nil_of_le (by rw [List.length_take]; omega), List.nil_append]
      · rw [if_neg (show ¬ k ≤ i by omega)]
        rw [if_neg (by simp), take_snocH rs k (by omega), List.drop_append_of_le_length (by rw [List.length_take]; omega)]
        simp
theorem insF_is {rs : List HC} {c : HC} {i : Nat} (hi : i ≤ rs.length) (h1 : ∀ j, j < i → ¬ kl (hkey c) (hkey (rs.getD j hc0)) = true) (h2 : i < rs.length → kl (hkey c) (hkey (rs.getD i hc0)) = true) : insF rs c = rs.take i ++ [c] ++ rs.drop i := by
  unfold insF
  rw [insTo_is hi h1 h2 rs.length (Nat.le_refl _)]
  by_cases e : rs.length ≤ i
  · rw [if_pos e]
    simp only [Bool.false_eq_true, if_false, List.take_length]
    rw [List.take_of_length_le e, List.drop_eq_nil_of_le e, List.append_nil]
  · rw [if_neg e]
    simp only [if_true, List.take_length]
theorem getD_mem_take {hs : List HC} {i : Nat} {c : HC} (h : c ∈ hs.take i) : ∃ j, j < i ∧ j < hs.length ∧ hs.getD j hc0 = c := by
  obtain ⟨j, hj, rfl⟩ := List.getElem_of_mem h
  rw [List.length_take] at hj
  exact ⟨j, by omega, by omega, by simp [List.getD_eq_getElem?_getD, show j < hs.length by omega]⟩
theorem getD_mem_drop {hs : List HC} {i : Nat} {c : HC} (h : c ∈ hs.drop i) : ∃ j, i ≤ j ∧ j < hs.length ∧ hs.getD j hc0 = c := by
  obtain ⟨j, hj, rfl⟩ := List.getElem_of_mem h
  rw [List.length_drop] at hj
  exact ⟨i + j, by omega, by omega, by simp [List.getD_eq_getElem?_getD, show i + j < hs.length by omega]⟩
/-- Behind the place all stands behind the key. -/
theorem FindIs.above {hs : List HC} {k : Key} {i : Nat} {b : Bool} (hst : Stand hs) (h : FindIs hs k i b) : ∀ j, (if b = true then i + 1 else i) ≤ j → j < hs.length → kl k (hkey (hs.getD j hc0)) = true := fun j hj hjl => by
  cases b with
  | true =>
    obtain ⟨hi, hk⟩ := h.is.1 rfl
    simp only [if_true] at hj
    rw [← hk]
    exact hst.lt (show i < j by omega) hjl
  | false =>
    simp only [Bool.false_eq_true, if_false] at hj
    rcases kl_total (h.not hst j hjl) with h1 | h1
    · exact absurd h1 (h.hi j hj hjl)
    · exact h1
theorem dropL_is {hs : List HC} {k : Key} {i : Nat} {b : Bool} (hst : Stand hs) (h : FindIs hs k i b) : dropL hs k = hs.take i ++ hs.drop (if b = true then i + 1 else i) := by
  have e1 : dropL (hs.take i) k = hs.take i := List.filter_eq_self.2 fun c hc => by
    obtain ⟨j, h1, h2, rfl⟩ := getD_mem_take hc
    exact decide_eq_true (kl_ne (h.lo j h1))
  have e2 : dropL (hs.drop (if b = true then i + 1 else i)) k = hs.drop (if b = true then i + 1 else i) := List.filter_eq_self.2 fun c hc => by
    obtain ⟨j, h1, h2, rfl⟩ := getD_mem_drop hc
    exact decide_eq_true (kl_ne (h.above hst j h1 h2)).symm
  have e3 : hs = hs.take i ++ ((if b = true then [hs.getD i hc0] else []) ++ hs.drop (if b = true then i + 1 else i)) := by
    cases b with
    | false => simp
    | true =>
      obtain ⟨hi, _⟩ := h.is.1 rfl
      simp only [if_true]
      rw [← List.append_assoc, ← take_snocH hs i hi, List.take_append_drop]
  have e4 : dropL (if b = true then [hs.getD i hc0] else []) k = [] := by
    cases b with
    | false => rfl
    | true =>
      obtain ⟨_, hk⟩ := h.is.1 rfl
      simp only [if_true]
      unfold dropL
      rw [List.filter_cons, if_neg (by rw [hk]; simp), List.filter_nil]
  have ea : ∀ x y : List HC, dropL (x ++ y) k = dropL x k ++ dropL y k := fun x y => List.filter_append ..
  conv => lhs; rw [e3]
  rw [ea, ea, e1, e2, e4, List.nil_append]
theorem setL_is {hs : List HC} {c : HC} {i : Nat} {b : Bool} (hst : Stand hs) (h : FindIs hs (hkey c) i b) : insF (dropL hs (hkey c)) c = setL hs c i b := by
  have hb : (if b = true then i + 1 else i) ≤ hs.length := by
    cases b with
    | false => exact h.le
    | true => exact (h.is.1 rfl).1
  have hle := h.le
  rw [dropL_is hst h]
  have g1 : ∀ j, j < i → (hs.take i ++ hs.drop (if b = true then i + 1 else i)).getD j hc0 = hs.getD j hc0 := fun j hj => by
    rw [List.getD_eq_getElem?_getD, List.getElem?_append_left (by rw [List.length_take]; omega), List.getElem?_take, if_pos hj, List.getD_eq_getElem?_getD]
  have g2 : i < (hs.take i ++ hs.drop (if b = true then i + 1 else i)).length → (hs.take i ++ hs.drop (if b = true then i + 1 else i)).getD i hc0 = hs.getD (if b = true then i + 1 else i) hc0 ∧ (if b = true then i + 1 else i) < hs.length := fun hi => by
    rw [List.length_append, List.length_take, List.length_drop] at hi
    refine ⟨?_, by omega⟩
    rw [List.getD_eq_getElem?_getD, List.getElem?_append_right (by rw [List.length_take]; omega), List.getElem?_drop, List.getD_eq_getElem?_getD, List.length_take]
    congr 2
    omega
  rw [insF_is (i := i) (by rw [List.length_append, List.length_take]; omega) (fun j hj => by rw [g1 j hj]; exact kl_asymm (h.lo j hj)) (fun hi => by
    obtain ⟨e, hl⟩ := g2 hi
    rw [e]
    exact h.above hst _ (Nat.le_refl _) hl)]
  unfold setL
  rw [List.take_append_of_le_length (by rw [List.length_take]; omega), List.take_take, Nat.min_self, List.drop_append_of_le_length (by rw [List.length_take]; omega), List.drop_eq_nil_of_le (by rw [List.length_take]; omega), List.nil_append]
set_option maxHeartbeats 4000000 in
theorem rset_any (hs : List HC) (ad : Option Addr) (n cap : Nat) (a : Int) (f : ByteArray) (v : Int) (w : World) (hn : hs.length = n) (hnm : n ≤ 30000) (hl : HLies w.heap.size w ad hs) :
    Calls Try.prog 18 #[.slice ad n cap, .int .i64 a, .string f, .int .i64 v] w (RowEnd (insF (dropL hs (a, f.toList)) ⟨a, f, v⟩) w) := by
  have HD := Lib.hid (rdrop_any hs ad n cap a f w hn hnm hl)
  have HB := Lib.hid (fun a f b g W => rbelow_any a f b g W)
  have HLE : Hid ((dropL hs (a, f.toList)).length ≤ n) := by have := dropL_len hs (a, f.toList); show _ ≤ _; omega
  clear hl hn
  generalize dropL hs (a, f.toList) = rs at HD HLE
  go_enter Try.func18, Try.ntmps18
  go_wp2_with fail
  refine HD.out.mono ?_
  rintro e w1 ⟨vr, rfl, hrow, hb1⟩
  obtain ⟨ra, rcap, rfl, _, _, hrl⟩ := hrow.lies
  have HRL := Lib.hid hrl
  have B1 := Lib.hid hb1
  have hrm : rs.length ≤ 30000 := Nat.le_trans HLE.out hnm
  clear hrow hrl hb1 HD
  go_wp2_with fail
  go_loopw [10, 11, 12] (fun o d i wr => ∃ k : Nat, i = .int .i64 k ∧ d = .bool (insTo rs ⟨a, f, v⟩ k).2 ∧ k ≤ rs.length ∧ Hid (HRow w1.heap.size (insTo rs ⟨a, f, v⟩ k).1 o wr) ∧ Hid (Below w1.heap.size w1 wr)) (fun _ _ i _ => rs.length - (intOf i).toNat)
  case atStart => exact ⟨0, rfl, rfl, Nat.zero_le _, HRow.nil _ _, Below.refl _ _⟩
  case round =>
    obtain ⟨k, rfl, rfl, hk, hrow, hb⟩ := hrel
    have HTL := Lib.hid (insTo_len rs ⟨a, f, v⟩ k)
    by_cases hlt : k < rs.length
    · have hlti : (k : Int) < (rs.length : Int) := by omega
      obtain ⟨b3, off3, rfl, hb3, c1, c2, c3⟩ := HRL.out k hlt
      have HCL : Hid (∀ W, Below w1.heap.size w1 W → W.cell? ⟨b3, off3 + k * 3, none⟩ = some (.int .i64 (rs.getD k hc0).a) ∧ W.cell? ⟨b3, off3 + k * 3 + 1, none⟩ = some (.string (rs.getD k hc0).f) ∧ W.cell? ⟨b3, off3 + k * 3 + 2, none⟩ = some (.int .i64 (rs.getD k hc0).v)) := fun W hW => ⟨(hW.cell (p := ⟨b3, _, none⟩) hb3).trans c1, (hW.cell (p := ⟨b3, _, none⟩) hb3).trans c2, (hW.cell (p := ⟨b3, _, none⟩) hb3).trans c3⟩
      have HT : Hid (insTo rs ⟨a, f, v⟩ (k + 1) = if (!(insTo rs ⟨a, f, v⟩ k).2 && kl (a, f.toList) (hkey (rs.getD k hc0))) = true then ((insTo rs ⟨a, f, v⟩ k).1 ++ [⟨a, f, v⟩] ++ [rs.getD k hc0], true) else ((insTo rs ⟨a, f, v⟩ k).1 ++ [rs.getD k hc0], (insTo rs ⟨a, f, v⟩ k).2)) := rfl
      obtain ⟨q1, q2, _⟩ := HCL.out wr hb.out
      clear c1 c2 c3
      generalize insTo rs ⟨a, f, v⟩ k = s at HT HTL hrow
      obtain ⟨xs, d⟩ := s
      simp only at HT HTL hrow
      generalize rs.getD k hc0 = x at HCL HT q1 q2
      have HC := Lib.hid (HB.out a f x.a x.f)
      have HC : Hid (∀ W, Calls Try.prog 25 #[.int .i64 a, .string f, .int .i64 x.a, .string x.f] W fun e w' => e = .returned (.bool (kl (a, f.toList) (hkey x))) ∧ w' = W) := HC.out
      generalize kl (a, f.toList) (hkey x) = z at HC HT
      go_wp2_with fail
      go_quiet ((go_at_call 25; exact Calls.quiet_of_same (HC.out _)))
      have HB0 : Hid (Below w1.heap.size w1 (wr.drewN nq)) := below_drewN2 hb.out _
      have HR0 : Hid (HRow w1.heap.size xs u10 (wr.drewN nq)) := hrow.out.below (below_drewN2 (Below.refl _ wr) _)
      generalize wr.drewN nq = W0 at HB0 HR0
      cases d with
      | true =>
        simp only [Bool.not_true, Bool.false_and, Bool.false_eq_true, if_false] at HT
        obtain ⟨v6, w6, hr6, hrow6, hb6⟩ := run_append_cell (w := W0) 22 w1.heap.size xs u10 x HR0.out HB0.out.size (by have := HTL.out; omega)
        have HR6 : Hid (HRow w1.heap.size (insTo rs ⟨a, f, v⟩ (k + 1)).1 v6 w6) := by show HRow _ _ _ _; rw [HT.out]; exact hrow6
        have HB6 := Lib.hid (HB0.out.trans hb6)
        have hd6 : (insTo rs ⟨a, f, v⟩ (k + 1)).2 = true := by rw [HT.out]
        have hr6 : ∀ ty, (Builtin.append_ #[22, 22] ty #[u10, .slice (some ⟨W0.heap.size, 0, none⟩) 1 1]).run Try.prog (W0.alloc (.cells #[.int .i64 x.a, .string x.f, .int .i64 x.v] 30)) = .ok v6 w6 := fun ty => hr6
        obtain ⟨q1, q2, q3⟩ := HCL.out W0 HB0.out
        clear hrow6 hb6 HT HTL HR0 hrow hb
        go_wp2_with (at_builtin; refine Lib.wpList_append_run _ rfl _ _ _ _ rfl _ _ rfl rfl _ _ (hr6 _) ?_)
        go_roundw
        case rel => exact ⟨k + 1, by go_num, by rw [hd6], by omega, HR6, HB6⟩
        case measure => simp [intOf]; omega
      | false =>
        cases z with
        | false =>
          simp only [Bool.not_false, Bool.true_and, Bool.false_eq_true, if_false] at HT
          obtain ⟨v6, w6, hr6, hrow6, hb6⟩ := run_append_cell (w := W0) 22 w1.heap.size xs u10 x HR0.out HB0.out.size (by have := HTL.out; omega)
          have HR6 : Hid (HRow w1.heap.size (insTo rs ⟨a, f, v⟩ (k + 1)).1 v6 w6) := by show HRow _ _ _ _; rw [HT.out]; exact hrow6
          have HB6 := Lib.hid (HB0.out.trans hb6)
          have hd6 : (insTo rs ⟨a, f, v⟩ (k + 1)).2 = false := by rw [HT.out]
          have hr6 : ∀ ty, (Builtin.append_ #[22, 22] ty #[u10, .slice (some ⟨W0.heap.size, 0, none⟩) 1 1]).run Try.prog (W0.alloc (.cells #[.int .i64 x.a, .string x.f, .int .i64 x.v] 30)) = .ok v6 w6 := fun ty => hr6
          obtain ⟨q1, q2, q3⟩ := HCL.out W0 HB0.out
          clear hrow6 hb6 HT HTL HR0 hrow hb
          go_wp2_with (at_builtin; refine Lib.wpList_append_run _ rfl _ _ _ _ rfl _ _ rfl rfl _ _ (hr6 _) ?_)
          go_roundw
          case rel => exact ⟨k + 1, by go_num, by rw [hd6], by omega, HR6, HB6⟩
          case measure => simp [intOf]; omega
        | true =>
          simp only [Bool.not_false, Bool.true_and, if_true] at HT
          obtain ⟨v5, w5, hr5, hrow5, hb5⟩ := run_append_cell (w := W0) 22 w1.heap.size xs u10 ⟨a, f, v⟩ HR0.out HB0.out.size (by have := HTL.out; omega)
          have HB5 := Lib.hid (HB0.out.trans hb5)
          obtain ⟨v6, w6, hr6, hrow6, hb6⟩ := run_append_cell (w := w5) 22 w1.heap.size (xs ++ [⟨a, f, v⟩]) v5 x hrow5 HB5.out.size (by have := HTL.out; rw [List.length_append]; simp; omega)
          have HR6 : Hid (HRow w1.heap.size (insTo rs ⟨a, f, v⟩ (k + 1)).1 v6 w6) := by show HRow _ _ _ _; rw [HT.out]; exact hrow6
          have HB6 := Lib.hid (HB5.out.trans hb6)
          have hd6 : (insTo rs ⟨a, f, v⟩ (k + 1)).2 = true := by rw [HT.out]
          have hr5 : ∀ ty, (Builtin.append_ #[22, 22] ty #[u10, .slice (some ⟨W0.heap.size, 0, none⟩) 1 1]).run Try.prog (W0.alloc (.cells #[.int .i64 a, .string f, .int .i64 v] 30)) = .ok v5 w5 := fun ty => hr5
          have hr6 : ∀ ty, (Builtin.append_ #[22, 22] ty #[v5, .slice (some ⟨w5.heap.size, 0, none⟩) 1 1]).run Try.prog (w5.alloc (.cells #[.int .i64 x.a, .string x.f, .int .i64 x.v] 30)) = .ok v6 w6 := fun ty => hr6
          obtain ⟨q1, q2, q3⟩ := HCL.out w5 HB5.out
          clear hrow5 hb5 hrow6 hb6 HT HTL HR0 hrow hb HB0
          go_wp2_with (at_builtin; first | refine Lib.wpList_append_run _ rfl _ _ _ _ rfl _ _ rfl rfl _ _ (hr5 _) ?_ | refine Lib.wpList_append_run _ rfl _ _ _ _ rfl _ _ rfl rfl _ _ (hr6 _) ?_)
          go_roundw
          case rel => exact ⟨k + 1, by go_num, by rw [hd6], by omega, HR6, HB6⟩
          case measure => simp [intOf]; omega
    · have hlti : ¬ (k : Int) < (rs.length : Int) := by omega
      obtain rfl : k = rs.length := by omega
      have HI : Hid (insF rs ⟨a, f, v⟩ = if (insTo rs ⟨a, f, v⟩ rs.length).2 = true then (insTo rs ⟨a, f, v⟩ rs.length).1 else (insTo rs ⟨a, f, v⟩ rs.length).1 ++ [⟨a, f, v⟩]) := rfl
      have BB := Lib.hid (B1.out.trans (hb.out.mono B1.out.size))
      generalize insTo rs ⟨a, f, v⟩ rs.length = s at HI hrow HTL
      obtain ⟨xs, d⟩ := s
      simp only at HI hrow HTL
      cases d with
      | true =>
        have HE : Hid (RowEnd (insF rs ⟨a, f, v⟩) w (.returned u10) wr) := ⟨_, rfl, by rw [HI.out, if_pos rfl]; exact ownsRow_lower hrow.out B1.out.size, BB.out⟩
        clear HI hrow HTL hb
        go_wp2_with fail
        go_ret
        exact HE.out
      | false =>
        obtain ⟨v6, w6, hr6, hrow6, hb6⟩ := run_append_cell (w := wr) 22 w1.heap.size xs u10 ⟨a, f, v⟩ hrow.out hb.out.size (by have := HTL.out; omega)
        have HE : Hid (RowEnd (insF rs ⟨a, f, v⟩) w (.returned v6) w6) := ⟨_, rfl, by rw [HI.out, if_neg (by decide)]; exact ownsRow_lower hrow6 B1.out.size, B1.out.trans ((hb.out.trans hb6).mono B1.out.size)⟩
        have hr6 : ∀ ty, (Builtin.append_ #[22, 22] ty #[u10, .slice (some ⟨wr.heap.size, 0, none⟩) 1 1]).run Try.prog (wr.alloc (.cells #[.int .i64 a, .string f, .int .i64 v] 30)) = .ok v6 w6 := fun ty => hr6
        clear HI hrow HTL hb hrow6 hb6
        go_wp2_with (at_builtin; refine Lib.wpList_append_run _ rfl _ _ _ _ rfl _ _ rfl rfl _ _ (hr6 _) ?_)
        go_ret
        exact HE.out
end Go.Proofs.Yteiomafciignkaa
