/- The document's add. -/
import Derived.Test.YteiomafciignkaaHepJb
import Derived.Test.YteiomafciignkaaHepI
import Derived.Deep.RegionHeld3
import Derived.Deep.RegionLaw
set_option linter.unusedVariables false
set_option linter.unusedSimpArgs false
namespace Go.Proofs.Yteiomafciignkaa
set_option maxRecDepth 100000
open Go.RowKit

/-- append whose run is known, as one step of a region that draws. -/
theorem step_append_run {P : Program} {ops : Array Oper} {o : Oper} {a : Act} {w : World} {K : Act → World → Prop} {Q : Exit → Act → World → Prop} {E : Prop}
    (hg : o.guard = none) (s x : Operand) (t : TypeId) (hop : o.op = Op.call { callee := Callee.builtin Builtin.append, args := #[s, x], argTypes := #[t, t] })
    (v1 v2 v' : Value) (w' : World) (h1 : a.eval s = v1) (h2 : a.eval x = v2) (hr : ∀ ty, (Builtin.append_ #[t, t] ty #[v1, v2]).run P w = .ok v' w') (hK : K (a.put o.dst v') w') :
    if Region.wanted o (yielded ops a.tmps) = true then Oper.wp P o a w K Q else E := by
  have hw : Region.wanted o (yielded ops a.tmps) = true := by simp [Region.wanted, hg]
  rw [if_pos hw]
  unfold Oper.wp
  simp [execOp, hop, resolve, invoke, builtin, h1, h2, hr, Result.andThen]
  exact hK
def stp (s : HC) (p : List HC × Bool) (x : HC) : List HC × Bool := if hkey x = hkey s then (p.1 ++ [⟨s.a, s.f, x.v + s.v⟩], true) else if (!p.2 && kl (hkey s) (hkey x)) = true then (p.1 ++ [s] ++ [x], true) else (p.1 ++ [x], p.2)
def addTo (l : List HC) (s : HC) (k : Nat) : List HC × Bool := (l.take k).foldl (stp s) ([], false)
def fin (s : HC) (p : List HC × Bool) : List HC := if p.2 = true then p.1 else p.1 ++ [s]
theorem addTo_succ (l : List HC) (s : HC) (k : Nat) (h : k < l.length) : addTo l s (k + 1) = stp s (addTo l s k) (l.getD k hc0) := by
  unfold addTo
  rw [take_snocH l k h, List.foldl_append]
  rfl
theorem fold_fin (s : HC) : ∀ (l o : List HC) (d : Bool), fin s (l.foldl (stp s) (o, d)) = o ++ addD s d l
  | [], o, d => by
    cases d <;> simp [fin, addD]
  | x :: l, o, d => by
    show fin s (l.foldl (stp s) (stp s (o, d) x)) = o ++ addD s d (x :: l)
    rw [show stp s (o, d) x = if hkey x = hkey s then (o ++ [⟨s.a, s.f, x.v + s.v⟩], true) else if (!d && kl (hkey s) (hkey x)) = true then (o ++ [s] ++ [x], true) else (o ++ [x], d) from rfl, show addD s d (x :: l) = if hkey x = hkey s then ⟨s.a, s.f, x.v + s.v⟩ :: addD s true l else if (!d && kl (hkey s) (hkey x)) = true then s :: x :: addD s true l else x :: addD s d l from rfl]
    by_cases h1 : hkey x = hkey s
    · rw [if_pos h1, if_pos h1, fold_fin s l]; simp
    · rw [if_neg h1, if_neg h1]
      by_cases h2 : (!d && kl (hkey s) (hkey x)) = true
      · rw [if_pos h2, if_pos h2, fold_fin s l]; simp
      · rw [if_neg h2, if_neg h2, fold_fin s l]; simp
theorem addTo_fin (l : List HC) (s : HC) : fin s (addTo l s l.length) = addD s false l := by
  unfold addTo
  rw [List.take_length, fold_fin s l [] false, List.nil_append]
theorem addTo_len (l : List HC) (s : HC) : ∀ k, k ≤ l.length → (addTo l s k).1.length ≤ 2 * k
  | 0, _ => by simp [addTo]
  | k + 1, h => by
    have := addTo_len l s k (by omega)
    rw [addTo_succ l s k (by omega)]
    unfold stp
    split
    · simp; omega
    · split <;> simp <;> omega
def SRowEnd (xs : List HC) (w : World) (e : Ending) (w' : World) : Prop := ∃ v, e = .returned v ∧ SRow w.heap.size xs v w' ∧ Below w.heap.size w w'
set_option maxHeartbeats 8000000 in
theorem add_any (l : List HC) (s : HC) (ad : Option Addr) (n cap : Nat) (w : World) (hn : l.length = n) (hnm : n ≤ 30000) (hl : HLies w.heap.size w ad l) (hsum : ∀ c, c ∈ l → -9223372036854775808 ≤ c.v + s.v ∧ c.v + s.v ≤ 9223372036854775807) :
    Calls Try.prog 31 #[.slice ad n cap, .agg #[.int .i64 s.a, .string s.f, .int .i64 s.v]] w (SRowEnd (addD s false l) w) := by
  have HB1 : Hid (Below w.heap.size w (w.alloc (.cells #[.int .i64 s.a, .string s.f, .int .i64 s.v] 44))) := (Below.refl _ w).alloc (Nat.le_refl _) _
  have hnew := heap_alloc_new w (.cells #[.int .i64 s.a, .string s.f, .int .i64 s.v] 44)
  have HSC : Hid (∀ W, Below (w.alloc (.cells #[.int .i64 s.a, .string s.f, .int .i64 s.v] 44)).heap.size (w.alloc (.cells #[.int .i64 s.a, .string s.f, .int .i64 s.v] 44)) W → W.cell? ⟨w.heap.size, 0, none⟩ = some (.int .i64 s.a) ∧ W.cell? ⟨w.heap.size, 1, none⟩ = some (.string s.f) ∧ W.cell? ⟨w.heap.size, 2, none⟩ = some (.int .i64 s.v)) := fun W hW =>
    ⟨(hW.cell (p := ⟨w.heap.size, _, none⟩) (lt_of_some hnew)).trans ((cell_of_row _ _ _ _ _ _ hnew).trans rfl), (hW.cell (p := ⟨w.heap.size, _, none⟩) (lt_of_some hnew)).trans ((cell_of_row _ _ _ _ _ _ hnew).trans rfl), (hW.cell (p := ⟨w.heap.size, _, none⟩) (lt_of_some hnew)).trans ((cell_of_row _ _ _ _ _ _ hnew).trans rfl)⟩
  have HL : Hid (HLies (w.alloc (.cells #[.int .i64 s.a, .string s.f, .int .i64 s.v] 44)).heap.size (w.alloc (.cells #[.int .i64 s.a, .string s.f, .int .i64 s.v] 44)) ad l) := hl.up HB1.out
  have HN := Lib.hid hn
  have HSUM := Lib.hid hsum
  have HFI := Lib.hid (addTo_fin l s)
  have HB := Lib.hid (fun a f b g W => rbelow_any a f b g W)
  clear hl hn hsum hnew
  obtain ⟨sa, sf, sv⟩ := s
  go_enter Try.func31, Try.ntmps31
  go_wp2_with fail
  generalize w.alloc (.cells #[.int .i64 sa, .string sf, .int .i64 sv] 44) = w1 at HB1 HSC HL ⊢
  have HG0 : Hid (∃ g, g = w.heap.size) := ⟨_, rfl⟩
  go_loopw [5, 6, 7] (fun o d i wr => ∃ k : Nat, i = .int .i64 k ∧ d = .bool (addTo l ⟨sa, sf, sv⟩ k).2 ∧ k ≤ n ∧ Hid (SRow w1.heap.size (addTo l ⟨sa, sf, sv⟩ k).1 o wr) ∧ Hid (Below w1.heap.size w1 wr)) (fun _ _ i _ => n - (intOf i).toNat)
  case atStart => exact ⟨0, rfl, rfl, Nat.zero_le _, SRow.nil _ _, Below.refl _ _⟩
  case round =>
    obtain ⟨k, rfl, rfl, hk, hrow, hb⟩ := hrel
    have HTL : Hid ((addTo l ⟨sa, sf, sv⟩ k).1.length ≤ 2 * k) := addTo_len l ⟨sa, sf, sv⟩ k (by rw [HN.out]; exact hk)
    by_cases hlt : k < n
    · have hlti : (k : Int) < (n : Int) := by omega
      obtain ⟨b3, off3, rfl, hb3, c1, c2, c3⟩ := HL.out k (by rw [HN.out]; exact hlt)
      have HCL : Hid (∀ W, Below w1.heap.size w1 W → W.cell? ⟨b3, off3 + k * 3, none⟩ = some (.int .i64 (l.getD k hc0).a) ∧ W.cell? ⟨b3, off3 + k * 3 + 1, none⟩ = some (.string (l.getD k hc0).f) ∧ W.cell? ⟨b3, off3 + k * 3 + 2, none⟩ = some (.int .i64 (l.getD k hc0).v)) := fun W hW => ⟨(hW.cell (p := ⟨b3, _, none⟩) hb3).trans c1, (hW.cell (p := ⟨b3, _, none⟩) hb3).trans c2, (hW.cell (p := ⟨b3, _, none⟩) hb3).trans c3⟩
      have HT : Hid (addTo l ⟨sa, sf, sv⟩ (k + 1) = stp ⟨sa, sf, sv⟩ (addTo l ⟨sa, sf, sv⟩ k) (l.getD k hc0)) := addTo_succ l ⟨sa, sf, sv⟩ k (by rw [HN.out]; exact hlt)
      have HSM : Hid (-9223372036854775808 ≤ (l.getD k hc0).v + sv ∧ (l.getD k hc0).v + sv ≤ 9223372036854775807) := HSUM.out _ (getD_memH (by rw [HN.out]; exact hlt))
      obtain ⟨q1, q2, q3⟩ := HCL.out wr hb.out
      obtain ⟨p1, p2, p3⟩ := HSC.out wr hb.out
      clear c1 c2 c3
      generalize addTo l ⟨sa, sf, sv⟩ k = p at HT HTL hrow
      obtain ⟨xs, d⟩ := p
      simp only at HT HTL hrow
      generalize l.getD k hc0 = x at HCL HT HSM q1 q2 q3
      obtain ⟨xa, xf, xv⟩ := x
      simp only at HCL HSM q1 q2 q3
      by_cases e1 : xa = sa ∧ xf.toList = sf.toList
      · have he1 : (xa == sa) = true := by simp [e1.1]
        have he2 : (xf.toList == sf.toList) = true := by simp [e1.2]
        have HT : Hid (addTo l ⟨sa, sf, sv⟩ (k + 1) = (xs ++ [⟨sa, sf, xv + sv⟩], true)) := by
          show _ = _
          rw [HT.out]
          unfold stp
          rw [if_pos (by unfold hkey; rw [e1.1, e1.2])]
        clear e1
        go_wp2_with fail
        go_quiet (fail)
        have HB0 : Hid (Below w1.heap.size w1 (wr.drewN nq)) := below_drewN2 hb.out _
        have HR0 : Hid (SRow w1.heap.size xs u5 (wr.drewN nq)) := hrow.out.below (below_drewN2 (Below.refl _ wr) _)
        generalize wr.drewN nq = W0 at HB0 HR0
        clear q1 q2 q3 p1 p2 p3
        obtain ⟨q1, q2, q3⟩ := HCL.out W0 HB0.out
        obtain ⟨p1, p2, p3⟩ := HSC.out W0 HB0.out
        have HB2 : Hid (Below w1.heap.size w1 W0.drew) := HB0.out.drew
        have HR2 : Hid (SRow w1.heap.size xs u5 W0.drew) := HR0.out.below (Below.refl _ _).drew
        have hw : ∀ p q : Int, p = xv → q = sv → IntKind.i64.wrap (p + q) = p + q := fun p q e1 e2 => by rw [e1, e2]; exact IntWalk.i64_in _ (by have := HSM.out; omega)
        go_wp2_with fail
        obtain ⟨v6, w6, hr6, hrow6, hb6⟩ := run_append_share (w := W0.drew) 42 w1.heap.size xs u5 ⟨sa, sf, xv + sv⟩ HR2.out HB2.out.size (by have := HTL.out; omega)
        have HR6 : Hid (SRow w1.heap.size (addTo l ⟨sa, sf, sv⟩ (k + 1)).1 v6 w6) := by show SRow _ _ _ _; rw [HT.out]; exact hrow6
        have HB6 := Lib.hid (HB2.out.trans hb6)
        have hd6 : (addTo l ⟨sa, sf, sv⟩ (k + 1)).2 = true := by rw [HT.out]
        have HRUN : Hid (∀ ty, (Builtin.append_ #[42, 42] ty #[u5, .slice (some ⟨W0.heap.size, 0, none⟩) 1 1]).run Try.prog (W0.alloc (.cells #[.int .i64 sa, .string sf, .int .i64 (xv + sv)] 44)).drew = .ok v6 w6) := fun ty => hr6
        have HS6 : Hid (w6.cell? ⟨w.heap.size, 0, none⟩ = some (.int .i64 sa) ∧ w6.cell? ⟨w.heap.size, 1, none⟩ = some (.string sf) ∧ w6.cell? ⟨w.heap.size, 2, none⟩ = some (.int .i64 sv) ∧ w6.cell? ⟨b3, off3 + k * 3 + 2, none⟩ = some (.int .i64 xv)) := ⟨(HSC.out w6 HB6.out).1, (HSC.out w6 HB6.out).2.1, (HSC.out w6 HB6.out).2.2, (HCL.out w6 HB6.out).2.2⟩
        clear hr6 hrow6 hb6 HT HTL HR0 HR2 hrow hb
        go_region_held3 (fun w' => w'.cell? ⟨w.heap.size, 0, none⟩ = some (.int .i64 sa) ∧ w'.cell? ⟨w.heap.size, 1, none⟩ = some (.string sf) ∧ w'.cell? ⟨w.heap.size, 2, none⟩ = some (.int .i64 sv) ∧ w'.cell? ⟨b3, off3 + k * 3 + 2, none⟩ = some (.int .i64 xv))
          (first | go_keep | exact HS6.out)
          ((refine step_append_run (by rfl) _ _ _ (by rfl) _ _ v6 w6 (by rfl) (by rfl) HRUN.out ?_))
        clear q1 q2 q3 p1 p2 p3
        go_wp2
        clear hw
        go_roundw
        case rel => exact ⟨k + 1, by go_num, by rw [hd6], by omega, HR6, HB6⟩
        case measure => simp [intOf]; omega
      · have HT : Hid (addTo l ⟨sa, sf, sv⟩ (k + 1) = if (!d && kl (sa, sf.toList) (xa, xf.toList)) = true then (xs ++ [⟨sa, sf, sv⟩] ++ [⟨xa, xf, xv⟩], true) else (xs ++ [⟨xa, xf, xv⟩], d)) := by
          show _ = _
          rw [HT.out]
          unfold stp
          rw [if_neg (show ¬ hkey (⟨xa, xf, xv⟩ : HC) = hkey ⟨sa, sf, sv⟩ from fun h => e1 (hkey_eq.1 h))]
          rfl
        have HC : Hid (∀ W, Calls Try.prog 25 #[.int .i64 sa, .string sf, .int .i64 xa, .string xf] W fun e w' => e = .returned (.bool (kl (sa, sf.toList) (xa, xf.toList))) ∧ w' = W) := HB.out sa sf xa xf
        generalize kl (sa, sf.toList) (xa, xf.toList) = z at HC HT
        clear HSM
        by_cases e2 : xa = sa
        · have he1 : (xa == sa) = true := by simp [e2]
          have he2 : (xf.toList == sf.toList) = false := by simp; exact fun h => e1 ⟨e2, h⟩
          clear e1 e2
          go_wp2_with fail
          go_quiet (fail)
          have HB0 : Hid (Below w1.heap.size w1 (wr.drewN nq)) := below_drewN2 hb.out _
          have HR0 : Hid (SRow w1.heap.size xs u5 (wr.drewN nq)) := hrow.out.below (below_drewN2 (Below.refl _ wr) _)
          generalize wr.drewN nq = W0 at HB0 HR0
          clear q1 q2 q3 p1 p2 p3 hrow hb
          obtain ⟨q1, q2, q3⟩ := HCL.out W0 HB0.out
          obtain ⟨p1, p2, p3⟩ := HSC.out W0 HB0.out
          go_wp2_with fail
          go_quiet ((go_at_call 25; exact Calls.quiet_of_same (HC.out _)))
          have HB4 : Hid (Below w1.heap.size w1 (W0.drewN nq)) := below_drewN2 HB0.out _
          have HR4 : Hid (SRow w1.heap.size xs u5 (W0.drewN nq)) := HR0.out.below (below_drewN2 (Below.refl _ W0) _)
          generalize W0.drewN nq = W4 at HB4 HR4
          clear HB0 HR0 q1 q2 q3 p1 p2 p3
          obtain ⟨q1, q2, q3⟩ := HCL.out W4 HB4.out
          obtain ⟨p1, p2, p3⟩ := HSC.out W4 HB4.out
          cases d with
          | true =>
            simp only [Bool.not_true, Bool.false_and, Bool.false_eq_true, if_false] at HT
            obtain ⟨v6, w6, hr6, hrow6, hb6⟩ := run_append_share (w := W4) 42 w1.heap.size xs u5 ⟨xa, xf, xv⟩ HR4.out HB4.out.size (by have := HTL.out; omega)
            have HR6 : Hid (SRow w1.heap.size (addTo l ⟨sa, sf, sv⟩ (k + 1)).1 v6 w6) := by show SRow _ _ _ _; rw [HT.out]; exact hrow6
            have HB6 := Lib.hid (HB4.out.trans hb6)
            have hd6 : (addTo l ⟨sa, sf, sv⟩ (k + 1)).2 = true := by rw [HT.out]
            have hr6 : ∀ ty, (Builtin.append_ #[42, 42] ty #[u5, .slice (some ⟨W4.heap.size, 0, none⟩) 1 1]).run Try.prog (W4.alloc (.cells #[.int .i64 xa, .string xf, .int .i64 xv] 44)) = .ok v6 w6 := fun ty => hr6
            clear hrow6 hb6 HT HTL HR4
            go_wp2_with (at_builtin; refine Lib.wpList_append_run _ rfl _ _ _ _ rfl _ _ rfl rfl _ _ (hr6 _) ?_)
            go_roundw
            case rel => exact ⟨k + 1, by go_num, by rw [hd6], by omega, HR6, HB6⟩
            case measure => simp [intOf]; omega
          | false =>
            cases z with
            | false =>
              simp only [Bool.not_false, Bool.true_and, Bool.false_eq_true, if_false] at HT
              obtain ⟨v6, w6, hr6, hrow6, hb6⟩ := run_append_share (w := W4) 42 w1.heap.size xs u5 ⟨xa, xf, xv⟩ HR4.out HB4.out.size (by have := HTL.out; omega)
              have HR6 : Hid (SRow w1.heap.size (addTo l ⟨sa, sf, sv⟩ (k + 1)).1 v6 w6) := by show SRow _ _ _ _; rw [HT.out]; exact hrow6
              have HB6 := Lib.hid (HB4.out.trans hb6)
              have hd6 : (addTo l ⟨sa, sf, sv⟩ (k + 1)).2 = false := by rw [HT.out]
              have hr6 : ∀ ty, (Builtin.append_ #[42, 42] ty #[u5, .slice (some ⟨W4.heap.size, 0, none⟩) 1 1]).run Try.prog (W4.alloc (.cells #[.int .i64 xa, .string xf, .int .i64 xv] 44)) = .ok v6 w6 := fun ty => hr6
              clear hrow6 hb6 HT HTL HR4
              go_wp2_with (at_builtin; refine Lib.wpList_append_run _ rfl _ _ _ _ rfl _ _ rfl rfl _ _ (hr6 _) ?_)
              go_roundw
              case rel => exact ⟨k + 1, by go_num, by rw [hd6], by omega, HR6, HB6⟩
              case measure => simp [intOf]; omega
            | true =>
              simp only [Bool.not_false, Bool.true_and, if_true] at HT
              obtain ⟨v5, w5, hr5, hrow5, hb5⟩ := run_append_share (w := W4) 42 w1.heap.size xs u5 ⟨sa, sf, sv⟩ HR4.out HB4.out.size (by have := HTL.out; omega)
              have HB5 := Lib.hid (HB4.out.trans hb5)
              obtain ⟨v6, w6, hr6, hrow6, hb6⟩ := run_append_share (w := w5) 42 w1.heap.size (xs ++ [⟨sa, sf, sv⟩]) v5 ⟨xa, xf, xv⟩ hrow5 HB5.out.size (by have := HTL.out; rw [List.length_append]; simp; omega)
              have HR6 : Hid (SRow w1.heap.size (addTo l ⟨sa, sf, sv⟩ (k + 1)).1 v6 w6) := by show SRow _ _ _ _; rw [HT.out]; exact hrow6
              have HB6 := Lib.hid (HB5.out.trans hb6)
              have hd6 : (addTo l ⟨sa, sf, sv⟩ (k + 1)).2 = true := by rw [HT.out]
              have hr5 : ∀ ty, (Builtin.append_ #[42, 42] ty #[u5, .slice (some ⟨W4.heap.size, 0, none⟩) 1 1]).run Try.prog (W4.alloc (.cells #[.int .i64 sa, .string sf, .int .i64 sv] 44)) = .ok v5 w5 := fun ty => hr5
              have hr6 : ∀ ty, (Builtin.append_ #[42, 42] ty #[v5, .slice (some ⟨w5.heap.size, 0, none⟩) 1 1]).run Try.prog (w5.alloc (.cells #[.int .i64 xa, .string xf, .int .i64 xv] 44)) = .ok v6 w6 := fun ty => hr6
              obtain ⟨y1, y2, y3⟩ := HCL.out w5 HB5.out
              clear hrow5 hb5 hrow6 hb6 HT HTL HR4 HB4
              go_wp2_with (at_builtin; first | refine Lib.wpList_append_run _ rfl _ _ _ _ rfl _ _ rfl rfl _ _ (hr5 _) ?_ | refine Lib.wpList_append_run _ rfl _ _ _ _ rfl _ _ rfl rfl _ _ (hr6 _) ?_)
              go_roundw
              case rel => exact ⟨k + 1, by go_num, by rw [hd6], by omega, HR6, HB6⟩
              case measure => simp [intOf]; omega
        · have he1 : (xa == sa) = false := by simp [e2]
          clear e1 e2
          go_wp2_with fail
          go_quiet (fail)
          have HB0 : Hid (Below w1.heap.size w1 (wr.drewN nq)) := below_drewN2 hb.out _
          have HR0 : Hid (SRow w1.heap.size xs u5 (wr.drewN nq)) := hrow.out.below (below_drewN2 (Below.refl _ wr) _)
          generalize wr.drewN nq = W0 at HB0 HR0
          clear q1 q2 q3 p1 p2 p3 hrow hb
          obtain ⟨q1, q2, q3⟩ := HCL.out W0 HB0.out
          obtain ⟨p1, p2, p3⟩ := HSC.out W0 HB0.out
          go_wp2_with fail
          go_quiet ((go_at_call 25; exact Calls.quiet_of_same (HC.out _)))
          have HB4 : Hid (Below w1.heap.size w1 (W0.drewN nq)) := below_drewN2 HB0.out _
          have HR4 : Hid (SRow w1.heap.size xs u5 (W0.drewN nq)) := HR0.out.below (below_drewN2 (Below.refl _ W0) _)
          generalize W0.drewN nq = W4 at HB4 HR4
          clear HB0 HR0 q1 q2 q3 p1 p2 p3
          obtain ⟨q1, q2, q3⟩ := HCL.out W4 HB4.out
          obtain ⟨p1, p2, p3⟩ := HSC.out W4 HB4.out
          cases d with
          | true =>
            simp only [Bool.not_true, Bool.false_and, Bool.false_eq_true, if_false] at HT
            obtain ⟨v6, w6, hr6, hrow6, hb6⟩ := run_append_share (w := W4) 42 w1.heap.size xs u5 ⟨xa, xf, xv⟩ HR4.out HB4.out.size (by have := HTL.out; omega)
            have HR6 : Hid (SRow w1.heap.size (addTo l ⟨sa, sf, sv⟩ (k + 1)).1 v6 w6) := by show SRow _ _ _ _; rw [HT.out]; exact hrow6
            have HB6 := Lib.hid (HB4.out.trans hb6)
            have hd6 : (addTo l ⟨sa, sf, sv⟩ (k + 1)).2 = true := by rw [HT.out]
            have hr6 : ∀ ty, (Builtin.append_ #[42, 42] ty #[u5, .slice (some ⟨W4.heap.size, 0, none⟩) 1 1]).run Try.prog (W4.alloc (.cells #[.int .i64 xa, .string xf, .int .i64 xv] 44)) = .ok v6 w6 := fun ty => hr6
            clear hrow6 hb6 HT HTL HR4
            go_wp2_with (at_builtin; refine Lib.wpList_append_run _ rfl _ _ _ _ rfl _ _ rfl rfl _ _ (hr6 _) ?_)
            go_roundw
            case rel => exact ⟨k + 1, by go_num, by rw [hd6], by omega, HR6, HB6⟩
            case measure => simp [intOf]; omega
          | false =>
            cases z with
            | false =>
              simp only [Bool.not_false, Bool.true_and, Bool.false_eq_true, if_false] at HT
              obtain ⟨v6, w6, hr6, hrow6, hb6⟩ := run_append_share (w := W4) 42 w1.heap.size xs u5 ⟨xa, xf, xv⟩ HR4.out HB4.out.size (by have := HTL.out; omega)
              have HR6 : Hid (SRow w1.heap.size (addTo l ⟨sa, sf, sv⟩ (k + 1)).1 v6 w6) := by show SRow _ _ _ _; rw [HT.out]; exact hrow6
              have HB6 := Lib.hid (HB4.out.trans hb6)
              have hd6 : (addTo l ⟨sa, sf, sv⟩ (k + 1)).2 = false := by rw [HT.out]
              have hr6 : ∀ ty, (Builtin.append_ #[42, 42] ty #[u5, .slice (some ⟨W4.heap.size, 0, none⟩) 1 1]).run Try.prog (W4.alloc (.cells #[.int .i64 xa, .string xf, .int .i64 xv] 44)) = .ok v6 w6 := fun ty => hr6
              clear hrow6 hb6 HT HTL HR4
              go_wp2_with (at_builtin; refine Lib.wpList_append_run _ rfl _ _ _ _ rfl _ _ rfl rfl _ _ (hr6 _) ?_)
              go_roundw
              case rel => exact ⟨k + 1, by go_num, by rw [hd6], by omega, HR6, HB6⟩
              case measure => simp [intOf]; omega
            | true =>
              simp only [Bool.not_false, Bool.true_and, if_true] at HT
              obtain ⟨v5, w5, hr5, hrow5, hb5⟩ := run_append_share (w := W4) 42 w1.heap.size xs u5 ⟨sa, sf, sv⟩ HR4.out HB4.out.size (by have := HTL.out; omega)
              have HB5 := Lib.hid (HB4.out.trans hb5)
              obtain ⟨v6, w6, hr6, hrow6, hb6⟩ := run_append_share (w := w5) 42 w1.heap.size (xs ++ [⟨sa, sf, sv⟩]) v5 ⟨xa, xf, xv⟩ hrow5 HB5.out.size (by have := HTL.out; rw [List.length_append]; simp; omega)
              have HR6 : Hid (SRow w1.heap.size (addTo l ⟨sa, sf, sv⟩ (k + 1)).1 v6 w6) := by show SRow _ _ _ _; rw [HT.out]; exact hrow6
              have HB6 := Lib.hid (HB5.out.trans hb6)
              have hd6 : (addTo l ⟨sa, sf, sv⟩ (k + 1)).2 = true := by rw [HT.out]
              have hr5 : ∀ ty, (Builtin.append_ #[42, 42] ty #[u5, .slice (some ⟨W4.heap.size, 0, none⟩) 1 1]).run Try.prog (W4.alloc (.cells #[.int .i64 sa, .string sf, .int .i64 sv] 44)) = .ok v5 w5 := fun ty => hr5
              have hr6 : ∀ ty, (Builtin.append_ #[42, 42] ty #[v5, .slice (some ⟨w5.heap.size, 0, none⟩) 1 1]).run Try.prog (w5.alloc (.cells #[.int .i64 xa, .string xf, .int .i64 xv] 44)) = .ok v6 w6 := fun ty => hr6
              obtain ⟨y1, y2, y3⟩ := HCL.out w5 HB5.out
              clear hrow5 hb5 hrow6 hb6 HT HTL HR4 HB4
              go_wp2_with (at_builtin; first | refine Lib.wpList_append_run _ rfl _ _ _ _ rfl _ _ rfl rfl _ _ (hr5 _) ?_ | refine Lib.wpList_append_run _ rfl _ _ _ _ rfl _ _ rfl rfl _ _ (hr6 _) ?_)
              go_roundw
              case rel => exact ⟨k + 1, by go_num, by rw [hd6], by omega, HR6, HB6⟩
              case measure => simp [intOf]; omega
    · have hlti : ¬ (k : Int) < (n : Int) := by omega
      obtain rfl : k = n := by omega
      have hkl : Hid (l.length = k) := HN.out
      have HI : Hid (fin ⟨sa, sf, sv⟩ (addTo l ⟨sa, sf, sv⟩ k) = addD ⟨sa, sf, sv⟩ false l) := by
        have := HFI.out
        rw [HN.out] at this
        exact this
      have BB := Lib.hid (HB1.out.trans (hb.out.mono HB1.out.size))
      obtain ⟨p1, p2, p3⟩ := HSC.out wr hb.out
      generalize addTo l ⟨sa, sf, sv⟩ k = p at HI hrow HTL
      obtain ⟨xs, d⟩ := p
      simp only at HI hrow HTL
      cases d with
      | true =>
        have HE : Hid (SRowEnd (addD ⟨sa, sf, sv⟩ false l) w (.returned u5) wr) := ⟨_, rfl, by rw [← HI.out]; unfold fin; rw [if_pos rfl]; exact ownsRow_lower hrow.out HB1.out.size, BB.out⟩
        clear HI hrow HTL hb
        go_wp2_with fail
        go_ret
        exact HE.out
      | false =>
        obtain ⟨v6, w6, hr6, hrow6, hb6⟩ := run_append_share (w := wr) 42 w1.heap.size xs u5 ⟨sa, sf, sv⟩ hrow.out hb.out.size (by have := HTL.out; omega)
        have HE : Hid (SRowEnd (addD ⟨sa, sf, sv⟩ false l) w (.returned v6) w6) := ⟨_, rfl, by rw [← HI.out]; unfold fin; rw [if_neg (by simp)]; exact ownsRow_lower hrow6 HB1.out.size, HB1.out.trans ((hb.out.trans hb6).mono HB1.out.size)⟩
        have hr6 : ∀ ty, (Builtin.append_ #[42, 42] ty #[u5, .slice (some ⟨wr.heap.size, 0, none⟩) 1 1]).run Try.prog (wr.alloc (.cells #[.int .i64 sa, .string sf, .int .i64 sv] 44)) = .ok v6 w6 := fun ty => hr6
        clear HI hrow HTL hb hrow6 hb6
        go_wp2_with (at_builtin; refine Lib.wpList_append_run _ rfl _ _ _ _ rfl _ _ rfl rfl _ _ (hr6 _) ?_)
        go_ret
        exact HE.out
end Go.Proofs.Yteiomafciignkaa
