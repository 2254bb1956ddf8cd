/- The document's Drop, Set: their walks; whether two heaps are the same. -/
import Derived.Test.YteiomafciignkaaHepG
set_option linter.unusedVariables false
set_option linter.unusedSimpArgs false
namespace Go.Proofs.Yteiomafciignkaa
set_option maxRecDepth 100000
open Go.RowKit

theorem take_snocH (hs : List HC) (k : Nat) (h : k < hs.length) : hs.take (k + 1) = hs.take k ++ [hs.getD k hc0] := by
  rw [List.take_succ_eq_append_getElem h, List.getD_eq_getElem?_getD, List.getElem?_eq_getElem h]; rfl
def dropL (hs : List HC) (K : Key) : List HC := hs.filter fun c => decide (hkey c ≠ K)
theorem dropL_len (hs : List HC) (K : Key) : (dropL hs K).length ≤ hs.length := List.length_filter_le _ _
theorem dropL_snoc (hs : List HC) (K : Key) (c : HC) : dropL (hs ++ [c]) K = dropL hs K ++ (if hkey c ≠ K then [c] else []) := by
  unfold dropL
  rw [List.filter_append]
  by_cases h : hkey c ≠ K
  · rw [if_pos h]; simp [h]
  · rw [if_neg h]; simp at h; simp [h]
/-- A row of cells of the call's own. -/
def HRow (B : Nat) (xs : List HC) (v : Value) (w : World) : Prop := w.ownsRow B 30 3 v xs.length (hcells xs)
theorem HRow.nil (B : Nat) (w : World) : HRow B [] (.slice none 0 0) w := World.ownsRow_nil _ _ _ _
theorem HRow.below {B : Nat} {xs : List HC} {v : Value} {w w' : World} (h : HRow B xs v w) (hb : Below w.heap.size w w') : HRow B xs v w' :=
  World.ownsRow.kept (row := none) h ⟨hb.os, hb.tape, hb.output, hb.size, fun q hq _ => hb.block q hq⟩ (by cases v.ownBlock <;> simp)
theorem HRow.snoc {B : Nat} {xs : List HC} {c : HC} {v : Value} {w : World} (h : w.ownsRow B 30 3 v (xs.length + 1) (hcells xs ++ [.int .i64 c.a, .string c.f, .int .i64 c.v])) : HRow B (xs ++ [c]) v w := by
  unfold HRow; rw [List.length_append, hcells_append]; exact h
theorem HRow.lies {B : Nat} {xs : List HC} {v : Value} {w : World} (h : HRow B xs v w) : ∃ a cap, v = .slice a xs.length cap ∧ xs.length ≤ cap ∧ cap ≤ 9223372036854775807 ∧ HLies w.heap.size w a xs := by
  obtain ⟨a, cap, h1, h2, h3, h4, _⟩ := own_hlies rfl h
  exact ⟨a, cap, h1, h2, h3, h4⟩
/-- append(own, Cell{..}). -/
theorem run_append_cell {w : World} (ty : TypeId) (B : Nat) (xs : List HC) (v : Value) (c : HC) (hown : HRow B xs v w) (hB : B ≤ w.heap.size) (hsz : xs.length ≤ 1000000) :
    ∃ v' w', (Builtin.append_ #[22, 22] ty #[v, .slice (some ⟨w.heap.size, 0, none⟩) 1 1]).run Try.prog (w.alloc (.cells #[.int .i64 c.a, .string c.f, .int .i64 c.v] 30)) = .ok v' w' ∧ HRow B (xs ++ [c]) v' w' ∧ Below B w w' := by
  obtain ⟨i0, hi, hz0, hz1, hz2⟩ := info_parts Try.infoCell
  have hA : Below w.heap.size w (w.alloc (.cells #[.int .i64 c.a, .string c.f, .int .i64 c.v] 30)) := (Below.refl _ w).alloc (Nat.le_refl _) _
  have hown2 : (w.alloc (.cells #[.int .i64 c.a, .string c.f, .int .i64 c.v] 30)).ownsRow B 30 3 v xs.length (hcells xs) := hown.below hA
  have hl : HLies (w.alloc (.cells #[.int .i64 c.a, .string c.f, .int .i64 c.v] 30)).heap.size (w.alloc (.cells #[.int .i64 c.a, .string c.f, .int .i64 c.v] 30)) (some ⟨w.heap.size, 0, none⟩) [c] := (hlies_new w [c] 30).mono (by simp)
  obtain ⟨v', w', hr, h1, _, h3⟩ := run_append_h (P := Try.prog) B 22 ty 30 i0 _ Try.underlying22 hi hz0 hz1 hz2 rfl v xs.length xs rfl hown2 (Nat.le_trans hB hA.size) (some ⟨w.heap.size, 0, none⟩) 1 1 [c] rfl hl (by omega)
  refine ⟨v', w', hr, ?_, (hA.mono hB).trans h3⟩
  unfold HRow
  rw [List.length_append]
  exact h1
def RowEnd (xs : List HC) (w : World) (e : Ending) (w' : World) : Prop := ∃ v, e = .returned v ∧ HRow w.heap.size xs v w' ∧ Below w.heap.size w w'
set_option maxHeartbeats 2000000 in
theorem rdrop_any (hs : List HC) (ad : Option Addr) (n cap : Nat) (a : Int) (f : ByteArray) (w : World) (hn : hs.length = n) (hnm : n ≤ 30000) (hl : HLies w.heap.size w ad hs) :
    Calls Try.prog 16 #[.slice ad n cap, .int .i64 a, .string f] w (RowEnd (dropL hs (a, f.toList)) w) := by
  have HL := Lib.hid hl
  have HN := Lib.hid hn
  clear hl hn
  go_enter Try.func16, Try.ntmps16
  go_wp2_with fail
  go_loopw [7, 8] (fun o i wr => ∃ k : Nat, i = .int .i64 k ∧ k ≤ n ∧ Hid (HRow w.heap.size (dropL (hs.take k) (a, f.toList)) o wr) ∧ Hid (Below w.heap.size w wr)) (fun _ i _ => n - (intOf i).toNat)
  case atStart => exact ⟨0, rfl, Nat.zero_le _, HRow.nil _ _, Below.refl _ _⟩
  case round =>
    obtain ⟨k, rfl, hk, hrow, hb⟩ := hrel
    by_cases hlt : k < n
    · have hlti : (k : Int) < (n : Int) := by omega
      obtain ⟨b3, off3, rfl, hb3, c1, c2, c3⟩ := HL.out k (by rw [HN.out]; omega)
      have c1 := (hb.out.cell (p := ⟨b3, _, none⟩) hb3).trans c1
      have c2 := (hb.out.cell (p := ⟨b3, _, none⟩) hb3).trans c2
      have c3 := (hb.out.cell (p := ⟨b3, _, none⟩) hb3).trans c3
      have HT : Hid (dropL (hs.take (k + 1)) (a, f.toList) = dropL (hs.take k) (a, f.toList) ++ (if hkey (hs.getD k hc0) ≠ (a, f.toList) then [hs.getD k hc0] else [])) := by
        show _ = _
        rw [take_snocH hs k (by rw [HN.out]; exact hlt), dropL_snoc]
      have HLE : Hid ((dropL (hs.take k) (a, f.toList)).length ≤ k) := by
        have := dropL_len (hs.take k) (a, f.toList)
        rw [List.length_take] at this
        show _ ≤ _; omega
      generalize hs.getD k hc0 = x at c1 c2 c3 HT
      generalize dropL (hs.take k) (a, f.toList) = xs at HT HLE hrow
      obtain ⟨xa, xf, xv⟩ := x
      simp only at c1 c2 c3
      obtain ⟨v5, w5, hr5, hrow5, hb5⟩ := run_append_cell (w := wr) 22 w.heap.size xs u7 ⟨xa, xf, xv⟩ hrow.out hb.out.size (by have := HLE.out; omega)
      have HR5 := Lib.hid hrow5
      have HB5 := Lib.hid (hb.out.trans hb5)
      have hr5 : ∀ ty, (Builtin.append_ #[22, 22] ty #[u7, .slice (some ⟨wr.heap.size, 0, none⟩) 1 1]).run Try.prog (wr.alloc (.cells #[.int .i64 xa, .string xf, .int .i64 xv] 30)) = .ok v5 w5 := fun ty => hr5
      clear hrow5 hb5
      by_cases e1 : xa = a
      · have he1 : (xa != a) = false := by simp [e1]
        by_cases e2 : xf.toList = f.toList
        · have he2 : (xf.toList != f.toList) = false := by simp [e2]
          have he3 : (xf.toList == f.toList) = true := by simp [e2]
          have HE : Hid (HRow w.heap.size (dropL (hs.take (k + 1)) (a, f.toList)) u7 wr) := by
            show HRow _ _ _ _
            rw [HT.out, if_neg (fun h => h (hkey_eq.2 ⟨e1, e2⟩)), List.append_nil]
            exact hrow.out
          clear HT hr5 HR5 HB5 hrow e1 e2
          go_wp2_with fail
          go_roundw
          case rel => exact ⟨k + 1, by go_num, by omega, HE, hb⟩
          case measure => simp [intOf]; omega
        · have he2 : (xf.toList != f.toList) = true := by simp [e2]
          have he3 : (xf.toList == f.toList) = false := by simp [e2]
          have HE : Hid (HRow w.heap.size (dropL (hs.take (k + 1)) (a, f.toList)) v5 w5) := by
            show HRow _ _ _ _
            rw [HT.out, if_pos (fun h => e2 (hkey_eq.1 h).2)]
            exact HR5.out
          clear HT HR5 hrow e1 e2
          go_wp2_with (at_builtin; refine Lib.wpList_append_run _ rfl _ _ _ _ rfl _ _ rfl rfl _ _ (hr5 _) ?_)
          go_roundw
          case rel => exact ⟨k + 1, by go_num, by omega, HE, HB5⟩
          case measure => simp [intOf]; omega
      · have he1 : (xa != a) = true := by simp [e1]
        have HE : Hid (HRow w.heap.size (dropL (hs.take (k + 1)) (a, f.toList)) v5 w5) := by
          show HRow _ _ _ _
          rw [HT.out, if_pos (fun h => e1 (hkey_eq.1 h).1)]
          exact HR5.out
        clear HT HR5 hrow e1
        go_wp2_with (at_builtin; refine Lib.wpList_append_run _ rfl _ _ _ _ rfl _ _ rfl rfl _ _ (hr5 _) ?_)
        go_roundw
        case rel => exact ⟨k + 1, by go_num, by omega, HE, HB5⟩
        case measure => simp [intOf]; omega
    · have hlti : ¬ (k : Int) < (n : Int) := by omega
      have HE : Hid (RowEnd (dropL hs (a, f.toList)) w (.returned u7) wr) := by
        refine ⟨u7, rfl, ?_, hb.out⟩
        have := hrow.out
        rwa [List.take_of_length_le (by rw [HN.out]; omega)] at this
      clear hrow hb
      go_wp2_with fail
      go_ret
      exact HE.out
theorem Try.neCell (x y : HC) (w : World) : (binOp .neq 30 (.agg #[.int .i64 x.a, .string x.f, .int .i64 x.v]) (.agg #[.int .i64 y.a, .string y.f, .int .i64 y.v])).run Try.prog w = .ok (.bool (!(decide (hkey x = hkey y) && decide (x.v = y.v)))) w := by
  simp [go_sem, hkey]
  by_cases h1 : x.a = y.a <;> by_cases h2 : x.f.toList = y.f.toList <;> by_cases h3 : x.v = y.v <;> simp [h1, h2, h3]
set_option maxHeartbeats 2000000 in
theorem same_any (xs ys : List HC) (ad : Option Addr) (n cap : Nat) (ad2 : Option Addr) (n2 cap2 : Nat) (w : World) (hn : xs.length = n) (hn2 : ys.length = n2) (hnm : n ≤ 9223372036854775807) (hnm2 : n2 ≤ 9223372036854775807) (hl : HLies w.heap.size w ad xs) (hl2 : HLies w.heap.size w ad2 ys) :
    Calls Try.prog 15 #[.slice ad n cap, .slice ad2 n2 cap2] w (BoolEnd (xs = ys) w) := by
  have HL := Lib.hid hl
  have HL2 := Lib.hid hl2
  have HN := Lib.hid hn
  have HN2 := Lib.hid hn2
  clear hl hn hl2 hn2
  by_cases hnn : n = n2
  · subst hnn
    have hnb : ((n : Int) != (n : Int)) = false := by simp
    go_enter Try.func15, Try.ntmps15
    go_wp2_with fail
    go_loopw [5] (fun i wr => ∃ k : Nat, i = .int .i64 k ∧ k ≤ n ∧ Hid (∀ j, j < k → xs.getD j hc0 = ys.getD j hc0) ∧ Hid (Below w.heap.size w wr)) (fun i _ => n - (intOf i).toNat)
    case atStart => exact ⟨0, rfl, Nat.zero_le _, fun j hj => absurd hj (Nat.not_lt_zero j), Below.refl _ _⟩
    case round =>
      obtain ⟨k, rfl, hk, hok, hb⟩ := hrel
      by_cases hlt : k < n
      · have hlti : (k : Int) < (n : Int) := by omega
        obtain ⟨b3, off3, rfl, hb3, c1, c2, c3⟩ := HL.out k (by rw [HN.out]; omega)
        obtain ⟨b4, off4, rfl, hb4, d1, d2, d3⟩ := HL2.out k (by rw [HN2.out]; omega)
        have c1 := (hb.out.cell (p := ⟨b3, _, none⟩) hb3).trans c1
        have c2 := (hb.out.cell (p := ⟨b3, _, none⟩) hb3).trans c2
        have c3 := (hb.out.cell (p := ⟨b3, _, none⟩) hb3).trans c3
        have d1 := (hb.out.cell (p := ⟨b4, _, none⟩) hb4).trans d1
        have d2 := (hb.out.cell (p := ⟨b4, _, none⟩) hb4).trans d2
        have d3 := (hb.out.cell (p := ⟨b4, _, none⟩) hb4).trans d3
        have HOK : Hid (xs.getD k hc0 = ys.getD k hc0 → ∀ j, j < k + 1 → xs.getD j hc0 = ys.getD j hc0) := fun h j hj => by
          by_cases e : j = k
          · subst e; exact h
          · exact hok.out j (by omega)
        have HNO : Hid (xs.getD k hc0 ≠ ys.getD k hc0 → xs ≠ ys) := fun h e => h (by rw [e])
        have hne := fun W => Try.neCell (xs.getD k hc0) (ys.getD k hc0) W
        have HEQ : Hid ((decide (hkey (xs.getD k hc0) = hkey (ys.getD k hc0)) && decide ((xs.getD k hc0).v = (ys.getD k hc0).v)) = true ↔ xs.getD k hc0 = ys.getD k hc0) := by
          show _ ↔ _
          simp only [Bool.and_eq_true, decide_eq_true_eq]
          exact ⟨fun ⟨h1, h2⟩ => HC.ext' h1 h2, fun h => by rw [h]; exact ⟨rfl, rfl⟩⟩
        clear hok
        generalize xs.getD k hc0 = x at c1 c2 c3 HOK HNO hne HEQ
        generalize ys.getD k hc0 = y at d1 d2 d3 HOK HNO hne HEQ
        generalize (decide (hkey x = hkey y) && decide (x.v = y.v)) = z at hne HEQ
        obtain ⟨xa, xf, xv⟩ := x
        obtain ⟨ya, yf, yv⟩ := y
        simp only at c1 c2 c3 d1 d2 d3 hne
        cases z with
        | true =>
          have HK := Lib.hid (HOK.out (HEQ.out.1 rfl))
          have hne : ∀ W, (binOp .neq 30 (.agg #[.int .i64 xa, .string xf, .int .i64 xv]) (.agg #[.int .i64 ya, .string yf, .int .i64 yv])).run Try.prog W = .ok (.bool false) W := hne
          clear HOK HNO HEQ
          go_wp2_with fail
          go_quiet (fail)
          go_wp2_with fail
          go_roundw
          case rel => exact ⟨k + 1, by go_num, by omega, HK, below_drewN2 hb.out _⟩
          case measure => simp [intOf]; omega
        | false =>
          have HK := Lib.hid (HNO.out (fun h => by have := HEQ.out.2 h; cases this))
          have HE : Hid (∀ W, Below w.heap.size w W → BoolEnd (xs = ys) w (.returned (.bool false)) W) := fun W hW => ⟨false, rfl, ⟨fun h => (by cases h), fun h => absurd h HK.out⟩, hW⟩
          have hne : ∀ W, (binOp .neq 30 (.agg #[.int .i64 xa, .string xf, .int .i64 xv]) (.agg #[.int .i64 ya, .string yf, .int .i64 yv])).run Try.prog W = .ok (.bool true) W := hne
          clear HOK HNO HEQ HK
          go_wp2_with fail
          go_quiet (fail)
          go_wp2_with fail
          go_ret
          exact HE.out _ (below_drewN2 hb.out _)
      · have hlti : ¬ (k : Int) < (n : Int) := by omega
        have HE : Hid (∀ W, Below w.heap.size w W → BoolEnd (xs = ys) w (.returned (.bool true)) W) := fun W hW => ⟨true, rfl, ⟨fun _ => by
          apply List.ext_getElem (by rw [HN.out, HN2.out])
          intro i h1 h2
          have := hok.out i (by rw [HN.out] at h1; omega)
          simpa [List.getD_eq_getElem?_getD, h1, h2] using this, fun _ => rfl⟩, hW⟩
        go_wp2_with fail
        go_ret
        exact HE.out _ hb.out
  · have hnb : ((n : Int) != (n2 : Int)) = true := by simp; omega
    have HE : Hid (BoolEnd (xs = ys) w (.returned (.bool false)) w) := ⟨false, rfl, ⟨fun h => (by cases h), fun h => absurd (by rw [← HN.out, ← HN2.out, h]) hnn⟩, Below.refl _ _⟩
    go_enter Try.func15, Try.ntmps15
    go_wp2_with fail
    go_ret
    exact HE.out
end Go.Proofs.Yteiomafciignkaa
