/- The document's Join. -/
import Derived.Test.YteiomafciignkaaHepJc
set_option linter.unusedVariables false
set_option linter.unusedSimpArgs false
namespace Go.Proofs.Yteiomafciignkaa
set_option maxRecDepth 100000
open Go.RowKit

theorem SRow.lies {B : Nat} {xs : List HC} {v : Value} {w : World} (h : SRow B xs v w) : ∃ a cap, v = .slice a xs.length cap ∧ xs.length ≤ cap ∧ cap ≤ 9223372036854775807 ∧ HLies w.heap.size w a xs := by
  obtain ⟨a, cap, e, h3, h4, h5, _⟩ := own_hlies rfl h
  exact ⟨a, cap, e, h3, h4, h5⟩
theorem addD_len (s : HC) : ∀ (d : Bool) (l : List HC), (addD s d l).length ≤ l.length + 1
  | d, [] => by unfold addD; split <;> simp
  | d, x :: l => by
    unfold addD
    split
    · have := addD_len s true l; simp; omega
    · split
      · rename_i h1 h2
        have h3 : ∀ m : List HC, (addD s true m).length = m.length := fun m => by
          induction m with
          | nil => simp [addD]
          | cons y m ih =>
            unfold addD
            split
            · simp [ih]
            · rw [if_neg (by simp)]; simp [ih]
        simp [h3]
      · have := addD_len s d l; simp; omega
theorem addD_bound {s : HC} {b c : Int} (hb : 0 ≤ b) (hc : 0 ≤ c) (hs : -c ≤ s.v ∧ s.v ≤ c) : ∀ (d : Bool) (l : List HC), BoundV l b → BoundV (addD s d l) (b + c)
  | d, [], _ => by
    unfold addD
    split
    · intro x hx; cases hx
    · intro x hx
      rw [List.mem_singleton.1 hx]; omega
  | d, x :: l, h => by
    have hx := h x List.mem_cons_self
    have hl : BoundV l b := fun y hy => h y (List.mem_cons_of_mem _ hy)
    unfold addD
    split
    · intro y hy
      rcases List.mem_cons.1 hy with rfl | hy
      · show -(b + c) ≤ x.v + s.v ∧ x.v + s.v ≤ b + c
        omega
      · exact addD_bound hb hc hs true l hl y hy
    · split
      · intro y hy
        rcases List.mem_cons.1 hy with rfl | hy
        · omega
        · rcases List.mem_cons.1 hy with rfl | hy
          · omega
          · exact addD_bound hb hc hs true l hl y hy
      · intro y hy
        rcases List.mem_cons.1 hy with rfl | hy
        · omega
        · exact addD_bound hb hc hs d l hl y hy
theorem joinD_snoc (zs : List HC) (c : HC) : joinD (zs ++ [c]) = addD c false (joinD zs) := by
  unfold joinD
  rw [List.foldl_append]
  rfl
theorem fold_len : ∀ (zs l : List HC), (zs.foldl (fun l s => addD s false l) l).length ≤ l.length + zs.length
  | [], l => by simp
  | z :: zs, l => by
    have h1 := fold_len zs (addD z false l)
    have h2 := addD_len z false l
    show (zs.foldl _ (addD z false l)).length ≤ _
    simp only [List.length_cons]
    omega
theorem joinD_len (zs : List HC) : (joinD zs).length ≤ zs.length := by
  have := fold_len zs []
  simpa [joinD] using this
theorem fold_bound {c : Int} (hc : 0 ≤ c) : ∀ (zs l : List HC) (b : Int), 0 ≤ b → BoundV l b → BoundV zs c → BoundV (zs.foldl (fun l s => addD s false l) l) (b + zs.length * c)
  | [], l, b, hb, hl, _ => by simpa using hl
  | z :: zs, l, b, hb, hl, hz => by
    have h1 := addD_bound (s := z) hb hc (hz z List.mem_cons_self) false l hl
    have h2 := fold_bound hc zs (addD z false l) (b + c) (by omega) h1 (fun y hy => hz y (List.mem_cons_of_mem _ hy))
    have e : b + ((z :: zs).length : Int) * c = b + c + (zs.length : Int) * c := by
      rw [List.length_cons, Int.natCast_add, Int.add_mul]; simp; omega
    rw [e]
    exact h2
theorem joinD_bound {zs : List HC} (h : BoundV zs 1099511627776) (hl : zs.length ≤ 200) : BoundV (joinD zs) 219902325555200 := fun c hc => by
  have := fold_bound (c := 1099511627776) (by omega) zs [] 0 (by omega) (fun x hx => by cases hx) h c hc
  have h2 : ((zs.length : Nat) : Int) * 1099511627776 ≤ 200 * 1099511627776 := by omega
  omega
set_option maxHeartbeats 8000000 in
theorem rjoin_any (xs ys : List HC) (ad : Option Addr) (n cap : Nat) (ad2 : Option Addr) (n2 cap2 : Nat) (w : World) (hn : xs.length = n) (hn2 : ys.length = n2) (hnm : n ≤ 100) (hnm2 : n2 ≤ 100) (hbd : BoundV (xs ++ ys) 1099511627776) (hl : HLies w.heap.size w ad xs) (hl2 : HLies w.heap.size w ad2 ys) :
    Calls Try.prog 23 #[.slice ad n cap, .slice ad2 n2 cap2] w (SRowEnd (joinD (xs ++ ys)) w) := by
  have HL := Lib.hid hl
  have HL2 := Lib.hid hl2
  have HN := Lib.hid hn
  have HN2 := Lib.hid hn2
  have HBD := Lib.hid hbd
  have HADD : Hid (∀ (zs : List HC) (c : HC) (a : Option Addr) (k cap : Nat) (W : World), BoundV zs 1099511627776 → zs.length ≤ 200 → (-1099511627776 ≤ c.v ∧ c.v ≤ 1099511627776) → (joinD zs).length = k → HLies W.heap.size W a (joinD zs) → Calls Try.prog 31 #[.slice a k cap, .agg #[.int .i64 c.a, .string c.f, .int .i64 c.v]] W (SRowEnd (joinD (zs ++ [c])) W)) := fun zs c a k cap W h1 h2 h3 h4 h5 => by
    have := joinD_len zs
    rw [joinD_snoc]
    exact add_any (joinD zs) c a k cap W h4 (by omega) h5 (fun x hx => by
      have := joinD_bound h1 h2 x hx
      omega)
  clear hl hl2 hn hn2 hbd
  go_enter Try.func23, Try.ntmps23
  go_wp2_with fail
  go_loopw [5, 6] (fun o i wr => ∃ k : Nat, i = .int .i64 k ∧ k ≤ n ∧ Hid (SRow w.heap.size (joinD (xs.take k)) o wr) ∧ Hid (Below w.heap.size w wr)) (fun _ i _ => n - (intOf i).toNat)
  case atStart => exact ⟨0, rfl, Nat.zero_le _, SRow.nil _ _, Below.refl _ _⟩
  case round =>
    obtain ⟨k, rfl, hk, hrow, hb⟩ := hrel
    by_cases hlt : k < n
    · have hlti : (k : Int) < (n : Int) := by omega
      obtain ⟨b3, off3, rfl, hb3, c1, c2, c3⟩ := HL.out k (by rw [HN.out]; exact hlt)
      have q1 := (hb.out.cell (p := ⟨b3, _, none⟩) hb3).trans c1
      have q2 := (hb.out.cell (p := ⟨b3, _, none⟩) hb3).trans c2
      have q3 := (hb.out.cell (p := ⟨b3, _, none⟩) hb3).trans c3
      obtain ⟨oa, ocap, rfl, _, _, hol⟩ := hrow.out.lies
      have HC : Hid (Calls Try.prog 31 #[.slice oa (joinD (xs.take k)).length ocap, .agg #[.int .i64 (xs.getD k hc0).a, .string (xs.getD k hc0).f, .int .i64 (xs.getD k hc0).v]] wr (SRowEnd (joinD (xs.take (k + 1))) wr)) := by
        have h9 : k < xs.length := by rw [HN.out]; exact hlt
        have := HADD.out (xs.take k) (xs.getD k hc0) oa _ ocap wr (fun c hc => HBD.out c (List.mem_append_left _ (List.mem_of_mem_take hc))) (by rw [List.length_take]; omega) (HBD.out _ (List.mem_append_left _ (getD_memH h9))) rfl hol
        rw [← take_snocH xs k h9] at this
        exact this
      clear c1 c2 c3 hol hrow
      generalize xs.getD k hc0 = x at q1 q2 q3 HC
      generalize (joinD (xs.take k)).length = ol at HC ⊢
      obtain ⟨xa, xf, xv⟩ := x
      simp only at q1 q2 q3
      go_wp2_with fail
      refine HC.out.mono ?_
      rintro e5 w5 ⟨v5, rfl, t1, t2⟩
      have HR5 : Hid (SRow w.heap.size (joinD (xs.take (k + 1))) v5 w5) := ownsRow_lower t1 hb.out.size
      have HB5 : Hid (Below w.heap.size w w5) := hb.out.trans (t2.mono hb.out.size)
      clear t1 t2 HC hb
      go_wp2_with fail
      go_roundw
      case rel => exact ⟨k + 1, by go_num, by omega, HR5, HB5⟩
      case measure => simp [intOf]; omega
    · have hlti : ¬ (k : Int) < (n : Int) := by omega
      have HR0 : Hid (SRow w.heap.size (joinD (xs ++ ys.take 0)) u5 wr) := by
        have := hrow.out
        rw [List.take_of_length_le (by rw [HN.out]; omega)] at this
        show SRow _ _ _ _
        rw [List.take_zero, List.append_nil]
        exact this
      clear hrow
      go_wp2_with fail
      go_loopw [5, 7] (fun o i wr => ∃ k : Nat, i = .int .i64 k ∧ k ≤ n2 ∧ Hid (SRow w.heap.size (joinD (xs ++ ys.take k)) o wr) ∧ Hid (Below w.heap.size w wr)) (fun _ i _ => n2 - (intOf i).toNat)
      case atStart => exact ⟨0, rfl, Nat.zero_le _, HR0, hb⟩
      case round =>
        clear HR0 hb
        obtain ⟨k2, rfl, hk2, hrow, hb⟩ := hrel
        by_cases hlt2 : k2 < n2
        · have hlti2 : (k2 : Int) < (n2 : Int) := by omega
          obtain ⟨b3, off3, rfl, hb3, c1, c2, c3⟩ := HL2.out k2 (by rw [HN2.out]; exact hlt2)
          have q1 := (hb.out.cell (p := ⟨b3, _, none⟩) hb3).trans c1
          have q2 := (hb.out.cell (p := ⟨b3, _, none⟩) hb3).trans c2
          have q3 := (hb.out.cell (p := ⟨b3, _, none⟩) hb3).trans c3
          obtain ⟨oa, ocap, rfl, _, _, hol⟩ := hrow.out.lies
          have HC : Hid (Calls Try.prog 31 #[.slice oa (joinD (xs ++ ys.take k2)).length ocap, .agg #[.int .i64 (ys.getD k2 hc0).a, .string (ys.getD k2 hc0).f, .int .i64 (ys.getD k2 hc0).v]] wr (SRowEnd (joinD (xs ++ ys.take (k2 + 1))) wr)) := by
            have h9 : k2 < ys.length := by rw [HN2.out]; exact hlt2
            have h8 : xs.length ≤ 100 := by rw [HN.out]; exact hnm
            have := HADD.out (xs ++ ys.take k2) (ys.getD k2 hc0) oa _ ocap wr (fun c hc => (List.mem_append.1 hc).elim (fun h => HBD.out c (List.mem_append_left _ h)) (fun h => HBD.out c (List.mem_append_right _ (List.mem_of_mem_take h)))) (by rw [List.length_append, List.length_take]; omega) (HBD.out _ (List.mem_append_right _ (getD_memH h9))) rfl hol
            rw [List.append_assoc, ← take_snocH ys k2 h9] at this
            exact this
          clear c1 c2 c3 hol hrow
          generalize ys.getD k2 hc0 = x at q1 q2 q3 HC
          generalize (joinD (xs ++ ys.take k2)).length = ol at HC ⊢
          obtain ⟨xa, xf, xv⟩ := x
          simp only at q1 q2 q3
          go_wp2_with fail
          refine HC.out.mono ?_
          rintro e5 w5 ⟨v5, rfl, t1, t2⟩
          have HR5 : Hid (SRow w.heap.size (joinD (xs ++ ys.take (k2 + 1))) v5 w5) := ownsRow_lower t1 hb.out.size
          have HB5 : Hid (Below w.heap.size w w5) := hb.out.trans (t2.mono hb.out.size)
          clear t1 t2 HC hb
          go_wp2_with fail
          go_roundw
          case rel => exact ⟨k2 + 1, by go_num, by omega, HR5, HB5⟩
          case measure => simp [intOf]; omega
        · have hlti2 : ¬ (k2 : Int) < (n2 : Int) := by omega
          have HE : Hid (SRowEnd (joinD (xs ++ ys)) w (.returned u5) wr) := by
            have := hrow.out
            rw [List.take_of_length_le (by rw [HN2.out]; omega)] at this
            exact ⟨_, rfl, this, hb.out⟩
          clear hrow hb
          go_wp2_with fail
          go_ret
          exact HE.out
end Go.Proofs.Yteiomafciignkaa
