/- Whether a witness is short; how many bytes it has then. -/
import Derived.Test.YtgaipfkblfommaaPakVa
set_option linter.unusedVariables false
set_option linter.unusedSimpArgs false
namespace Go.Proofs.Ytgaipfkblfommaa
set_option maxRecDepth 100000
open Go.RowKit

theorem num_len {x : Int} (h : i64 x) : (num x).length ≤ 10 := Lib.uvarint_length64 (Lib.zigzag_lt h.1 h.2)
theorem numn_len {n : Nat} (h : n ≤ 9223372036854775807) : (num (n : Int)).length ≤ 10 := num_len ⟨by omega, by omega⟩
theorem flat_len {T : Type} (f : T → List UInt8) (c : Nat) : ∀ xs : List T, (∀ x ∈ xs, (f x).length ≤ c) → (xs.flatMap f).length ≤ xs.length * c
  | [], _ => by simp
  | x :: xs, h => by
    have h1 := flat_len f c xs (fun y hy => h y (List.mem_cons_of_mem _ hy))
    have h2 := h x List.mem_cons_self
    rw [List.flatMap_cons, List.length_append, List.length_cons, Nat.succ_mul]
    omega
theorem encList_len {T : Type} {f : T → List UInt8} {c m : Nat} {xs : List T} (hm : xs.length ≤ m) (hm2 : m ≤ 9223372036854775807) (h : ∀ x ∈ xs, (f x).length ≤ c) : (encList f xs).length ≤ 10 + m * c := by
  unfold encList
  have h1 := flat_len f c xs h
  have h2 := numn_len (n := xs.length) (by omega)
  have h3 : xs.length * c ≤ m * c := Nat.mul_le_mul_right _ hm
  rw [List.length_append]
  omega
structure LL (l : Lem) : Prop where
  a : l.lits.length ≤ 40
  b : l.steps.length ≤ 60
  c : ∀ s ∈ l.steps, s.parts.length ≤ 70
structure LC (lems : List Lem) (refute : List (List Int)) : Prop where
  a : lems.length ≤ 40
  b : refute.length ≤ 60
  c : ∀ l ∈ lems, LL l
  d : ∀ c ∈ refute, c.length ≤ 60
structure LR (r : Rec) : Prop where
  a : r.name.size ≤ 5000
  b : r.reps.length ≤ 20
  c : ∀ y ∈ r.reps, LC y.lems y.refute
structure LW (xs : List Rec) : Prop where
  a : xs.length ≤ 20
  b : ∀ r ∈ xs, LR r
theorem Sits.mem {T : Type} {sh : Sh T} {S : Nat → Prop} {w : World} {a : Option Addr} {xs : List T} (h : Sits sh S w a xs) : ∀ x ∈ xs, ∃ cs, sh.rel S w cs x := fun x hx => by
  obtain ⟨i, hi, rfl⟩ := List.getElem_of_mem hx
  obtain ⟨_, _, cs, _, _, _, h1⟩ := h.2 i hi
  exact ⟨cs, h1⟩
theorem Slot.mem {T : Type} {sh : Sh T} {S : Nat → Prop} {w : World} {v : Value} {xs : List T} (h : Slot sh S w v xs) : ∀ x ∈ xs, ∃ cs, sh.rel S w cs x := by
  obtain ⟨a, cap, _, h1⟩ := h
  exact h1.mem
theorem enc_clause {S : Nat → Prop} {w : World} {v : Value} {c : List Int} (h : Slot intSh S w v c) (hl : c.length ≤ 60) : (encClause c).length ≤ 610 := by
  unfold encClause
  have := encList_len (f := num) (c := 10) hl (by decide) (fun x hx => by obtain ⟨cs, _, h2⟩ := h.mem x hx; exact num_len h2)
  omega
theorem enc_step {S : Nat → Prop} {w : World} {cs : List Value} {s : Step} (h : stepSh.rel S w cs s) (hl : s.parts.length ≤ 70) : (encStep s).length ≤ 1420 := by
  obtain ⟨v, _, hd, hs⟩ := h
  unfold encStep
  have := encList_len (f := encPart) (c := 20) hl (by decide) (fun x hx => by
    obtain ⟨cs, _, h1, h2⟩ := hs.mem x hx
    unfold encPart
    have := num_len h1
    have := num_len h2
    rw [List.length_append]
    omega)
  have := num_len hd
  rw [List.length_append]
  omega
theorem enc_lem {S : Nat → Prop} {w : World} {cs : List Value} {l : Lem} (h : lemSh.rel S w cs l) (hl : LL l) : (encLem l).length ≤ 86000 := by
  obtain ⟨v, u, _, h1, h2⟩ := h
  unfold encLem
  have e1 := enc_clause h1 (Nat.le_trans hl.a (by decide))
  have e2 := encList_len (f := encStep) (c := 1420) hl.b (by decide) (fun s hs => by obtain ⟨cs, h3⟩ := h2.mem s hs; exact enc_step h3 (hl.c s hs))
  rw [List.length_append]
  omega
theorem enc_cert {S : Nat → Prop} {w : World} {v u : Value} {lems : List Lem} {refute : List (List Int)} (h1 : Slot lemSh S w v lems) (h2 : Slot clauseSh S w u refute) (hl : LC lems refute) : (encList encLem lems ++ encList encClause refute).length ≤ 3600000 := by
  have e1 := encList_len (f := encLem) (c := 86000) hl.a (by decide) (fun l hh => by obtain ⟨cs, h3⟩ := h1.mem l hh; exact enc_lem h3 (hl.c l hh))
  have e2 := encList_len (f := encClause) (c := 610) hl.b (by decide) (fun l hh => by obtain ⟨cs, v, _, h3⟩ := h2.mem l hh; exact enc_clause h3 (hl.d l hh))
  rw [List.length_append]
  omega
theorem enc_wit {S : Nat → Prop} {w : World} {a : Option Addr} {xs : List Rec} (h : Sits recSh S w a xs) (hl : LW xs) : (encWit xs).length ≤ 140000000000000 := by
  unfold encWit
  have := encList_len (f := encRec) (c := 80000000) hl.a (by decide) (fun r hr => by
    obtain ⟨cs, v, _, h2⟩ := h.mem r hr
    have hrr := hl.b r hr
    unfold encRec
    have e1 := numn_len (n := r.name.size) (by have := hrr.a; omega)
    have e2 := encList_len (f := encReply) (c := 3600001) hrr.b (by decide) (fun y hy => by
      obtain ⟨cs, v, u, _, h3, h4⟩ := h2.mem y hy
      have := enc_cert h3 h4 (hrr.c y hy)
      unfold encReply
      split
      · simp only [List.length_append, List.length_cons, List.length_nil] at this ⊢
        omega
      · simp)
    have := hrr.a
    simp only [List.length_append, size_list]
    omega)
  omega
def LEnd (p : Prop) (w : World) (e : Ending) (w' : World) : Prop := ∃ b, e = .returned (.bool b) ∧ Below w.heap.size w w' ∧ (b = true → p)
theorem mem_of_lt {T : Type} {xs : List T} {p : T → Prop} (h : ∀ j (hj : j < xs.length), p xs[j]) : ∀ x ∈ xs, p x := fun x hx => by
  obtain ⟨i, hi, rfl⟩ := List.getElem_of_mem hx
  exact h i hi
set_option maxHeartbeats 8000000 in
theorem rlight10_any (lems : List Lem) (refute : List (List Int)) (a1 : Option Addr) (cap1 : Nat) (a2 : Option Addr) (cap2 : Nat) (w : World) (hl : Sits lemSh (Lo w.heap.size) w a1 lems) (hl2 : Sits clauseSh (Lo w.heap.size) w a2 refute) :
    Calls Try.prog 14 #[.agg #[.slice a1 lems.length cap1, .slice a2 refute.length cap2]] w (LEnd (LC lems refute) w) := by
  have HA : Hid (Below w.heap.size w (w.alloc (.cells #[.slice a1 lems.length cap1, .slice a2 refute.length cap2] 48))) := (Below.refl _ _).alloc (Nat.le_refl _) _
  have HL := Lib.hid (hl.up HA.out)
  have HL2 := Lib.hid (hl2.up HA.out)
  have hnm := hl.1
  have hnm2 := hl2.1
  have x0 : (w.alloc (.cells #[.slice a1 lems.length cap1, .slice a2 refute.length cap2] 48)).cell? ⟨w.heap.size, 0, none⟩ = some (.slice a1 lems.length cap1) := (cell_of_row _ _ _ _ _ _ (heap_alloc_new w _)).trans rfl
  have x1 : (w.alloc (.cells #[.slice a1 lems.length cap1, .slice a2 refute.length cap2] 48)).cell? ⟨w.heap.size, 1, none⟩ = some (.slice a2 refute.length cap2) := (cell_of_row _ _ _ _ _ _ (heap_alloc_new w _)).trans rfl
  clear hl hl2
  have HF : Hid (LEnd (LC lems refute) w (.returned (.bool false)) (w.alloc (.cells #[.slice a1 lems.length cap1, .slice a2 refute.length cap2] 48))) := ⟨_, rfl, HA.out, fun h => by cases h⟩
  have HT : Hid (LC lems refute → LEnd (LC lems refute) w (.returned (.bool true)) (w.alloc (.cells #[.slice a1 lems.length cap1, .slice a2 refute.length cap2] 48))) := fun h => ⟨_, rfl, HA.out, fun _ => h⟩
  by_cases hb1 : (40 : Int) < (lems.length : Int)
  · go_enter Try.func14, Try.ntmps14
    go_wp2_with fail
    go_ret
    exact HF.out
  · by_cases hb2 : (60 : Int) < (refute.length : Int)
    · go_enter Try.func14, Try.ntmps14
      go_wp2_with fail
      go_ret
      exact HF.out
    · go_enter Try.func14, Try.ntmps14
      go_wp2_with fail
      generalize w.alloc (.cells #[.slice a1 lems.length cap1, .slice a2 refute.length cap2] 48) = W0 at *
      go_loopw [3] (fun i wr => ∃ k : Nat, i = .int .i64 k ∧ k ≤ lems.length ∧ Hid (∀ j (hj : j < lems.length), j < k → LL lems[j]) ∧ W0 = wr) (fun i _ => lems.length - (intOf i).toNat)
      case atStart => exact ⟨0, rfl, Nat.zero_le _, fun j _ hj => absurd hj (Nat.not_lt_zero j), rfl⟩
      case round =>
        obtain ⟨k, rfl, hk, hok, rfl⟩ := hrel
        by_cases hlt : k < lems.length
        · have hlti : (k : Int) < (lems.length : Int) := by omega
          obtain ⟨b, off, cs, rfl, hbl, hc, v1, v2, rfl, ⟨b1, bcap1, rfl, hsl⟩, ⟨b2, bcap2, rfl, hsl2⟩⟩ := HL.out.2 k hlt
          have c0 : W0.cell? ⟨b, off + k * 2, none⟩ = some (.slice b1 lems[k].lits.length bcap1) := by simpa [lemSh] using hc 0 _ rfl
          have c1 : W0.cell? ⟨b, off + k * 2 + 1, none⟩ = some (.slice b2 lems[k].steps.length bcap2) := by simpa [lemSh] using hc 1 _ rfl
          have HSL := Lib.hid hsl2
          have HNX : Hid (LL lems[k] → ∀ j (hj : j < lems.length), j < k + 1 → LL lems[j]) := fun h j hj hjk => by
            by_cases e : j = k
            · subst e; exact h
            · exact hok.out j hj (by omega)
          have hsm := hsl2.1
          clear hc hsl hsl2 hok
          generalize lems[k] = s at c0 c1 HSL HNX hsm
          by_cases hc1 : (40 : Int) < (s.lits.length : Int)
          · go_wp2_with fail
            go_ret
            exact HF.out
          · by_cases hc2 : (60 : Int) < (s.steps.length : Int)
            · go_wp2_with fail
              go_ret
              exact HF.out
            · go_wp2_with fail
              go_loopw [4] (fun i wr => ∃ q : Nat, i = .int .i64 q ∧ q ≤ s.steps.length ∧ Hid (∀ j (hj : j < s.steps.length), j < q → s.steps[j].parts.length ≤ 70) ∧ W0 = wr) (fun i _ => s.steps.length - (intOf i).toNat)
              case atStart => exact ⟨0, rfl, Nat.zero_le _, fun j _ hj => absurd hj (Nat.not_lt_zero j), rfl⟩
              case round =>
                obtain ⟨q, rfl, hq, hok, rfl⟩ := hrel
                by_cases hqlt : q < s.steps.length
                · have hqlti : (q : Int) < (s.steps.length : Int) := by omega
                  obtain ⟨b3, off3, cs, rfl, _, hc, v, rfl, _, pa, pcap, rfl, hps⟩ := HSL.out.2 q hqlt
                  have d0 : W0.cell? ⟨b3, off3 + q * 2, none⟩ = some (.slice pa s.steps[q].parts.length pcap) := by simpa [stepSh] using hc 0 _ rfl
                  have HNQ : Hid (s.steps[q].parts.length ≤ 70 → ∀ j (hj : j < s.steps.length), j < q + 1 → s.steps[j].parts.length ≤ 70) := fun h j hj hjk => by
                    by_cases e : j = q
                    · subst e; exact h
                    · exact hok.out j hj (by omega)
                  clear hc hok hps
                  generalize s.steps[q].parts.length = pl at d0 HNQ
                  by_cases hp : (70 : Int) < (pl : Int)
                  · go_wp2_with fail
                    go_ret
                    exact HF.out
                  · have HK := Lib.hid (HNQ.out (by omega))
                    clear HNQ
                    go_wp2_with fail
                    go_roundw
                    case rel => exact ⟨q + 1, by go_num, by omega, HK, by trivial⟩
                    case measure => simp [intOf]; omega
                · have hqlti : ¬ (q : Int) < (s.steps.length : Int) := by omega
                  have HK := Lib.hid (HNX.out ⟨by omega, by omega, mem_of_lt fun j hj => hok.out j hj (by omega)⟩)
                  clear hok HNX
                  go_wp2_with fail
                  go_roundw
                  case rel => exact ⟨k + 1, by go_num, by omega, HK, by trivial⟩
                  case measure => simp [intOf]; omega
        · have hlti : ¬ (k : Int) < (lems.length : Int) := by omega
          have HLL : Hid (∀ l ∈ lems, LL l) := mem_of_lt fun j hj => hok.out j hj (by omega)
          clear hok
          go_wp2_with fail
          go_loopw [5] (fun i wr => ∃ q : Nat, i = .int .i64 q ∧ q ≤ refute.length ∧ Hid (∀ j (hj : j < refute.length), j < q → refute[j].length ≤ 60) ∧ W0 = wr) (fun i _ => refute.length - (intOf i).toNat)
          case atStart => exact ⟨0, rfl, Nat.zero_le _, fun j _ hj => absurd hj (Nat.not_lt_zero j), rfl⟩
          case round =>
            obtain ⟨q, rfl, hq, hok, rfl⟩ := hrel
            by_cases hqlt : q < refute.length
            · have hqlti : (q : Int) < (refute.length : Int) := by omega
              obtain ⟨b3, off3, cs, rfl, _, hc, v, rfl, pa, pcap, rfl, hps⟩ := HL2.out.2 q hqlt
              have d0 : W0.cell? ⟨b3, off3 + q, none⟩ = some (.slice pa refute[q].length pcap) := by simpa [clauseSh] using hc 0 _ rfl
              have HNQ : Hid (refute[q].length ≤ 60 → ∀ j (hj : j < refute.length), j < q + 1 → refute[j].length ≤ 60) := fun h j hj hjk => by
                by_cases e : j = q
                · subst e; exact h
                · exact hok.out j hj (by omega)
              clear hc hok hps
              generalize refute[q].length = pl at d0 HNQ
              by_cases hp : (60 : Int) < (pl : Int)
              · go_wp2_with fail
                go_ret
                exact HF.out
              · have HK := Lib.hid (HNQ.out (by omega))
                clear HNQ
                go_wp2_with fail
                go_roundw
                case rel => exact ⟨q + 1, by go_num, by omega, HK, by trivial⟩
                case measure => simp [intOf]; omega
            · have hqlti : ¬ (q : Int) < (refute.length : Int) := by omega
              have HE := Lib.hid (HT.out ⟨by omega, by omega, HLL.out, mem_of_lt fun j hj => hok.out j hj (by omega)⟩)
              clear hok
              go_wp2_with fail
              go_ret
              exact HE.out
end Go.Proofs.Ytgaipfkblfommaa
