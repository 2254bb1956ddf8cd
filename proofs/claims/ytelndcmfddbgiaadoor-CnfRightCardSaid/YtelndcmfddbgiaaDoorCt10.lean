/- The maker: join. The text of a form, and that no two forms have the same. cnf.text. -/
import Derived.Test.YtelndcmfddbgiaaDoorCt01
import Derived.Test.YtelndcmfddbgiaaDoorCt04
import Derived.Test.YtelndcmfddbgiaaDoorCt09
import Derived.Lib.ItoaMem
import Derived.Lib.ItoaLen
import Derived.Test.YtelndcmfddbgiaaDoorShelf
set_option linter.unusedVariables false
set_option linter.unusedSimpArgs false
set_option linter.unusedVariables false
set_option linter.unusedSimpArgs false
namespace Go.Proofs.YtelndcmfddbgiaaDoor
set_option maxRecDepth 100000
open Go.RowKit

def sm (B x : Int) : Prop := -B ≤ x ∧ x ≤ B
theorem ints_new (w : World) (xs : List Int) (h : ∀ x ∈ xs, -9223372036854775808 ≤ x ∧ x ≤ 9223372036854775807) (hl : xs.length ≤ 9223372036854775807) : Pak.Sits Pak.intSh (fun b => b = w.heap.size) (w.alloc (.cells (xs.map (Value.int .i64)).toArray 3)) (some ⟨w.heap.size, 0, none⟩) xs := by
  refine ⟨hl, fun i hi => ⟨w.heap.size, 0, [.int .i64 xs[i]], rfl, rfl, fun j u hu => ?_, rfl, h _ (List.getElem_mem hi)⟩⟩
  have hj : j = 0 := by have := (List.getElem?_eq_some_iff.1 hu).1; simp at this; exact this
  subst hj
  rw [cell_of_row _ _ _ _ _ _ (heap_alloc_new w _)]
  simp at hu
  subst hu
  have e : Pak.intSh.k = 1 := rfl
  simp [e, hi]
theorem own_new (w : World) (x : Int) (h : -9223372036854775808 ≤ x ∧ x ≤ 9223372036854775807) {K : Nat} (hK : K ≤ w.heap.size) : OwnP Pak.intSh 3 K (fun _ => False) [x] (.slice (some ⟨w.heap.size, 0, none⟩) 1 1) (w.alloc (.cells #[.int .i64 x] 3)) :=
  ⟨⟨[[.int .i64 x]], rfl, ⟨rfl, .inr ⟨w.heap.size, 1, #[.int .i64 x], rfl, hK, heap_alloc_new w _, Nat.le_refl _, by decide, rfl, rfl⟩⟩, fun i hi hi2 => by
    have : i = 0 := by simp at hi; exact hi
    subst this
    exact ⟨rfl, h⟩⟩, fun b hb => hb.elim⟩
def joinK (v s : Int) (ls : List Int) (k : Nat) : List (List Int) := (ls.take k).map fun l => [-v, s * l]
def lastK (v s : Int) (ls : List Int) (k : Nat) : List Int := v :: (ls.take k).map fun l => -s * l
theorem joinK_succ {v s : Int} {ls : List Int} {k : Nat} (h : k < ls.length) : joinK v s ls (k + 1) = joinK v s ls k ++ [[-v, s * ls[k]]] := by
  unfold joinK; rw [List.take_succ_eq_append_getElem h, List.map_append]; rfl
theorem lastK_succ {v s : Int} {ls : List Int} {k : Nat} (h : k < ls.length) : lastK v s ls (k + 1) = lastK v s ls k ++ [-s * ls[k]] := by
  unfold lastK; rw [List.take_succ_eq_append_getElem h, List.map_append]; rfl
theorem join_all (v s : Int) (ls : List Int) : joinK v s ls ls.length ++ [lastK v s ls ls.length] = joinL v s ls := by
  unfold joinK lastK joinL; rw [List.take_length]
def JEnd (M K mp : Nat) (av : Value) (N : Nat) (cl : List (List Int)) (r : Option Nat) (S : Nat → Prop) (w : World) (w' : World) : Prop := ∃ S', (∀ b, S' b → S b ∨ w.heap.size ≤ b) ∧ LTo M K mp av N cl r S' w w'
set_option maxHeartbeats 8000000 in
theorem join_any (M K mp : Nat) (av : Value) (N : Nat) (cl : List (List Int)) (r : Option Nat) (S Sl : Nat → Prop) (w : World) (v s : Int) (a : Option Addr) (n cap : Nat) (ls : List Int) (h : LS M K mp av N cl r S w) (hn : cl.length + n ≤ 4000000) (hln : ls.length = n) (hl : Pak.Sits Pak.intSh Sl w a ls) (hSl : ∀ b, Sl b → b < w.heap.size ∧ b ≠ M ∧ r ≠ some b)
    (hv : sm 1000000000000 v) (hs : s = 1 ∨ s = -1) (hx : ∀ x ∈ ls, sm 1000000000000 x) :
    Calls Tryd.prog 45 #[.pointer (some ⟨M, 0, none⟩), .int .i64 v, .int .i64 s, .slice a n cap] w fun e w' => e = .returned (.tuple #[]) ∧ JEnd M K mp av N (cl ++ joinL v s ls) r S w w' := by
  unfold sm at hv hx
  have hA : Below w.heap.size w (w.alloc (.cells #[.int .i64 v] 3)) := (Below.refl _ _).alloc (Nat.le_refl _) _
  have hK := h.lt.2
  have HO := Lib.hid (own_new w v (by omega) hK)
  have HS := Lib.hid (h.below hA)
  have HN := Lib.hid hln
  have HL := Lib.hid hl
  have HSL := Lib.hid hSl
  have HX := Lib.hid hx
  have HK := Lib.hid hK
  have hsz : (w.alloc (.cells #[.int .i64 v] 3)).heap.size = w.heap.size + 1 := by simp
  have HZ := Lib.hid hsz
  have HW : Hid (Pak.KeptW M r w (w.alloc (.cells #[.int .i64 v] 3))) := Lib.hid (.of_below hA)
  have HH := Lib.hid h
  have hsm : n ≤ 4000000 := by omega
  have e1 : IntKind.i64.wrap (-v) = -v := IntWalk.i64_in _ (by omega)
  have e2 : IntKind.i64.wrap (-s) = -s := IntWalk.i64_in _ (by omega)
  clear h hl hSl hx hln hA hK hsz
  go_enter Tryd.func45, Tryd.ntmps45
  go_wp2_with fail
  generalize w.alloc (.cells #[.int .i64 v] 3) = W0 at *
  go_loopw [8, 15] (fun o i wr => ∃ k : Nat, i = .int .i64 k ∧ k ≤ n ∧ ∃ r' S', Hid (LS M K mp av N (cl ++ joinK v s ls k) r' S' wr) ∧ Hid (r' = r ∨ ∃ q, r' = some q ∧ w.heap.size ≤ q) ∧ Hid (Pak.KeptW M r w wr) ∧ Hid (∀ b, S' b → S b ∨ w.heap.size ≤ b) ∧ Hid (OwnP Pak.intSh 3 K (fun _ => False) (lastK v s ls k) o wr) ∧ Hid (∀ q, o.ownBlock = some q → w.heap.size ≤ q ∧ r' ≠ some q ∧ ¬ S' q)) (fun _ i _ => n - (intOf i).toNat)
  case atStart =>
    refine ⟨0, rfl, Nat.zero_le _, r, S, Lib.hid (by simpa [joinK] using HS.out), Lib.hid (.inl rfl), HW, Lib.hid (fun b hb => .inl hb), HO, Lib.hid (fun q hq => ?_)⟩
    injection hq with hq
    have hq : w.heap.size = q := hq
    subst hq
    exact ⟨Nat.le_refl _, fun e => by have := (HH.out.row _ e).2.1; omega, fun e => by have := HH.out.ok _ e; omega⟩
  case round =>
    clear HS HO HW
    obtain ⟨k, rfl, hk, r1, S1, hS, hr, hW, hS1, hO, hq⟩ := hrel
    by_cases hlt : k < n
    · have hlti : (k : Int) < (n : Int) := by omega
      have hkl : k < ls.length := by rw [HN.out]; exact hlt
      obtain ⟨b, off, us, rfl, hb, hc, rfl, hi⟩ := HL.out.2 k hkl
      have c1 := hc 0 _ rfl
      have hbl := HSL.out b hb
      have ek : Pak.intSh.k = 1 := rfl
      rw [ek, Nat.mul_one, Nat.add_zero] at c1
      have c2 := (World.cell?_of_block (a := ⟨b, off + k, none⟩) (hW.out.block b hbl.1 hbl.2.1 (fun e => hbl.2.2 e.symm))).trans c1
      have hxk := HX.out _ (List.getElem_mem hkl)
      have HJ := Lib.hid (joinK_succ (v := v) (s := s) hkl)
      have HT := Lib.hid (lastK_succ (v := v) (s := s) hkl)
      clear hc hi c1 hbl ek
      generalize ls[k] = x at *
      have hb1 : -1000000000000 ≤ s * x ∧ s * x ≤ 1000000000000 := by rcases hs with rfl | rfl <;> omega
      have hb2 : -1000000000000 ≤ -s * x ∧ -s * x ≤ 1000000000000 := by rcases hs with rfl | rfl <;> omega
      have e3 : IntKind.i64.wrap (s * x) = s * x := IntWalk.i64_in _ (by omega)
      have e4 : IntKind.i64.wrap (-s * x) = -s * x := IntWalk.i64_in _ (by omega)
      have hA1 : Below wr.heap.size wr (wr.alloc (.cells #[.int .i64 (-v), .int .i64 (s * x)] 3)) := (Below.refl _ _).alloc (Nat.le_refl _) _
      have hI : Pak.Sits Pak.intSh (fun b => b = wr.heap.size) (wr.alloc (.cells #[.int .i64 (-v), .int .i64 (s * x)] 3)) (some ⟨wr.heap.size, 0, none⟩) [-v, s * x] := ints_new wr [-v, s * x] (fun y hy => by
        rcases List.mem_cons.1 hy with rfl | hy
        · omega
        · rw [List.mem_singleton] at hy
          subst hy; omega) (by simp)
      have hKr := hS.out.lt.2
      have hz1 : (wr.alloc (.cells #[.int .i64 (-v), .int .i64 (s * x)] 3)).heap.size = wr.heap.size + 1 := by simp
      have HC := Lib.hid (clause_any M K mp av N _ r1 _ _ 2 2 [-v, s * x] S1 (fun b => b = wr.heap.size) (hS.out.below hA1) (by rw [List.length_append]; unfold joinK; rw [List.length_map, List.length_take]; omega) rfl hI (fun b hb => by
        subst hb
        exact ⟨hKr, by omega, fun e => by have := (hS.out.row _ e).2.1; omega⟩) (fun b hb o => by
        subst hb
        exact frozen_of_row _ _ _ _ _ (heap_alloc_new wr _)))
      have HO1 := Lib.hid (hO.out.below hA1)
      have HW1 := Lib.hid (keptW_trans hr.out hW.out (.of_below hA1))
      have HQ := Lib.hid (fun q h => And.intro (hq.out q h).1 (And.intro (hq.out q h).2.1 (And.intro (hq.out q h).2.2 (hO.out.lt q h).2)))
      have HZ1 : Hid ((wr.alloc (.cells #[.int .i64 (-v), .int .i64 (s * x)] 3)).heap.size = wr.heap.size + 1) := Lib.hid hz1
      have HKW : Hid (w.heap.size ≤ wr.heap.size) := Lib.hid hW.out.size
      clear hA1 hI hKr hz1 hS hO hW hq
      go_wp2_with fail
      clear c2
      generalize wr.alloc (.cells #[.int .i64 (-v), .int .i64 (s * x)] 3) = w1 at *
      refine HC.out.mono ?_
      rintro e w2 ⟨rfl, r2, hS2, hr2, hW2⟩
      have hO2 := HO1.out.keptW hW2 ⟨fun h => h, fun e => by have := (HO1.out.lt _ e).1; have := hS2.lt.1; omega⟩ (fun q e => ⟨fun h => h, fun e2 => (HQ.out q e2).2.1 e⟩)
      have hz2 := hW2.size
      have hlen : (lastK v s ls k).length ≤ 4194304 := by unfold lastK; rw [List.length_cons, List.length_map, List.length_take]; omega
      obtain ⟨v3, w3, hr3, hO3, hg3, hv3⟩ := hO2.put (P := Tryd.prog) (t := 45) (x := -s * x) (cs := [.int .i64 (-s * x)]) (Sx := fun _ => False) Tryd.underlying45 (by' := 8) (by kernel_rfl) (by decide) (by decide) hlen (Nat.le_trans hS2.lt.2 (Nat.le_refl _)) ⟨rfl, by omega⟩ (fun b hb => hb.elim)
      have hS3 := hS2.grown hg3 (fun q e => by
        obtain ⟨q1, q2, q3, q4⟩ := HQ.out q e
        have hM := hS2.lt
        have hK2 := HK.out
        refine ⟨by omega, fun h => ?_, fun h => ?_⟩
        · rcases h with h | h
          · exact q3 h
          · omega
        · rcases hr2 with rfl | ⟨p, rfl, hp⟩
          · exact q2 h
          · injection h with h; have := HZ1.out; omega)
      have hW3 : Pak.KeptW M r w w3 := by
        have h1 := keptW_trans hr.out HW1.out hW2
        refine ⟨hg3.os.trans h1.os, hg3.tape.trans h1.tape, hg3.output.trans h1.output, Nat.le_trans h1.size hg3.size, fun q hq a1 a2 => (hg3.block q (Nat.lt_of_lt_of_le hq h1.size) (fun e => ?_)).trans (h1.block q hq a1 a2)⟩
        have := (HQ.out q e.symm).1
        omega
      obtain ⟨a3, c3, e3'⟩ := hO3.form
      have HF : Hid (∃ r' S', Hid (LS M K mp av N (cl ++ joinK v s ls (k + 1)) r' S' w3) ∧ Hid (r' = r ∨ ∃ q, r' = some q ∧ w.heap.size ≤ q) ∧ Hid (Pak.KeptW M r w w3) ∧ Hid (∀ b, S' b → S b ∨ w.heap.size ≤ b) ∧ Hid (OwnP Pak.intSh 3 K (fun _ => False) (lastK v s ls (k + 1)) v3 w3) ∧ Hid (∀ q, v3.ownBlock = some q → w.heap.size ≤ q ∧ r' ≠ some q ∧ ¬ S' q)) := by
        refine Lib.hid ⟨r2, _, Lib.hid (by rw [HJ.out, ← List.append_assoc]; exact hS3), Lib.hid (next_trans hr.out (Nat.le_trans HKW.out (Nat.le_of_lt (by have := HZ1.out; omega))) hr2), Lib.hid hW3, Lib.hid (fun b hb => ?_), Lib.hid (by rw [HT.out]; exact hO3.more (fun b hb => by rcases hb with hb | hb <;> exact hb) (fun b hb => hb.elim)), Lib.hid (fun q e => ?_)⟩
        · rcases hb with hb | hb
          · exact hS1.out b hb
          · right; have := HKW.out; omega
        · have hz1 := HZ1.out
          rcases hv3 with hv3 | ⟨p, hv3, hp⟩
          · obtain ⟨q1, q2, q3, q4⟩ := HQ.out q (hv3.symm.trans e)
            refine ⟨q1, fun h => ?_, fun h => ?_⟩
            · rcases hr2 with rfl | ⟨p, rfl, hp⟩
              · exact q2 h
              · injection h with h; omega
            · rcases h with h | h
              · exact q3 h
              · omega
          · rw [hv3] at e
            injection e with e
            subst e
            have := HKW.out
            refine ⟨by omega, fun h => by have := (hS2.row _ h).2.1; omega, fun h => by have := hS2.ok _ h; omega⟩
      subst e3'
      generalize (lastK v s ls k ++ [-s * x]).length = n3 at *
      clear hS2 hr2 hW2 hO2 hO3 hg3 hv3 hS3 hW3 HO1 HW1 HC HQ hS1 hr hlen
      go_wp2_with (at_builtin; refine Lib.wpList_append_run _ rfl _ _ _ _ rfl _ _ rfl rfl _ _ (hr3 _) ?_)
      go_roundw
      case rel => exact ⟨k + 1, by go_num, by omega, HF.out⟩
      case measure => simp [intOf]; omega
    · have hlti : ¬ (k : Int) < (n : Int) := by omega
      obtain rfl : k = n := by omega
      have hlen : (lastK v s ls k).length = k + 1 := by unfold lastK; rw [List.length_cons, List.length_map, List.length_take, HN.out]; omega
      obtain ⟨a9, c9, e9, hs9⟩ := hO.out.slot (by omega)
      subst e9
      obtain ⟨m9, y2⟩ : ∃ m9, (lastK v s ls k).length = m9 := ⟨_, rfl⟩
      rw [y2] at hs9 hlen hO hq
      rw [y2]
      have HC := Lib.hid (clause_any M K mp av N _ r1 _ _ _ c9 (lastK v s ls k) S1 _ hS.out (by rw [List.length_append]; unfold joinK; rw [List.length_map, List.length_take]; omega) y2 hs9 (fun b hb => by
        rcases hb with hb | hb
        · exact hb.elim
        · exact ⟨(hO.out.lt b hb).1, (hO.out.lt b hb).2, (hq.out b hb).2.1⟩) (fun b hb o => by
        rcases hb with hb | hb
        · exact hb.elim
        · exact hO.out.nf b hb o))
      have hlo := fun b (hb : S1 b ∨ (False ∨ _)) => (show S b ∨ w.heap.size ≤ b by
        rcases hb with hb | hb | hb
        · exact hS1.out b hb
        · exact hb.elim
        · exact .inr (hq.out b hb).1)
      have HLO := Lib.hid hlo
      have HALL := Lib.hid (join_all v s ls)
      have HNK := Lib.hid HN.out
      clear hlo y2 hs9 hS hO hS1 hq hlen HN HSL HL HX HH HZ
      go_wp2_with fail
      refine HC.out.mono ?_
      rintro e w2 ⟨rfl, r2, hS2, hr2, hW2⟩
      have HE : Hid (JEnd M K mp av N (cl ++ joinL v s ls) r S w w2) := by
        refine Lib.hid ⟨_, HLO.out, ?_⟩
        have hj := HALL.out
        rw [HNK.out] at hj
        rw [← hj, ← List.append_assoc]
        exact ⟨r2, hS2, next_trans hr.out hW.out.size hr2, keptW_trans hr.out hW.out hW2⟩
      clear hS2 hr2 hW2
      go_wp2_with fail
      go_end0
      exact ⟨rfl, HE.out⟩
end Go.Proofs.YtelndcmfddbgiaaDoor

set_option linter.unusedVariables false
set_option linter.unusedSimpArgs false
namespace Go.Proofs.YtelndcmfddbgiaaDoor
set_option maxRecDepth 100000

def decV (l : List UInt8) : Nat := l.foldl (fun a b => a * 10 + (b.toNat - 48)) 0
theorem decV_snoc (l : List UInt8) (b : UInt8) : decV (l ++ [b]) = decV l * 10 + (b.toNat - 48) := by simp [decV, List.foldl_append]
theorem ofNat_dig {d : Nat} (h : d < 10) : (UInt8.ofNat (48 + d)).toNat = 48 + d := by
  show (48 + d) % 256 = _
  omega
theorem decV_digits : ∀ (n u : Nat), u < n → decV (Lib.decDigits u) = u ∧ Lib.decDigits u ≠ [] ∧ ∀ b ∈ Lib.decDigits u, 48 ≤ b.toNat ∧ b.toNat ≤ 57
  | 0, u, h => absurd h (Nat.not_lt_zero _)
  | n + 1, u, h => by
    by_cases h1 : u < 10
    · rw [Lib.decDigits_one h1]
      refine ⟨?_, by simp, fun b hb => ?_⟩
      · show 0 * 10 + ((UInt8.ofNat (48 + u)).toNat - 48) = u
        rw [ofNat_dig h1]; omega
      · rw [List.mem_singleton] at hb
        subst hb
        rw [ofNat_dig h1]; omega
    · obtain ⟨h2, h3, h4⟩ := decV_digits n (u / 10) (by omega)
      have hm : u % 10 < 10 := Nat.mod_lt _ (by decide)
      rw [Lib.decDigits, dif_neg h1]
      refine ⟨?_, by simp, fun b hb => ?_⟩
      · rw [decV_snoc, h2, ofNat_dig hm]; omega
      · rcases List.mem_append.1 hb with hb | hb
        · exact h4 b hb
        · rw [List.mem_singleton] at hb
          subst hb
          rw [ofNat_dig hm]; omega
theorem decDigits_inj {u v : Nat} (h : Lib.decDigits u = Lib.decDigits v) : u = v := by
  rw [← (decV_digits (u + 1) u (by omega)).1, h]
  exact (decV_digits (v + 1) v (by omega)).1
theorem itoa_bytes (i : Int) : ∀ b ∈ Lib.itoa i, b ≠ 32 := fun b hb e => by
  subst e
  unfold Lib.itoa at hb
  split at hb
  · rcases List.mem_cons.1 hb with hb | hb
    · cases hb
    · have := (decV_digits _ _ (Nat.lt_succ_self _)).2.2 _ hb
      have e : (32 : UInt8).toNat = 32 := rfl
      omega
  · have := (decV_digits _ _ (Nat.lt_succ_self _)).2.2 _ hb
    have e : (32 : UInt8).toNat = 32 := rfl
    omega
theorem itoa_inj {i j : Int} (h : Lib.itoa i = Lib.itoa j) : i = j := by
  unfold Lib.itoa at h
  have hd := fun u => (decV_digits (u + 1) u (by omega)).2
  have h45 : (45 : UInt8).toNat = 45 := rfl
  split at h <;> split at h
  · injection h with _ h
    have := decDigits_inj h
    omega
  · have := (hd j.toNat).2 45 (by rw [← h]; simp)
    omega
  · have := (hd i.toNat).2 45 (by rw [h]; simp)
    omega
  · have := decDigits_inj h
    omega
/-- The text of a form. -/
def restT (t : List (Int × Int)) : List UInt8 := t.flatMap fun m => 32 :: (Lib.itoa m.1 ++ 32 :: Lib.itoa m.2)
def textL (c : Int) (t : List (Int × Int)) : List UInt8 := Lib.itoa c ++ restT t
theorem restT_snoc (t : List (Int × Int)) (m : Int × Int) : restT (t ++ [m]) = restT t ++ (32 :: (Lib.itoa m.1 ++ 32 :: Lib.itoa m.2)) := by simp [restT]
theorem cut_space : ∀ {a b x y : List UInt8}, (∀ u ∈ a, u ≠ 32) → (∀ u ∈ b, u ≠ 32) → (x = [] ∨ ∃ r, x = 32 :: r) → (y = [] ∨ ∃ r, y = 32 :: r) → a ++ x = b ++ y → a = b ∧ x = y
  | [], [], x, y, _, _, _, _, h => ⟨rfl, h⟩
  | [], u :: b, x, y, _, hb, hx, _, h => by
    rcases hx with rfl | ⟨r, rfl⟩
    · simp at h
    · simp at h
      exact absurd h.1.symm (hb u (by simp))
  | u :: a, [], x, y, ha, _, _, hy, h => by
    rcases hy with rfl | ⟨r, rfl⟩
    · simp at h
    · simp at h
      exact absurd h.1 (ha u (by simp))
  | u :: a, v :: b, x, y, ha, hb, hx, hy, h => by
    simp at h
    obtain ⟨h1, h2⟩ := cut_space (fun z hz => ha z (by simp [hz])) (fun z hz => hb z (by simp [hz])) hx hy h.2
    exact ⟨by rw [h.1, h1], h2⟩
theorem restT_form (t : List (Int × Int)) : restT t = [] ∨ ∃ r, restT t = 32 :: r := by
  cases t with
  | nil => exact .inl rfl
  | cons m t => exact .inr ⟨_, rfl⟩
theorem restT_inj : ∀ {t u : List (Int × Int)}, restT t = restT u → t = u
  | [], [], _ => rfl
  | [], m :: u, h => by cases h
  | m :: t, [], h => by cases h
  | m :: t, k :: u, h => by
    have e : ∀ (m : Int × Int) t, restT (m :: t) = 32 :: (Lib.itoa m.1 ++ (32 :: (Lib.itoa m.2 ++ restT t))) := fun m t => by simp [restT]
    rw [e, e] at h
    injection h with _ h
    obtain ⟨h1, h2⟩ := cut_space (itoa_bytes _) (itoa_bytes _) (.inr ⟨_, rfl⟩) (.inr ⟨_, rfl⟩) h
    injection h2 with _ h2
    obtain ⟨h3, h4⟩ := cut_space (itoa_bytes _) (itoa_bytes _) (restT_form t) (restT_form u) h2
    rw [restT_inj h4, Prod.ext (itoa_inj h1) (itoa_inj h3)]
theorem textL_inj {c d : Int} {t u : List (Int × Int)} (h : textL c t = textL d u) : c = d ∧ t = u := by
  obtain ⟨h1, h2⟩ := cut_space (itoa_bytes _) (itoa_bytes _) (restT_form t) (restT_form u) h
  exact ⟨itoa_inj h1, restT_inj h2⟩
end Go.Proofs.YtelndcmfddbgiaaDoor

set_option linter.unusedVariables false
set_option linter.unusedSimpArgs false
namespace Go.Proofs.YtelndcmfddbgiaaDoor
set_option maxRecDepth 100000
open Go.RowKit

/-- The table of tens, whatever the call does from B on. -/
abbrev Tens (B : Nat) (w : World) : Prop := Lib.TabBelow Tryd.prog B w "internal/strconv.uint64pow10" .u64 Lib.pow10Tab
theorem Tens.up {B B' : Nat} {w w' : World} (h : Tens B w) (hb : Below B w w') (hB : B ≤ B') : Tens B' w' := fun w2 h2 => h w2 (hb.trans (h2.mono hB))
theorem bcells (l : List UInt8) (m : List UInt8) : Lib.byteCells l ++ Lib.byteCells m = Lib.byteCells (l ++ m) := by simp [Lib.byteCells]
theorem app_int {B : Nat} {l : List UInt8} {i : Int} {v : Value} {w : World} (h : Pak.BRow B l v w) (hB : B ≤ w.heap.size) (hi : -9223372036854775808 ≤ i ∧ i ≤ 9223372036854775807) (hl : l.length + 21 ≤ 140737488355328) (ht : Tens B w) :
    Calls Tryd.prog 64 #[v, .int .i64 i, .int .i64 10] w fun e w' => ∃ v', e = .returned v' ∧ Pak.BRow B (l ++ Lib.itoa i) v' w' ∧ Below B w w' ∧ Lib.OthersKept 5 none w w' := by
  refine (Tryd.strconv_AppendInt_10 B l.length i hi.1 hi.2 v _ w h hB hl ht).mono ?_
  rintro e w' ⟨v', rfl, h2, h3, h4⟩
  refine ⟨v', rfl, ?_, h3, h4⟩
  unfold Pak.BRow
  rw [List.length_append, ← bcells]
  exact h2
theorem app_byte {w : World} {B : Nat} {l : List UInt8} {v : Value} (c : UInt8) (x : Int) (hx : x = (c.toNat : Int)) (hv : Pak.BRow B l v w) (hB : B ≤ w.heap.size) (hsz : l.length + 1 ≤ 140000000000000) :
    ∃ v' w', (∀ ty, (Builtin.append_ #[89, 89] ty #[v, .slice (some ⟨w.heap.size, 0, none⟩) 1 1]).run Tryd.prog (w.alloc (.cells #[.int .u8 x] 5)) = .ok v' w') ∧ Pak.BRow B (l ++ [c]) v' w' ∧ Below B w w' ∧ Lib.OthersKept 5 none w w' := by
  have hA : Below w.heap.size w (w.alloc (.cells #[.int .u8 x] 5)) := (Below.refl _ w).alloc (Nat.le_refl _) _
  have hvA : Pak.BRow B l v (w.alloc (.cells #[.int .u8 x] 5)) := hv.below hA
  obtain ⟨v', w', h1, h2, h3, h4, h5⟩ := Pak.run_cat2 hvA (Pak.byte_new w c x hx) (Nat.le_trans hB hA.size) (by simpa using hsz)
  refine ⟨v', w', h1, h2, (hA.mono hB).trans h3, ((Lib.OthersKept.refl _ _ w).alloc _).grown h4 (fun g hg => ?_)⟩
  rcases hvA.2 with ⟨rfl, _⟩ | ⟨q, cap, cur, rfl, _, hh, _⟩
  · cases hg
  · injection hg with hg
    subst hg
    exact ⟨_, _, hh⟩
/-- A box stands, whatever the call appends to bytes. -/
theorem box_kept {w w' : World} {q : Nat} {x y : Value} (h : w.heap[q]? = some (.cells #[x, y] 57)) (hk : Lib.OthersKept 5 none w w') : w'.heap[q]? = some (.cells #[x, y] 57) :=
  hk q _ h (fun e => by cases e) (fun c fz e => by injection e with _ e _; exact absurd e (by decide))
theorem box_cells {w : World} {q : Nat} {x y : Value} (h : w.heap[q]? = some (.cells #[x, y] 57)) : w.cell? ⟨q, 0, none⟩ = some x ∧ w.cell? ⟨q, 1, none⟩ = some y :=
  ⟨(cell_of_row _ _ _ _ _ _ h).trans rfl, (cell_of_row _ _ _ _ _ _ h).trans rfl⟩
theorem itoa_len (i : Int) (hi : -9223372036854775808 ≤ i ∧ i ≤ 9223372036854775807) : (Lib.itoa i).length ≤ 21 := Lib.itoa_length_le i hi.1 hi.2
theorem restT_len : ∀ (t : List (Int × Int)), (∀ m ∈ t, (-9223372036854775808 ≤ m.1 ∧ m.1 ≤ 9223372036854775807) ∧ (-9223372036854775808 ≤ m.2 ∧ m.2 ≤ 9223372036854775807)) → (restT t).length ≤ 44 * t.length
  | [], _ => Nat.le_refl _
  | m :: t, h => by
    have h1 := restT_len t (fun x hx => h x (List.mem_cons_of_mem _ hx))
    have h2 := h m (by simp)
    have h3 := itoa_len _ h2.1
    have h4 := itoa_len _ h2.2
    have e : restT (m :: t) = 32 :: (Lib.itoa m.1 ++ (32 :: (Lib.itoa m.2 ++ restT t))) := by simp [restT]
    rw [e]
    simp only [List.length_cons, List.length_append]
    omega
theorem textL_len {c : Int} {t : List (Int × Int)} (hs : snd c t = true) : ∀ k, k ≤ t.length → (textL c (t.take k)).length ≤ 4000 := fun k hk => by
  obtain ⟨h1, h2, h3⟩ := snd_iff.1 hs
  have hc : -1073741824 ≤ c ∧ c ≤ 1073741824 := by unfold wi at h1; simpa using h1
  have h4 := itoa_len c (by omega)
  have h5 := restT_len (t.take k) (fun m hm => by
    obtain ⟨i, hi, rfl⟩ := List.getElem_of_mem (List.mem_of_mem_take hm)
    have := okAt_in (h3 i hi)
    rw [List.getD_eq_getElem?_getD, List.getElem?_eq_getElem hi, Option.getD_some] at this
    omega)
  unfold textL
  rw [List.length_append]
  have : (t.take k).length ≤ 64 := by rw [List.length_take]; omega
  omega
theorem textL_next {c : Int} {l : List (Int × Int)} {k : Nat} (h : k < l.length) : textL c (l.take (k + 1)) = (((textL c (l.take k) ++ [32]) ++ Lib.itoa (l.getD k (0, 0)).1) ++ [32]) ++ Lib.itoa (l.getD k (0, 0)).2 := by
  unfold textL
  rw [take_snoc l k h, restT_snoc]
  simp
set_option maxHeartbeats 8000000 in
theorem text_any (c : Int) (a : Option Addr) (n cap : Nat) (l : List (Int × Int)) (w : World) (hn : l.length = n) (hl : Lies w.heap.size w a l) (hs : snd c l = true) (ht : Tens w.heap.size w) :
    Calls Tryd.prog 43 #[.agg #[.int .i64 c, .slice a n cap]] w fun e w' => e = .returned (.string ⟨(textL c l).toArray⟩) ∧ Below w.heap.size w w' := by
  obtain ⟨h1, h64, h3⟩ := snd_iff.1 hs
  have hc : -1073741824 ≤ c ∧ c ≤ 1073741824 := by unfold wi at h1; simpa using h1
  have HTL := Lib.hid (textL_len hs)
  have HOK := Lib.hid h3
  have HN := Lib.hid hn
  have hA : Below w.heap.size w (w.alloc (.cells #[.int .i64 c, .slice a n cap] 24)) := (Below.refl _ _).alloc (Nat.le_refl _) _
  have HA := Lib.hid hA
  have HL := Lib.hid hl
  have HT := Lib.hid (ht.up hA (Nat.le_succ _))
  have hsz : (w.alloc (.cells #[.int .i64 c, .slice a n cap] 24)).heap.size = w.heap.size + 1 := by simp
  have hnw := heap_alloc_new w (.cells #[.int .i64 c, .slice a n cap] 24)
  have hb1 : (w.alloc (.cells #[.int .i64 c, .slice a n cap] 24)).cell? ⟨w.heap.size, 1, none⟩ = some (.slice a n cap) := (cell_of_row _ _ _ _ _ _ hnw).trans rfl
  have HB1 := Lib.hid hb1
  have HC := Lib.hid (app_int (Pak.BRow.nil (w.heap.size + 1) (w.alloc (.cells #[.int .i64 c, .slice a n cap] 24))) (Nat.le_of_eq hsz.symm) (i := c) (by omega) (by decide) HT.out)
  have hnm : n ≤ 64 := by omega
  have HZ := Lib.hid hsz
  clear h1 h64 h3 hs hn hl ht hA hsz hnw hb1
  go_enter Tryd.func43, Tryd.ntmps43
  go_wp2_with fail
  refine HC.out.mono ?_
  rintro e w1 ⟨v, rfl, hr, hb, _⟩
  rw [List.nil_append] at hr
  have x1 := (hb.cell (p := ⟨w.heap.size, 1, none⟩) (Nat.lt_succ_self _)).trans HB1.out
  have HR1 : Hid (Pak.BRow (w.heap.size + 1) (textL c (l.take 0)) v w1) := by
    show Pak.BRow (w.heap.size + 1) (Lib.itoa c ++ []) v w1
    rw [List.append_nil]; exact hr
  have HB : Hid (Below (w.heap.size + 1) (w.alloc (.cells #[.int .i64 c, .slice a n cap] 24)) w1) := hb
  clear hr hb HC HB1
  go_wp2_with fail
  clear x1
  generalize w.alloc (.cells #[.int .i64 c, .slice a n cap] 24) = W0 at *
  go_loopw [3, 12] (fun b i wr => ∃ k : Nat, i = .int .i64 k ∧ k ≤ n ∧ Hid (Pak.BRow (w.heap.size + 1) (textL c (l.take k)) b wr) ∧ Hid (Below (w.heap.size + 1) W0 wr)) (fun _ i _ => n - (intOf i).toNat)
  case atStart => exact ⟨0, rfl, Nat.zero_le _, HR1, HB⟩
  case round =>
    clear HR1 HB
    obtain ⟨k, rfl, hk, hR, hB⟩ := hrel
    by_cases hlt : k < n
    · have hlti : (k : Int) < (n : Int) := by omega
      have hBw : Below w.heap.size w wr := HA.out.trans (hB.out.mono (Nat.le_succ _))
      obtain ⟨b, off, rfl, hblt, c1, c2⟩ := (HL.out.below hBw) k (by rw [HN.out]; exact hlt)
      have hi := okAt_in (HOK.out k (by rw [HN.out]; exact hlt))
      have HX := textL_next (c := c) (l := l) (k := k) (by rw [HN.out]; exact hlt)
      have hlen := HTL.out k (by rw [HN.out]; exact hk)
      have hlen2 := HTL.out (k + 1) (by rw [HN.out]; exact hlt)
      rw [HX] at hlen2
      have HX2 := Lib.hid HX
      clear HX
      generalize (l.getD k (0, 0)).1 = x at *
      generalize (l.getD k (0, 0)).2 = y at *
      have hA2 : Below wr.heap.size wr (wr.alloc (.cells #[.int .i64 x, .int .i64 y] 57)) := (Below.refl _ _).alloc (Nat.le_refl _) _
      have hq2 := heap_alloc_new wr (.cells #[.int .i64 x, .int .i64 y] 57)
      have hz2 : W0.heap.size ≤ wr.heap.size := hB.out.size
      have hzz : w.heap.size + 1 ≤ wr.heap.size := by have := HZ.out; omega
      simp only [List.length_append, List.length_cons, List.length_nil] at hlen2
      obtain ⟨v2, w2, hr2, ho2, hb2, hk2⟩ := app_byte (w := wr.alloc (.cells #[.int .i64 x, .int .i64 y] 57)) 32 32 rfl (hR.out.below hA2) (Nat.le_trans hzz hA2.size) (by omega)
      have q2 := box_kept hq2 hk2
      have B2 : Hid (Below (w.heap.size + 1) W0 w2) := hB.out.trans ((hA2.mono hzz).trans hb2)
      have h02 := (box_cells q2).1
      have hz3 : w.heap.size + 1 ≤ w2.heap.size := Nat.le_trans hzz (Nat.le_trans hA2.size hb2.size)
      have HC2 := Lib.hid (app_int ho2 hz3 (i := x) (by omega) (by simp; omega) (HT.out.up B2.out (Nat.le_refl _)))
      have Q2 := Lib.hid q2
      have HZ3 := Lib.hid hz3
      simp only [World.size_alloc] at hr2
      clear hA2 hq2 hz2 ho2 hb2 hk2 q2 hR hB
      go_wp2_with (at_builtin; refine Lib.wpList_append_run _ rfl _ _ _ _ rfl _ _ rfl rfl _ _ (hr2 _) ?_)
      clear hr2 c1 c2
      refine HC2.out.mono ?_
      rintro e w3 ⟨v3, rfl, hr3, hb3, hk3⟩
      have q3 := box_kept Q2.out hk3
      have hz4 : w.heap.size + 1 ≤ w3.heap.size := Nat.le_trans HZ3.out hb3.size
      obtain ⟨v4, w4, hr4, ho4, hb4, hk4⟩ := app_byte (w := w3) 32 32 rfl hr3 hz4 (by simp only [List.length_append, List.length_cons, List.length_nil]; omega)
      have q4 := box_kept q3 hk4
      have B4 : Hid (Below (w.heap.size + 1) W0 w4) := B2.out.trans (hb3.trans hb4)
      have h14 := (box_cells q4).2
      have HC4 := Lib.hid (app_int ho4 (Nat.le_trans hz4 hb4.size) (i := y) (by omega) (by simp only [List.length_append, List.length_cons, List.length_nil]; omega) (HT.out.up B4.out (Nat.le_refl _)))
      clear hr3 hb3 hk3 q3 hz4 ho4 hb4 hk4 q4 h02 HC2 Q2 HZ3 B2
      go_wp2_with (at_builtin; refine Lib.wpList_append_run _ rfl _ _ _ _ rfl _ _ rfl rfl _ _ (hr4 _) ?_)
      clear hr4 h14
      refine HC4.out.mono ?_
      rintro e w5 ⟨v5, rfl, hr5, hb5, hk5⟩
      rw [← HX2.out] at hr5
      have HR5 := Lib.hid hr5
      have B5 := Lib.hid (B4.out.trans hb5)
      clear hr5 hb5 hk5 HC4 B4 HX2
      go_wp2_with fail
      go_roundw
      case rel => exact ⟨k + 1, by go_num, by omega, HR5, B5⟩
      case measure => simp [intOf]; omega
    · have hlti : ¬ (k : Int) < (n : Int) := by omega
      obtain rfl : k = n := by omega
      have hR2 := hR.out
      rw [← HN.out, List.take_length] at hR2
      have hl4 := HTL.out k (by rw [HN.out]; exact Nat.le_refl _)
      rw [← HN.out, List.take_length] at hl4
      have hcv := hR2.conv (by omega)
      have HE : Hid (Below w.heap.size w wr) := HA.out.trans (hB.out.mono (Nat.le_succ _))
      obtain ⟨a9, cap9, rfl⟩ := hR2.slice
      clear hR hB hR2 hl4 HTL
      obtain ⟨ta, hta⟩ : ∃ ta, ta = (textL c l).toArray := ⟨_, rfl⟩
      rw [← hta] at hcv
      have HTA := Lib.hid hta
      clear hta
      generalize (textL c l).length = tn at hcv
      go_wp2_with fail
      go_ret
      exact ⟨by rw [← HTA.out]; rfl, HE.out⟩
end Go.Proofs.YtelndcmfddbgiaaDoor
