/- The document's example of layer 17. -/
import Derived.Test.YteiomafciignkaaHepM
import Derived.Test.YteiomafciignkaaHepI
import Derived.Test.YteiomafciignkaaHepF
set_option linter.unusedVariables false
set_option linter.unusedSimpArgs false
namespace Go.Proofs.Yteiomafciignkaa
set_option maxRecDepth 100000
open Go.RowKit

def UpSaid17 : Prop := ∀ w : World, Calls Try.prog 8 #[] w fun e w' => e = .returned (.bool true) ∧ Below w.heap.size w w'
theorem stand_nil : Stand [] := fun i hi => absurd hi (Nat.not_lt_zero _)
theorem set_nil {c : HC} {os : List HC} (h : SetIs [] c os) : os = [c] := by
  obtain ⟨i, b, hf, rfl⟩ := h
  obtain rfl : i = 0 := Nat.le_zero.1 hf.le
  unfold setL
  simp
theorem perm_two {x y : HC} {zs : List HC} (h : [x, y].Perm zs) : zs = [x, y] ∨ zs = [y, x] := by
  have hl := h.length_eq
  match zs, hl with
  | [p, q], _ =>
    have hx : x ∈ [p, q] := h.mem_iff.1 (by simp)
    rcases (show x = p ∨ x = q by simpa using hx) with rfl | rfl
    · have := (List.perm_cons x).1 h
      rw [List.singleton_perm_singleton.1 this]; exact .inl rfl
    · have h2 : [x, y].Perm [x, p] := h.trans (List.Perm.swap _ _ _)
      have := (List.perm_cons x).1 h2
      rw [List.singleton_perm_singleton.1 this]; exact .inr rfl
theorem join_two {x y : HC} {zs : List HC} (hk : hkey x = hkey y) (h : SortIs [x, y] zs) : ∃ c, joinTo zs zs.length = [c] ∧ c.v = x.v + y.v := by
  have key : ∀ p q : HC, hkey p = hkey q → joinTo [p, q] [p, q].length = [⟨p.a, p.f, p.v + q.v⟩] := fun p q hpq => by
    show addLast (addLast [] p) q = _
    have e1 : addLast [] p = [p] := by unfold addLast; rw [if_neg (fun h => absurd h.1 (by simp))]; rfl
    rw [e1]
    unfold addLast
    rw [if_pos ⟨by simp, by simpa using hpq⟩]
    simp
  rcases perm_two h.perm with rfl | rfl
  · exact ⟨_, key x y hk, rfl⟩
  · exact ⟨_, key y x hk.symm, by simp only; omega⟩
theorem HRow.form {B : Nat} {xs : List HC} {v : Value} {w : World} (h : HRow B xs v w) (hpos : 0 < xs.length) : ∃ g cap, v = .slice (some ⟨g, 0, none⟩) xs.length cap ∧ xs.length ≤ cap ∧ cap ≤ 9223372036854775807 ∧ B ≤ g ∧ g < w.heap.size ∧ HLies w.heap.size w (some ⟨g, 0, none⟩) xs := by
  obtain ⟨g, cap, rfl, h1, h2⟩ := World.ownsRow.form h hpos
  obtain ⟨a, cap', e, h3, h4, h5, _⟩ := own_hlies rfl h
  injection e with e1 e2 e3
  subst e1 e3
  exact ⟨g, cap, rfl, h3, h4, h1, h2, h5⟩
set_option maxHeartbeats 2000000 in
theorem up_said17 : UpSaid17 := fun w => by
  have HS := Lib.hid (set_any [] none 0 0 3 ⟨#[102]⟩ 7 w rfl (by decide) ⟨by decide, by decide⟩ (fun _ => rfl) (fun h => absurd h (Nat.lt_irrefl 0)) (fun i hi => absurd hi (Nat.not_lt_zero _)) stand_nil)
  have HJ : Hid (∀ W : World, Calls Try.prog 22 #[.slice (some ⟨W.heap.size, 0, none⟩) 1 1, .slice (some ⟨W.heap.size + 1, 0, none⟩) 1 1] ((W.alloc (.cells #[.int .i64 3, .string ⟨#[102]⟩, .int .i64 1] 44)).alloc (.cells #[.int .i64 3, .string ⟨#[102]⟩, .int .i64 2] 44)) (JoinEnd ([⟨3, ⟨#[102]⟩, 1⟩] ++ [⟨3, ⟨#[102]⟩, 2⟩]) ((W.alloc (.cells #[.int .i64 3, .string ⟨#[102]⟩, .int .i64 1] 44)).alloc (.cells #[.int .i64 3, .string ⟨#[102]⟩, .int .i64 2] 44)))) := fun W => by
    have l1 := hlies_new W [⟨3, ⟨#[102]⟩, 1⟩] 44
    have l2 := hlies_new (W.alloc (.cells #[.int .i64 3, .string ⟨#[102]⟩, .int .i64 1] 44)) [⟨3, ⟨#[102]⟩, 2⟩] 44
    have hb : Below (W.heap.size + 1) (W.alloc (.cells #[.int .i64 3, .string ⟨#[102]⟩, .int .i64 1] 44)) ((W.alloc (.cells #[.int .i64 3, .string ⟨#[102]⟩, .int .i64 1] 44)).alloc (.cells #[.int .i64 3, .string ⟨#[102]⟩, .int .i64 2] 44)) := (Below.refl _ _).alloc (by simp) _
    rw [World.size_alloc] at l2
    exact join_any [⟨3, ⟨#[102]⟩, 1⟩] [⟨3, ⟨#[102]⟩, 2⟩] (sort_pair _ _ rfl) _ 1 1 _ 1 1 _ rfl rfl (by decide) (by decide) (fun c hc => by
      have : c = ⟨3, ⟨#[102]⟩, 1⟩ ∨ c = ⟨3, ⟨#[102]⟩, 2⟩ := by simpa using hc
      rcases this with rfl | rfl <;> decide) ((l1.below hb).mono (by simp)) (l2.mono (by simp))
  have HF := Lib.hid (fun (W : World) (g : Nat) (cap : Nat) (h : HLies W.heap.size W (some ⟨g, 0, none⟩) [⟨3, ⟨#[102]⟩, 7⟩]) => fresh_any [⟨3, ⟨#[102]⟩, 7⟩] (some ⟨g, 0, none⟩) 1 cap W rfl (by decide) h (fun i hi => by
    obtain rfl : i = 0 := by simpa using hi
    decide))
  go_enter Try.func8, Try.ntmps8
  go_wp2_with fail
  refine HS.out.mono ?_
  rintro e w1 ⟨v, os, rfl, hset, hrow, hb1⟩
  obtain rfl := set_nil hset
  obtain ⟨g, cap, rfl, _, _, _, hgl, hl⟩ := HRow.form hrow (by simp)
  have HL := Lib.hid hl
  have B1 := Lib.hid hb1
  clear hset hrow hb1 HS hl
  go_wp2_with fail
  refine (HJ.out w1).mono ?_
  rintro e w2 ⟨v2, zs, rfl, hsi, hrow2, hb2⟩
  obtain ⟨c, hj, hcv⟩ := join_two (x := ⟨3, ⟨#[102]⟩, 1⟩) (y := ⟨3, ⟨#[102]⟩, 2⟩) rfl hsi
  have hcv : c.v = 3 := hcv
  rw [hj] at hrow2
  obtain ⟨g2, cap2, rfl, _, _, hg2l, hl2⟩ := SRow.form hrow2 (by simp)
  have hba : Below w1.heap.size w1 ((w1.alloc (.cells #[.int .i64 3, .string ⟨#[102]⟩, .int .i64 1] 44)).alloc (.cells #[.int .i64 3, .string ⟨#[102]⟩, .int .i64 2] 44)) := ((Below.refl _ _).alloc (Nat.le_refl _) _).alloc (by simp) _
  have hb3 := hba.trans (hb2.mono hba.size)
  have B2 := Lib.hid (B1.out.trans (hb3.mono B1.out.size))
  have HL1 := Lib.hid (HL.out.up hb3)
  obtain ⟨_, _, ea, _, _, _, c3⟩ := HL1.out 0 (by simp)
  obtain ⟨_, _, eb, _, _, _, d3⟩ := hl2 0 (by simp)
  injection ea with ea; injection ea with ea1 ea2 _; subst ea1 ea2
  injection eb with eb; injection eb with eb1 eb2 _; subst eb1 eb2
  simp only [List.getD_cons_zero, Nat.zero_mul, Nat.zero_add] at c3 d3
  rw [hcv] at d3
  have HFR := Lib.hid (HF.out w2 g cap HL1.out)
  clear hsi hrow2 hb2 hl2 hba hb3 HJ HF HL HL1 hj hcv
  go_wp2_with fail
  refine HFR.out.mono ?_
  rintro e w3 ⟨rfl, rfl⟩
  go_wp2_with fail
  go_ret
  exact ⟨rfl, B2.out⟩
end Go.Proofs.Yteiomafciignkaa
