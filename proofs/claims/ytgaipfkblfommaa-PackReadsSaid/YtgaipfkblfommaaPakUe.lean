/- Read. -/
import Derived.Test.YtgaipfkblfommaaPakUd
set_option linter.unusedVariables false
set_option linter.unusedSimpArgs false
namespace Go.Proofs.Ytgaipfkblfommaa
set_option maxRecDepth 100000
open Go.RowKit

def Er (n : Int) : Value := .iface 51 (.int .i64 n)
/-- What Read answers. -/
inductive ReadIs (l : List UInt8) : List Rec → Value → Int → Prop
  | long : 4194304 < l.length → ReadIs l [] (Er 2) 2
  | form : l.length ≤ 4194304 → pWit l = none → ReadIs l [] (Er 5) 5
  | more (y : List Rec) (r : List UInt8) : l.length ≤ 4194304 → pWit l = some (y, r) → 0 < r.length → ReadIs l [] (Er 16) 16
  | fine (xs : List Rec) : l.length ≤ 4194304 → pWit l = some (xs, []) → ReadIs l xs .nilIface 0
def ReadEnd (l : List UInt8) (w : World) (e : Ending) (w' : World) : Prop := ∃ v xs er n, e = .returned (.tuple #[.agg #[v], er]) ∧ ReadIs l xs er n ∧ Slot recSh (fun b => w.heap.size ≤ b ∧ b < w'.heap.size) w' v xs ∧ Below w.heap.size w w'
theorem res1 {w : World} {h : Nat} {z0 : Value} (a : Value) (c0 : w.cell? ⟨h, 0, none⟩ = some z0) : (w.setCell ⟨h, 0, none⟩ a).cell? ⟨h, 0, none⟩ = some a := World.cell?_setCell_same' _ _ _ (by rw [c0]; rfl)
set_option maxHeartbeats 4000000 in
theorem read_any (a : Option Addr) (l : List UInt8) (c : Nat) (w : World) (hl : Sits byteSh (Lo w.heap.size) w a l) (hc : l.length ≤ c ∧ c ≤ 9223372036854775807) (hnil : a = none → c = 0) :
    Calls Try.prog 12 #[.slice a l.length c] w (ReadEnd l w) := by
  have HA : Hid (Below w.heap.size w (w.alloc (.cells #[.slice none 0 0] 24))) := (Below.refl _ _).alloc (Nat.le_refl _) _
  have hsz : (w.alloc (.cells #[.slice none 0 0] 24)).heap.size = w.heap.size + 1 := by simp
  have z0 : (w.alloc (.cells #[.slice none 0 0] 24)).cell? ⟨w.heap.size, 0, none⟩ = some (.slice none 0 0) := (cell_of_row _ _ _ _ _ _ (heap_alloc_new w _)).trans rfl
  have zf := frozen_new w #[.slice none 0 0] 24 0
  by_cases hbig : (4194304 : Int) < (l.length : Int)
  · have HE : Hid (ReadEnd l w (.returned (.tuple #[.agg #[.slice none 0 0], Er 2])) (w.alloc (.cells #[.slice none 0 0] 24))) := ⟨_, [], _, _, rfl, .long (by omega), ⟨none, 0, rfl, Sits.nil _ _ _ _⟩, HA.out⟩
    have e0 := z0
    unfold Er at HE
    clear hl HA
    go_enter Try.func12, Try.ntmps12
    go_wp2_with fail
    refine bodyPost_ret (v := .tuple #[.agg #[.slice none 0 0], .iface 51 (.int .i64 2)]) ?_ rfl HE.out
    simp [results, Try.results12, go_sem, e0]
  · have HA1 : Hid (Below (w.alloc (.cells #[.slice none 0 0] 24)).heap.size (w.alloc (.cells #[.slice none 0 0] 24)) ((w.alloc (.cells #[.slice none 0 0] 24)).alloc (.cells #[.slice a l.length c, .bool false] 65))) := (Below.refl _ _).alloc (Nat.le_refl _) _
    have HB : Hid (Below w.heap.size w ((w.alloc (.cells #[.slice none 0 0] 24)).alloc (.cells #[.slice a l.length c, .bool false] 65))) := HA.out.trans (HA1.out.mono HA.out.size)
    have hn1 := heap_alloc_new (w.alloc (.cells #[.slice none 0 0] 24)) (.cells #[.slice a l.length c, .bool false] 65)
    have hsz1 : ((w.alloc (.cells #[.slice none 0 0] 24)).alloc (.cells #[.slice a l.length c, .bool false] 65)).heap.size = w.heap.size + 2 := by simp
    have HRS : Hid (RSt (w.heap.size + 1) (some l) ((w.alloc (.cells #[.slice none 0 0] 24)).alloc (.cells #[.slice a l.length c, .bool false] 65))) := by
      rw [hsz] at hn1
      refine (⟨⟨a, c, (cell_of_row _ _ _ _ _ _ hn1).trans rfl, (cell_of_row _ _ _ _ _ _ hn1).trans rfl, (hl.up HB.out).keep (fun b (hb : b < w.heap.size) => Nat.lt_succ_of_lt hb) (fun _ _ _ => rfl), hc.1, hc.2, hnil⟩, fun j => ?_, by simp, by omega⟩ : RS (w.heap.size + 1) l false _)
      have := frozen_new (w.alloc (.cells #[.slice none 0 0] 24)) #[.slice a l.length c, .bool false] 65 j
      rwa [hsz] at this
    have HC := Lib.hid (eachRec_any (w.heap.size + 1) (some l) _ HRS.out)
    have y0 := (HA1.out.cell (p := ⟨w.heap.size, 0, none⟩) (by simp)).trans z0
    have yf := (HA1.out.frozen (p := ⟨w.heap.size, 0, none⟩) (by simp)).trans zf
    have HY := Lib.hid (And.intro y0 (And.intro yf (And.intro hsz1 hsz)))
    clear hl hn1 y0 yf HRS hsz1 hsz z0 zf HA1
    go_enter Try.func12, Try.ntmps12
    go_wp2_with fail
    refine HC.out.mono ?_
    rintro e w2 ⟨v2, x2, rfl, ⟨a2, cap2, rfl, hV2⟩, hst2, hx2, hk2⟩
    obtain ⟨y0, yf, hsz1, hsz⟩ := HY.out
    have hs2 := hk2.size
    have q0 := (hk2.cell (h := w.heap.size) (by omega) (by omega) 0).trans y0
    have qf := (hk2.frozen (h := w.heap.size) (by omega) (by omega) 0).trans yf
    have HB2 : Below w.heap.size w w2 := HB.out.trans ⟨hk2.os, hk2.tape, hk2.output, hk2.size, fun q hq => hk2.block q (by omega) (by omega)⟩
    have HW3 : Below w2.heap.size w2 (w2.alloc (.cells #[.slice a2 x2.length cap2] 24)) := (Below.refl _ _).alloc (Nat.le_refl _) _
    have q3 := (HW3.cell (p := ⟨w.heap.size, 0, none⟩) (by show w.heap.size < _; omega)).trans q0
    have qf3 := (HW3.frozen (p := ⟨w.heap.size, 0, none⟩) (by show w.heap.size < _; omega)).trans qf
    have hsz3 : (w2.alloc (.cells #[.slice a2 x2.length cap2] 24)).heap.size = w2.heap.size + 1 := by simp
    obtain ⟨rest, bad, hrs, hgo⟩ : ∃ rest bad, RS (w.heap.size + 1) rest bad w2 ∧ (bad = true ∧ pWit l = none ∨ bad = false ∧ pWit l = some (x2, rest)) := by
      have hx2 := hx2
      cases hp : pWit l with
      | none =>
        have e : nxt (pEach pRec) (some l) = none := by
          show ((pWit l).map Prod.snd) = none
          rw [hp]; rfl
        rw [e] at hst2
        obtain ⟨rest, hrs⟩ := hst2
        exact ⟨rest, true, hrs, .inl ⟨rfl, rfl⟩⟩
      | some q =>
        have e : nxt (pEach pRec) (some l) = some q.2 := by
          show ((pWit l).map Prod.snd) = _
          rw [hp]; rfl
        rw [e] at hst2
        have := hx2 q.1 q.2 hp
        exact ⟨q.2, false, hst2, .inr ⟨rfl, by rw [this]⟩⟩
    have hrs3 := hrs.below HW3
    obtain ⟨ra, rc, g1, g2, _⟩ := hrs3.st
    have hln : l.length ≤ 4194304 := by omega
    have hq := cell_of_row (w2.alloc (.cells #[.slice a2 x2.length cap2] 24)) w2.heap.size 0 _ _ _ (heap_alloc_new w2 _)
    have FR := fun v => ((Far.refl w.heap.size (w2.alloc (.cells #[.slice a2 x2.length cap2] 24))).set (j := 0) v)
    have HBE := fun v => HB2.trans ((HW3.mono HB2.size).trans ((FR v).below (Nat.le_refl _)))
    rcases hgo with ⟨rfl, hp⟩ | ⟨rfl, hp⟩
    · have HE : Hid (ReadEnd l w (.returned (.tuple #[.agg #[.slice none 0 0], Er 5])) ((w2.alloc (.cells #[.slice a2 x2.length cap2] 24)).setCell ⟨w.heap.size, 0, none⟩ (.slice none 0 0))) := ⟨_, [], _, _, rfl, .form hln hp, ⟨none, 0, rfl, Sits.nil _ _ _ _⟩, HBE _⟩
      have e0 := res1 (.slice none 0 0) q3
      unfold Er at HE
      clear hV2 hst2 hx2 hk2 HB2 HW3 hrs hrs3 FR HBE hp HC HY HB HA
      go_wp2_with fail
      refine bodyPost_ret (v := .tuple #[.agg #[.slice none 0 0], .iface 51 (.int .i64 5)]) ?_ rfl HE.out
      simp [results, Try.results12, go_sem, e0]
    · by_cases hmore : (0 : Int) < (rest.length : Int)
      · have HE : Hid (ReadEnd l w (.returned (.tuple #[.agg #[.slice none 0 0], Er 16])) ((w2.alloc (.cells #[.slice a2 x2.length cap2] 24)).setCell ⟨w.heap.size, 0, none⟩ (.slice none 0 0))) := ⟨_, [], _, _, rfl, .more x2 rest hln hp (by omega), ⟨none, 0, rfl, Sits.nil _ _ _ _⟩, HBE _⟩
        have e0 := res1 (.slice none 0 0) q3
        unfold Er at HE
        clear hV2 hst2 hx2 hk2 HB2 HW3 hrs hrs3 FR HBE hp HC HY HB HA
        go_wp2_with fail
        refine bodyPost_ret (v := .tuple #[.agg #[.slice none 0 0], .iface 51 (.int .i64 16)]) ?_ rfl HE.out
        simp [results, Try.results12, go_sem, e0]
      · have hr0 : rest = [] := List.length_eq_zero_iff.1 (by omega)
        have HE : Hid (ReadEnd l w (.returned (.tuple #[.agg #[.slice a2 x2.length cap2], .nilIface])) ((w2.alloc (.cells #[.slice a2 x2.length cap2] 24)).setCell ⟨w.heap.size, 0, none⟩ (.slice a2 x2.length cap2))) := by
          have hsf := (FR (.slice a2 x2.length cap2)).size
          have k3 : Slot recSh (fun b => w.heap.size + 2 ≤ b ∧ b < w2.heap.size) w2 (.slice a2 x2.length cap2) x2 := ⟨a2, cap2, rfl, by rw [← hsz1]; exact hV2⟩
          have k4 := k3.keep (S' := fun b => w.heap.size + 2 ≤ b ∧ b < w2.heap.size) (fun _ h => h) (fun b o ⟨_, p2⟩ => HW3.cell (p := ⟨b, o, none⟩) p2)
          exact ⟨_, x2, _, _, rfl, .fine x2 hln (by rw [hp, hr0]), k4.far (FR _) (fun b ⟨p1, p2⟩ => ⟨by omega, by omega⟩) (fun b ⟨p1, p2⟩ => by omega), HBE _⟩
        have e0 := res1 (.slice a2 x2.length cap2) q3
        clear hV2 hst2 hx2 hk2 HB2 HW3 hrs hrs3 FR HBE hp HC HY HB HA
        go_wp2_with fail
        refine bodyPost_ret (v := .tuple #[.agg #[.slice a2 x2.length cap2], .nilIface]) ?_ rfl HE.out
        simp [results, Try.results12, go_sem, e0]
end Go.Proofs.Ytgaipfkblfommaa
