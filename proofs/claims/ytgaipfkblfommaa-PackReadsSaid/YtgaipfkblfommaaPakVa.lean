/- Errors' codes; the document's example. -/
import Derived.Test.YtgaipfkblfommaaPakUe
set_option linter.unusedVariables false
set_option linter.unusedSimpArgs false
namespace Go.Proofs.Ytgaipfkblfommaa
set_option maxRecDepth 100000
open Go.RowKit

section
variable {P : Program} (w : World)
theorem run_equalIn_iface_int {ti tn : TypeId} {ms : Array (String × TypeId)} {i : TypeInfo} {k : IntKind} (d : Nat) (a b : Int)
    (hi : P.underlying ti = some (.interface ms)) (hn : P.underlying tn = some (.int k)) (hinfo : P.info? tn = some i) (hcomp : i.comparable = true) :
    (Op.equalIn (d + 2) ti (.iface tn (.int k a)) (.iface tn (.int k b))).run P w = .ok (a == b) w := by
  simp [Op.equalIn, run_underlying hi, run_underlying hn, typeInfo, hinfo, hcomp]
theorem run_eql_iface_int {ti tn : TypeId} {ms : Array (String × TypeId)} {i : TypeInfo} {k : IntKind} (a b : Int)
    (hi : P.underlying ti = some (.interface ms)) (hn : P.underlying tn = some (.int k)) (hinfo : P.info? tn = some i) (hcomp : i.comparable = true) :
    (binOp .eql ti (.iface tn (.int k a)) (.iface tn (.int k b))).run P w = .ok (.bool (a == b)) w := by
  simp only [binOp]
  simp [Op.equal, Op.maxDepth, run_equalIn_iface_int w 9998 a b hi hn hinfo hcomp]
end
theorem Try.eqCode (a b : Int) (w : World) : (binOp .eql 29 (.iface 51 (.int .i64 a)) (.iface 51 (.int .i64 b))).run Try.prog w = .ok (.bool (a == b)) w :=
  run_eql_iface_int (P := Try.prog) w a b Try.underlying29 Try.underlying51 (i := Try.t51) (by kernel_rfl) (by kernel_rfl)
theorem Try.eqIface (t : TypeId) (v : Value) (w : World) : (binOp .eql 29 (.iface t v) .nilIface).run Try.prog w = .ok (.bool false) w := by simp [go_sem]
theorem Try.eqNil (w : World) : (binOp .eql 29 .nilIface .nilIface).run Try.prog w = .ok (.bool true) w := by simp [go_sem]
set_option maxHeartbeats 400000 in
theorem code_nil (w : World) : Calls Try.prog 11 #[.nilIface] w fun e w' => e = .returned (.int .i64 0) ∧ w = w' := by
  go_enter Try.func11, Try.ntmps11
  go_wp2
  go_ret
  exact ⟨rfl, rfl⟩
set_option maxHeartbeats 800000 in
theorem code_k (k : Int) (w : World) (h1 : 1 ≤ k) (h2 : k ≤ 16) : Calls Try.prog 11 #[.iface 51 (.int .i64 k)] w fun e w' => e = .returned (.int .i64 k) ∧ w = w' := by
  have heq := fun (j : Int) W => Try.eqCode k j W
  go_enter Try.func11, Try.ntmps11
  go_wp2
  go_loop [3] (fun c => ∃ j : Int, 1 ≤ j ∧ j ≤ k ∧ c = .int .i64 j) (fun c => (k - intOf c).toNat)
  case atStart => exact ⟨1, by omega, h1, rfl⟩
  case round =>
    obtain ⟨j, hj1, hj2, rfl⟩ := hrel
    by_cases e : j = k
    · subst e
      have hb : (j == j) = true := by simp
      go_wp2
      go_ret
      exact ⟨rfl, rfl⟩
    · have hb : (k == j) = false := by simp; omega
      go_wp2
      go_round
      case rel => exact ⟨j + 1, by omega, by omega, rfl⟩
      case measure => simp [intOf]; omega
theorem sits_one {T : Type} {sh : Sh T} {S : Nat → Prop} {w : World} {b : Nat} {cs : List Value} {t : TypeId} {x : T} (hw : w.heap[b]? = some (.cells cs.toArray t)) (hS : S b) (hr : sh.rel S w cs x) : Sits sh S w (some ⟨b, 0, none⟩) [x] := by
  refine ⟨by simp, fun i hi => ?_⟩
  have hi0 : i = 0 := by simp at hi; exact hi
  subst hi0
  refine ⟨b, 0, cs, rfl, hS, fun j u hu => ?_, hr⟩
  rw [cell_of_row _ _ _ _ _ _ hw]
  simpa using hu
def exW : List Rec := [⟨⟨#[112]⟩, [⟨false, [], []⟩]⟩]
theorem num_lit (n : Int) (k : Nat) (h : Lib.zigzag n = k) (hk : k < 128) : num n = [k.toUInt8] := by
  unfold num
  rw [h, Lib.uvarint_small hk]
theorem exW_enc : encWit exW = [2, 2, 112, 2, 0] := by
  have e1 : num 1 = [2] := num_lit 1 2 (by decide) (by decide)
  simp [encWit, exW, encList, encRec, encReply]
  have e2 : ((ByteArray.size ⟨#[112]⟩ : Nat) : Int) = 1 := rfl
  rw [e1, e2, e1]
  rfl
theorem ex_read : pWit [0, 0] = some ([], [0]) := by rfl
def UpSaid12 : Prop := ∀ w : World, Calls Try.prog 7 #[] w fun e w' => e = .returned (.bool true) ∧ Below w.heap.size w w'
set_option maxHeartbeats 4000000 in
theorem up_said12 : UpSaid12 := fun w => by
  have hA : Below w.heap.size w (w.alloc (.cells #[.bool false, .slice none 0 0, .slice none 0 0] 50)) := (Below.refl _ _).alloc (Nat.le_refl _) _
  have hA2 : Below (w.alloc (.cells #[.bool false, .slice none 0 0, .slice none 0 0] 50)).heap.size (w.alloc (.cells #[.bool false, .slice none 0 0, .slice none 0 0] 50)) ((w.alloc (.cells #[.bool false, .slice none 0 0, .slice none 0 0] 50)).alloc (.cells #[.string ⟨#[112]⟩, .slice (some ⟨w.heap.size, 0, none⟩) 1 1] 37)) := (Below.refl _ _).alloc (Nat.le_refl _) _
  have h1 := heap_alloc_new w (.cells #[.bool false, .slice none 0 0, .slice none 0 0] 50)
  have h2 := heap_alloc_new (w.alloc (.cells #[.bool false, .slice none 0 0, .slice none 0 0] 50)) (.cells #[.string ⟨#[112]⟩, .slice (some ⟨w.heap.size, 0, none⟩) 1 1] 37)
  rw [World.size_alloc] at h2
  have h3 := (hA2.block w.heap.size (by simp)).trans h1
  have HB0 := Lib.hid (hA.trans (hA2.mono hA.size))
  have HWR := Lib.hid (write_any (some ⟨w.heap.size + 1, 0, none⟩) 1 1 exW ((w.alloc (.cells #[.bool false, .slice none 0 0, .slice none 0 0] 50)).alloc (.cells #[.string ⟨#[112]⟩, .slice (some ⟨w.heap.size, 0, none⟩) 1 1] 37)) rfl (fun x hx => by
    have : x = ⟨⟨#[112]⟩, [⟨false, [], []⟩]⟩ := by simpa [exW] using hx
    subst this
    decide) (sits_one (cs := [.string ⟨#[112]⟩, .slice (some ⟨w.heap.size, 0, none⟩) 1 1]) h2 (by show _ < _; simp) ⟨_, rfl, _, _, rfl, sits_one (cs := [.bool false, .slice none 0 0, .slice none 0 0]) h3 (by show _ < _; simp; omega) ⟨_, _, rfl, ⟨none, 0, rfl, Sits.nil _ _ _ _⟩, ⟨none, 0, rfl, Sits.nil _ _ _ _⟩⟩⟩))
  have HRD : Hid (∀ W : World, Calls Try.prog 12 #[.slice (some ⟨W.heap.size, 0, none⟩) 2 2] (W.alloc (.cells #[.int .u8 0, .int .u8 0] 5)) (ReadEnd [0, 0] (W.alloc (.cells #[.int .u8 0, .int .u8 0] 5)))) := fun W => read_any (some ⟨W.heap.size, 0, none⟩) [0, 0] 2 _ ⟨by decide, fun i hi => by
    have hn := heap_alloc_new W (.cells #[.int .u8 0, .int .u8 0] 5)
    refine ⟨W.heap.size, 0, [.int .u8 0], rfl, (by show _ < _; simp), fun j u hu => ?_, ?_⟩
    · rw [cell_of_row _ _ _ _ _ _ hn]
      have hj : j = 0 := by have := (List.getElem?_eq_some_iff.1 hu).1; simp at this; exact this
      subst hj
      have hi2 : i = 0 ∨ i = 1 := by simp at hi; omega
      rcases hi2 with rfl | rfl <;> simpa [byteSh] using hu
    · have hi2 : i = 0 ∨ i = 1 := by simp at hi; omega
      rcases hi2 with rfl | rfl <;> rfl⟩ ⟨by decide, by decide⟩ (fun e => by cases e)
  have n1 := fun W => Try.eqNil W
  have n2 := fun W => Try.eqCode 16 16 W
  clear hA hA2 h1 h2 h3
  go_enter Try.func7, Try.ntmps7
  go_wp2_with fail
  refine HWR.out.mono ?_
  rintro e w1 ⟨v1, er, rfl, hb1, hgo⟩
  rw [exW_enc] at hgo
  obtain ⟨_, rfl, hrow⟩ : ([2, 2, 112, 2, 0] : List UInt8).length ≤ 4194304 ∧ er = .nilIface ∧ BRow w.heap.size [2, 2, 112, 2, 0] v1 w1 := by
    rcases hgo with ⟨a1, a2, a3⟩ | ⟨a1, _⟩
    · exact ⟨a1, a2, BRow.lower a3 HB0.out.size⟩
    · exact absurd a1 (by decide)
  have R1 := Lib.hid hrow
  have B1 := Lib.hid (HB0.out.trans (hb1.mono HB0.out.size))
  clear hgo hb1 hrow HWR HB0
  go_wp2_with fail
  refine (HRD.out w1).mono ?_
  rintro e w2 ⟨v2, x2, er, n, rfl, hri, hsl, hb2⟩
  obtain rfl : er = Er 16 := by
    cases hri with
    | long h => exact absurd h (by decide)
    | form _ h => rw [ex_read] at h; cases h
    | more => rfl
    | fine _ _ h => rw [ex_read] at h; simp at h
  have hb2' : Below w1.heap.size w1 w2 := ((Below.refl w1.heap.size w1).alloc (Nat.le_refl _) (.cells #[.int .u8 0, .int .u8 0] 5)).trans (hb2.mono (by simp))
  have R2 := Lib.hid (R1.out.below hb2')
  have B2 := Lib.hid (B1.out.trans (hb2'.mono B1.out.size))
  unfold Er
  obtain ⟨a2, cap2, rfl, _⟩ := hsl
  have HW3 : Below w2.heap.size w2 (w2.alloc (.cells #[.slice a2 x2.length cap2] 24)) := (Below.refl _ _).alloc (Nat.le_refl _) _
  have B3 := Lib.hid (B2.out.trans (HW3.mono B2.out.size))
  obtain ⟨a1, cap1, rfl, hs1⟩ := (R2.out.below HW3).slot (by decide)
  have hcv : ∀ W, W = (w2.alloc (.cells #[.slice a2 x2.length cap2] 24)) → (convert 27 9 (.slice a1 5 cap1)).run Try.prog W = .ok (.string ⟨#[2, 2, 112, 2, 0]⟩) W := fun W e => by
    subst e
    exact conv_bytes cap1 hs1
  have hcv := hcv _ rfl
  clear hri hb2 hb2' R1 R2 B1 B2 HRD HW3 hs1
  go_wp2_with fail
  go_ret
  exact ⟨rfl, B3.out⟩
end Go.Proofs.Ytgaipfkblfommaa
