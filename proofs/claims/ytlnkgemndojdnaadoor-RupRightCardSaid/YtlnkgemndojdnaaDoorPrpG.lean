/- The follower's told. -/
import Derived.Test.YtlnkgemndojdnaaDoorPrpF
set_option linter.unusedVariables false
set_option linter.unusedSimpArgs false
namespace Go.Proofs.YtlnkgemndojdnaaDoor
set_option maxRecDepth 100000
open Go.RowKit

section
variable {B n : Nat} {cs : List (List Int)} {ls : List Int} {p : FolS} {w w' : World} {A Wd H T S : Nat → Int} {Q : List Int} {L : Int → List Nat} {R : List Nat}
/-- What a literal that follows, made true, comes to. -/
def MadeEnd (B n : Nat) (cs : List (List Int)) (ls : List Int) (p : FolS) (A Wd H T S : Nat → Int) (L : Int → List Nat) (R : List Nat) (l : Int) (w : World) (b : Bool) (w' : World) : Prop :=
  Below B w w' ∧ ((b = false ∧ Conf cs ls) ∨ (b = true ∧ ∃ A' Q', St B n cs ls p w' A' Wd H T S Q' L R ∧ Grow A A' ∧ va A' l = 1))
theorem St.made (hs : Sane n cs ls) (h : St B n cs ls p w A Wd H T S Q L R) {l : Int} (hl : inR n l) (hd : Der cs ls l) {e : Ending} (hm : MakeEnd B n cs.length p A Wd H T S Q l w e w') : ∃ b, e = .returned (.bool b) ∧ MadeEnd B n cs ls p A Wd H T S L R l w b w' := by
  obtain ⟨he, hb, hm1, hm2⟩ := hm
  have ht := va_tri h.asg.tri l
  by_cases h0 : va A l = 0
  · have hf := hm2 h0
    have hz := zeros_make hl h0
    refine ⟨true, by rw [he, h0]; rfl, hb, .inr ⟨rfl, setL A l, Q ++ [l], ⟨hf, h.asg.make hl h0 hd, h.wat.make hs h.asg hl h0, ?_, h.cl.below hb⟩, fun x hx hv => (va_mono hl.1 hx h0).1 hv, by rw [va_setL hl.1 hl.1, if_pos rfl]⟩⟩
    have := h.qb; rw [List.length_append, List.length_singleton]; omega
  · by_cases h1 : va A l = 1
    · exact ⟨true, by rw [he, h1]; rfl, hb, .inr ⟨rfl, A, Q, ⟨hm1 h0, h.asg, h.wat, h.qb, h.cl.below hb⟩, Grow.refl _, h1⟩⟩
    · have h2 : va A l = -1 := by omega
      exact ⟨false, by rw [he, h2]; rfl, hb, .inl ⟨rfl, .inr ⟨l, hd, h.asg.snd _ hl.neg (by rw [va_neg hl.1, h2]; decide)⟩⟩⟩
theorem no_any (hx : Ctx n cs ls) (h : St B n cs ls p w A Wd H T S Q L R) (hg : p.gv = .pointer (some ⟨p.F, 0, none⟩)) {l : Int} (hl : inR n l) (hd : Der cs ls l) (hB : B ≤ w.heap.size) :
    Calls Tryd.prog 45 #[.int .i64 l, .pointer (some ⟨p.G, 0, none⟩)] w fun e w' => ∃ b, e = .returned (.bool (!b)) ∧ MadeEnd B n cs ls p A Wd H T S L R l w b w' := by
  have HM := Lib.hid (make_any h.fol h.asg.tri hl hx.hn (by have := h.qb; have := hx.hn; omega) hB)
  have HMD := Lib.hid (fun e w' hm => h.made (e := e) (w' := w') hx.sane hl hd hm)
  have cg := h.fol.cg
  rw [hg] at cg
  clear h hd hx
  go_enter Tryd.func45, Tryd.ntmps45
  go_wp2_with fail
  refine HM.out.mono ?_
  intro e w' hm
  obtain ⟨b, rfl, hb⟩ := HMD.out e w' hm
  have HB := Lib.hid hb
  clear hm hb HM HMD
  go_wp2_with fail
  go_ret
  exact ⟨b, rfl, HB.out⟩
/-- The literals that are told. -/
def SomeEnd (B n : Nat) (cs : List (List Int)) (ls : List Int) (p : FolS) (A Wd H T S : Nat → Int) (L : Int → List Nat) (w : World) (e : Ending) (w' : World) : Prop :=
  Below B w w' ∧ ((e = .returned (.bool true) ∧ Conf cs ls) ∨ (e = .returned (.bool false) ∧ ∃ A' Q', St B n cs ls p w' A' Wd H T S Q' L [] ∧ Grow A A' ∧ ∀ l, l ∈ ls → va A' l = 1))
def Jsome (B n : Nat) (cs : List (List Int)) (ls : List Int) (p : FolS) (A Wd H T S : Nat → Int) (L : Int → List Nat) (w : World) (k : Nat) (wr : World) : Prop :=
  ∃ A' Q', St B n cs ls p wr A' Wd H T S Q' L [] ∧ Grow A A' ∧ (∀ j, j < k → va A' (ls.getD j 0) = 1) ∧ Below B w wr
set_option maxRecDepth 100000 in
set_option maxHeartbeats 1000000 in
theorem some_no (hx : Ctx n cs ls) (h : St B n cs ls p w A Wd H T S Q L []) (hg : p.gv = .pointer (some ⟨p.F, 0, none⟩)) (hB : B ≤ w.heap.size) (a : Option Addr) (k cap : Nat) (hk : ls.length = k) (hkm : k ≤ 9223372036854775807) (hl : Nums B w a ls) :
    Calls Tryd.prog 23 #[.slice a k cap, .func (.func 45) #[] #[.pointer (some ⟨p.G, 0, none⟩)]] w (SomeEnd B n cs ls p A Wd H T S L w) := by
  have HX := Lib.hid hx
  have HK := Lib.hid hk
  have HL := Lib.hid hl
  have HBS : Hid (∀ w', Below B w w' → B ≤ w'.heap.size) := fun w' hb => Nat.le_trans hB hb.size
  have HJ0 : Hid (Jsome B n cs ls p A Wd H T S L w 0 w) := ⟨A, Q, h, Grow.refl _, fun j hj => absurd hj (Nat.not_lt_zero _), Below.refl _ _⟩
  have HNO := Lib.hid (fun (A' : Nat → Int) (Q' : List Int) (W : World) (hs : St B n cs ls p W A' Wd H T S Q' L []) (l : Int) (hl : l ∈ ls) (hB' : B ≤ W.heap.size) => no_any hx hs hg (hx.sane.hl l hl) (.told hl) hB')
  clear h hx hk hl
  go_enter Tryd.func23, Tryd.ntmps23
  go_wp2_with fail
  go_loopw [9] (fun i wr => ∃ j : Nat, j ≤ k ∧ i = .int .i64 j ∧ Hid (Jsome B n cs ls p A Wd H T S L w j wr)) (fun i _ => k - (intOf i).toNat)
  case atStart => exact ⟨0, Nat.zero_le _, rfl, HJ0⟩
  case round =>
    clear HJ0
    obtain ⟨j, hj, rfl, hJ⟩ := hrel
    by_cases hlt : j < k
    · obtain ⟨A1, Q1, hst, hgr, hal, hbw⟩ := hJ.out
      obtain ⟨b, off, rfl, hblt, c1⟩ := (HL.out.below hbw) j (by rw [HK.out]; exact hlt)
      have hmem : ls.getD j 0 ∈ ls := by rw [List.getD_eq_getElem?_getD, List.getElem?_eq_getElem (by rw [HK.out]; exact hlt)]; exact List.getElem_mem _
      have HC := Lib.hid (HNO.out A1 Q1 wr hst _ hmem (HBS.out _ hbw))
      have HNX : Hid (∀ w' A2 Q2, Below B wr w' → St B n cs ls p w' A2 Wd H T S Q2 L [] → Grow A1 A2 → va A2 (ls.getD j 0) = 1 → Jsome B n cs ls p A Wd H T S L w (j + 1) w') := fun w' A2 Q2 hb hs hg2 hv =>
        ⟨A2, Q2, hs, hgr.trans hg2, fun i hi => by
          by_cases e : i = j
          · subst e; exact hv
          · exact hg2 _ (by
              have hm2 : ls.getD i 0 ∈ ls := by rw [List.getD_eq_getElem?_getD, List.getElem?_eq_getElem (by rw [HK.out]; omega)]; exact List.getElem_mem _
              exact (HX.out.sane.hl _ hm2).1) (hal i (by omega)), hbw.trans hb⟩
      have HBW := Lib.hid hbw
      clear hst hgr hal hbw hJ hmem
      generalize ls.getD j 0 = l at c1 HC HNX
      go_wp2_with (first | (go_at_call 45; refine HC.out.mono ?_))
      rintro e w' ⟨b9, rfl, hb', ⟨rfl, hcf⟩ | ⟨rfl, A2, Q2, h1, h2, h3⟩⟩
      · have HC9 := Lib.hid hcf
        have HB9 := Lib.hid (HBW.out.trans hb')
        clear hcf hb' HC HNX HNO
        go_wp2_with fail
        go_ret
        exact ⟨HB9.out, .inl ⟨rfl, HC9.out⟩⟩
      · have HJ9 := Lib.hid (HNX.out w' A2 Q2 hb' h1 h2 h3)
        clear h1 h2 h3 hb' HC HNX HNO
        go_wp2_with fail
        go_roundw
        case rel => exact ⟨j + 1, by omega, by go_num, HJ9⟩
        case measure => simp [intOf]; omega
    · obtain rfl : j = k := by omega
      have HE : Hid (SomeEnd B n cs ls p A Wd H T S L w (.returned (.bool false)) wr) := by
        obtain ⟨A1, Q1, hst, hgr, hal, hbw⟩ := hJ.out
        refine ⟨hbw, .inr ⟨rfl, A1, Q1, hst, hgr, fun l hl => ?_⟩⟩
        obtain ⟨i, hi, rfl⟩ := List.getElem_of_mem hl
        have := hal i (by rw [← HK.out]; exact hi)
        rwa [List.getD_eq_getElem?_getD, List.getElem?_eq_getElem hi] at this
      clear hJ HNO
      go_wp2_with fail
      go_ret
      exact HE.out
/-- All that is told, and what clauses of one literal say. -/
def ToldEnd (B n : Nat) (cs : List (List Int)) (ls : List Int) (p : FolS) (Wd H T S : Nat → Int) (L : Int → List Nat) (w : World) (e : Ending) (w' : World) : Prop :=
  Below B w w' ∧ ((e = .returned (.bool false) ∧ Conf cs ls) ∨ (e = .returned (.bool true) ∧ ∃ A' Q', St B n cs ls p w' A' Wd H T S Q' L [] ∧ (∀ l, l ∈ ls → va A' l = 1) ∧ ∀ c, c ∈ cs → ¬ act c → c ≠ [] ∧ va A' (c.headD 0) = 1))
def Jtold (B n : Nat) (cs : List (List Int)) (ls : List Int) (p : FolS) (Wd H T S : Nat → Int) (L : Int → List Nat) (w : World) (k : Nat) (wr : World) : Prop :=
  ∃ A' Q', St B n cs ls p wr A' Wd H T S Q' L [] ∧ (∀ l, l ∈ ls → va A' l = 1) ∧ (∀ j, j < k → ¬ act (cs.getD j []) → cs.getD j [] ≠ [] ∧ va A' ((cs.getD j []).headD 0) = 1) ∧ Below B w wr
theorem der_unit {c : List Int} (hc : c ∈ cs) (ha : ¬ act c) (hne : c ≠ []) : Der cs ls (c.headD 0) := by
  cases c with
  | nil => exact absurd rfl hne
  | cons y r => exact .rule hc List.mem_cons_self (fun x hx hne => absurd ⟨x, hx, hne⟩ ha)
end
end Go.Proofs.YtlnkgemndojdnaaDoor
