/- The follower's told: its walk. -/
import Derived.Test.YtlnkgemndojdnaaDoorPrpG
set_option linter.unusedVariables false
set_option linter.unusedSimpArgs false
namespace Go.Proofs.YtlnkgemndojdnaaDoor
set_option maxRecDepth 100000
open Go.RowKit

/-- The follower, the captured variable guarded. -/
def gd (p : FolS) (g : Nat) : FolS := { p with G := g, gv := .pointer (some ⟨p.F, 0, none⟩) }
set_option maxRecDepth 100000 in
set_option maxHeartbeats 2000000 in
theorem told_any {B n : Nat} {cs : List (List Int)} {ls : List Int} {p : FolS} {w : World} {A Wd H T S : Nat → Int} {Q : List Int} {L : Int → List Nat} (hx : Ctx n cs ls) (h : St B n cs ls p w A Wd H T S Q L []) (hB : B ≤ w.heap.size)
    (hone : ∀ i c, cs[i]? = some c → ¬ act c → S i = c.length + 1) (a : Option Addr) (k cap : Nat) (hk : ls.length = k) (hkm : k ≤ 9223372036854775807) (hl : Nums B w a ls) :
    Calls Tryd.prog 40 #[.pointer (some ⟨p.F, 0, none⟩), .slice a k cap] w (ToldEnd B n cs ls (gd p w.heap.size) Wd H T S L w) := by
  have hb0 : Below w.heap.size w (w.alloc (.cells #[.pointer (some ⟨p.F, 0, none⟩)] 74)) := (Below.refl _ w).alloc (Nat.le_refl _) _
  have hst : St B n cs ls (gd p w.heap.size) (w.alloc (.cells #[.pointer (some ⟨p.F, 0, none⟩)] 74)) A Wd H T S Q L [] :=
    ⟨h.fol.guard hB _ _, h.asg, h.wat, h.qb, h.cl.below (hb0.mono hB)⟩
  have hB1 : B ≤ (w.alloc (.cells #[.pointer (some ⟨p.F, 0, none⟩)] 74)).heap.size := Nat.le_trans hB hb0.size
  have HSM := Lib.hid (some_no hx hst rfl hB1 a k cap hk hkm (hl.below (hb0.mono hB)))
  have HB0 : Hid (Below B w (w.alloc (.cells #[.pointer (some ⟨p.F, 0, none⟩)] 74))) := hb0.mono hB
  have HBS : Hid (∀ w', Below B w w' → B ≤ w'.heap.size) := fun w' hb => Nat.le_trans hB hb.size
  have HONE := Lib.hid hone
  have HX := Lib.hid hx
  have hm := hx.hm
  have HNO := Lib.hid (fun (A' : Nat → Int) (Q' : List Int) (W : World) (hs : St B n cs ls (gd p w.heap.size) W A' Wd H T S Q' L []) (l : Int) (hl : inR n l) (hd : Der cs ls l) (hB' : B ≤ W.heap.size) => no_any hx hs rfl hl hd hB')
  clear h hx hst hb0 hB1 hone hk hl
  have e2 : (gd p w.heap.size).F = p.F := rfl
  have e3 : (gd p w.heap.size).G = w.heap.size := rfl
  have e4 : (gd p w.heap.size).gv = .pointer (some ⟨p.F, 0, none⟩) := rfl
  generalize hgd : gd p w.heap.size = p' at HSM HNO e2 e3 e4 ⊢
  rw [e3] at HSM HNO
  clear hgd
  go_enter Tryd.func40, Tryd.ntmps40
  go_wp2_with fail
  refine HSM.out.mono ?_
  rintro e w1 ⟨hb1, ⟨rfl, hcf⟩ | ⟨rfl, A1, Q1, hst, hgr, hal⟩⟩
  · have HC9 := Lib.hid hcf
    have HB9 := Lib.hid (HB0.out.trans hb1)
    clear hcf hb1 HSM HNO
    go_wp2_with fail
    go_ret
    exact ⟨HB9.out, .inl ⟨rfl, HC9.out⟩⟩
  · have HB1 := Lib.hid (HB0.out.trans hb1)
    have HJ0 : Hid (Jtold B n cs ls p' Wd H T S L w 0 w1) := ⟨A1, Q1, hst, hal, fun j hj => absurd hj (Nat.not_lt_zero _), HB1.out⟩
    have cg := hst.fol.cg
    have c0 := hst.fol.c0
    rw [e3, e4] at cg
    rw [e2] at c0
    clear hst hgr hal hb1 HSM HB0
    generalize w.heap.size = g at *
    go_wp2_with fail
    clear cg c0
    go_loopw [17] (fun i wr => ∃ j : Nat, j ≤ cs.length ∧ i = .int .i64 j ∧ Hid (Jtold B n cs ls p' Wd H T S L w j wr)) (fun i _ => cs.length - (intOf i).toNat)
    case atStart => exact ⟨0, Nat.zero_le _, rfl, HJ0⟩
    case round =>
      clear HJ0
      obtain ⟨j, hj, rfl, hJ⟩ := hrel
      by_cases hlt : j < cs.length
      · obtain ⟨A2, Q2, hst, hal, hun, hbw⟩ := hJ.out
        obtain ⟨b, off, ta, tcap, hca, hblt, cc, cn⟩ := hst.cl j hlt
        have cg := hst.fol.cg
        have c5 := hst.fol.c5
        have a5 := hst.fol.aS j hlt
        rw [e3, e4] at cg
        rw [e2] at c5
        have hcj : cs[j]? = some (cs.getD j []) := by rw [List.getD_eq_getElem?_getD, List.getElem?_eq_getElem hlt]; rfl
        have hmem : cs.getD j [] ∈ cs := List.mem_of_getElem? hcj
        have hcl := HX.out.hk _ hmem
        have hjl : (j : Int) < (cs.length : Nat) := by omega
        have HNX : Hid (∀ w' A3 Q3, Below B wr w' → St B n cs ls p' w' A3 Wd H T S Q3 L [] → Grow A2 A3 → (¬ act (cs.getD j []) → cs.getD j [] ≠ [] ∧ va A3 ((cs.getD j []).headD 0) = 1) → Jtold B n cs ls p' Wd H T S L w (j + 1) w') := fun w' A3 Q3 hb hs hg hv =>
          ⟨A3, Q3, hs, fun l hl => hg l (HX.out.sane.hl l hl).1 (hal l hl), fun i hi ha => by
            by_cases e : i = j
            · subst e; exact hv ha
            · obtain ⟨g1, g2⟩ := hun i (by omega) ha
              refine ⟨g1, hg _ ?_ g2⟩
              have hm2 : cs.getD i [] ∈ cs := by rw [List.getD_eq_getElem?_getD, List.getElem?_eq_getElem (show i < cs.length by omega)]; exact List.getElem_mem _
              cases hc2 : cs.getD i [] with
              | nil => exact absurd hc2 g1
              | cons y r => rw [hc2] at hm2; exact (HX.out.sane.hc _ hm2 y List.mem_cons_self).1, hbw.trans hb⟩
        have HBW := Lib.hid hbw
        have HT := Lib.hid hst.wat.two
        have HST := Lib.hid hst
        rw [hca]
        clear hal hun hbw hJ hst hca
        cases hc : cs.getD j [] with
        | nil =>
          have HC9 : Hid (Conf cs ls) := .inl (by rw [← hc]; exact hmem)
          rw [hc] at cc
          simp only [List.length_nil] at cc
          clear HNX HNO HT HST cn
          go_wp2_with fail
          go_ret
          exact ⟨HBW.out, .inl ⟨rfl, HC9.out⟩⟩
        | cons y r =>
          rw [hc] at cc cn hmem hcj HNX hcl
          have hrl : (y :: r).length = r.length + 1 := rfl
          rw [hrl] at cc hcl
          by_cases ha : act (y :: r)
          · have hS := (HT.out j _ hcj ha).2.2.2.2.1
            rw [hrl] at hS
            have HJ9 := Lib.hid (HNX.out wr A2 Q2 (Below.refl _ _) HST.out (Grow.refl _) (fun hn => absurd ha hn))
            clear HNX HNO HT HST cn ha hmem hc hcj
            generalize S j = s at a5 hS
            go_wp2_with fail
            go_roundw
            case rel => exact ⟨j + 1, by omega, by go_num, HJ9⟩
            case measure => simp [intOf]; omega
          · have hS := HONE.out j _ hcj ha
            rw [hrl] at hS
            obtain ⟨b2, off2, rfl, hb2, n1⟩ := cn 0 (by simp)
            have n1 : wr.cell? ⟨b2, off2, none⟩ = some (.int .i64 y) := n1
            have hyr := HX.out.sane.hc _ hmem y List.mem_cons_self
            have HC := Lib.hid (HNO.out A2 Q2 wr HST.out y hyr (der_unit (ls := ls) hmem ha (by simp)) (HBS.out _ HBW.out))
            have hr0 : (0 : Int) < ((r.length + 1 : Nat) : Int) := by omega
            clear HNO HT HST cn ha hmem hc hcj hyr
            generalize S j = s at a5 hS
            go_wp2_with (first | (go_at_call 45; refine HC.out.mono ?_))
            rintro e w' ⟨b9, rfl, hb', ⟨rfl, hcf⟩ | ⟨rfl, A3, Q3, h1, h2, h3⟩⟩
            · have HC9 := Lib.hid hcf
              have HB9 := Lib.hid (HBW.out.trans hb')
              clear hcf hb' HC HNX
              go_wp2_with fail
              go_ret
              exact ⟨HB9.out, .inl ⟨rfl, HC9.out⟩⟩
            · have HJ9 := Lib.hid (HNX.out w' A3 Q3 hb' h1 h2 (fun _ => ⟨by simp, h3⟩))
              clear h1 h2 h3 hb' HC HNX
              go_wp2_with fail
              go_roundw
              case rel => exact ⟨j + 1, by omega, by go_num, HJ9⟩
              case measure => simp [intOf]; omega
      · obtain rfl : j = cs.length := by omega
        have HE : Hid (ToldEnd B n cs ls p' Wd H T S L w (.returned (.bool true)) wr) := by
          obtain ⟨A2, Q2, hst, hal, hun, hbw⟩ := hJ.out
          refine ⟨hbw, .inr ⟨rfl, A2, Q2, hst, hal, fun c hc ha => ?_⟩⟩
          obtain ⟨i, hi, rfl⟩ := List.getElem_of_mem hc
          have := hun i hi
          rw [List.getD_eq_getElem?_getD, List.getElem?_eq_getElem hi] at this
          exact this ha
        clear hJ HNO
        go_wp2_with fail
        go_ret
        exact HE.out
end Go.Proofs.YtlnkgemndojdnaaDoor
