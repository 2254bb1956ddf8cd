/- The follower's look: its walk. -/
import Derived.Test.YtlnkgemndojdnaaDoorPrpD
set_option linter.unusedVariables false
set_option linter.unusedSimpArgs false
namespace Go.Proofs.YtlnkgemndojdnaaDoor
set_option maxRecDepth 100000
open Go.RowKit

theorem St.below {B n : Nat} {cs : List (List Int)} {ls : List Int} {p : FolS} {w w' : World} {A Wd H T S : Nat → Int} {Q : List Int} {L : Int → List Nat} {R : List Nat} (h : St B n cs ls p w A Wd H T S Q L R) (hb : Below w.heap.size w w') (hB : B ≤ w.heap.size) : St B n cs ls p w' A Wd H T S Q L R :=
  ⟨h.fol.below hb, h.asg, h.wat, h.qb, h.cl.below (hb.mono hB)⟩
theorem LookEnd.from {B n : Nat} {cs : List (List Int)} {ls : List Int} {p : FolS} {A T : Nat → Int} {Q : List Int} {d : Int} {x : Nat} {R : List Nat} {w w1 w' : World} {e : Ending} (hb : Below B w w1) (h : LookEnd B n cs ls p A T Q d x R w1 e w') : LookEnd B n cs ls p A T Q d x R w e w' := ⟨hb.trans h.1, h.2⟩

set_option maxRecDepth 100000 in
set_option maxHeartbeats 2000000 in
theorem look_any {B n : Nat} {cs : List (List Int)} {ls : List Int} {p : FolS} {w : World} {A Wd H T S : Nat → Int} {Q : List Int} {L : Int → List Nat} {R : List Nat} {d : Int} {x : Nat} (hx : Ctx n cs ls) (h : St B n cs ls p w A Wd H T S Q L (x :: R)) (hr : Rest cs n A Q Wd T d x (x :: R)) (hB : B ≤ w.heap.size) :
    Calls Tryd.prog 48 #[.pointer (some ⟨p.F, 0, none⟩), .int .i64 x] w (LookEnd B n cs ls p A T Q d x R w) := by
  obtain ⟨c, hc, hact⟩ := (hr.mem x List.mem_cons_self).1
  obtain ⟨r1, r2, r3, _⟩ := act_inR hx.sane h.wat (hr.mem x List.mem_cons_self).1
  have hd : Below w.heap.size w w.drew := (Below.refl _ w).drew
  have h' := h.below hd hB
  have c2 := h.fol.c2
  have hcm : c ∈ cs := List.mem_of_getElem? hc
  have hil : x / 2 < cs.length := (List.getElem?_eq_some_iff.1 hc).1
  have hm := hx.hm
  have hck := hx.hk c hcm
  have hcg : cs.getD (x / 2) [] = c := by rw [List.getD_eq_getElem?_getD, hc]; rfl
  have hox : oth x < 2 * cs.length := by have := oth_div x; omega
  have hxm : x < 2 * cs.length := by omega
  have aw := h.fol.aW _ hox
  have c0 := h'.fol.c0
  have c5 := h'.fol.c5
  have as0 := h'.fol.aS _ hil
  obtain ⟨t1, t2, t3, t4, t5, t6⟩ := h.wat.two _ c hc hact
  obtain ⟨b, off, ta, tcap, hca, hblt, ccell, cnums⟩ := h'.cl _ hil
  rw [hcg] at ccell cnums
  have HVO := Lib.hid (value_any h'.fol h'.asg.tri r2 hx.hn)
  have HV := Lib.hid (fun l (hl : inR n l) => value_any h'.fol h'.asg.tri hl hx.hn)
  have HCR := Lib.hid (hx.sane.hc c hcm)
  have HTRI := Lib.hid (va_tri h.asg.tri)
  have HTR := Lib.hid (fun (ho : va A (Wd (oth x)) = 1) => LookEnd.from (hd.mono hB) (look_true h' hr ho))
  have HMV : Hid (∀ m, m < c.length → c.getD m 0 ≠ Wd (oth x) → 0 ≤ va A (c.getD m 0) → (∀ k, k < m → c.getD k 0 = Wd (2 * (x / 2)) ∨ c.getD k 0 = Wd (2 * (x / 2) + 1) ∨ va A (c.getD k 0) = -1) → ∀ w' : World, Fol B n cs.length p w' A (upd Wd x (c.getD m 0)) (upd H (place (c.getD m 0)) x) (upd T x (H (place (c.getD m 0)))) (upd S (x / 2) (m + 1 : Nat)) Q → Below B w.drew w' → LookEnd B n cs ls p A T Q d x R w (.returned (.bool true)) w') :=
    fun m hm h1 h2 hk w' hf hb => LookEnd.from (hd.mono hB) (look_move hx.sane h' hr hc hm h1 h2 hk hf hb)
  have HMK : Hid ((∀ k, k < c.length → c.getD k 0 = Wd (2 * (x / 2)) ∨ c.getD k 0 = Wd (2 * (x / 2) + 1) ∨ va A (c.getD k 0) = -1) → va A (Wd (oth x)) ≤ 0 → ∀ (w1 w' : World) (e : Ending), Below B w.drew w1 → MakeEnd B n cs.length p A Wd H T (upd S (x / 2) (c.length : Nat)) Q (Wd (oth x)) w1 e w' → LookEnd B n cs ls p A T Q d x R w e w') :=
    fun hk hno w1 w' e hb1 hm => LookEnd.from (hd.mono hB) (look_make hx.sane h' hr hc hk hno hb1 hm)
  have HWA := Lib.hid (fun m (hm : m < c.length) (w1 : World) (hf : Fol B n cs.length p w1 A Wd H T (upd S (x / 2) (m + 1 : Nat)) Q) => watch_any hf (hx.sane.hc c hcm (c.getD m 0) (by rw [List.getD_eq_getElem?_getD, List.getElem?_eq_getElem hm]; exact List.getElem_mem hm)) hx.hn hxm hx.hm)
  have HMA := Lib.hid (fun (w1 : World) (hf : Fol B n cs.length p w1 A Wd H T (upd S (x / 2) (c.length : Nat)) Q) (hB1 : B ≤ w1.heap.size) => make_any hf h.asg.tri r2 hx.hn (by have := h.qb; have := hx.hn; omega) hB1)
  have HSE := Lib.hid (fun v => h'.fol.setS hil v)
  have HSB : Hid (∀ v, Below B w.drew (w.drew.setCell ⟨p.S, x / 2, none⟩ (.int .i64 v))) := fun v => (Below.refl B w.drew).setCell (p := ⟨p.S, x / 2, none⟩) (h.fol.lo _ p.inS).1 _
  have HSC : Hid (w.drew.frozen? ⟨p.S, x / 2, none⟩ = false) := h'.fol.fr _ p.inS _
  have hxor := bits_xor_one x (by omega)
  have hdiv : ((x : Int)).tdiv 2 = ((x / 2 : Nat) : Int) := rfl
  have hol : (oth x : Int) < (2 * cs.length : Nat) := by omega
  have hil2 : ((x / 2 : Nat) : Int) < (cs.length : Nat) := by omega
  have hwo := HTRI.out (Wd (oth x))
  have hox2 : x % 2 = 0 → Wd (oth x) = Wd (2 * (x / 2) + 1) := fun e => by unfold oth; rw [if_pos e]; congr 1; omega
  have hox1 : x % 2 = 1 → Wd (oth x) = Wd (2 * (x / 2)) := fun e => by unfold oth; rw [if_neg (by omega)]; congr 1; omega
  generalize Wd (oth x) = o at hox1 hox2 aw HVO HTR HMV HMK HMA hwo r2 r3
  generalize oth x = ox at hxor hol aw hox c2
  have HB1 : Hid (B ≤ w.drew.heap.size) := hB
  have hil3 : Hid ((x : Int) / 2 = ((x / 2 : Nat) : Int)) := by show _ = _; omega
  clear h hr hx hact hc hcg t1 t2 t3 h' hd
  go_enter Tryd.func48, Tryd.ntmps48
  go_wp2_with fail
  go_region
  rw [hil3.out]
  clear aw c2 hdiv hxor hil3
  generalize w.drew = w1 at HVO HV HTR HMV HMK HWA HMA HSE HSB HSC HB1 c0 c5 as0 ccell cnums ⊢
  go_wp2_with fail
  refine HVO.out.mono ?_
  rintro e w' ⟨rfl, rfl⟩
  by_cases ho : va A o = 1
  · have HT := Lib.hid (HTR.out ho)
    rw [ho]
    clear HTR HMV HMK HMA HWA HSE HSB HSC HV HVO
    go_wp2_with fail
    go_ret
    exact HT.out
  · have hno : ¬ 0 < va A o := by omega
    generalize hvo : va A o = vo at HVO hno
    have hno2 : va A o ≤ 0 := by omega
    clear HTR HVO hwo ho
    obtain ⟨s0, hs0⟩ := Int.eq_ofNat_of_zero_le t4
    rw [hs0] at as0 t5 t6
    rw [Int.toNat_natCast] at t6
    have hsl : s0 ≤ c.length := by omega
    have T6 := Lib.hid t6
    have HCN := Lib.hid cnums
    rw [hca] at c0
    clear t4 t5 hs0 t6 cnums hca
    generalize x / 2 = i at *
    go_wp2_with fail
    go_loop [8] (fun k => ∃ j : Nat, s0 ≤ j ∧ j ≤ c.length ∧ k = .int .i64 j ∧ Hid (∀ k, k < j → c.getD k 0 = Wd (2 * i) ∨ c.getD k 0 = Wd (2 * i + 1) ∨ va A (c.getD k 0) = -1)) (fun k => c.length - (intOf k).toNat)
    case atStart => exact ⟨s0, Nat.le_refl _, hsl, rfl, T6⟩
    case round =>
      obtain ⟨j, hj0, hj, rfl, hk⟩ := hrel
      by_cases hlt : j < c.length
      · obtain ⟨b2, off2, rfl, hb2, n1⟩ := HCN.out j hlt
        have hmem : c.getD j 0 ∈ c := by rw [List.getD_eq_getElem?_getD, List.getElem?_eq_getElem hlt]; exact List.getElem_mem hlt
        have HVJ := Lib.hid (HV.out _ (HCR.out _ hmem))
        have HVT := HTRI.out (c.getD j 0)
        have hstep : c.getD j 0 = o ∨ va A (c.getD j 0) = -1 → Hid (∀ k, k < j + 1 → c.getD k 0 = Wd (2 * i) ∨ c.getD k 0 = Wd (2 * i + 1) ∨ va A (c.getD k 0) = -1) := fun h k hk2 => by
          by_cases e : k = j
          · subst e
            rcases h with h | h
            · rcases Nat.mod_two_eq_zero_or_one x with e2 | e2
              · exact .inr (.inl (h.trans (hox2 e2)))
              · exact .inl (h.trans (hox1 e2))
            · exact .inr (.inr h)
          · exact hk.out k (by omega)
        have HM := Lib.hid (HMV.out j hlt)
        have HW := Lib.hid (HWA.out j hlt)
        clear hmem
        generalize c.getD j 0 = y at n1 HVJ HVT hstep HM HW
        by_cases hy : y = o
        · have HK := hstep (.inl hy)
          clear hstep HM HW HVJ HVT
          subst hy
          go_wp2_with fail
          go_round
          case rel => exact ⟨j + 1, by omega, by omega, by go_num, HK⟩
          case measure => simp [intOf]; omega
        · by_cases hv : va A y = -1
          · have HK := hstep (.inr hv)
            rw [hv] at HVJ
            clear hstep HM HW HVT
            go_wp2_with fail
            refine HVJ.out.mono ?_
            rintro e w' ⟨rfl, rfl⟩
            go_wp2_with fail
            go_round
            case rel => exact ⟨j + 1, by omega, by omega, by go_num, HK⟩
            case measure => simp [intOf]; omega
          · have hv2 : 0 ≤ va A y := by omega
            have HM2 := Lib.hid (HM.out hy hv2 hk.out)
            generalize va A y = vy at HVJ hv2
            clear hstep HM HVT hv
            have HF := Lib.hid (HSE.out ((j : Int) + 1))
            have HBS := Lib.hid (HSB.out ((j : Int) + 1))
            have HW2 := Lib.hid (HW.out _ HF.out)
            have hsc := HSC.out
            have n2 : (w1.setCell ⟨p.S, i, none⟩ (.int .i64 ((j : Int) + 1))).cell? ⟨b2, off2 + j, none⟩ = some (.int .i64 y) := (HBS.out.cell (p := ⟨b2, _, none⟩) hb2).trans n1
            go_wp2_with fail
            refine HVJ.out.mono ?_
            rintro e w' ⟨rfl, rfl⟩
            go_wp2_with fail
            refine HW2.out.mono ?_
            rintro e w' ⟨rfl, hf, hb⟩
            have HM3 := Lib.hid (HM2.out _ hf (HBS.out.trans hb))
            clear hf hb
            go_wp2_with fail
            go_ret
            exact HM3.out
      · obtain rfl : j = c.length := by omega
        have HF := Lib.hid (HSE.out (c.length : Nat))
        have HBS := Lib.hid (HSB.out (c.length : Nat))
        have HM9 := Lib.hid (HMA.out _ HF.out (by rw [World.size_setCell]; exact HB1.out))
        have HK9 := Lib.hid (HMK.out hk.out hno2)
        have hsc := HSC.out
        clear hk HMK HMA HMV HWA HV HTRI HCR
        go_wp2_with fail
        refine HM9.out.mono ?_
        rintro e w' ⟨rfl, hrest⟩
        have HR := Lib.hid hrest
        clear hrest
        rw [hvo] at HR ⊢
        go_wp2_with fail
        go_ret
        refine HK9.out _ _ _ HBS.out ⟨?_, by rw [hvo]; exact HR.out⟩
        rw [hvo]; rfl
end Go.Proofs.YtlnkgemndojdnaaDoor
