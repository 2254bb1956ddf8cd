/- prop.Follow. -/
import Derived.Test.YtlnkgemndojdnaaDoorPrpN
import Derived.Test.YtlnkgemndojdnaaDoorPrpL0
set_option linter.unusedVariables false
set_option linter.unusedSimpArgs false
namespace Go.Proofs.YtlnkgemndojdnaaDoor
set_option maxRecDepth 100000
open Go.RowKit

def BeginSaid : Prop := ∀ (n : Nat) (cs : List (List Int)) (ls : List Int) (w : World), Ctx n cs ls → ∀ (a : Option Addr) (cap : Nat), CLies w.heap.size w a cs → Calls Tryd.prog 39 #[.int .i64 n, .slice a cs.length cap] w (BeginEnd n cs ls w)
def fK (n : Int) (cs : List (List Int)) (ls : List Int) : Int := if chkK n cs ≠ 0 then chkK n cs else if litsB n ls = true then 0 else 5
def FEnd (n : Int) (cs : List (List Int)) (ls : List Int) (w : World) (e : Ending) (w' : World) : Prop :=
  Below w.heap.size w w' ∧ ∃ v b, e = .returned (.tuple #[v, .bool b, codeV (fK n cs ls)]) ∧ (fK n cs ls ≠ 0 → v = .slice none 0 0 ∧ b = false) ∧
    (fK n cs ls = 0 → ∃ (m : Nat) (A : Nat → Int), n = m ∧ m ≤ 8192 ∧ Sane m cs ls ∧ FollowIs m cs ls b A ∧ (b = true → v = .slice none 0 0) ∧ (b = false → ∃ I, v = .slice (some ⟨I, 0, none⟩) (m + 1) (m + 1) ∧ w.heap.size ≤ I ∧ I < w'.heap.size ∧ Arr w' I (m + 1) A ∧ ∀ o, w'.frozen? ⟨I, o, none⟩ = false))
theorem codeV_zero : codeV 0 = .nilIface := rfl
theorem codeV_ne {k : Int} (h : k ≠ 0) : codeV k = .iface 36 (.int .i64 k) := if_neg h
theorem Tryd.neIface (t : TypeId) (v : Value) (w : World) : (binOp .neq 26 (.iface t v) .nilIface).run Tryd.prog w = .ok (.bool true) w := by simp [go_sem]
theorem Tryd.neNil (w : World) : (binOp .neq 26 .nilIface .nilIface).run Tryd.prog w = .ok (.bool false) w := by simp [go_sem]
set_option maxRecDepth 100000 in
set_option maxHeartbeats 2000000 in
theorem follow_any (hbeg : BeginSaid) (n : Int) (a : Option Addr) (m cap : Nat) (cs : List (List Int)) (a2 : Option Addr) (k cap2 : Nat) (ls : List Int) (w : World) (hm : cs.length = m) (hmm : m ≤ 9223372036854775807) (hl : CLies w.heap.size w a cs) (hk : m ≤ 16384 → ∀ j, j < m → (cs.getD j []).length ≤ 4611686018427387904) (hln : ls.length = k) (hlm : k ≤ 9223372036854775807) (hll : Nums w.heap.size w a2 ls) :
    Calls Tryd.prog 28 #[.int .i64 n, .slice a m cap, .slice a2 k cap2] w (FEnd n cs ls w) := by
  have HCK := Lib.hid (check_any n a m cap cs w hm hmm hl hk)
  have n1 := fun t v W => Tryd.neIface t v W
  have n2 := fun W => Tryd.neNil W
  by_cases h0 : chkK n cs = 0
  · obtain ⟨n0, rfl, hn, hm2, hkk, hcs⟩ := chkK_zero h0
    rw [h0, codeV_zero] at HCK
    have HSN := Lib.hid (fun W (hb : Below w.heap.size w W) => sound_any n0 ⟨by omega, by omega⟩ a2 k cap2 ls W hln hlm ((hll.below hb).mono hb.size))
    by_cases hls : litsB n0 ls = true
    · have hfk : fK n0 cs ls = 0 := by unfold fK; rw [if_neg (by rw [h0]; decide), if_pos hls]
      have hx : Ctx n0 cs ls := ⟨⟨hcs, litsB_iff.1 hls⟩, hn, hm2, hkk⟩
      have HX := Lib.hid hx
      have HBG := Lib.hid (fun W (hb : Below w.heap.size w W) => by
        have := hbeg n0 cs ls W hx a cap ((hl.below hb).mono hb.size)
        rw [hm] at this; exact this)
      have HLL := Lib.hid (fun W (hb : Below w.heap.size w W) => hll.below hb)
      have HC : Hid (∀ (w' : World) (e : Ending), Below w.heap.size w w' → e = .returned (.tuple #[.slice none 0 0, .bool true, .nilIface]) → Conf cs ls → FEnd n0 cs ls w e w') := fun w' e hb he hc =>
        ⟨hb, _, true, by rw [he, hfk]; rfl, fun h => absurd hfk h, fun _ => ⟨n0, fun _ => 0, rfl, hn, hx.sane, .conf hc, fun _ => rfl, fun h => by cases h⟩⟩
      have HO : Hid (∀ (w' : World) (e : Ending) (I : Nat) (A : Nat → Int), Below w.heap.size w w' → e = .returned (.tuple #[.slice (some ⟨I, 0, none⟩) (n0 + 1) (n0 + 1), .bool false, .nilIface]) → FollowIs n0 cs ls false A → w.heap.size ≤ I → I < w'.heap.size → Arr w' I (n0 + 1) A → (∀ o, w'.frozen? ⟨I, o, none⟩ = false) → FEnd n0 cs ls w e w') := fun w' e I A hb he hf h1 h2 h3 h4 =>
        ⟨hb, _, false, by rw [he, hfk]; rfl, fun h => absurd hfk h, fun _ => ⟨n0, A, rfl, hn, hx.sane, hf, (fun h => by cases h), fun _ => ⟨I, rfl, h1, h2, h3, h4⟩⟩⟩
      rw [hls] at HSN
      clear hl hk hll hcs hkk h0 hls hfk hx hbeg
      go_enter Tryd.func28, Tryd.ntmps28
      go_wp2_with fail
      refine HCK.out.mono ?_
      rintro e w1 ⟨rfl, hb1⟩
      have B1 := Lib.hid hb1
      clear hb1 HCK
      go_wp2_with fail
      refine (HSN.out _ B1.out).mono ?_
      rintro e w2 ⟨rfl, hb2⟩
      have B2 := Lib.hid (B1.out.trans (hb2.mono B1.out.size))
      clear hb2 HSN
      go_wp2_with fail
      refine (HBG.out _ B2.out).mono ?_
      rintro e w3 ⟨p, Wd, H, T, S, L, rfl, hst, hone, hb3⟩
      have B3 := Lib.hid (B2.out.trans (hb3.mono B2.out.size))
      have HTL := Lib.hid (told_any HX.out hst hb3.size hone a2 k cap2 hln hlm ((HLL.out _ B3.out).mono B2.out.size))
      have e2 : (gd p w3.heap.size).F = p.F := rfl
      generalize gd p w3.heap.size = p' at HTL e2
      clear hst hone hb3 HBG
      go_wp2_with fail
      refine HTL.out.mono ?_
      rintro e w4 ⟨hb4, ⟨rfl, hcf⟩ | ⟨rfl, A1, Q1, hst, hal, hun⟩⟩
      · have HE := Lib.hid (HC.out w4 _ (B3.out.trans (hb4.mono B2.out.size)) rfl hcf)
        clear hcf hb4 HTL HC HO
        go_wp2_with fail
        go_ret3
        exact HE.out
      · have B4 := Lib.hid (B3.out.trans (hb4.mono B2.out.size))
        have HRS := Lib.hid (rest_any HX.out hst (Nat.le_trans B3.out.size hb4.size |> fun _ => (by have := hst.fol.lo _ p'.inF; omega)) hal hun)
        rw [e2] at HRS
        clear hst hal hun hb4 HTL
        go_wp2_with fail
        refine HRS.out.mono ?_
        rintro e w5 ⟨hb5, ⟨rfl, hcf⟩ | ⟨rfl, A2, Wd2, H2, T2, S2, hfol, hfi⟩⟩
        · have HE := Lib.hid (HC.out w5 _ (B4.out.trans (hb5.mono B2.out.size)) rfl hcf)
          clear hcf hb5 HRS HC HO
          go_wp2_with fail
          go_ret3
          exact HE.out
        · have c1 := hfol.c1
          rw [e2] at c1
          have hlo := hfol.lo _ p'.inI
          have HE := Lib.hid (HO.out w5 _ p'.I A2 (B4.out.trans (hb5.mono B2.out.size)) rfl hfi (Nat.le_trans B2.out.size hlo.1) hlo.2 hfol.aI (hfol.fr _ p'.inI))
          clear hfol hfi hb5 HRS HC HO hlo
          go_wp2_with fail
          go_ret3
          exact HE.out
    · rw [Bool.not_eq_true] at hls
      have hfk : fK n0 cs ls = 5 := by unfold fK; rw [if_neg (by rw [h0]; decide), if_neg (by rw [hls]; decide)]
      have HE : Hid (∀ (w' : World) (e : Ending), Below w.heap.size w w' → e = .returned (.tuple #[.slice none 0 0, .bool false, .iface 36 (.int .i64 5)]) → FEnd n0 cs ls w e w') := fun w' e hb he =>
        ⟨hb, _, false, by rw [he, hfk]; rfl, fun _ => ⟨rfl, rfl⟩, fun h => by rw [hfk] at h; cases h⟩
      rw [hls] at HSN
      clear hl hk hll hcs hkk h0 hls hfk hbeg
      go_enter Tryd.func28, Tryd.ntmps28
      go_wp2_with fail
      refine HCK.out.mono ?_
      rintro e w1 ⟨rfl, hb1⟩
      have B1 := Lib.hid hb1
      clear hb1 HCK
      go_wp2_with fail
      refine (HSN.out _ B1.out).mono ?_
      rintro e w2 ⟨rfl, hb2⟩
      have B2 := Lib.hid (B1.out.trans (hb2.mono B1.out.size))
      clear hb2 HSN
      go_wp2_with fail
      go_ret3
      exact HE.out _ _ B2.out rfl
  · have hfk : fK n cs ls = chkK n cs := by unfold fK; rw [if_pos h0]
    rw [codeV_ne h0] at HCK
    have HE : Hid (∀ (w' : World) (e : Ending), Below w.heap.size w w' → e = .returned (.tuple #[.slice none 0 0, .bool false, .iface 36 (.int .i64 (chkK n cs))]) → FEnd n cs ls w e w') := fun w' e hb he =>
      ⟨hb, _, false, by rw [he, hfk, codeV_ne h0], fun _ => ⟨rfl, rfl⟩, fun h => by rw [hfk] at h; exact absurd h h0⟩
    clear hl hk hll hfk hbeg h0
    generalize chkK n cs = x at HCK HE
    go_enter Tryd.func28, Tryd.ntmps28
    go_wp2_with fail
    refine HCK.out.mono ?_
    rintro e w1 ⟨rfl, hb1⟩
    have B1 := Lib.hid hb1
    clear hb1 HCK
    go_wp2_with fail
    go_ret3
    exact HE.out _ _ B1.out rfl
end Go.Proofs.YtlnkgemndojdnaaDoor
