/- The document's Is, kind by kind. The document's Is, kind by kind. -/
import Derived.Test.YtelndcmfddbgiaaDoorCtFd
set_option linter.unusedVariables false
set_option linter.unusedSimpArgs false
namespace Go.Proofs.YtelndcmfddbgiaaDoor
open Go.RowKit

set_option maxRecDepth 100000 in
set_option maxHeartbeats 1600000 in
theorem is_5 (n : Nat) (f : FT) (cs : List Value) (a2 : Option Addr) (n2 cap2 : Nat) (zs : List Int) (w : World) (IH : ∀ (f : FT) (cs : List Value) (a2 : Option Addr) (n2 cap2 : Nat) (zs : List Int) (w : World), FLies w.heap.size w n f cs → sndF n f = true → (vOf zs n f).2 = true → zs.length = n2 → n2 ≤ 9223372036854775807 → Nums w.heap.size w a2 zs → Calls Tryd.prog 35 #[.agg cs.toArray, .slice a2 n2 cap2] w fun e w' => e = .returned (.bool (vOf zs n f).1) ∧ Below w.heap.size w w')
    (h : FLies w.heap.size w (n + 1) f cs) (hs : sndF (n + 1) f = true) (hv : (vOf zs (n + 1) f).2 = true) (hn2 : zs.length = n2) (hm2 : n2 ≤ 9223372036854775807) (hz : Nums w.heap.size w a2 zs) (hk : f.kind = 5) :
    Calls Tryd.prog 35 #[.agg cs.toArray, .slice a2 n2 cap2] w fun e w' => e = .returned (.bool (vOf zs (n + 1) f).1) ∧ Below w.heap.size w w' := by
  obtain ⟨hown, hkids⟩ := sndF_split hs
  obtain ⟨ta, tcap, ka, kcap, rfl, hlt, ht4, hk4, hks⟩ := h
  have B0 := Lib.hid (box_start w f.kind f.c ta ka f.t.length tcap f.ks.length kcap)
  rw [vOf_5 hk] at hv ⊢
  have HNE := Lib.hid ((vTo_near f.ks.length (Nat.le_refl _)).1 hv)
  have HA := Lib.hid (vTo_and zs n f.ks)
  have HO := Lib.hid (vTo_or zs n f.ks)
  have HI := Lib.hid IH
  have HK := Lib.hid hks
  have HS := Lib.hid hkids
  have HZ := Lib.hid hz
  have HN2 := Lib.hid hn2
  have S0 : Hid (true = (vTo zs n true f.ks 0).1 ∧ false = (vTo zs n false f.ks 0).1) := ⟨rfl, rfl⟩
  generalize hr : (vTo zs n true f.ks f.ks.length).1 = r
  have HR := Lib.hid hr
  rw [hk] at B0 ⊢
  clear IH hks hkids hlt hown hs hz hv hn2 hk hr ht4
  generalize f.c = fc at B0
  generalize f.t.length = ft at B0
  generalize hl : f.ks.length = len at B0 HK hk4 HA HO HR HS HNE
  clear hl
  go_enter Tryd.func35, Tryd.ntmps35
  go_wp2_with fail
  go_loopw [10, 11, 12] (fun s4 s5 i wr => ∃ (k : Nat) (o u : Bool), k ≤ len ∧ i = .int .i64 k ∧ s4 = .bool o ∧ s5 = .bool u ∧ Hid (o = (vTo zs n true f.ks k).1 ∧ u = (vTo zs n false f.ks k).1) ∧ Hid (Box w wr w.heap.size 5 fc ta ft tcap ka len kcap)) (fun _ _ i _ => len - (intOf i).toNat)
  case atStart => exact ⟨0, true, false, Nat.zero_le _, rfl, rfl, rfl, S0, B0⟩
  case round =>
    obtain ⟨k, o, u, hk, rfl, rfl, rfl, hou, hbx⟩ := hrel
    obtain ⟨bz, q0, _, _, q3, hb⟩ := hbx.out
    by_cases hlt : k < len
    · obtain ⟨b, off, c0, c1, c2, c3, rfl, hblt, g0, g1, g2, g3, hf⟩ := HK.out k hlt
      rw [← hb.cell (p := ⟨b, _, none⟩) hblt] at g0 g1 g2 g3
      obtain ⟨ck, cc, cta, ctn, ctcap, cka, ckn, ckcap, rfl, rfl, rfl, rfl⟩ := hf.form
      have hih := HI.out (f.ks.getD k default) _ a2 n2 cap2 zs _ ((hf.below hb).mono hb.size) (HS.out k hlt) (HNE.out k hlt) HN2.out hm2 ((HZ.out.below hb).mono hb.size)
      have ha := HA.out k hlt
      have ho := HO.out k hlt
      rw [← hou.out.1] at ha
      rw [← hou.out.2] at ho
      generalize (vOf zs n (f.ks.getD k default)).1 = v at hih ha ho
      have HX := Lib.hid (And.intro ha ho)
      clear hf ha ho hou
      go_wp2_with fail
      refine hih.mono ?_
      rintro e w1 ⟨rfl, hb1⟩
      have HB1 := Lib.hid (hbx.out.below hb1 bz)
      clear g0 g1 g2 g3 hih hb1 hb hbx q0 q3
      cases o <;> cases u <;> cases v
      all_goals
        go_wp2_with fail
        go_roundw
        case rel => exact ⟨k + 1, _, _, by omega, by go_num, rfl, rfl, ⟨HX.out.1.symm, HX.out.2.symm⟩, HB1⟩
        case measure => simp [intOf]; omega
    · have hr : r = o := by
        obtain rfl : k = len := by omega
        rw [← HR.out]; exact hou.out.1.symm
      subst hr
      clear hou
      go_wp2_with fail
      go_ret
      exact ⟨rfl, hb⟩
end Go.Proofs.YtelndcmfddbgiaaDoor

namespace Go.Proofs.YtelndcmfddbgiaaDoor
open Go.RowKit

set_option maxRecDepth 100000 in
set_option maxHeartbeats 1600000 in
theorem is_6 (n : Nat) (f : FT) (cs : List Value) (a2 : Option Addr) (n2 cap2 : Nat) (zs : List Int) (w : World) (IH : ∀ (f : FT) (cs : List Value) (a2 : Option Addr) (n2 cap2 : Nat) (zs : List Int) (w : World), FLies w.heap.size w n f cs → sndF n f = true → (vOf zs n f).2 = true → zs.length = n2 → n2 ≤ 9223372036854775807 → Nums w.heap.size w a2 zs → Calls Tryd.prog 35 #[.agg cs.toArray, .slice a2 n2 cap2] w fun e w' => e = .returned (.bool (vOf zs n f).1) ∧ Below w.heap.size w w')
    (h : FLies w.heap.size w (n + 1) f cs) (hs : sndF (n + 1) f = true) (hv : (vOf zs (n + 1) f).2 = true) (hn2 : zs.length = n2) (hm2 : n2 ≤ 9223372036854775807) (hz : Nums w.heap.size w a2 zs) (hk : f.kind = 6) :
    Calls Tryd.prog 35 #[.agg cs.toArray, .slice a2 n2 cap2] w fun e w' => e = .returned (.bool (vOf zs (n + 1) f).1) ∧ Below w.heap.size w w' := by
  obtain ⟨hown, hkids⟩ := sndF_split hs
  obtain ⟨ta, tcap, ka, kcap, rfl, hlt, ht4, hk4, hks⟩ := h
  have B0 := Lib.hid (box_start w f.kind f.c ta ka f.t.length tcap f.ks.length kcap)
  rw [vOf_6 hk] at hv ⊢
  have HNE := Lib.hid ((vTo_near f.ks.length (Nat.le_refl _)).1 hv)
  have HA := Lib.hid (vTo_and zs n f.ks)
  have HO := Lib.hid (vTo_or zs n f.ks)
  have HI := Lib.hid IH
  have HK := Lib.hid hks
  have HS := Lib.hid hkids
  have HZ := Lib.hid hz
  have HN2 := Lib.hid hn2
  have S0 : Hid (true = (vTo zs n true f.ks 0).1 ∧ false = (vTo zs n false f.ks 0).1) := ⟨rfl, rfl⟩
  generalize hr : (vTo zs n false f.ks f.ks.length).1 = r
  have HR := Lib.hid hr
  rw [hk] at B0 ⊢
  clear IH hks hkids hlt hown hs hz hv hn2 hk hr ht4
  generalize f.c = fc at B0
  generalize f.t.length = ft at B0
  generalize hl : f.ks.length = len at B0 HK hk4 HA HO HR HS HNE
  clear hl
  go_enter Tryd.func35, Tryd.ntmps35
  go_wp2_with fail
  go_loopw [10, 11, 12] (fun s4 s5 i wr => ∃ (k : Nat) (o u : Bool), k ≤ len ∧ i = .int .i64 k ∧ s4 = .bool o ∧ s5 = .bool u ∧ Hid (o = (vTo zs n true f.ks k).1 ∧ u = (vTo zs n false f.ks k).1) ∧ Hid (Box w wr w.heap.size 6 fc ta ft tcap ka len kcap)) (fun _ _ i _ => len - (intOf i).toNat)
  case atStart => exact ⟨0, true, false, Nat.zero_le _, rfl, rfl, rfl, S0, B0⟩
  case round =>
    obtain ⟨k, o, u, hk, rfl, rfl, rfl, hou, hbx⟩ := hrel
    obtain ⟨bz, q0, _, _, q3, hb⟩ := hbx.out
    by_cases hlt : k < len
    · obtain ⟨b, off, c0, c1, c2, c3, rfl, hblt, g0, g1, g2, g3, hf⟩ := HK.out k hlt
      rw [← hb.cell (p := ⟨b, _, none⟩) hblt] at g0 g1 g2 g3
      obtain ⟨ck, cc, cta, ctn, ctcap, cka, ckn, ckcap, rfl, rfl, rfl, rfl⟩ := hf.form
      have hih := HI.out (f.ks.getD k default) _ a2 n2 cap2 zs _ ((hf.below hb).mono hb.size) (HS.out k hlt) (HNE.out k hlt) HN2.out hm2 ((HZ.out.below hb).mono hb.size)
      have ha := HA.out k hlt
      have ho := HO.out k hlt
      rw [← hou.out.1] at ha
      rw [← hou.out.2] at ho
      generalize (vOf zs n (f.ks.getD k default)).1 = v at hih ha ho
      have HX := Lib.hid (And.intro ha ho)
      clear hf ha ho hou
      go_wp2_with fail
      refine hih.mono ?_
      rintro e w1 ⟨rfl, hb1⟩
      have HB1 := Lib.hid (hbx.out.below hb1 bz)
      clear g0 g1 g2 g3 hih hb1 hb hbx q0 q3
      cases o <;> cases u <;> cases v
      all_goals
        go_wp2_with fail
        go_roundw
        case rel => exact ⟨k + 1, _, _, by omega, by go_num, rfl, rfl, ⟨HX.out.1.symm, HX.out.2.symm⟩, HB1⟩
        case measure => simp [intOf]; omega
    · have hr : r = u := by
        obtain rfl : k = len := by omega
        rw [← HR.out]; exact hou.out.2.symm
      subst hr
      clear hou
      go_wp2_with fail
      go_ret
      exact ⟨rfl, hb⟩
end Go.Proofs.YtelndcmfddbgiaaDoor
