/- The document's Is, kind by kind. -/
import Derived.Test.YtelndcmfddbgiaaDoorCtFd
set_option linter.unusedVariables false
set_option linter.unusedSimpArgs false
namespace Go.Proofs.YtelndcmfddbgiaaDoor
open Go.RowKit

set_option maxRecDepth 100000 in
set_option maxHeartbeats 1600000 in
theorem is_0 (n : Nat) (f : FT) (cs : List Value) (a2 : Option Addr) (n2 cap2 : Nat) (zs : List Int) (w : World) (IH : ∀ (f : FT) (cs : List Value) (a2 : Option Addr) (n2 cap2 : Nat) (zs : List Int) (w : World), FLies w.heap.size w n f cs → sndF n f = true → (vOf zs n f).2 = true → zs.length = n2 → n2 ≤ 9223372036854775807 → Nums w.heap.size w a2 zs → Calls Tryd.prog 35 #[.agg cs.toArray, .slice a2 n2 cap2] w fun e w' => e = .returned (.bool (vOf zs n f).1) ∧ Below w.heap.size w w')
    (h : FLies w.heap.size w (n + 1) f cs) (hs : sndF (n + 1) f = true) (hv : (vOf zs (n + 1) f).2 = true) (hn2 : zs.length = n2) (hm2 : n2 ≤ 9223372036854775807) (hz : Nums w.heap.size w a2 zs) (hk : f.kind = 0) :
    Calls Tryd.prog 35 #[.agg cs.toArray, .slice a2 n2 cap2] w fun e w' => e = .returned (.bool (vOf zs (n + 1) f).1) ∧ Below w.heap.size w w' := by
  obtain ⟨hown, hkids⟩ := sndF_split hs
  obtain ⟨ta, tcap, ka, kcap, rfl, hlt, ht4, hk4, hks⟩ := h
  have B0 := Lib.hid (box_start w f.kind f.c ta ka f.t.length tcap f.ks.length kcap)
  rw [vOf_0 hk]
  rw [hk] at B0 ⊢
  generalize f.c = fc at B0
  generalize f.t.length = ft at B0
  generalize f.ks.length = len at B0
  clear IH hks hkids hlt hown hk hs hz hn2 hk4 hv ht4
  go_enter Tryd.func35, Tryd.ntmps35
  go_wp2_with fail
  go_ret
  exact ⟨rfl, B0.out.bel⟩

set_option maxRecDepth 100000 in
set_option maxHeartbeats 1600000 in
theorem is_1 (n : Nat) (f : FT) (cs : List Value) (a2 : Option Addr) (n2 cap2 : Nat) (zs : List Int) (w : World) (IH : ∀ (f : FT) (cs : List Value) (a2 : Option Addr) (n2 cap2 : Nat) (zs : List Int) (w : World), FLies w.heap.size w n f cs → sndF n f = true → (vOf zs n f).2 = true → zs.length = n2 → n2 ≤ 9223372036854775807 → Nums w.heap.size w a2 zs → Calls Tryd.prog 35 #[.agg cs.toArray, .slice a2 n2 cap2] w fun e w' => e = .returned (.bool (vOf zs n f).1) ∧ Below w.heap.size w w')
    (h : FLies w.heap.size w (n + 1) f cs) (hs : sndF (n + 1) f = true) (hv : (vOf zs (n + 1) f).2 = true) (hn2 : zs.length = n2) (hm2 : n2 ≤ 9223372036854775807) (hz : Nums w.heap.size w a2 zs) (hk : f.kind = 1) :
    Calls Tryd.prog 35 #[.agg cs.toArray, .slice a2 n2 cap2] w fun e w' => e = .returned (.bool (vOf zs (n + 1) f).1) ∧ Below w.heap.size w w' := by
  obtain ⟨hown, hkids⟩ := sndF_split hs
  obtain ⟨ta, tcap, ka, kcap, rfl, hlt, ht4, hk4, hks⟩ := h
  have B0 := Lib.hid (box_start w f.kind f.c ta ka f.t.length tcap f.ks.length kcap)
  rw [vOf_1 hk]
  rw [hk] at B0 ⊢
  generalize f.c = fc at B0
  generalize f.t.length = ft at B0
  generalize f.ks.length = len at B0
  clear IH hks hkids hlt hown hk hs hz hn2 hk4 hv ht4
  go_enter Tryd.func35, Tryd.ntmps35
  go_wp2_with fail
  go_ret
  exact ⟨rfl, B0.out.bel⟩

set_option maxRecDepth 100000 in
set_option maxHeartbeats 1600000 in
theorem is_2 (n : Nat) (f : FT) (cs : List Value) (a2 : Option Addr) (n2 cap2 : Nat) (zs : List Int) (w : World) (IH : ∀ (f : FT) (cs : List Value) (a2 : Option Addr) (n2 cap2 : Nat) (zs : List Int) (w : World), FLies w.heap.size w n f cs → sndF n f = true → (vOf zs n f).2 = true → zs.length = n2 → n2 ≤ 9223372036854775807 → Nums w.heap.size w a2 zs → Calls Tryd.prog 35 #[.agg cs.toArray, .slice a2 n2 cap2] w fun e w' => e = .returned (.bool (vOf zs n f).1) ∧ Below w.heap.size w w')
    (h : FLies w.heap.size w (n + 1) f cs) (hs : sndF (n + 1) f = true) (hv : (vOf zs (n + 1) f).2 = true) (hn2 : zs.length = n2) (hm2 : n2 ≤ 9223372036854775807) (hz : Nums w.heap.size w a2 zs) (hk : f.kind = 2) :
    Calls Tryd.prog 35 #[.agg cs.toArray, .slice a2 n2 cap2] w fun e w' => e = .returned (.bool (vOf zs (n + 1) f).1) ∧ Below w.heap.size w w' := by
  obtain ⟨hown, hkids⟩ := sndF_split hs
  obtain ⟨ta, tcap, ka, kcap, rfl, hlt, ht4, hk4, hks⟩ := h
  have B0 := Lib.hid (box_start w f.kind f.c ta ka f.t.length tcap f.ks.length kcap)
  have hsn := ownF_form hown (by omega)
  have hnear : ∀ i, i < f.t.length → near f.t zs i = true := by
    rw [vOf_2 (by omega)] at hv
    split at hv
    · assumption
    · cases hv
  have hr : (vOf zs (n + 1) f).1 = decide (sAt f.c f.t zs f.t.length ≤ 0) := by
    rw [vOf_2 (by omega), if_pos hnear]
    by_cases h0 : sAt f.c f.t zs f.t.length = 0
    · simp [h0]
    · by_cases h1 : sAt f.c f.t zs f.t.length < 0
      · simp [h0, h1, hk]; omega
      · simp [h0, h1, hk]; omega
  rw [hr]
  have hva := Lib.hid (fun W (hb : Below w.heap.size w W) => rvalue_any f.c ta f.t.length tcap f.t a2 n2 cap2 zs W rfl hn2 hm2 ((hlt.below hb).mono hb.size) ((hz.below hb).mono hb.size) hsn (sAt f.c f.t zs f.t.length) 0 (.inl ⟨rfl, rfl, hnear⟩))
  rw [hk] at B0 ⊢
  generalize sAt f.c f.t zs f.t.length = s at hva
  generalize f.c = fc at B0 hva
  generalize f.t.length = ft at B0 hva
  generalize f.ks.length = len at B0
  clear IH hks hkids hlt hown hk hs hz hn2 hk4 hv ht4 hsn hr hnear
  go_enter Tryd.func35, Tryd.ntmps35
  go_wp2_with fail
  refine (hva.out _ B0.out.bel).mono ?_
  rintro e w1 ⟨rfl, hb1⟩
  have T1 := Lib.hid (B0.out.below hb1 B0.out.lt)
  clear hb1
  go_wp2_with fail
  go_ret
  exact ⟨rfl, T1.out.bel⟩

set_option maxRecDepth 100000 in
set_option maxHeartbeats 1600000 in
theorem is_3 (n : Nat) (f : FT) (cs : List Value) (a2 : Option Addr) (n2 cap2 : Nat) (zs : List Int) (w : World) (IH : ∀ (f : FT) (cs : List Value) (a2 : Option Addr) (n2 cap2 : Nat) (zs : List Int) (w : World), FLies w.heap.size w n f cs → sndF n f = true → (vOf zs n f).2 = true → zs.length = n2 → n2 ≤ 9223372036854775807 → Nums w.heap.size w a2 zs → Calls Tryd.prog 35 #[.agg cs.toArray, .slice a2 n2 cap2] w fun e w' => e = .returned (.bool (vOf zs n f).1) ∧ Below w.heap.size w w')
    (h : FLies w.heap.size w (n + 1) f cs) (hs : sndF (n + 1) f = true) (hv : (vOf zs (n + 1) f).2 = true) (hn2 : zs.length = n2) (hm2 : n2 ≤ 9223372036854775807) (hz : Nums w.heap.size w a2 zs) (hk : f.kind = 3) :
    Calls Tryd.prog 35 #[.agg cs.toArray, .slice a2 n2 cap2] w fun e w' => e = .returned (.bool (vOf zs (n + 1) f).1) ∧ Below w.heap.size w w' := by
  obtain ⟨hown, hkids⟩ := sndF_split hs
  obtain ⟨ta, tcap, ka, kcap, rfl, hlt, ht4, hk4, hks⟩ := h
  have B0 := Lib.hid (box_start w f.kind f.c ta ka f.t.length tcap f.ks.length kcap)
  have hsn := ownF_form hown (by omega)
  have hnear : ∀ i, i < f.t.length → near f.t zs i = true := by
    rw [vOf_2 (by omega)] at hv
    split at hv
    · assumption
    · cases hv
  have hr : (vOf zs (n + 1) f).1 = decide (sAt f.c f.t zs f.t.length = 0) := by
    rw [vOf_2 (by omega), if_pos hnear]
    by_cases h0 : sAt f.c f.t zs f.t.length = 0
    · simp [h0]
    · by_cases h1 : sAt f.c f.t zs f.t.length < 0
      · simp [h0, h1, hk]
      · simp [h0, h1, hk]
  rw [hr]
  have hva := Lib.hid (fun W (hb : Below w.heap.size w W) => rvalue_any f.c ta f.t.length tcap f.t a2 n2 cap2 zs W rfl hn2 hm2 ((hlt.below hb).mono hb.size) ((hz.below hb).mono hb.size) hsn (sAt f.c f.t zs f.t.length) 0 (.inl ⟨rfl, rfl, hnear⟩))
  rw [hk] at B0 ⊢
  generalize sAt f.c f.t zs f.t.length = s at hva
  generalize f.c = fc at B0 hva
  generalize f.t.length = ft at B0 hva
  generalize f.ks.length = len at B0
  clear IH hks hkids hlt hown hk hs hz hn2 hk4 hv ht4 hsn hr hnear
  go_enter Tryd.func35, Tryd.ntmps35
  go_wp2_with fail
  refine (hva.out _ B0.out.bel).mono ?_
  rintro e w1 ⟨rfl, hb1⟩
  have T1 := Lib.hid (B0.out.below hb1 B0.out.lt)
  clear hb1
  go_wp2_with fail
  go_ret
  exact ⟨rfl, T1.out.bel⟩

set_option maxRecDepth 100000 in
set_option maxHeartbeats 1600000 in
theorem is_4 (n : Nat) (f : FT) (cs : List Value) (a2 : Option Addr) (n2 cap2 : Nat) (zs : List Int) (w : World) (IH : ∀ (f : FT) (cs : List Value) (a2 : Option Addr) (n2 cap2 : Nat) (zs : List Int) (w : World), FLies w.heap.size w n f cs → sndF n f = true → (vOf zs n f).2 = true → zs.length = n2 → n2 ≤ 9223372036854775807 → Nums w.heap.size w a2 zs → Calls Tryd.prog 35 #[.agg cs.toArray, .slice a2 n2 cap2] w fun e w' => e = .returned (.bool (vOf zs n f).1) ∧ Below w.heap.size w w')
    (h : FLies w.heap.size w (n + 1) f cs) (hs : sndF (n + 1) f = true) (hv : (vOf zs (n + 1) f).2 = true) (hn2 : zs.length = n2) (hm2 : n2 ≤ 9223372036854775807) (hz : Nums w.heap.size w a2 zs) (hk : f.kind = 4) :
    Calls Tryd.prog 35 #[.agg cs.toArray, .slice a2 n2 cap2] w fun e w' => e = .returned (.bool (vOf zs (n + 1) f).1) ∧ Below w.heap.size w w' := by
  obtain ⟨hown, hkids⟩ := sndF_split hs
  obtain ⟨ta, tcap, ka, kcap, rfl, hlt, ht4, hk4, hks⟩ := h
  have B0 := Lib.hid (box_start w f.kind f.c ta ka f.t.length tcap f.ks.length kcap)
  have hl := ownF_not hown hk
  rw [vOf_4 hk] at hv ⊢
  obtain ⟨b, off, c0, c1, c2, c3, rfl, hblt, g0, g1, g2, g3, hf⟩ := hks 0 (by omega)
  obtain ⟨ck, cc, cta, ctn, ctcap, cka, ckn, ckcap, rfl, rfl, rfl, rfl⟩ := hf.form
  have hih := Lib.hid (fun W (hb : Below w.heap.size w W) => IH (f.ks.getD 0 default) _ a2 n2 cap2 zs W ((hf.below hb).mono hb.size) (hkids 0 (by omega)) hv hn2 hm2 ((hz.below hb).mono hb.size))
  rw [← B0.out.bel.cell (p := ⟨b, _, none⟩) hblt] at g0 g1 g2 g3
  rw [hl] at B0
  rw [hl] at g0 g1 g2 g3
  rw [hk] at B0 g0 g1 g2 g3 ⊢
  generalize (vOf zs n (f.ks.getD 0 default)).1 = u at hih
  simp only [Nat.zero_mul, Nat.add_zero] at g0 g1 g2 g3
  generalize f.c = fc at B0 g0 g1 g2 g3
  generalize f.t.length = ft at B0 g0 g1 g2 g3
  clear IH hks hkids hlt hown hk hs hz hn2 hk4 hv ht4 hf
  rw [hl]
  clear hl
  go_enter Tryd.func35, Tryd.ntmps35
  go_wp2_with fail
  refine (hih.out _ B0.out.bel).mono ?_
  rintro e w1 ⟨rfl, hb1⟩
  have T1 := Lib.hid (B0.out.below hb1 B0.out.lt)
  clear hb1
  go_wp2_with fail
  go_ret
  exact ⟨rfl, T1.out.bel⟩
end Go.Proofs.YtelndcmfddbgiaaDoor
