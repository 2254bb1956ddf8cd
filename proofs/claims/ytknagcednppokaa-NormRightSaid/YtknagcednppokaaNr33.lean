/- formula.value, kind by kind. formula.value, kind by kind. formula.value. formula.Value. The document's Is, kind by kind. The document's Is, kind by kind. -/
import Derived.Test.YtknagcednppokaaNr31
import Derived.Test.YtknagcednppokaaNr32
set_option linter.unusedVariables false
set_option linter.unusedSimpArgs false
namespace Go.Proofs.Ytknagcednppokaa
open Go.RowKit

set_option maxRecDepth 100000 in
set_option maxHeartbeats 4000000 in
theorem value_4 (n : Nat) (f : FT) (cs : List Value) (a2 : Option Addr) (n2 cap2 : Nat) (zs : List Int) (w : World) (IH : ∀ (f : FT) (cs : List Value) (a2 : Option Addr) (n2 cap2 : Nat) (zs : List Int) (w : World), FLies w.heap.size w n f cs → sndF n f = true → zs.length = n2 → Nums w.heap.size w a2 zs → Calls Try.prog 44 #[.agg cs.toArray, .slice a2 n2 cap2] w (ValEnd w.heap.size (vOf zs n f) w))
    (h : FLies w.heap.size w (n + 1) f cs) (hs : sndF (n + 1) f = true) (hn2 : zs.length = n2) (hz : Nums w.heap.size w a2 zs) (hk : f.kind = 5) :
    Calls Try.prog 44 #[.agg cs.toArray, .slice a2 n2 cap2] w (ValEnd w.heap.size (vOf zs (n + 1) f) w) := by
    obtain ⟨hown, hkids⟩ := sndF_split hs
    obtain ⟨ta, tcap, ka, kcap, rfl, hlt, ht4, hk4, hks⟩ := h
    have B0 := Lib.hid (box_start w f.kind f.c ta ka f.t.length tcap f.ks.length kcap)
    have hv : vOf zs (n + 1) f = vTo zs n true f.ks f.ks.length := by
      show (if f.kind = 0 then _ else if f.kind = 1 then _ else if f.kind = 2 ∨ f.kind = 3 then _ else if f.kind = 4 then _ else _) = _
      rw [if_neg (by omega), if_neg (by omega), if_neg (by omega), if_neg (by omega)]
      unfold vTo
      rw [List.take_length, show (f.kind == 5) = true from by rw [hk]; rfl]
    have HST := Lib.hid (vTo_succ zs n true f.ks)
    have HI := Lib.hid IH
    have HK := Lib.hid hks
    have HS := Lib.hid hkids
    have HZ := Lib.hid hz
    have HN2 := Lib.hid hn2
    rw [hv]
    have S0 : Hid ((true, true) = vTo zs n true f.ks 0) := rfl
    generalize hr : vTo zs n true f.ks f.ks.length = r
    have HR := Lib.hid hr
    rw [hk] at B0 ⊢
    clear IH hks hkids hlt hown hs hz hv hn2 hk hr
    generalize f.c = fc at B0
    generalize f.t.length = ft at B0
    generalize hl : f.ks.length = len at B0 HK hk4 HST HR HS
    clear hl
    go_enter Try.func44, Try.ntmps44
    go_wp2_with fail
    go_loopw [4, 5, 67] (fun s4 s5 i wr => ∃ (k : Nat) (o u : Bool), k ≤ len ∧ i = .int .i64 k ∧ s4 = .bool o ∧ s5 = .bool u ∧ Hid ((o, u) = vTo zs n true f.ks k) ∧ Below w.heap.size w wr) (fun _ _ i _ => len - (intOf i).toNat)
    case atStart => exact ⟨0, true, true, Nat.zero_le _, rfl, rfl, rfl, S0, B0.out.bel⟩
    case round =>
      obtain ⟨k, o, u, hk, rfl, rfl, rfl, hou, hb⟩ := hrel
      by_cases hlt : k < len
      · obtain ⟨b, off, c0, c1, c2, c3, rfl, hblt, g0, g1, g2, g3, hf⟩ := HK.out k hlt
        rw [← hb.cell (p := ⟨b, _, none⟩) hblt] at g0 g1 g2 g3
        obtain ⟨ck, cc, cta, ctn, ctcap, cka, ckn, ckcap, rfl, rfl, rfl, rfl⟩ := hf.form
        have hb2 := hb.alloc hb.size (.cells #[.int .i64 ck, .int .i64 cc, .slice cta ctn ctcap, .slice cka ckn ckcap] 28)
        have hih := HI.out (f.ks.getD k default) _ a2 n2 cap2 zs _ ((hf.below hb2).mono hb2.size) (HS.out k hlt) HN2.out ((HZ.out.below hb2).mono hb2.size)
        have hst := HST.out k hlt
        rw [← hou.out] at hst
        generalize vOf zs n (f.ks.getD k default) = p at hih hst
        obtain ⟨v, y⟩ := p
        have HO := Lib.hid hst
        clear hf hst hou
        go_wp2_with fail
        refine hih.mono ?_
        rintro e w1 ⟨rfl, hb1⟩
        have HB1 := Lib.hid (hb2.trans (hb1.mono hb2.size))
        clear g0 g1 g2 g3 hih hb1 hb2
        cases u <;> cases v <;> cases y
        all_goals
          go_wp2_with fail
          go_roundw
          case rel => exact ⟨k + 1, _, _, by omega, by go_num, rfl, rfl, (HO.out.trans (by cases o <;> rfl)).symm, HB1.out⟩
          case measure => simp [intOf]; omega
      · have hr : r = (o, u) := by
          obtain rfl : k = len := by omega
          rw [← HR.out, hou.out]
        subst hr
        clear hou
        go_wp2_with fail
        refine bodyPost_ret (v := .tuple #[.bool o, .bool u]) ?_ rfl ⟨rfl, hb⟩
        simp [results, Try.results44, go_sem]

end Go.Proofs.Ytknagcednppokaa

namespace Go.Proofs.Ytknagcednppokaa
open Go.RowKit

set_option maxRecDepth 100000 in
set_option maxHeartbeats 4000000 in
theorem value_5 (n : Nat) (f : FT) (cs : List Value) (a2 : Option Addr) (n2 cap2 : Nat) (zs : List Int) (w : World) (IH : ∀ (f : FT) (cs : List Value) (a2 : Option Addr) (n2 cap2 : Nat) (zs : List Int) (w : World), FLies w.heap.size w n f cs → sndF n f = true → zs.length = n2 → Nums w.heap.size w a2 zs → Calls Try.prog 44 #[.agg cs.toArray, .slice a2 n2 cap2] w (ValEnd w.heap.size (vOf zs n f) w))
    (h : FLies w.heap.size w (n + 1) f cs) (hs : sndF (n + 1) f = true) (hn2 : zs.length = n2) (hz : Nums w.heap.size w a2 zs) (hk : f.kind = 6) :
    Calls Try.prog 44 #[.agg cs.toArray, .slice a2 n2 cap2] w (ValEnd w.heap.size (vOf zs (n + 1) f) w) := by
    obtain ⟨hown, hkids⟩ := sndF_split hs
    obtain ⟨ta, tcap, ka, kcap, rfl, hlt, ht4, hk4, hks⟩ := h
    have B0 := Lib.hid (box_start w f.kind f.c ta ka f.t.length tcap f.ks.length kcap)
    have hv : vOf zs (n + 1) f = vTo zs n false f.ks f.ks.length := by
      show (if f.kind = 0 then _ else if f.kind = 1 then _ else if f.kind = 2 ∨ f.kind = 3 then _ else if f.kind = 4 then _ else _) = _
      rw [if_neg (by omega), if_neg (by omega), if_neg (by omega), if_neg (by omega)]
      unfold vTo
      rw [List.take_length, show (f.kind == 5) = false from by rw [hk]; rfl]
    have HST := Lib.hid (vTo_succ zs n false f.ks)
    have HI := Lib.hid IH
    have HK := Lib.hid hks
    have HS := Lib.hid hkids
    have HZ := Lib.hid hz
    have HN2 := Lib.hid hn2
    rw [hv]
    have S0 : Hid ((false, true) = vTo zs n false f.ks 0) := rfl
    generalize hr : vTo zs n false f.ks f.ks.length = r
    have HR := Lib.hid hr
    rw [hk] at B0 ⊢
    clear IH hks hkids hlt hown hs hz hv hn2 hk hr
    generalize f.c = fc at B0
    generalize f.t.length = ft at B0
    generalize hl : f.ks.length = len at B0 HK hk4 HST HR HS
    clear hl
    go_enter Try.func44, Try.ntmps44
    go_wp2_with fail
    go_loopw [4, 5, 67] (fun s4 s5 i wr => ∃ (k : Nat) (o u : Bool), k ≤ len ∧ i = .int .i64 k ∧ s4 = .bool o ∧ s5 = .bool u ∧ Hid ((o, u) = vTo zs n false f.ks k) ∧ Below w.heap.size w wr) (fun _ _ i _ => len - (intOf i).toNat)
    case atStart => exact ⟨0, false, true, Nat.zero_le _, rfl, rfl, rfl, S0, B0.out.bel⟩
    case round =>
      obtain ⟨k, o, u, hk, rfl, rfl, rfl, hou, hb⟩ := hrel
      by_cases hlt : k < len
      · obtain ⟨b, off, c0, c1, c2, c3, rfl, hblt, g0, g1, g2, g3, hf⟩ := HK.out k hlt
        rw [← hb.cell (p := ⟨b, _, none⟩) hblt] at g0 g1 g2 g3
        obtain ⟨ck, cc, cta, ctn, ctcap, cka, ckn, ckcap, rfl, rfl, rfl, rfl⟩ := hf.form
        have hb2 := hb.alloc hb.size (.cells #[.int .i64 ck, .int .i64 cc, .slice cta ctn ctcap, .slice cka ckn ckcap] 28)
        have hih := HI.out (f.ks.getD k default) _ a2 n2 cap2 zs _ ((hf.below hb2).mono hb2.size) (HS.out k hlt) HN2.out ((HZ.out.below hb2).mono hb2.size)
        have hst := HST.out k hlt
        rw [← hou.out] at hst
        generalize vOf zs n (f.ks.getD k default) = p at hih hst
        obtain ⟨v, y⟩ := p
        have HO := Lib.hid hst
        clear hf hst hou
        go_wp2_with fail
        refine hih.mono ?_
        rintro e w1 ⟨rfl, hb1⟩
        have HB1 := Lib.hid (hb2.trans (hb1.mono hb2.size))
        clear g0 g1 g2 g3 hih hb1 hb2
        cases u <;> cases v <;> cases y
        all_goals
          go_wp2_with fail
          go_roundw
          case rel => exact ⟨k + 1, _, _, by omega, by go_num, rfl, rfl, (HO.out.trans (by cases o <;> rfl)).symm, HB1.out⟩
          case measure => simp [intOf]; omega
      · have hr : r = (o, u) := by
          obtain rfl : k = len := by omega
          rw [← HR.out, hou.out]
        subst hr
        clear hou
        go_wp2_with fail
        refine bodyPost_ret (v := .tuple #[.bool o, .bool u]) ?_ rfl ⟨rfl, hb⟩
        simp [results, Try.results44, go_sem]

end Go.Proofs.Ytknagcednppokaa

namespace Go.Proofs.Ytknagcednppokaa
open Go.RowKit
theorem value_any : ∀ (n : Nat) (f : FT) (cs : List Value) (a2 : Option Addr) (n2 cap2 : Nat) (zs : List Int) (w : World), FLies w.heap.size w n f cs → sndF n f = true → zs.length = n2 → Nums w.heap.size w a2 zs →
    Calls Try.prog 44 #[.agg cs.toArray, .slice a2 n2 cap2] w (ValEnd w.heap.size (vOf zs n f) w)
  | 0, _, _, _, _, _, _, _, h, _, _, _ => h.elim
  | n + 1, f, cs, a2, n2, cap2, zs, w, h, hs, hn2, hz => by
    have IH := value_any n
    rcases ownF_kind (sndF_split hs).1 with hk | hk | hk | hk | hk | hk
    · exact value_0 n f cs a2 n2 cap2 zs w IH h hs hn2 hz hk
    · exact value_1 n f cs a2 n2 cap2 zs w IH h hs hn2 hz hk
    · exact value_2 n f cs a2 n2 cap2 zs w IH h hs hn2 hz hk
    · exact value_3 n f cs a2 n2 cap2 zs w IH h hs hn2 hz hk
    · exact value_4 n f cs a2 n2 cap2 zs w IH h hs hn2 hz hk
    · exact value_5 n f cs a2 n2 cap2 zs w IH h hs hn2 hz hk
end Go.Proofs.Ytknagcednppokaa

namespace Go.Proofs.Ytknagcednppokaa
open Go.RowKit

theorem cc_snd {n : Nat} {f : FT} (h : cc n f = 0) : sndF n f = true := by
  unfold cc ccV at h
  cases hb : sndF n f with
  | true => rfl
  | false => rw [hb] at h; split at h <;> (try split at h) <;> cases h
/-- What formula.Value answers: a number of an error, or the value. -/
def fvN (zs : List Int) (n : Nat) (f : FT) : Bool × Int := if cc n f = 0 then (if (vOf zs n f).2 = true then ((vOf zs n f).1, 0) else (false, 1)) else (false, cc n f)

set_option maxHeartbeats 1600000 in
theorem fvalue_any (n : Nat) (f : FT) (cs : List Value) (a2 : Option Addr) (n2 cap2 : Nat) (zs : List Int) (w : World) (h : FLies w.heap.size w n f cs) (hn2 : zs.length = n2) (hz : Nums w.heap.size w a2 zs) :
    Calls Try.prog 19 #[.agg cs.toArray, .slice a2 n2 cap2] w fun e w' => e = .returned (.tuple #[.bool (fvN zs n f).1, codeV (fvN zs n f).2]) ∧ Below w.heap.size w w' := by
  have FL := fun W (hb : Below w.heap.size w W) => (h.below hb).mono hb.size
  cases n with
  | zero => exact h.elim
  | succ n =>
    obtain ⟨ta, tcap, ka, kcap, rfl, _⟩ := h
    have hs := Lib.hid (fun W hb => fcheck_any (n + 1) f _ W (FL W hb))
    have hv := Lib.hid (fun (hc : cc (n + 1) f = 0) W (hb : Below w.heap.size w W) => value_any (n + 1) f _ a2 n2 cap2 zs W (FL W hb) (cc_snd hc) hn2 ((hz.below hb).mono hb.size))
    have T0 := Lib.hid (box_start w f.kind f.c ta ka f.t.length tcap f.ks.length kcap)
    unfold fvN
    clear FL hz hn2
    generalize vOf zs (n + 1) f = p at hv
    generalize cc (n + 1) f = k at hs hv
    obtain ⟨o, u⟩ := p
    generalize f.kind = fk at T0 hs hv
    generalize f.c = fc at T0 hs hv
    generalize f.t.length = ft at T0 hs hv
    generalize f.ks.length = fl at T0 hs hv
    have n1 := fun W => Try.neNil W
    have n2' := fun W => Try.neCode k W
    by_cases hk : k = 0
    · subst hk
      have hv0 := Lib.hid (hv.out rfl)
      simp only [codeV, if_true] at hs
      clear hv n2'
      cases u with
      | true =>
        go_enter Try.func19, Try.ntmps19
        go_wp2_with fail
        refine (hs.out _ T0.out.bel).mono ?_
        rintro e w1 ⟨rfl, hb1⟩
        have T1 := Lib.hid (T0.out.below hb1 T0.out.lt)
        clear hb1
        obtain ⟨l1, p0, p1, p2, p3, _⟩ := T1.out
        go_wp2_with fail
        refine (hv0.out _ T1.out.bel).mono ?_
        rintro e w2 ⟨rfl, hb2⟩
        have T2 := Lib.hid (T1.out.below hb2 T1.out.lt)
        clear hb2 l1 p0 p1 p2 p3
        go_wp2_with fail
        refine bodyPost_ret (v := .tuple #[.bool o, .nilIface]) ?_ rfl ⟨by simp [codeV], T2.out.bel⟩
        simp [results, Try.results19, go_sem]
      | false =>
        go_enter Try.func19, Try.ntmps19
        go_wp2_with fail
        refine (hs.out _ T0.out.bel).mono ?_
        rintro e w1 ⟨rfl, hb1⟩
        have T1 := Lib.hid (T0.out.below hb1 T0.out.lt)
        clear hb1
        obtain ⟨l1, p0, p1, p2, p3, _⟩ := T1.out
        go_wp2_with fail
        refine (hv0.out _ T1.out.bel).mono ?_
        rintro e w2 ⟨rfl, hb2⟩
        have T2 := Lib.hid (T1.out.below hb2 T1.out.lt)
        clear hb2 l1 p0 p1 p2 p3
        go_wp2_with fail
        refine bodyPost_ret (v := .tuple #[.bool false, .iface 53 (.int .i64 1)]) ?_ rfl ⟨by simp [codeV], T2.out.bel⟩
        simp [results, Try.results19, go_sem]
    · have e3 : codeV k = .iface 53 (.int .i64 k) := by unfold codeV; rw [if_neg hk]
      rw [if_neg hk]
      show Calls _ _ _ _ fun e w' => e = .returned (.tuple #[.bool false, codeV k]) ∧ _
      rw [e3] at hs ⊢
      clear hv e3 n1
      go_enter Try.func19, Try.ntmps19
      go_wp2_with fail
      refine (hs.out _ T0.out.bel).mono ?_
      rintro e w1 ⟨rfl, hb1⟩
      have T1 := Lib.hid (T0.out.below hb1 T0.out.lt)
      clear hb1
      go_wp2_with fail
      refine bodyPost_ret (v := .tuple #[.bool false, .iface 53 (.int .i64 k)]) ?_ rfl ⟨rfl, T1.out.bel⟩
      simp [results, Try.results19, go_sem]
end Go.Proofs.Ytknagcednppokaa

namespace Go.Proofs.Ytknagcednppokaa
open Go.RowKit

set_option maxRecDepth 100000 in
set_option maxHeartbeats 1600000 in
theorem is_0 (n : Nat) (f : FT) (cs : List Value) (a2 : Option Addr) (n2 cap2 : Nat) (zs : List Int) (w : World) (IH : ∀ (f : FT) (cs : List Value) (a2 : Option Addr) (n2 cap2 : Nat) (zs : List Int) (w : World), FLies w.heap.size w n f cs → sndF n f = true → (vOf zs n f).2 = true → zs.length = n2 → n2 ≤ 9223372036854775807 → Nums w.heap.size w a2 zs → Calls Try.prog 20 #[.agg cs.toArray, .slice a2 n2 cap2] w fun e w' => e = .returned (.bool (vOf zs n f).1) ∧ Below w.heap.size w w')
    (h : FLies w.heap.size w (n + 1) f cs) (hs : sndF (n + 1) f = true) (hv : (vOf zs (n + 1) f).2 = true) (hn2 : zs.length = n2) (hm2 : n2 ≤ 9223372036854775807) (hz : Nums w.heap.size w a2 zs) (hk : f.kind = 0) :
    Calls Try.prog 20 #[.agg cs.toArray, .slice a2 n2 cap2] w fun e w' => e = .returned (.bool (vOf zs (n + 1) f).1) ∧ Below w.heap.size w w' := by
  obtain ⟨hown, hkids⟩ := sndF_split hs
  obtain ⟨ta, tcap, ka, kcap, rfl, hlt, ht4, hk4, hks⟩ := h
  have B0 := Lib.hid (box_start w f.kind f.c ta ka f.t.length tcap f.ks.length kcap)
  rw [vOf_0 hk]
  rw [hk] at B0 ⊢
  generalize f.c = fc at B0
  generalize f.t.length = ft at B0
  generalize f.ks.length = len at B0
  clear IH hks hkids hlt hown hk hs hz hn2 hk4 hv ht4
  go_enter Try.func20, Try.ntmps20
  go_wp2_with fail
  go_ret
  exact ⟨rfl, B0.out.bel⟩

set_option maxRecDepth 100000 in
set_option maxHeartbeats 1600000 in
theorem is_1 (n : Nat) (f : FT) (cs : List Value) (a2 : Option Addr) (n2 cap2 : Nat) (zs : List Int) (w : World) (IH : ∀ (f : FT) (cs : List Value) (a2 : Option Addr) (n2 cap2 : Nat) (zs : List Int) (w : World), FLies w.heap.size w n f cs → sndF n f = true → (vOf zs n f).2 = true → zs.length = n2 → n2 ≤ 9223372036854775807 → Nums w.heap.size w a2 zs → Calls Try.prog 20 #[.agg cs.toArray, .slice a2 n2 cap2] w fun e w' => e = .returned (.bool (vOf zs n f).1) ∧ Below w.heap.size w w')
    (h : FLies w.heap.size w (n + 1) f cs) (hs : sndF (n + 1) f = true) (hv : (vOf zs (n + 1) f).2 = true) (hn2 : zs.length = n2) (hm2 : n2 ≤ 9223372036854775807) (hz : Nums w.heap.size w a2 zs) (hk : f.kind = 1) :
    Calls Try.prog 20 #[.agg cs.toArray, .slice a2 n2 cap2] w fun e w' => e = .returned (.bool (vOf zs (n + 1) f).1) ∧ Below w.heap.size w w' := by
  obtain ⟨hown, hkids⟩ := sndF_split hs
  obtain ⟨ta, tcap, ka, kcap, rfl, hlt, ht4, hk4, hks⟩ := h
  have B0 := Lib.hid (box_start w f.kind f.c ta ka f.t.length tcap f.ks.length kcap)
  rw [vOf_1 hk]
  rw [hk] at B0 ⊢
  generalize f.c = fc at B0
  generalize f.t.length = ft at B0
  generalize f.ks.length = len at B0
  clear IH hks hkids hlt hown hk hs hz hn2 hk4 hv ht4
  go_enter Try.func20, Try.ntmps20
  go_wp2_with fail
  go_ret
  exact ⟨rfl, B0.out.bel⟩

set_option maxRecDepth 100000 in
set_option maxHeartbeats 1600000 in
theorem is_2 (n : Nat) (f : FT) (cs : List Value) (a2 : Option Addr) (n2 cap2 : Nat) (zs : List Int) (w : World) (IH : ∀ (f : FT) (cs : List Value) (a2 : Option Addr) (n2 cap2 : Nat) (zs : List Int) (w : World), FLies w.heap.size w n f cs → sndF n f = true → (vOf zs n f).2 = true → zs.length = n2 → n2 ≤ 9223372036854775807 → Nums w.heap.size w a2 zs → Calls Try.prog 20 #[.agg cs.toArray, .slice a2 n2 cap2] w fun e w' => e = .returned (.bool (vOf zs n f).1) ∧ Below w.heap.size w w')
    (h : FLies w.heap.size w (n + 1) f cs) (hs : sndF (n + 1) f = true) (hv : (vOf zs (n + 1) f).2 = true) (hn2 : zs.length = n2) (hm2 : n2 ≤ 9223372036854775807) (hz : Nums w.heap.size w a2 zs) (hk : f.kind = 2) :
    Calls Try.prog 20 #[.agg cs.toArray, .slice a2 n2 cap2] w fun e w' => e = .returned (.bool (vOf zs (n + 1) f).1) ∧ Below w.heap.size w w' := by
  obtain ⟨hown, hkids⟩ := sndF_split hs
  obtain ⟨ta, tcap, ka, kcap, rfl, hlt, ht4, hk4, hks⟩ := h
  have B0 := Lib.hid (box_start w f.kind f.c ta ka f.t.length tcap f.ks.length kcap)
  have hsn := ownF_form hown (by omega)
  have hnear : ∀ i, i < f.t.length → near f.t zs i = true := by
    rw [vOf_2 (by omega)] at hv
    split at hv
    · assumption
    · cases hv
  have hr : (vOf zs (n + 1) f).1 = decide (sAt f.c f.t zs f.t.length ≤ 0) := by
    rw [vOf_2 (by omega), if_pos hnear]
    by_cases h0 : sAt f.c f.t zs f.t.length = 0
    · simp [h0]
    · by_cases h1 : sAt f.c f.t zs f.t.length < 0
      · simp [h0, h1, hk]; omega
      · simp [h0, h1, hk]; omega
  rw [hr]
  have hva := Lib.hid (fun W (hb : Below w.heap.size w W) => rvalue_any f.c ta f.t.length tcap f.t a2 n2 cap2 zs W rfl hn2 hm2 ((hlt.below hb).mono hb.size) ((hz.below hb).mono hb.size) hsn (sAt f.c f.t zs f.t.length) 0 (.inl ⟨rfl, rfl, hnear⟩))
  rw [hk] at B0 ⊢
  generalize sAt f.c f.t zs f.t.length = s at hva
  generalize f.c = fc at B0 hva
  generalize f.t.length = ft at B0 hva
  generalize f.ks.length = len at B0
  clear IH hks hkids hlt hown hk hs hz hn2 hk4 hv ht4 hsn hr hnear
  go_enter Try.func20, Try.ntmps20
  go_wp2_with fail
  refine (hva.out _ B0.out.bel).mono ?_
  rintro e w1 ⟨rfl, hb1⟩
  have T1 := Lib.hid (B0.out.below hb1 B0.out.lt)
  clear hb1
  go_wp2_with fail
  go_ret
  exact ⟨rfl, T1.out.bel⟩

set_option maxRecDepth 100000 in
set_option maxHeartbeats 1600000 in
theorem is_3 (n : Nat) (f : FT) (cs : List Value) (a2 : Option Addr) (n2 cap2 : Nat) (zs : List Int) (w : World) (IH : ∀ (f : FT) (cs : List Value) (a2 : Option Addr) (n2 cap2 : Nat) (zs : List Int) (w : World), FLies w.heap.size w n f cs → sndF n f = true → (vOf zs n f).2 = true → zs.length = n2 → n2 ≤ 9223372036854775807 → Nums w.heap.size w a2 zs → Calls Try.prog 20 #[.agg cs.toArray, .slice a2 n2 cap2] w fun e w' => e = .returned (.bool (vOf zs n f).1) ∧ Below w.heap.size w w')
    (h : FLies w.heap.size w (n + 1) f cs) (hs : sndF (n + 1) f = true) (hv : (vOf zs (n + 1) f).2 = true) (hn2 : zs.length = n2) (hm2 : n2 ≤ 9223372036854775807) (hz : Nums w.heap.size w a2 zs) (hk : f.kind = 3) :
    Calls Try.prog 20 #[.agg cs.toArray, .slice a2 n2 cap2] w fun e w' => e = .returned (.bool (vOf zs (n + 1) f).1) ∧ Below w.heap.size w w' := by
  obtain ⟨hown, hkids⟩ := sndF_split hs
  obtain ⟨ta, tcap, ka, kcap, rfl, hlt, ht4, hk4, hks⟩ := h
  have B0 := Lib.hid (box_start w f.kind f.c ta ka f.t.length tcap f.ks.length kcap)
  have hsn := ownF_form hown (by omega)
  have hnear : ∀ i, i < f.t.length → near f.t zs i = true := by
    rw [vOf_2 (by omega)] at hv
    split at hv
    · assumption
    · cases hv
  have hr : (vOf zs (n + 1) f).1 = decide (sAt f.c f.t zs f.t.length = 0) := by
    rw [vOf_2 (by omega), if_pos hnear]
    by_cases h0 : sAt f.c f.t zs f.t.length = 0
    · simp [h0]
    · by_cases h1 : sAt f.c f.t zs f.t.length < 0
      · simp [h0, h1, hk]
      · simp [h0, h1, hk]
  rw [hr]
  have hva := Lib.hid (fun W (hb : Below w.heap.size w W) => rvalue_any f.c ta f.t.length tcap f.t a2 n2 cap2 zs W rfl hn2 hm2 ((hlt.below hb).mono hb.size) ((hz.below hb).mono hb.size) hsn (sAt f.c f.t zs f.t.length) 0 (.inl ⟨rfl, rfl, hnear⟩))
  rw [hk] at B0 ⊢
  generalize sAt f.c f.t zs f.t.length = s at hva
  generalize f.c = fc at B0 hva
  generalize f.t.length = ft at B0 hva
  generalize f.ks.length = len at B0
  clear IH hks hkids hlt hown hk hs hz hn2 hk4 hv ht4 hsn hr hnear
  go_enter Try.func20, Try.ntmps20
  go_wp2_with fail
  refine (hva.out _ B0.out.bel).mono ?_
  rintro e w1 ⟨rfl, hb1⟩
  have T1 := Lib.hid (B0.out.below hb1 B0.out.lt)
  clear hb1
  go_wp2_with fail
  go_ret
  exact ⟨rfl, T1.out.bel⟩

set_option maxRecDepth 100000 in
set_option maxHeartbeats 1600000 in
theorem is_4 (n : Nat) (f : FT) (cs : List Value) (a2 : Option Addr) (n2 cap2 : Nat) (zs : List Int) (w : World) (IH : ∀ (f : FT) (cs : List Value) (a2 : Option Addr) (n2 cap2 : Nat) (zs : List Int) (w : World), FLies w.heap.size w n f cs → sndF n f = true → (vOf zs n f).2 = true → zs.length = n2 → n2 ≤ 9223372036854775807 → Nums w.heap.size w a2 zs → Calls Try.prog 20 #[.agg cs.toArray, .slice a2 n2 cap2] w fun e w' => e = .returned (.bool (vOf zs n f).1) ∧ Below w.heap.size w w')
    (h : FLies w.heap.size w (n + 1) f cs) (hs : sndF (n + 1) f = true) (hv : (vOf zs (n + 1) f).2 = true) (hn2 : zs.length = n2) (hm2 : n2 ≤ 9223372036854775807) (hz : Nums w.heap.size w a2 zs) (hk : f.kind = 4) :
    Calls Try.prog 20 #[.agg cs.toArray, .slice a2 n2 cap2] w fun e w' => e = .returned (.bool (vOf zs (n + 1) f).1) ∧ Below w.heap.size w w' := by
  obtain ⟨hown, hkids⟩ := sndF_split hs
  obtain ⟨ta, tcap, ka, kcap, rfl, hlt, ht4, hk4, hks⟩ := h
  have B0 := Lib.hid (box_start w f.kind f.c ta ka f.t.length tcap f.ks.length kcap)
  have hl := ownF_not hown hk
  rw [vOf_4 hk] at hv ⊢
  obtain ⟨b, off, c0, c1, c2, c3, rfl, hblt, g0, g1, g2, g3, hf⟩ := hks 0 (by omega)
  obtain ⟨ck, cc, cta, ctn, ctcap, cka, ckn, ckcap, rfl, rfl, rfl, rfl⟩ := hf.form
  have hih := Lib.hid (fun W (hb : Below w.heap.size w W) => IH (f.ks.getD 0 default) _ a2 n2 cap2 zs W ((hf.below hb).mono hb.size) (hkids 0 (by omega)) hv hn2 hm2 ((hz.below hb).mono hb.size))
  rw [← B0.out.bel.cell (p := ⟨b, _, none⟩) hblt] at g0 g1 g2 g3
  rw [hl] at B0
  rw [hl] at g0 g1 g2 g3
  rw [hk] at B0 g0 g1 g2 g3 ⊢
  generalize (vOf zs n (f.ks.getD 0 default)).1 = u at hih
  simp only [Nat.zero_mul, Nat.add_zero] at g0 g1 g2 g3
  generalize f.c = fc at B0 g0 g1 g2 g3
  generalize f.t.length = ft at B0 g0 g1 g2 g3
  clear IH hks hkids hlt hown hk hs hz hn2 hk4 hv ht4 hf
  rw [hl]
  clear hl
  go_enter Try.func20, Try.ntmps20
  go_wp2_with fail
  refine (hih.out _ B0.out.bel).mono ?_
  rintro e w1 ⟨rfl, hb1⟩
  have T1 := Lib.hid (B0.out.below hb1 B0.out.lt)
  clear hb1
  go_wp2_with fail
  go_ret
  exact ⟨rfl, T1.out.bel⟩
end Go.Proofs.Ytknagcednppokaa

namespace Go.Proofs.Ytknagcednppokaa
open Go.RowKit

set_option maxRecDepth 100000 in
set_option maxHeartbeats 1600000 in
theorem is_5 (n : Nat) (f : FT) (cs : List Value) (a2 : Option Addr) (n2 cap2 : Nat) (zs : List Int) (w : World) (IH : ∀ (f : FT) (cs : List Value) (a2 : Option Addr) (n2 cap2 : Nat) (zs : List Int) (w : World), FLies w.heap.size w n f cs → sndF n f = true → (vOf zs n f).2 = true → zs.length = n2 → n2 ≤ 9223372036854775807 → Nums w.heap.size w a2 zs → Calls Try.prog 20 #[.agg cs.toArray, .slice a2 n2 cap2] w fun e w' => e = .returned (.bool (vOf zs n f).1) ∧ Below w.heap.size w w')
    (h : FLies w.heap.size w (n + 1) f cs) (hs : sndF (n + 1) f = true) (hv : (vOf zs (n + 1) f).2 = true) (hn2 : zs.length = n2) (hm2 : n2 ≤ 9223372036854775807) (hz : Nums w.heap.size w a2 zs) (hk : f.kind = 5) :
    Calls Try.prog 20 #[.agg cs.toArray, .slice a2 n2 cap2] w fun e w' => e = .returned (.bool (vOf zs (n + 1) f).1) ∧ Below w.heap.size w w' := by
  obtain ⟨hown, hkids⟩ := sndF_split hs
  obtain ⟨ta, tcap, ka, kcap, rfl, hlt, ht4, hk4, hks⟩ := h
  have B0 := Lib.hid (box_start w f.kind f.c ta ka f.t.length tcap f.ks.length kcap)
  rw [vOf_5 hk] at hv ⊢
  have HNE := Lib.hid ((vTo_near f.ks.length (Nat.le_refl _)).1 hv)
  have HA := Lib.hid (vTo_and zs n f.ks)
  have HO := Lib.hid (vTo_or zs n f.ks)
  have HI := Lib.hid IH
  have HK := Lib.hid hks
  have HS := Lib.hid hkids
  have HZ := Lib.hid hz
  have HN2 := Lib.hid hn2
  have S0 : Hid (true = (vTo zs n true f.ks 0).1 ∧ false = (vTo zs n false f.ks 0).1) := ⟨rfl, rfl⟩
  generalize hr : (vTo zs n true f.ks f.ks.length).1 = r
  have HR := Lib.hid hr
  rw [hk] at B0 ⊢
  clear IH hks hkids hlt hown hs hz hv hn2 hk hr ht4
  generalize f.c = fc at B0
  generalize f.t.length = ft at B0
  generalize hl : f.ks.length = len at B0 HK hk4 HA HO HR HS HNE
  clear hl
  go_enter Try.func20, Try.ntmps20
  go_wp2_with fail
  go_loopw [10, 11, 12] (fun s4 s5 i wr => ∃ (k : Nat) (o u : Bool), k ≤ len ∧ i = .int .i64 k ∧ s4 = .bool o ∧ s5 = .bool u ∧ Hid (o = (vTo zs n true f.ks k).1 ∧ u = (vTo zs n false f.ks k).1) ∧ Hid (Box w wr w.heap.size 5 fc ta ft tcap ka len kcap)) (fun _ _ i _ => len - (intOf i).toNat)
  case atStart => exact ⟨0, true, false, Nat.zero_le _, rfl, rfl, rfl, S0, B0⟩
  case round =>
    obtain ⟨k, o, u, hk, rfl, rfl, rfl, hou, hbx⟩ := hrel
    obtain ⟨bz, q0, _, _, q3, hb⟩ := hbx.out
    by_cases hlt : k < len
    · obtain ⟨b, off, c0, c1, c2, c3, rfl, hblt, g0, g1, g2, g3, hf⟩ := HK.out k hlt
      rw [← hb.cell (p := ⟨b, _, none⟩) hblt] at g0 g1 g2 g3
      obtain ⟨ck, cc, cta, ctn, ctcap, cka, ckn, ckcap, rfl, rfl, rfl, rfl⟩ := hf.form
      have hih := HI.out (f.ks.getD k default) _ a2 n2 cap2 zs _ ((hf.below hb).mono hb.size) (HS.out k hlt) (HNE.out k hlt) HN2.out hm2 ((HZ.out.below hb).mono hb.size)
      have ha := HA.out k hlt
      have ho := HO.out k hlt
      rw [← hou.out.1] at ha
      rw [← hou.out.2] at ho
      generalize (vOf zs n (f.ks.getD k default)).1 = v at hih ha ho
      have HX := Lib.hid (And.intro ha ho)
      clear hf ha ho hou
      go_wp2_with fail
      refine hih.mono ?_
      rintro e w1 ⟨rfl, hb1⟩
      have HB1 := Lib.hid (hbx.out.below hb1 bz)
      clear g0 g1 g2 g3 hih hb1 hb hbx q0 q3
      cases o <;> cases u <;> cases v
      all_goals
        go_wp2_with fail
        go_roundw
        case rel => exact ⟨k + 1, _, _, by omega, by go_num, rfl, rfl, ⟨HX.out.1.symm, HX.out.2.symm⟩, HB1⟩
        case measure => simp [intOf]; omega
    · have hr : r = o := by
        obtain rfl : k = len := by omega
        rw [← HR.out]; exact hou.out.1.symm
      subst hr
      clear hou
      go_wp2_with fail
      go_ret
      exact ⟨rfl, hb⟩
end Go.Proofs.Ytknagcednppokaa
