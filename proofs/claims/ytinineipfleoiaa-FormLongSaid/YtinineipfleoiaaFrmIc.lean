/- formula.value, kind by kind. -/
import Derived.Test.YtinineipfleoiaaFrmI0
namespace Go.Proofs.Ytinineipfleoiaa
open Go.RowKit

set_option maxRecDepth 100000 in
set_option maxHeartbeats 4000000 in
theorem value_5 (n : Nat) (f : FT) (cs : List Value) (a2 : Option Addr) (n2 cap2 : Nat) (zs : List Int) (w : World) (IH : ∀ (f : FT) (cs : List Value) (a2 : Option Addr) (n2 cap2 : Nat) (zs : List Int) (w : World), FLies w.heap.size w n f cs → sndF n f = true → zs.length = n2 → Nums w.heap.size w a2 zs → Calls Try.prog 29 #[.agg cs.toArray, .slice a2 n2 cap2] w (ValEnd w.heap.size (vOf zs n f) w))
    (h : FLies w.heap.size w (n + 1) f cs) (hs : sndF (n + 1) f = true) (hn2 : zs.length = n2) (hz : Nums w.heap.size w a2 zs) (hk : f.kind = 6) :
    Calls Try.prog 29 #[.agg cs.toArray, .slice a2 n2 cap2] w (ValEnd w.heap.size (vOf zs (n + 1) f) w) := by
    obtain ⟨hown, hkids⟩ := sndF_split hs
    obtain ⟨ta, tcap, ka, kcap, rfl, hlt, ht4, hk4, hks⟩ := h
    have B0 := Lib.hid (box_start w f.kind f.c ta ka f.t.length tcap f.ks.length kcap)
    have hv : vOf zs (n + 1) f = vTo zs n false f.ks f.ks.length := by
      show (if f.kind = 0 then _ else if f.kind = 1 then _ else if f.kind = 2 ∨ f.kind = 3 then _ else if f.kind = 4 then _ else _) = _
      rw [if_neg (by omega), if_neg (by omega), if_neg (by omega), if_neg (by omega)]
      unfold vTo
      rw [List.take_length, show (f.kind == 5) = false from by rw [hk]; rfl]
    have HST := Lib.hid (vTo_succ zs n false f.ks)
    have HI := Lib.hid IH
    have HK := Lib.hid hks
    have HS := Lib.hid hkids
    have HZ := Lib.hid hz
    have HN2 := Lib.hid hn2
    rw [hv]
    have S0 : Hid ((false, true) = vTo zs n false f.ks 0) := rfl
    generalize hr : vTo zs n false f.ks f.ks.length = r
    have HR := Lib.hid hr
    rw [hk] at B0 ⊢
    clear IH hks hkids hlt hown hs hz hv hn2 hk hr
    generalize f.c = fc at B0
    generalize f.t.length = ft at B0
    generalize hl : f.ks.length = len at B0 HK hk4 HST HR HS
    clear hl
    go_enter Try.func29, Try.ntmps29
    go_wp2_with fail
    go_loopw [4, 5, 67] (fun s4 s5 i wr => ∃ (k : Nat) (o u : Bool), k ≤ len ∧ i = .int .i64 k ∧ s4 = .bool o ∧ s5 = .bool u ∧ Hid ((o, u) = vTo zs n false f.ks k) ∧ Below w.heap.size w wr) (fun _ _ i _ => len - (intOf i).toNat)
    case atStart => exact ⟨0, false, true, Nat.zero_le _, rfl, rfl, rfl, S0, B0.out.bel⟩
    case round =>
      obtain ⟨k, o, u, hk, rfl, rfl, rfl, hou, hb⟩ := hrel
      by_cases hlt : k < len
      · obtain ⟨b, off, c0, c1, c2, c3, rfl, hblt, g0, g1, g2, g3, hf⟩ := HK.out k hlt
        rw [← hb.cell (p := ⟨b, _, none⟩) hblt] at g0 g1 g2 g3
        obtain ⟨ck, cc, cta, ctn, ctcap, cka, ckn, ckcap, rfl, rfl, rfl, rfl⟩ := hf.form
        have hb2 := hb.alloc hb.size (.cells #[.int .i64 ck, .int .i64 cc, .slice cta ctn ctcap, .slice cka ckn ckcap] 27)
        have hih := HI.out (f.ks.getD k default) _ a2 n2 cap2 zs _ ((hf.below hb2).mono hb2.size) (HS.out k hlt) HN2.out ((HZ.out.below hb2).mono hb2.size)
        have hst := HST.out k hlt
        rw [← hou.out] at hst
        generalize vOf zs n (f.ks.getD k default) = p at hih hst
        obtain ⟨v, y⟩ := p
        have HO := Lib.hid hst
        clear hf hst hou
        go_wp2_with fail
        refine hih.mono ?_
        rintro e w1 ⟨rfl, hb1⟩
        have HB1 := Lib.hid (hb2.trans (hb1.mono hb2.size))
        clear g0 g1 g2 g3 hih hb1 hb2
        cases u <;> cases v <;> cases y
        all_goals
          go_wp2_with fail
          go_roundw
          case rel => exact ⟨k + 1, _, _, by omega, by go_num, rfl, rfl, (HO.out.trans (by cases o <;> rfl)).symm, HB1.out⟩
          case measure => simp [intOf]; omega
      · have hr : r = (o, u) := by
          obtain rfl : k = len := by omega
          rw [← HR.out, hou.out]
        subst hr
        clear hou
        go_wp2_with fail
        refine bodyPost_ret (v := .tuple #[.bool o, .bool u]) ?_ rfl ⟨rfl, hb⟩
        simp [results, Try.results29, go_sem]

end Go.Proofs.Ytinineipfleoiaa
