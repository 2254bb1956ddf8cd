/- The document's Same, of one formula in two places. -/
import Derived.Test.YtknagcednppokaaFrmD
import Derived.Test.YtknagcednppokaaLinT
import Derived.Deep.RegionHeld3
namespace Go.Proofs.Ytknagcednppokaa
open Go.RowKit


theorem same_self (c : Int) (l : List (Int × Int)) : same c c l l = true := by unfold same; simp

set_option maxRecDepth 100000 in
set_option maxHeartbeats 2000000 in
theorem same2_any : ∀ (n : Nat) (f : FT) (csa csb : List Value) (w : World), FLies w.heap.size w n f csa → FLies w.heap.size w n f csb →
    Calls Try.prog 12 #[.agg csa.toArray, .agg csb.toArray] w fun e w' => e = .returned (.bool true) ∧ Below w.heap.size w w'
  | 0, _, _, _, _, h, _ => h.elim
  | n + 1, f, csa, csb, w, ha, hb => by
    have IH := same2_any n
    obtain ⟨ta, tcap, ka, kcap, rfl, hlta, ht4, hk4, hksa⟩ := ha
    obtain ⟨tb, tcapb, kb, kcapb, rfl, hltb, _, _, hksb⟩ := hb
    have hsz : (w.alloc (.cells #[.int .i64 f.kind, .int .i64 f.c, .slice ta f.t.length tcap, .slice ka f.ks.length kcap] 28)).heap.size = w.heap.size + 1 := by simp
    have hbB := box_start (w.alloc (.cells #[.int .i64 f.kind, .int .i64 f.c, .slice ta f.t.length tcap, .slice ka f.ks.length kcap] 28)) f.kind f.c tb kb f.t.length tcapb f.ks.length kcapb
    rw [hsz] at hbB
    have B0 := Lib.hid (And.intro ((box_start w f.kind f.c ta ka f.t.length tcap f.ks.length kcap).below hbB.bel (Nat.lt_succ_self _)) hbB)
    have HS := Lib.hid (fun W (hb : Below w.heap.size w W) => same_any f.c f.c ta tb f.t.length f.t.length tcap tcapb f.t f.t W rfl rfl ht4 ht4 ((hlta.below hb).mono hb.size) ((hltb.below hb).mono hb.size))
    rw [same_self] at HS
    have HI := Lib.hid IH
    have HA := Lib.hid hksa
    have HB := Lib.hid hksb
    have e1 : (f.kind != f.kind) = false := by simp
    have e2 : ((f.ks.length : Int) != (f.ks.length : Int)) = false := by simp
    clear IH hksa hksb hlta hltb hsz hbB
    generalize f.kind = fk at B0 e1
    generalize f.c = fc at B0 HS
    generalize f.t.length = ft at B0 HS ht4
    generalize hl : f.ks.length = len at B0 HA HB hk4 e2
    clear hl
    generalize hw1 : w.alloc (.cells #[.int .i64 fk, .int .i64 fc, .slice ta ft tcap, .slice ka len kcap] 28) = w1 at B0
    have L0 := B0.out.2.lt
    obtain ⟨_, p0, p1, p2, p3, bela⟩ := B0.out.1
    obtain ⟨_, r0, r1, r2, r3, _⟩ := B0.out.2
    have BA := Lib.hid bela
    clear bela
    subst hw1
    go_enter Try.func12, Try.ntmps12
    go_wp2_with fail
    refine (HS.out _ BA.out).mono ?_
    rintro e w2 ⟨rfl, hb2⟩
    have T2 := Lib.hid (And.intro (B0.out.1.below hb2 (Nat.lt_of_succ_lt L0)) (B0.out.2.below hb2 L0))
    clear hb2 p0 p1 p2 p3 r0 r1 r2 r3 HS
    generalize w.alloc (.cells #[.int .i64 fk, .int .i64 fc, .slice ta ft tcap, .slice ka len kcap] 28) = w1 at B0 T2 BA
    go_wp2_with fail
    go_loopw [5] (fun i wr => ∃ (k : Nat), k ≤ len ∧ i = .int .i64 k ∧ Hid (Box w wr w.heap.size fk fc ta ft tcap ka len kcap ∧ Box w1 wr (w.heap.size + 1) fk fc tb ft tcapb kb len kcapb)) (fun i _ => len - (intOf i).toNat)
    case atStart => exact ⟨0, Nat.zero_le _, rfl, T2⟩
    case round =>
      obtain ⟨k, hk, rfl, hbx⟩ := hrel
      obtain ⟨bz, _, _, _, q3, hb⟩ := hbx.out.1
      obtain ⟨bz2, _, _, _, s3, _⟩ := hbx.out.2
      by_cases hlt : k < len
      · obtain ⟨ba, offa, c0, c1, c2, c3, rfl, hba, g0, g1, g2, g3, hfa⟩ := HA.out k hlt
        obtain ⟨bb, offb, d0, d1, d2, d3, rfl, hbb, h0, h1, h2, h3, hfb⟩ := HB.out k hlt
        rw [← hb.cell (p := ⟨ba, _, none⟩) hba] at g0 g1 g2 g3
        rw [← hb.cell (p := ⟨bb, _, none⟩) hbb] at h0 h1 h2 h3
        obtain ⟨ck, cc, cta, ctn, ctcap, cka, ckn, ckcap, rfl, rfl, rfl, rfl⟩ := hfa.form
        obtain ⟨dk, dc, dta, dtn, dtcap, dka, dkn, dkcap, rfl, rfl, rfl, rfl⟩ := hfb.form
        have HIH := Lib.hid (fun W (hb : Below w.heap.size w W) => HI.out (f.ks.getD k default) _ _ W ((hfa.below hb).mono hb.size) ((hfb.below hb).mono hb.size))
        have K5 : Hid (∀ W' : World, (∀ b' o, b' ≤ w.heap.size + 1 → W'.cell? ⟨b', o, none⟩ = wr.cell? ⟨b', o, none⟩) → W'.cell? ⟨w.heap.size, 3, none⟩ = some (.slice (some ⟨ba, offa, none⟩) len kcap) ∧ W'.cell? ⟨w.heap.size + 1, 3, none⟩ = some (.slice (some ⟨bb, offb, none⟩) len kcapb) ∧
            W'.cell? ⟨ba, offa + k * 4, none⟩ = some (.int .i64 ck) ∧ W'.cell? ⟨ba, offa + k * 4 + 1, none⟩ = some (.int .i64 cc) ∧ W'.cell? ⟨ba, offa + k * 4 + 2, none⟩ = some (.slice cta ctn ctcap) ∧ W'.cell? ⟨ba, offa + k * 4 + 3, none⟩ = some (.slice cka ckn ckcap) ∧
            W'.cell? ⟨bb, offb + k * 4, none⟩ = some (.int .i64 dk) ∧ W'.cell? ⟨bb, offb + k * 4 + 1, none⟩ = some (.int .i64 dc) ∧ W'.cell? ⟨bb, offb + k * 4 + 2, none⟩ = some (.slice dta dtn dtcap) ∧ W'.cell? ⟨bb, offb + k * 4 + 3, none⟩ = some (.slice dka dkn dkcap)) :=
          fun W' h => ⟨(h _ _ (by omega)).trans q3, (h _ _ (by omega)).trans s3, (h _ _ (by omega)).trans g0, (h _ _ (by omega)).trans g1, (h _ _ (by omega)).trans g2, (h _ _ (by omega)).trans g3, (h _ _ (by omega)).trans h0, (h _ _ (by omega)).trans h1, (h _ _ (by omega)).trans h2, (h _ _ (by omega)).trans h3⟩
        clear hfa hfb
        go_wp2_with fail
        go_region_held3 (fun W' => W'.cell? ⟨w.heap.size, 3, none⟩ = some (.slice (some ⟨ba, offa, none⟩) len kcap) ∧ W'.cell? ⟨w.heap.size + 1, 3, none⟩ = some (.slice (some ⟨bb, offb, none⟩) len kcapb) ∧
            W'.cell? ⟨ba, offa + k * 4, none⟩ = some (.int .i64 ck) ∧ W'.cell? ⟨ba, offa + k * 4 + 1, none⟩ = some (.int .i64 cc) ∧ W'.cell? ⟨ba, offa + k * 4 + 2, none⟩ = some (.slice cta ctn ctcap) ∧ W'.cell? ⟨ba, offa + k * 4 + 3, none⟩ = some (.slice cka ckn ckcap) ∧
            W'.cell? ⟨bb, offb + k * 4, none⟩ = some (.int .i64 dk) ∧ W'.cell? ⟨bb, offb + k * 4 + 1, none⟩ = some (.int .i64 dc) ∧ W'.cell? ⟨bb, offb + k * 4 + 2, none⟩ = some (.slice dta dtn dtcap) ∧ W'.cell? ⟨bb, offb + k * 4 + 3, none⟩ = some (.slice dka dkn dkcap))
          (first
            | with_reducible exact T5.out
            | go_keep)
          (first
            | (go_at_call 12
               refine (HIH.out _ hb.drew).mono ?_
               rintro e w5 ⟨rfl, hb5⟩
               have HB5 : Hid (Below wr.heap.size wr w5) := (Below.refl _ wr).drew.trans hb5
               have T5 := Lib.hid (K5.out w5 (fun b' o h => HB5.out.cell (p := ⟨b', o, none⟩) (by show b' < _; omega)))))
        have BX5 := Lib.hid (And.intro (hbx.out.1.below HB5.out bz) (hbx.out.2.below HB5.out bz2))
        clear g0 g1 g2 g3 h0 h1 h2 h3 q3 s3 T5 HIH K5 hb5
        go_wp2_with fail
        go_roundw
        case rel => exact ⟨k + 1, by omega, by go_num, BX5⟩
        case measure => simp [intOf]; omega
      · go_wp2_with fail
        go_ret
        exact ⟨rfl, hb⟩
end Go.Proofs.Ytknagcednppokaa
