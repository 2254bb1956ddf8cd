/- The document's Same, of one formula in two places. CnfStays: its walk. -/
import Derived.Test.YtelndcmfddbgiaaDoorCs07
import Derived.Test.YtelndcmfddbgiaaDoorCs23
import Derived.Test.YtelndcmfddbgiaaDoorCs24
import Derived.Test.YtelndcmfddbgiaaDoorCs26
import Derived.Deep.RegionHeld3
import Derived.Lib.QuietBelow
import Derived.BigQuiet
set_option linter.unusedVariables false
set_option linter.unusedSimpArgs false
namespace Go.Proofs.YtelndcmfddbgiaaDoor
open Go.RowKit


theorem same_self (c : Int) (l : List (Int × Int)) : same c c l l = true := by unfold same; simp

set_option maxRecDepth 100000 in
set_option maxHeartbeats 2000000 in
theorem same2_any : ∀ (n : Nat) (f : FT) (csa csb : List Value) (w : World), FLies w.heap.size w n f csa → FLies w.heap.size w n f csb →
    Calls Tryd.prog 19 #[.agg csa.toArray, .agg csb.toArray] w fun e w' => e = .returned (.bool true) ∧ Below w.heap.size w w'
  | 0, _, _, _, _, h, _ => h.elim
  | n + 1, f, csa, csb, w, ha, hb => by
    have IH := same2_any n
    obtain ⟨ta, tcap, ka, kcap, rfl, hlta, ht4, hk4, hksa⟩ := ha
    obtain ⟨tb, tcapb, kb, kcapb, rfl, hltb, _, _, hksb⟩ := hb
    have hsz : (w.alloc (.cells #[.int .i64 f.kind, .int .i64 f.c, .slice ta f.t.length tcap, .slice ka f.ks.length kcap] 27)).heap.size = w.heap.size + 1 := by simp
    have hbB := box_start (w.alloc (.cells #[.int .i64 f.kind, .int .i64 f.c, .slice ta f.t.length tcap, .slice ka f.ks.length kcap] 27)) f.kind f.c tb kb f.t.length tcapb f.ks.length kcapb
    rw [hsz] at hbB
    have B0 := Lib.hid (And.intro ((box_start w f.kind f.c ta ka f.t.length tcap f.ks.length kcap).below hbB.bel (Nat.lt_succ_self _)) hbB)
    have HS := Lib.hid (fun W (hb : Below w.heap.size w W) => same_any f.c f.c ta tb f.t.length f.t.length tcap tcapb f.t f.t W rfl rfl ht4 ht4 ((hlta.below hb).mono hb.size) ((hltb.below hb).mono hb.size))
    rw [same_self] at HS
    have HI := Lib.hid IH
    have HA := Lib.hid hksa
    have HB := Lib.hid hksb
    have e1 : (f.kind != f.kind) = false := by simp
    have e2 : ((f.ks.length : Int) != (f.ks.length : Int)) = false := by simp
    clear IH hksa hksb hlta hltb hsz hbB
    generalize f.kind = fk at B0 e1
    generalize f.c = fc at B0 HS
    generalize f.t.length = ft at B0 HS ht4
    generalize hl : f.ks.length = len at B0 HA HB hk4 e2
    clear hl
    generalize hw1 : w.alloc (.cells #[.int .i64 fk, .int .i64 fc, .slice ta ft tcap, .slice ka len kcap] 27) = w1 at B0
    have L0 := B0.out.2.lt
    obtain ⟨_, p0, p1, p2, p3, bela⟩ := B0.out.1
    obtain ⟨_, r0, r1, r2, r3, _⟩ := B0.out.2
    have BA := Lib.hid bela
    clear bela
    subst hw1
    go_enter Tryd.func19, Tryd.ntmps19
    go_wp2_with fail
    refine (HS.out _ BA.out).mono ?_
    rintro e w2 ⟨rfl, hb2⟩
    have T2 := Lib.hid (And.intro (B0.out.1.below hb2 (Nat.lt_of_succ_lt L0)) (B0.out.2.below hb2 L0))
    clear hb2 p0 p1 p2 p3 r0 r1 r2 r3 HS
    generalize w.alloc (.cells #[.int .i64 fk, .int .i64 fc, .slice ta ft tcap, .slice ka len kcap] 27) = w1 at B0 T2 BA
    go_wp2_with fail
    go_loopw [5] (fun i wr => ∃ (k : Nat), k ≤ len ∧ i = .int .i64 k ∧ Hid (Box w wr w.heap.size fk fc ta ft tcap ka len kcap ∧ Box w1 wr (w.heap.size + 1) fk fc tb ft tcapb kb len kcapb)) (fun i _ => len - (intOf i).toNat)
    case atStart => exact ⟨0, Nat.zero_le _, rfl, T2⟩
    case round =>
      obtain ⟨k, hk, rfl, hbx⟩ := hrel
      obtain ⟨bz, _, _, _, q3, hb⟩ := hbx.out.1
      obtain ⟨bz2, _, _, _, s3, _⟩ := hbx.out.2
      by_cases hlt : k < len
      · obtain ⟨ba, offa, c0, c1, c2, c3, rfl, hba, g0, g1, g2, g3, hfa⟩ := HA.out k hlt
        obtain ⟨bb, offb, d0, d1, d2, d3, rfl, hbb, h0, h1, h2, h3, hfb⟩ := HB.out k hlt
        rw [← hb.cell (p := ⟨ba, _, none⟩) hba] at g0 g1 g2 g3
        rw [← hb.cell (p := ⟨bb, _, none⟩) hbb] at h0 h1 h2 h3
        obtain ⟨ck, cc, cta, ctn, ctcap, cka, ckn, ckcap, rfl, rfl, rfl, rfl⟩ := hfa.form
        obtain ⟨dk, dc, dta, dtn, dtcap, dka, dkn, dkcap, rfl, rfl, rfl, rfl⟩ := hfb.form
        have HIH := Lib.hid (fun W (hb : Below w.heap.size w W) => HI.out (f.ks.getD k default) _ _ W ((hfa.below hb).mono hb.size) ((hfb.below hb).mono hb.size))
        have K5 : Hid (∀ W' : World, (∀ b' o, b' ≤ w.heap.size + 1 → W'.cell? ⟨b', o, none⟩ = wr.cell? ⟨b', o, none⟩) → W'.cell? ⟨w.heap.size, 3, none⟩ = some (.slice (some ⟨ba, offa, none⟩) len kcap) ∧ W'.cell? ⟨w.heap.size + 1, 3, none⟩ = some (.slice (some ⟨bb, offb, none⟩) len kcapb) ∧
            W'.cell? ⟨ba, offa + k * 4, none⟩ = some (.int .i64 ck) ∧ W'.cell? ⟨ba, offa + k * 4 + 1, none⟩ = some (.int .i64 cc) ∧ W'.cell? ⟨ba, offa + k * 4 + 2, none⟩ = some (.slice cta ctn ctcap) ∧ W'.cell? ⟨ba, offa + k * 4 + 3, none⟩ = some (.slice cka ckn ckcap) ∧
            W'.cell? ⟨bb, offb + k * 4, none⟩ = some (.int .i64 dk) ∧ W'.cell? ⟨bb, offb + k * 4 + 1, none⟩ = some (.int .i64 dc) ∧ W'.cell? ⟨bb, offb + k * 4 + 2, none⟩ = some (.slice dta dtn dtcap) ∧ W'.cell? ⟨bb, offb + k * 4 + 3, none⟩ = some (.slice dka dkn dkcap)) :=
          fun W' h => ⟨(h _ _ (by omega)).trans q3, (h _ _ (by omega)).trans s3, (h _ _ (by omega)).trans g0, (h _ _ (by omega)).trans g1, (h _ _ (by omega)).trans g2, (h _ _ (by omega)).trans g3, (h _ _ (by omega)).trans h0, (h _ _ (by omega)).trans h1, (h _ _ (by omega)).trans h2, (h _ _ (by omega)).trans h3⟩
        clear hfa hfb
        go_wp2_with fail
        go_region_held3 (fun W' => W'.cell? ⟨w.heap.size, 3, none⟩ = some (.slice (some ⟨ba, offa, none⟩) len kcap) ∧ W'.cell? ⟨w.heap.size + 1, 3, none⟩ = some (.slice (some ⟨bb, offb, none⟩) len kcapb) ∧
            W'.cell? ⟨ba, offa + k * 4, none⟩ = some (.int .i64 ck) ∧ W'.cell? ⟨ba, offa + k * 4 + 1, none⟩ = some (.int .i64 cc) ∧ W'.cell? ⟨ba, offa + k * 4 + 2, none⟩ = some (.slice cta ctn ctcap) ∧ W'.cell? ⟨ba, offa + k * 4 + 3, none⟩ = some (.slice cka ckn ckcap) ∧
            W'.cell? ⟨bb, offb + k * 4, none⟩ = some (.int .i64 dk) ∧ W'.cell? ⟨bb, offb + k * 4 + 1, none⟩ = some (.int .i64 dc) ∧ W'.cell? ⟨bb, offb + k * 4 + 2, none⟩ = some (.slice dta dtn dtcap) ∧ W'.cell? ⟨bb, offb + k * 4 + 3, none⟩ = some (.slice dka dkn dkcap))
          (first
            | with_reducible exact T5.out
            | go_keep)
          (first
            | (go_at_call 19
               refine (HIH.out _ hb.drew).mono ?_
               rintro e w5 ⟨rfl, hb5⟩
               have HB5 : Hid (Below wr.heap.size wr w5) := (Below.refl _ wr).drew.trans hb5
               have T5 := Lib.hid (K5.out w5 (fun b' o h => HB5.out.cell (p := ⟨b', o, none⟩) (by show b' < _; omega)))))
        have BX5 := Lib.hid (And.intro (hbx.out.1.below HB5.out bz) (hbx.out.2.below HB5.out bz2))
        clear g0 g1 g2 g3 h0 h1 h2 h3 q3 s3 T5 HIH K5 hb5
        go_wp2_with fail
        go_roundw
        case rel => exact ⟨k + 1, by omega, by go_num, BX5⟩
        case measure => simp [intOf]; omega
      · go_wp2_with fail
        go_ret
        exact ⟨rfl, hb⟩
end Go.Proofs.YtelndcmfddbgiaaDoor

set_option linter.unusedVariables false
set_option linter.unusedSimpArgs false
namespace Go.Proofs.YtelndcmfddbgiaaDoor
set_option maxRecDepth 100000
open Go.RowKit

set_option maxHeartbeats 1000000 in
theorem smallL_any (n : Nat) (f : FT) (cs : List Value) (w : World) (h : FLies w.heap.size w n f cs) :
    Calls Tryd.prog 8 #[.agg cs.toArray] w fun e w' => ∃ b : Bool, e = .returned (.bool b) ∧ (b = true → litF n f) ∧ Below w.heap.size w w' := by
  have FL := fun W (hb : Below w.heap.size w W) => (h.below hb).mono hb.size
  cases n with
  | zero => exact h.elim
  | succ n =>
    obtain ⟨ta, tcap, ka, kcap, rfl, _⟩ := h
    have T0 := Lib.hid (box_start w f.kind f.c ta ka f.t.length tcap f.ks.length kcap)
    have hl := Lib.hid (fun W hb => litn_any (n + 1) f _ 1500 200 W (by omega) (by omega) (by omega) (by omega) (FL W hb))
    clear FL
    generalize litF (n + 1) f = L at hl ⊢
    generalize f.kind = fk at T0 hl
    generalize f.c = fc at T0 hl
    generalize f.t.length = ft at T0 hl
    generalize f.ks.length = fl at T0 hl
    go_enter Tryd.func8, Tryd.ntmps8
    go_wp2_with fail
    refine (hl.out _ T0.out.bel).mono ?_
    rintro e w1 ⟨v, rfl, hv1, hv2, hL, hb1⟩
    have HL := Lib.hid hL
    have T1 := Lib.hid (T0.out.below hb1 T0.out.lt)
    clear hb1 hL
    go_wp2_with fail
    go_ret
    exact ⟨_, rfl, fun h => HL.out (by simpa using h), T1.out.bel⟩
theorem er_nil (x : Int) : Prp.codeV x = .nilIface ∨ ∃ v, Prp.codeV x = .iface 43 v := by
  unfold Prp.codeV
  split
  · exact .inl rfl
  · exact .inr ⟨_, rfl⟩
theorem WrC.below {S : Nat → Prop} {w w' : World} {ca : Option Addr} {cn : Nat} (h : WrC S w ca cn) (hS : ∀ b, S b → b < w.heap.size) (hb : Below w.heap.size w w') : WrC S w' ca cn := fun i hi => by
  obtain ⟨b, off, ta, n, tcap, e, h1, h2, h3, h4⟩ := h i hi
  refine ⟨b, off, ta, n, tcap, e, ⟨Nat.lt_of_lt_of_le h1.1 hb.size, h1.2⟩, (hb.cell (p := ⟨b, off + i, none⟩) h1.1).trans h2, h3, fun k hk => ?_⟩
  obtain ⟨b', off', e', s', v, hv⟩ := h4 k hk
  exact ⟨b', off', e', s', v, (hb.cell (p := ⟨b', off' + k, none⟩) (hS b' s')).trans hv⟩
theorem WrA.below {S : Nat → Prop} {w w' : World} {ca : Option Addr} {cn : Nat} (h : WrA S w ca cn) (hS : ∀ b, S b → b < w.heap.size) (hb : Below w.heap.size w w') : WrA S w' ca cn := fun i hi => by
  obtain ⟨b, off, ta, n, tcap, e, h1, h2, h3, h4⟩ := h i hi
  refine ⟨b, off, ta, n, tcap, e, ⟨Nat.lt_of_lt_of_le h1.1 hb.size, h1.2⟩, (hb.cell (p := ⟨b, off + i * 2 + 1, none⟩) h1.1).trans h2, h3, fun k hk => ?_⟩
  obtain ⟨b', off', e', s', v, hv⟩ := h4 k hk
  exact ⟨b', off', e', s', v, (hb.cell (p := ⟨b', off' + k * 2 + 1, none⟩) (hS b' s')).trans hv⟩
set_option maxHeartbeats 16000000 in
theorem cnfStays_any (hup : UpSaid9) (n : Nat) (f : FT) (cs : List Value) (w : World) (h : FLies w.heap.size w n f cs) (ht : Tens w.heap.size w) :
    Calls Tryd.prog 6 #[.agg cs.toArray] w fun e w' => e = .returned (.bool true) ∧ Below w.heap.size w w' := by
  obtain ⟨n, rfl⟩ : ∃ m, n = m + 1 := by
    cases n with
    | zero => exact h.elim
    | succ n => exact ⟨n, rfl⟩
  have hh := h
  obtain ⟨ta, tcap, ka, kcap, rfl, _⟩ := h
  have T0 := Lib.hid (box_start w f.kind f.c ta ka f.t.length tcap f.ks.length kcap)
  have FL := Lib.hid (fun W (hb : Below w.heap.size w W) => (hh.below hb).mono hb.size)
  have HUP := Lib.hid (fun W (hb : Below w.heap.size w W) => hup W (ht.up hb hb.size))
  have HSM := Lib.hid (fun W (hb : Below w.heap.size w W) => smallL_any (n + 1) f _ W (FL.out W hb))
  have HCP := Lib.hid (fun (hl : litF (n + 1) f) W (hb : Below w.heap.size w W) => copy_any (n + 1) f _ W (FL.out W hb) hl)
  have HMK := Lib.hid (fun cs W (hb : Below w.heap.size w W) hf => make_any (n + 1) f cs W hf (ht.up hb hb.size))
  have HRM := Lib.hid (fun W (hb : Below w.heap.size w W) => rmake_any (n + 1) f _ W (FL.out W hb))
  have HSA := Lib.hid (fun csa W (hb : Below w.heap.size w W) (ha : FLies W.heap.size W (n + 1) f csa) => same2_any (n + 1) f csa _ W ha (FL.out W hb))
  clear hup ht FL hh
  generalize f.kind = fk at *
  generalize f.c = fc at *
  generalize f.t.length = ft at *
  generalize f.ks.length = fl at *
  go_enter Tryd.func6, Tryd.ntmps6
  go_wp2_with fail
  refine (HUP.out _ T0.out.bel).mono ?_
  rintro e w1 ⟨rfl, hb1⟩
  have T1 := Lib.hid (T0.out.below hb1 T0.out.lt)
  clear hb1 HUP
  obtain ⟨l1, p0, p1, p2, p3, _⟩ := T1.out
  go_wp2_with fail
  refine (HSM.out _ T1.out.bel).mono ?_
  rintro e w2 ⟨b, rfl, hlit, hb2⟩
  have T2 := Lib.hid (T1.out.below hb2 T1.out.lt)
  clear hb2 HSM l1 p0 p1 p2 p3
  obtain ⟨l2, p0, p1, p2, p3, _⟩ := T2.out
  cases b with
  | false =>
    clear hlit
    go_wp2_with fail
    go_ret
    exact ⟨rfl, T2.out.bel⟩
  | true =>
    have HC2 := Lib.hid (HCP.out (hlit rfl) _ T2.out.bel)
    clear hlit HCP
    go_wp2_with fail
    refine HC2.out.mono ?_
    rintro e w3 ⟨cs3, rfl, hf3, hb3⟩
    obtain ⟨k3, c3, ta3, tn3, tcap3, ka3, kn3, kcap3, rfl⟩ := hf3.form
    have hfl3 : FLies w3.heap.size w3 (n + 1) f _ := hf3.lies (fun b hb => hb.2)
    have T3 := Lib.hid (T2.out.below hb3 T2.out.lt)
    have hA3 : Below w3.heap.size w3 (w3.alloc (.cells #[.int .i64 k3, .int .i64 c3, .slice ta3 tn3 tcap3, .slice ka3 kn3 kcap3] 27)) := (Below.refl _ _).alloc (Nat.le_refl _) _
    have HO := Lib.hid (box_start w3 k3 c3 ta3 ka3 tn3 tcap3 kn3 kcap3)
    have T4 := Lib.hid (T3.out.below hA3 T3.out.lt)
    have HF4 := Lib.hid ((hfl3.below hA3).mono hA3.size)
    have HM4 := Lib.hid (HMK.out _ _ T4.out.bel HF4.out)
    obtain ⟨_, r0, r1, r2, r3, _⟩ := HO.out
    obtain ⟨_, s0, s1, s2, s3, _⟩ := T4.out
    clear hf3 hfl3 hb3 hA3 HC2 p0 p1 p2 p3 l2
    go_wp2_with fail
    clear r0 r1 r2 r3 s0 s1 s2 s3
    generalize w3.alloc (.cells #[.int .i64 k3, .int .i64 c3, .slice ta3 tn3 tcap3, .slice ka3 kn3 kcap3] 27) = W4 at *
    refine HM4.out.mono ?_
    intro e w5 hE
    obtain ⟨aa, an, ac, ca, cn, cc, S, rfl, hL⟩ := hE.lies
    have hb5 := hE.2.2
    have hA5 : Below w5.heap.size w5 (w5.alloc (.cells #[.int .i64 (nX (n + 1) f), .slice aa an ac, .slice ca cn cc] 33)) := (Below.refl _ _).alloc (Nat.le_refl _) _
    have hc6 := tree_cells w5 (.int .i64 (nX (n + 1) f)) (.slice aa an ac) (.slice ca cn cc)
    have hb6 := hb5.trans (hA5.mono hb5.size)
    have T6 := Lib.hid (T4.out.below hb6 T4.out.lt)
    have O6 := Lib.hid (HO.out.below hb6 HO.out.lt)
    have HB6 := Lib.hid hb6
    have HF6 := Lib.hid ((HF4.out.below hb6).mono hb6.size)
    have HS6 := Lib.hid (HSA.out _ _ T6.out.bel HF6.out)
    have hS5 : ∀ b, S b → b < w5.heap.size := fun b hb => (hL.hS b hb).2
    have HWC := Lib.hid (hL.wc.below hS5 hA5)
    have HWA := Lib.hid (hL.wa.below hS5 hA5)
    have HNF : Hid (∀ b, S b → ∀ o, (w5.alloc (.cells #[.int .i64 (nX (n + 1) f), .slice aa an ac, .slice ca cn cc] 33)).frozen? ⟨b, o, none⟩ = false) := Lib.hid fun b hb o => (World.frozen?_of_block (a := ⟨b, o, none⟩) (hA5.block b (hS5 b hb))).trans (hL.nf b hb o)
    have HSB := Lib.hid (fun b hb => hL.hS b hb)
    have hz5 : w5.heap.size < (w5.alloc (.cells #[.int .i64 (nX (n + 1) f), .slice aa an ac, .slice ca cn cc] 33)).heap.size := by simp
    have HZ5 := Lib.hid hz5
    have HLN := Lib.hid (And.intro hL.ln (And.intro hL.eA hL.eC))
    have HC6 := Lib.hid hc6
    have hz := er_nil (cnfK (n + 1) f)
    generalize hnx : ((nX (n + 1) f : Nat) : Int) = nx at *
    have HNX := Lib.hid hnx
    clear hnx
    obtain ⟨l6, r0, r1, r2, r3, _⟩ := O6.out
    obtain ⟨_, s0, s1, s2, s3, _⟩ := T6.out
    have O4' := HO.out
    have T4' := T4.out
    have u0 := (hb5.cell (p := ⟨w3.heap.size, 0, none⟩) O4'.lt).trans O4'.c0
    have u1 := (hb5.cell (p := ⟨w3.heap.size, 1, none⟩) O4'.lt).trans O4'.c1
    have u2 := (hb5.cell (p := ⟨w3.heap.size, 2, none⟩) O4'.lt).trans O4'.c2
    have u3 := (hb5.cell (p := ⟨w3.heap.size, 3, none⟩) O4'.lt).trans O4'.c3
    clear hE hb5 hA5 hc6 hb6 hL hS5 hz5 HM4 O4' T4'
    obtain ⟨er, her⟩ : ∃ er, er = Prp.codeV (cnfK (n + 1) f) := ⟨_, rfl⟩
    have HER := Lib.hid her.symm
    rw [← her] at hz ⊢
    have HZR := Lib.hid hz
    clear her hz
    go_wp2_with fail
    clear u0 u1 u2 u3 r0 r1 r2 r3 s0 s1 s2 s3 l6
    generalize w5.alloc (.cells #[.int .i64 nx, .slice aa an ac, .slice ca cn cc] 33) = W6 at *
    refine HS6.out.mono ?_
    rintro e w7 ⟨rfl, hb7⟩
    have hS6 : ∀ b, S b → b < W6.heap.size := fun b hb => Nat.lt_trans (HSB.out b hb).2 HZ5.out
    have T7 := Lib.hid (T6.out.below hb7 T6.out.lt)
    have O7 := Lib.hid (O6.out.below hb7 O6.out.lt)
    have HB7 := Lib.hid (HB6.out.trans (hb7.mono HB6.out.size))
    have HWC7 := Lib.hid (HWC.out.below hS6 hb7)
    have HWA7 := Lib.hid (HWA.out.below hS6 hb7)
    have x0 := (hb7.cell (p := ⟨w5.heap.size, 2, none⟩) HZ5.out).trans HC6.out.2.2
    have x1 := (hb7.cell (p := ⟨w5.heap.size, 1, none⟩) HZ5.out).trans HC6.out.2.1
    have hcS : w5.heap.size < w7.heap.size ∧ ¬ S w5.heap.size := ⟨Nat.lt_of_lt_of_le HZ5.out hb7.size, fun hs => by have := (HSB.out _ hs).2; omega⟩
    have HX := Lib.hid (fun wr (h : Scr S w7 wr) => And.intro (h.cell hcS x0) (h.cell hcS x1))
    have HR0 : Hid (Scr S w7 w7) := Scr.refl (fun b hb o => (World.frozen?_of_block (a := ⟨b, o, none⟩) (hb7.block b (hS6 b hb))).trans (HNF.out b hb o))
    have hln1 := HLN.out.1.1
    have hln2 := HLN.out.1.2
    clear hb7 hS6 HS6 T6 O6 HB6 HWC HWA HC6 HNF hcS x0 x1
    go_wp2_with fail
    go_loopw [9] (fun i wr => ∃ k : Nat, i = .int .i64 k ∧ k ≤ cn ∧ Hid (Scr S w7 wr)) (fun i _ => cn - (intOf i).toNat)
    case atStart => exact ⟨0, rfl, Nat.zero_le _, HR0⟩
    case round =>
      clear HR0
      obtain ⟨k, rfl, hk, hR⟩ := hrel
      have x0 := (HX.out _ hR.out).1
      by_cases hlt : k < cn
      · have hlti : (k : Int) < (cn : Int) := by omega
        obtain ⟨b, off, tc, nk, tccap, hca, hbS, hcc, hnk, hW⟩ := HWC7.out k hlt
        subst hca
        have HWK := Lib.hid hW
        have HCC := Lib.hid (fun wr (h : Scr S w7 wr) => h.cell hbS hcc)
        clear hbS hcc hW
        go_wp2_with fail
        clear x0
        have HR1 := hR
        clear hR
        go_loopw [10] (fun i wr => ∃ l : Nat, i = .int .i64 l ∧ l ≤ nk ∧ Hid (Scr S w7 wr)) (fun i _ => nk - (intOf i).toNat)
        case atStart => exact ⟨0, rfl, Nat.zero_le _, HR1⟩
        case round =>
          clear HR1
          obtain ⟨l, rfl, hl, hR⟩ := hrel
          have x0 := (HX.out _ hR.out).1
          have y0 := HCC.out _ hR.out
          by_cases hlt2 : l < nk
          · have hlti2 : (l : Int) < (nk : Int) := by omega
            obtain ⟨b2, off2, rfl, hs2, v2, hv2⟩ := HWK.out l hlt2
            obtain ⟨v3, hv3⟩ := hR.out.int _ _ _ hs2 hv2
            have hnf := hR.out.nf b2 hs2 (off2 + l)
            have HR2 := Lib.hid (hR.out.set hs2 (o := off2 + l) 1)
            clear hv2 hs2 hR
            go_wp2_with fail
            clear x0 y0 hv3 hnf
            go_roundw
            case rel => exact ⟨l + 1, by go_num, by omega, HR2⟩
            case measure => simp [intOf]; omega
          · have hlti2 : ¬ (l : Int) < (nk : Int) := by omega
            go_wp2_with fail
            clear x0 y0
            go_roundw
            case rel => exact ⟨k + 1, by go_num, by omega, hR⟩
            case measure => simp [intOf]; omega
      · have hlti : ¬ (k : Int) < (cn : Int) := by omega
        have HR0 := hR
        clear hR
        go_wp2_with fail
        clear x0
        go_loopw [11] (fun i wr => ∃ k : Nat, i = .int .i64 k ∧ k ≤ an ∧ Hid (Scr S w7 wr)) (fun i _ => an - (intOf i).toNat)
        case atStart => exact ⟨0, rfl, Nat.zero_le _, HR0⟩
        case round =>
          clear HR0
          obtain ⟨k2, rfl, hk2, hR⟩ := hrel
          have x1 := (HX.out _ hR.out).2
          by_cases hlt : k2 < an
          · have hlti : (k2 : Int) < (an : Int) := by omega
            obtain ⟨b, off, tc, nk, tccap, haa, hbS, hcc, hnk, hW⟩ := HWA7.out k2 hlt
            subst haa
            have HWK := Lib.hid hW
            have HCC := Lib.hid (fun wr (h : Scr S w7 wr) => h.cell hbS hcc)
            clear hbS hcc hW
            go_wp2_with fail
            clear x1
            have HR1 := hR
            clear hR
            go_loopw [12] (fun i wr => ∃ l : Nat, i = .int .i64 l ∧ l ≤ nk ∧ Hid (Scr S w7 wr)) (fun i _ => nk - (intOf i).toNat)
            case atStart => exact ⟨0, rfl, Nat.zero_le _, HR1⟩
            case round =>
              clear HR1
              obtain ⟨l, rfl, hl, hR⟩ := hrel
              have x1 := (HX.out _ hR.out).2
              have y0 := HCC.out _ hR.out
              by_cases hlt2 : l < nk
              · have hlti2 : (l : Int) < (nk : Int) := by omega
                obtain ⟨b2, off2, rfl, hs2, v2, hv2⟩ := HWK.out l hlt2
                obtain ⟨v3, hv3⟩ := hR.out.int _ _ _ hs2 hv2
                have hnf := hR.out.nf b2 hs2 (off2 + l * 2 + 1)
                have HR2 := Lib.hid (hR.out.set hs2 (o := off2 + l * 2 + 1) 9)
                clear hv2 hs2 hR
                go_wp2_with fail
                clear x1 y0 hv3 hnf
                go_roundw
                case rel => exact ⟨l + 1, by go_num, by omega, HR2⟩
                case measure => simp [intOf]; omega
              · have hlti2 : ¬ (l : Int) < (nk : Int) := by omega
                go_wp2_with fail
                clear x1 y0
                go_roundw
                case rel => exact ⟨k2 + 1, by go_num, by omega, hR⟩
                case measure => simp [intOf]; omega
          · have hlti : ¬ (k2 : Int) < (an : Int) := by omega
            have hz47 : W4.heap.size ≤ w7.heap.size := HB7.out.size
            have hB8 := hR.out.low (fun b hb => (HSB.out b hb).1) hz47
            have T8 := Lib.hid (T7.out.below hB8 T4.out.lt)
            have O8 := Lib.hid (O7.out.below hB8 HO.out.lt)
            have HB8 := Lib.hid (HB7.out.trans hB8)
            have HF8 := Lib.hid ((HF4.out.below HB8.out).mono HB8.out.size)
            have HS8 := Lib.hid (HSA.out _ _ T8.out.bel HF8.out)
            obtain ⟨_, r0, r1, r2, r3, _⟩ := O8.out
            obtain ⟨_, s0, s1, s2, s3, _⟩ := T8.out
            clear hz47 hB8 hR HX HWC7 HWA7 HSB T7 O7 HB7
            go_wp2_with fail
            clear x1 r0 r1 r2 r3 s0 s1 s2 s3
            refine HS8.out.mono ?_
            rintro e w9 ⟨rfl, hb9⟩
            have T9 := Lib.hid (T8.out.below hb9 T8.out.lt)
            have O9 := Lib.hid (O8.out.below hb9 O8.out.lt)
            have HF9 := Lib.hid ((HF8.out.below hb9).mono hb9.size)
            have HM9 := Lib.hid (HMK.out _ _ T9.out.bel HF9.out)
            obtain ⟨_, r0, r1, r2, r3, _⟩ := O9.out
            clear hb9 HS8 T8 O8 HB8 HF8 HSA HMK
            go_wp2_with fail
            clear r0 r1 r2 r3
            refine HM9.out.mono ?_
            intro e w10 hE
            obtain ⟨ba, bn, bc, da, dn, dc, S2, rfl, hL⟩ := hE.lies
            have hb10 := hE.2.2
            rw [HNX.out, HER.out]
            have hA10 : Below w10.heap.size w10 (w10.alloc (.cells #[.int .i64 nx, .slice ba bn bc, .slice da dn dc] 33)) := (Below.refl _ _).alloc (Nat.le_refl _) _
            have hc11 := tree_cells w10 (.int .i64 nx) (.slice ba bn bc) (.slice da dn dc)
            have hb11 := hb10.trans (hA10.mono hb10.size)
            have T10 := T9.out.below hb10 T9.out.lt
            have T11 := Lib.hid (T9.out.below hb11 T9.out.lt)
            have HLD := Lib.hid ((hL.cl.below hA10).mono hA10.size)
            have HLE := Lib.hid (And.intro hL.eA (And.intro hL.eC (And.intro hL.ln hL.cs)))
            have hz10 : w10.heap.size < (w10.alloc (.cells #[.int .i64 nx, .slice ba bn bc, .slice da dn dc] 33)).heap.size := by simp
            have HZ10 := Lib.hid hz10
            have HC11 := Lib.hid hc11
            have HR11 := Lib.hid (HRM.out _ T11.out.bel)
            obtain ⟨_, s0, s1, s2, s3, _⟩ := T11.out
            obtain ⟨_, u0, u1, u2, u3, _⟩ := T10
            clear hE hb10 hA10 hc11 hb11 hL hz10 HM9 T9 O9 HF9 HRM
            go_wp2_with fail
            clear s0 s1 s2 s3 u0 u1 u2 u3
            generalize w10.alloc (.cells #[.int .i64 nx, .slice ba bn bc, .slice da dn dc] 33) = W11 at *
            refine HR11.out.mono ?_
            intro e w12 hE
            obtain ⟨ea, ec, fa, fc2, rfl, hcl⟩ := hE.lies
            have hb12 := hE.2.2
            rw [HNX.out]
            obtain ⟨en, hen⟩ : ∃ en, en = (atomsX (n + 1) f).length := ⟨_, rfl⟩
            obtain ⟨fn, hfn⟩ : ∃ fn, fn = (clsX (n + 1) f).length := ⟨_, rfl⟩
            obtain rfl : bn = en := by rw [hen]; exact HLE.out.1.symm
            obtain rfl : dn = fn := by rw [hfn]; exact HLE.out.2.1.symm
            rw [← hen, ← hfn]
            clear hen hfn
            have hA12 : Below w12.heap.size w12 (w12.alloc (.cells #[.int .i64 nx, .slice ea bn ec, .slice fa dn fc2] 33)) := (Below.refl _ _).alloc (Nat.le_refl _) _
            have hc13 := tree_cells w12 (.int .i64 nx) (.slice ea bn ec) (.slice fa dn fc2)
            have hb13 := hb12.trans (hA12.mono hb12.size)
            have HE13 := Lib.hid (T11.out.bel.trans (hb13.mono (Nat.le_of_lt T11.out.lt)))
            have HLD13 := Lib.hid ((HLD.out.below hb13).mono hb13.size)
            have HLF13 := Lib.hid ((hcl.below hA12).mono hA12.size)
            have x1 := (hb13.cell (p := ⟨w10.heap.size, 1, none⟩) HZ10.out).trans HC11.out.2.1
            have x2 := (hb13.cell (p := ⟨w10.heap.size, 2, none⟩) HZ10.out).trans HC11.out.2.2
            obtain ⟨_, y1, y2⟩ := hc13
            have hz3 := HE13.out.size
            have HSC := Lib.hid (fun W (hb : Below (w12.alloc (.cells #[.int .i64 nx, .slice ea bn ec, .slice fa dn fc2] 33)).heap.size (w12.alloc (.cells #[.int .i64 nx, .slice ea bn ec, .slice fa dn fc2] 33)) W) => sameClauses_any da fa dn dc fc2 (clsX (n + 1) f) W HLE.out.2.1 HLE.out.2.2.1.2 ((HLD13.out.below hb).mono hb.size) ((HLF13.out.below hb).mono hb.size) HLE.out.2.2.2)
            clear hE hb12 hA12 hb13 hcl HR11 T11 HLD
            go_wp2_with fail
            generalize w12.alloc (.cells #[.int .i64 nx, .slice ea bn ec, .slice fa dn fc2] 33) = W13 at *
            have cS := fun p os => Calls.regrown_of (HSC.out _ (regrown_trans (Below.refl W13.heap.size W13) (Nat.le_refl _) p os))
            have q1 := fun d os => cell_regrown x1 d os
            have q2 := fun d os => cell_regrown x2 d os
            have q3 := fun d os => cell_regrown y1 d os
            have q4 := fun d os => cell_regrown y2 d os
            have e1 : ((bn : Int) == (bn : Int)) = true := by simp
            have e3 : ∀ (z : Bool) (W : World), (binOp .eql 4 (.bool z) (.bool z)).run Tryd.prog W = .ok (.bool true) W := fun z W => by simp [go_sem]
            have e4 : ∀ (v : Value) (W : World), (binOp .eql 35 (.iface 43 v) .nilIface).run Tryd.prog W = .ok (.bool false) W := fun v W => by simp [go_sem]
            have e5 := fun W => Tryd.eqNilNil W
            clear x1 x2 y1 y2 HSC HLD13 HLF13
            rcases HZR.out with rfl | ⟨v, rfl⟩
            all_goals
              refine wp_region_quiet_below (by kernel_rfl) (by kernel_rfl) ?_
              repeat (go_big_quiet_step (with_reducible exact cS _ _))
              refine wpQuiet_nil ?_
              intro w14 hw'
              obtain ⟨⟨dq, osq⟩, hw''⟩ := hw'
              have HE := Lib.hid (show Below w.heap.size w w14 by rw [hw'']; exact HE13.out.trans ((below_regrown W13 dq osq).mono hz3))
              clear hw'' q1 q2 q3 q4 cS
              go_wp2_with fail
              go_ret
              exact ⟨rfl, HE.out⟩
end Go.Proofs.YtelndcmfddbgiaaDoor
