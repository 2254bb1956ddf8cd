/- PropChecks: its walk. -/
import Derived.Test.YtgkeipeohjkeoaaPrpP
import Derived.Test.YtgkeipeohjkeoaaPrpS
set_option linter.unusedVariables false
set_option linter.unusedSimpArgs false
namespace Go.Proofs.Ytgkeipeohjkeoaa
open Go.RowKit

/-- Clauses that came in. -/
structure GivenC (w : World) (a : Option Addr) (m : Nat) (cs : List (List Int)) : Prop where
  hm : cs.length = m
  hmm : m ≤ 9223372036854775807
  hl : CLies w.heap.size w a cs
  hlen : ∀ j, j < m → (cs.getD j []).length ≤ 9223372036854775807
theorem GivenC.below {w W : World} {a : Option Addr} {m : Nat} {cs : List (List Int)} (h : GivenC w a m cs) (hb : Below w.heap.size w W) : GivenC W a m cs := ⟨h.hm, h.hmm, (h.hl.below hb).mono hb.size, h.hlen⟩
theorem LightIs.big {n : Int} {cs : List (List Int)} {m : Nat} (hm : cs.length = m) (h : LightIs n cs) : m ≤ 16384 → ∀ j, j < m → (cs.getD j []).length ≤ 4611686018427387904 := fun h1 j hj => by
  have := (h.len (by omega)).2 j (by omega)
  omega
set_option maxRecDepth 100000 in
set_option maxHeartbeats 2000000 in
theorem propChecks_any (hup : UpSaid6) (n : Int) (a : Option Addr) (m cap : Nat) (cs : List (List Int)) (a2 : Option Addr) (k2 cap2 : Nat) (vs : List Bool) (w : World) (h : GivenC w a m cs) (hk2 : vs.length = k2) (hkm2 : k2 ≤ 9223372036854775807) (hv : Bools w.heap.size w a2 vs) :
    Calls Try.prog 3 #[.int .i64 n, .slice a m cap, .slice a2 k2 cap2] w fun e w' => e = .returned (.bool true) ∧ Below w.heap.size w w' := by
  have HUP := Lib.hid (fun W => hup W)
  have HG := Lib.hid h
  have HLI := Lib.hid (fun W (g : GivenC W a m cs) => light_any n a m cap cs W g.hm g.hmm g.hl)
  have HCK := Lib.hid (fun W (g : GivenC W a m cs) (hl : LightIs n cs) => check_any n a m cap cs W g.hm g.hmm g.hl (hl.big g.hm))
  have HRC := Lib.hid (fun W (g : GivenC W a m cs) (hl : LightIs n cs) => rcheck_any n a m cap cs W g.hm g.hmm g.hl (hl.big g.hm))
  have HPV := Lib.hid (fun W (g : GivenC W a m cs) (hb : Below w.heap.size w W) => pvalue_any a m cap cs a2 k2 cap2 vs W g.hm g.hmm g.hl g.hlen hk2 hkm2 ((hv.below hb).mono hb.size))
  have HRV := Lib.hid (fun W (g : GivenC W a m cs) (hb : Below w.heap.size w W) => rvalue_any a m cap cs a2 k2 cap2 vs W g.hm g.hmm g.hl g.hlen hk2 hkm2 ((hv.below hb).mono hb.size))
  have HCD := Lib.hid (fun W => code_any (chkK n cs) W (by have := chkK_in n cs; omega))
  clear hup h hv hk2
  generalize hx : chkK n cs = x at HCK HRC HCD
  generalize hy : valB cs vs = y at HPV HRV
  clear hx hy
  have e1 : ∀ (z : Bool) (W : World), (binOp .eql 4 (.bool z) (.bool z)).run Try.prog W = .ok (.bool true) W := fun z W => by simp [go_sem]
  have e2 : (x == x) = true := by simp
  go_enter Try.func3, Try.ntmps3
  go_wp2_with fail
  refine (HUP.out _).mono ?_
  rintro e w1 ⟨rfl, hb1⟩
  have B1 := Lib.hid hb1
  clear hb1
  go_wp2_with fail
  refine (HLI.out _ (HG.out.below B1.out)).mono ?_
  rintro e w2 ⟨b, rfl, rfl, hlt⟩
  cases b with
  | false =>
    clear HUP HLI
    go_wp2_with fail
    go_ret
    exact ⟨rfl, B1.out⟩
  | true =>
    have HLT := Lib.hid (hlt rfl)
    clear hlt HUP HLI
    go_wp2_with fail
    refine (HCK.out _ (HG.out.below B1.out) HLT.out).mono ?_
    rintro e w3 ⟨rfl, hb3⟩
    have B3 := Lib.hid (B1.out.trans (hb3.mono B1.out.size))
    clear hb3 HCK
    go_wp2_with fail
    refine (HCD.out _).mono ?_
    rintro e w4 ⟨rfl, rfl⟩
    go_wp2_with fail
    refine (HRC.out _ (HG.out.below B3.out) HLT.out).mono ?_
    rintro e w4 ⟨rfl, rfl⟩
    go_wp2_with fail
    refine (HPV.out _ (HG.out.below B3.out) B3.out).mono ?_
    rintro e w4 ⟨rfl, hb4⟩
    have B4 := Lib.hid (B3.out.trans (hb4.mono B3.out.size))
    clear hb4
    go_wp2_with fail
    refine (HRV.out _ (HG.out.below B4.out) B4.out).mono ?_
    rintro e w5 ⟨rfl, rfl⟩
    go_wp2_with fail
    go_ret
    exact ⟨rfl, B4.out⟩
end Go.Proofs.Ytgkeipeohjkeoaa
