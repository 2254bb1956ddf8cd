/- The maker: literal of an atom, of its opposite. The maker: literal of what has a variable of its own. -/
import Derived.Test.YtelndcmfddbgiaaDoorCt10
import Derived.Test.YtelndcmfddbgiaaDoorCt11
import Derived.Test.YtelndcmfddbgiaaDoorCt13
import Derived.Deep.RegionHeld3
set_option linter.unusedVariables false
set_option linter.unusedSimpArgs false
set_option linter.unusedVariables false
set_option linter.unusedSimpArgs false
namespace Go.Proofs.YtelndcmfddbgiaaDoor
set_option maxRecDepth 100000
open Go.RowKit

/-- What literal says of formulas of n layers. -/
def LitSaid (am : List (Int × List (Int × Int))) (B M K mp : Nat) (av : Value) (n : Nat) : Prop :=
  ∀ (f : FT) (cs : List Value) (N : Nat) (cl : List (List Int)) (r : Option Nat) (S : Nat → Prop) (w : World), FLies B w n f cs → madeF n f = true → LS M K mp av N cl r S w → Places am mp w → Tens M w → am.length + N + siz n f ≤ 100000 → cl.length + 2 * siz n f ≤ 1000000 →
    Calls Tryd.prog 24 #[.pointer (some ⟨M, 0, none⟩), .agg cs.toArray] w fun e w' => e = .returned (.int .i64 (mkF am n f N cl).lit) ∧ ∃ S', (∀ b, S' b → S b ∨ w.heap.size ≤ b) ∧ LTo M K mp av (mkF am n f N cl).n (mkF am n f N cl).cl r S' w w'
set_option maxHeartbeats 8000000 in
theorem lit_2 (am : List (Int × List (Int × Int))) (B M K mp : Nat) (av : Value) (hB : B ≤ M) (hmp : mp < M) (n : Nat) (f : FT) (cs : List Value) (N : Nat) (cl : List (List Int)) (r : Option Nat) (S : Nat → Prop) (w : World) (h : FLies B w (n + 1) f cs) (hm : madeF (n + 1) f = true) (hS : LS M K mp av N cl r S w) (hp : Places am mp w) (ht : Tens M w) (h2 : f.kind = 2) :
    Calls Tryd.prog 24 #[.pointer (some ⟨M, 0, none⟩), .agg cs.toArray] w fun e w' => e = .returned (.int .i64 (mkF am (n + 1) f N cl).lit) ∧ ∃ S', (∀ b, S' b → S b ∨ w.heap.size ≤ b) ∧ LTo M K mp av (mkF am (n + 1) f N cl).n (mkF am (n + 1) f N cl).cl r S' w w' := by
  obtain ⟨ta, tcap, ka, kcap, rfl, hT, _, _, _⟩ := h
  obtain ⟨hsn, hk0⟩ := made_snd hm h2
  clear hk0
  rw [mkF_2 h2]
  have hMw := hS.size
  have hA : Below w.heap.size w (w.alloc (.cells #[.int .i64 f.kind, .int .i64 f.c, .slice ta f.t.length tcap, .slice ka f.ks.length kcap] 27)) := (Below.refl _ w).alloc (Nat.le_refl _) _
  have HB := box_start w f.kind f.c ta ka f.t.length tcap f.ks.length kcap
  have hl3 := textL_len hsn f.t.length (Nat.le_refl _)
  rw [List.take_length] at hl3
  have HTX := Lib.hid (text_any f.c ta f.t.length tcap f.t (w.alloc (.cells #[.int .i64 f.kind, .int .i64 f.c, .slice ta f.t.length tcap, .slice ka f.ks.length kcap] 27)).drew rfl ((hT.below (hA.drew.mono (by omega))).mono (Nat.le_trans (Nat.le_trans hB (Nat.le_of_lt hMw)) hA.size)) hsn (ht.up (hA.drew.mono (Nat.le_of_lt hMw)) (Nat.le_trans (Nat.le_of_lt hMw) hA.size)))
  have HP := Lib.hid hp
  have HS := Lib.hid hS
  have HA := Lib.hid hA
  have HQ := Lib.hid hMw
  have HMP := Lib.hid hmp
  have HL := Lib.hid hl3
  have m3 := (hA.cell (p := ⟨M, 3, none⟩) hMw).trans hS.c3
  have b0 := HB.c0
  have b1 := HB.c1
  have b2 := HB.c2
  have hnq : M < w.heap.size := hMw
  rw [h2] at *
  clear h2 hsn hT hl3 hp hS hA HB hm ht hmp hB
  generalize f.ks.length = kl at *
  generalize hc : f.c = c at *
  generalize hft : f.t = t at *
  clear hc hft
  obtain ⟨tx, htx⟩ : ∃ tx, tx = (textL c t).toArray := ⟨_, rfl⟩
  rw [← htx] at HTX
  have HLK : Hid (∀ W, Below w.heap.size (w.alloc (.cells #[.int .i64 2, .int .i64 c, .slice ta t.length tcap, .slice ka kl kcap] 27)) W → (Instr.lookup 60 (.map (some mp)) (.string ⟨tx⟩) false).run Tryd.prog W = .ok (.int .i64 (atN am (c, t))) W) := Lib.hid fun W hW => by
    rw [htx]
    exact (HP.out.keep (((HA.out.trans hW).block mp (by have := HMP.out; omega)))).look HL.out
  clear htx
  go_enter Tryd.func24, Tryd.ntmps24
  go_wp2_with fail
  have hq1 : w.heap.size < (w.alloc (.cells #[.int .i64 2, .int .i64 c, .slice ta t.length tcap, .slice ka kl kcap] 27)).drew.heap.size := by simp [World.drew]
  generalize hW1 : w.alloc (.cells #[.int .i64 2, .int .i64 c, .slice ta t.length tcap, .slice ka kl kcap] 27) = W1 at *
  clear hW1
  go_region_held3 (fun w' => w'.cell? ⟨M, 3, none⟩ = some (.map (some mp)) ∧ w'.cell? ⟨w.heap.size, 1, none⟩ = some (.int .i64 c) ∧ w'.cell? ⟨w.heap.size, 2, none⟩ = some (.slice ta t.length tcap))
    (first | go_keep)
    (first
      | (go_at_call 43
         refine HTX.out.mono ?_
         rintro e w5 ⟨rfl, hb5⟩
         have l5 := HLK.out w5 (((Below.refl _ W1).drew).trans (hb5.mono (Nat.le_of_lt hq1)))
         have x3 : w5.cell? ⟨M, 3, none⟩ = some (.map (some mp)) := (hb5.cell (p := ⟨M, 3, none⟩) (Nat.lt_trans hnq hq1)).trans m3
         have x1 : w5.cell? ⟨w.heap.size, 1, none⟩ = some (.int .i64 c) := (hb5.cell (p := ⟨w.heap.size, 1, none⟩) hq1).trans b1
         have x2 : w5.cell? ⟨w.heap.size, 2, none⟩ = some (.slice ta t.length tcap) := (hb5.cell (p := ⟨w.heap.size, 2, none⟩) hq1).trans b2
         have hb6 := Lib.hid (((Below.refl _ W1).drew).trans (hb5.mono (Nat.le_of_lt hq1)))
         clear hb5))
  have HE : Hid (∃ S', (∀ b, S' b → S b ∨ w.heap.size ≤ b) ∧ LTo M K mp av N cl r S' w w5) := Lib.hid ⟨S, fun b hb => .inl hb, (LTo.refl HS.out).below (HA.out.trans hb6.out)⟩
  clear l5 x3 x1 x2 hb6 HLK HTX HS HP
  go_wp2_with fail
  go_ret
  exact ⟨rfl, HE.out⟩
theorem mkF_far {am : List (Int × List (Int × Int))} {n : Nat} {f : FT} {N : Nat} {cl : List (List Int)} (h : madeF n f = true) (hb : am.length + N + siz n f ≤ 100000) : -100000 ≤ (mkF am n f N cl).lit ∧ (mkF am n f N cl).lit ≤ 100000 := by
  have := (mkF_fits am n f N cl h).2
  omega
/-- What stands in a world that the maker has turned. -/
theorem Tens.low {M : Nat} {w w' : World} (h : Tens M w) (hb : Below M w w') : Tens M w' := h.up hb (Nat.le_refl _)
set_option maxHeartbeats 8000000 in
theorem lit_4 (am : List (Int × List (Int × Int))) (B M K mp : Nat) (av : Value) (hB : B ≤ M) (hmp : mp < M) (n : Nat) (IH : LitSaid am B M K mp av n) (f : FT) (cs : List Value) (N : Nat) (cl : List (List Int)) (r : Option Nat) (S : Nat → Prop) (w : World) (h : FLies B w (n + 1) f cs) (hm : madeF (n + 1) f = true) (hS : LS M K mp av N cl r S w) (hp : Places am mp w) (ht : Tens M w) (hb1 : am.length + N + siz (n + 1) f ≤ 100000) (hb2 : cl.length + 2 * siz (n + 1) f ≤ 1000000) (h4 : f.kind = 4) :
    Calls Tryd.prog 24 #[.pointer (some ⟨M, 0, none⟩), .agg cs.toArray] w fun e w' => e = .returned (.int .i64 (mkF am (n + 1) f N cl).lit) ∧ ∃ S', (∀ b, S' b → S b ∨ w.heap.size ≤ b) ∧ LTo M K mp av (mkF am (n + 1) f N cl).n (mkF am (n + 1) f N cl).cl r S' w w' := by
  obtain ⟨ta, tcap, ka, kcap, rfl, hT, hl1, hl2, hks⟩ := h
  obtain ⟨hk1, hkk⟩ := made_not hm h4
  have hs0 : siz n (f.ks.getD 0 default) ≤ siz (n + 1) f := by
    have e1 := sizTo_succ n f.ks 0 (by omega)
    have e2 := sizTo_len n f
    rw [hk1] at e2
    rw [sizTo_zero, show (0 : Nat) + 1 = 1 from rfl] at e1
    omega
  rw [mkF_4 h4]
  have hmk := made_kids hm 0 (by omega)
  have hfar := mkF_far (cl := cl) hmk (show am.length + N + siz n (f.ks.getD 0 default) ≤ 100000 by omega)
  obtain ⟨b, off, c0, c1, c2, c3, rfl, hbl, g0, g1, g2, g3, hf⟩ := hks 0 (by omega)
  obtain ⟨ck, cc, cta, ctn, ctcap, cka, ckn, ckcap, rfl, rfl, rfl, rfl⟩ := hf.form
  have hMw := hS.size
  have hA : Below w.heap.size w (w.alloc (.cells #[.int .i64 f.kind, .int .i64 f.c, .slice ta f.t.length tcap, .slice (some ⟨b, off, none⟩) f.ks.length kcap] 27)) := (Below.refl _ w).alloc (Nat.le_refl _) _
  have hih := IH (f.ks.getD 0 default) _ N cl r S _ (hf.below (hA.mono (by omega))) hmk (hS.below hA) (hp.keep (hA.block mp (by omega))) (ht.low (hA.mono (Nat.le_of_lt hMw))) (by omega) (by omega)
  have HB := box_start w f.kind f.c ta (some ⟨b, off, none⟩) f.t.length tcap f.ks.length kcap
  have b0 := HB.c0
  have b3 := HB.c3
  have hbw : b < w.heap.size := by omega
  rw [← hA.cell (p := ⟨b, _, none⟩) hbw] at g0 g1 g2 g3
  have HA := Lib.hid hA
  have HIH := Lib.hid hih
  clear hks hT hmk hf hih IH hS hp ht HB hA hs0 hb1 hb2 hm hl1 hl2 hkk
  rw [h4] at *
  rw [hk1] at *
  clear hk1 h4
  generalize mkF am n (f.ks.getD 0 default) N cl = q at *
  have hw : IntKind.i64.wrap (-q.lit) = -q.lit := IntWalk.i64_in _ (by omega)
  simp only [Nat.zero_mul, Nat.add_zero] at g0 g1 g2 g3
  generalize f.c = fc at *
  generalize f.t.length = ft at *
  go_enter Tryd.func24, Tryd.ntmps24
  go_wp2_with fail
  generalize w.alloc (.cells #[.int .i64 4, .int .i64 fc, .slice ta ft tcap, .slice (some ⟨b, off, none⟩) 1 kcap] 27) = W1 at *
  refine HIH.out.mono ?_
  rintro e w2 ⟨rfl, S', hS1, r2, hL, hr, hK⟩
  have HE : Hid (∃ S', (∀ b, S' b → S b ∨ w.heap.size ≤ b) ∧ LTo M K mp av q.n q.cl r S' w w2) := Lib.hid ⟨S', fun b hb => (hS1 b hb).imp id (fun h => Nat.le_trans HA.out.size h), r2, hL, next_trans (.inl rfl) HA.out.size hr, keptW_trans (.inl rfl) (.of_below HA.out) hK⟩
  clear hS1 hL hr hK g0 g1 g2 g3 b0 b3 HIH HA
  go_wp2_with fail
  go_ret
  exact ⟨rfl, HE.out⟩
end Go.Proofs.YtelndcmfddbgiaaDoor

set_option linter.unusedVariables false
set_option linter.unusedSimpArgs false
namespace Go.Proofs.YtelndcmfddbgiaaDoor
set_option maxRecDepth 100000
open Go.RowKit

/-- The maker, and the literals of the kids so far. -/
structure KS (am : List (Int × List (Int × Int))) (M K mp : Nat) (av : Value) (p : Nat × List (List Int) × List Int) (r : Option Nat) (S : Nat → Prop) (W1 : World) (o : Value) (r' : Option Nat) (S' : Nat → Prop) (wr : World) : Prop where
  ls : LS M K mp av p.1 p.2.1 r' S' wr
  rr : r' = r ∨ ∃ q, r' = some q ∧ W1.heap.size ≤ q
  kp : Pak.KeptW M r W1 wr
  sl : ∀ b, S' b → S b ∨ W1.heap.size ≤ b
  ow : OwnP Pak.intSh 3 K (fun _ => False) p.2.2 o wr
  ob : ∀ q, o.ownBlock = some q → W1.heap.size ≤ q ∧ r' ≠ some q ∧ ¬ S' q
theorem KS.start {am : List (Int × List (Int × Int))} {M K mp : Nat} {av : Value} {N : Nat} {cl : List (List Int)} {r : Option Nat} {S : Nat → Prop} {W1 : World} (h : LS M K mp av N cl r S W1) : KS am M K mp av (N, cl, []) r S W1 (.slice none 0 0) r S W1 :=
  ⟨h, .inl rfl, .of_below (Below.refl _ _), fun b hb => .inl hb, OwnP.nil _ _ _ _, fun q hq => by cases hq⟩
/-- One more kid: what was made of it, its literal behind the others. -/
theorem KS.step {am : List (Int × List (Int × Int))} {M K mp : Nat} {av : Value} {p : Nat × List (List Int) × List Int} {r : Option Nat} {S : Nat → Prop} {W1 : World} {o : Value} {r' : Option Nat} {S' : Nat → Prop} {wr wa w3 : World} (h : KS am M K mp av p r S W1 o r' S' wr) (hA : Below wr.heap.size wr wa) {N3 : Nat} {cl3 : List (List Int)} {S3 : Nat → Prop} (hS3 : ∀ b, S3 b → S' b ∨ wa.heap.size ≤ b) (h3 : LTo M K mp av N3 cl3 r' S3 wa w3) (hn : p.2.2.length ≤ 100000) {x : Int} (hx : -9223372036854775808 ≤ x ∧ x ≤ 9223372036854775807) :
    ∃ a4 n4 c4 w4 r4, (∀ ty, (Builtin.append_ #[45, 45] ty #[o, .slice (some ⟨w3.heap.size, 0, none⟩) 1 1]).run Tryd.prog (w3.alloc (.cells #[.int .i64 x] 3)) = .ok (.slice a4 n4 c4) w4) ∧ KS am M K mp av (N3, cl3, p.2.2 ++ [x]) r S W1 (.slice a4 n4 c4) r4 S3 w4 := by
  obtain ⟨r3, hL3, hr3, hK3⟩ := h3
  have hM := h.ls.lt
  have hoa := h.ow.below hA
  have hol := fun q e => (hoa.lt q e)
  have hol2 := fun q e => (h.ow.lt q e).2
  have hA1 := hA.size
  have hW1 := h.kp.size
  have h31 := hK3.size
  have ho3 := hoa.keptW hK3 ⟨fun h => h, fun e => by have := (hol M e).1; omega⟩ (fun q e => ⟨fun h => h, fun e2 => (h.ob q e2).2.1 e⟩)
  obtain ⟨v4, w4, hr4, hO4, hg4, hv4⟩ := ho3.put (P := Tryd.prog) (t := 45) (x := x) (cs := [.int .i64 x]) (Sx := fun _ => False) Tryd.underlying45 (by' := 8) (by kernel_rfl) (by decide) (by decide) (by omega) hL3.lt.2 ⟨rfl, hx⟩ (fun b hb => hb.elim)
  have hfar : ∀ q, o.ownBlock = some q → r3 ≠ some q ∧ ¬ S3 q := fun q e => by
    obtain ⟨q1, q2, q3⟩ := h.ob q e
    have q4 := hol2 q e
    refine ⟨fun hh => ?_, fun hh => ?_⟩
    · rcases hr3 with rfl | ⟨p, rfl, hp⟩
      · exact q2 hh
      · injection hh with hh; omega
    · rcases hS3 q hh with hh | hh
      · exact q3 hh
      · omega
  have hL4 := hL3.grown hg4 (fun q e => ⟨by have := (hol q e).1; omega, (hfar q e).2, (hfar q e).1⟩)
  have hKa : Pak.KeptW M r W1 w3 := keptW_trans h.rr (keptW_trans h.rr h.kp (.of_below hA)) hK3
  have hK4 : Pak.KeptW M r W1 w4 := ⟨hg4.os.trans hKa.os, hg4.tape.trans hKa.tape, hg4.output.trans hKa.output, Nat.le_trans hKa.size hg4.size, fun q hq a1 a2 => (hg4.block q (Nat.lt_of_lt_of_le hq hKa.size) (fun e => by have := (h.ob q e.symm).1; omega)).trans (hKa.block q hq a1 a2)⟩
  obtain ⟨a4, c4, e4⟩ := hO4.form
  generalize hn4 : (p.2.2 ++ [x]).length = n4 at e4
  subst e4
  refine ⟨a4, n4, c4, w4, r3, hr4, hL4, next_trans h.rr (Nat.le_trans hW1 hA1) hr3, hK4, fun b hb => ?_, hO4.more (fun b hb => by rcases hb with hb | hb <;> exact hb) (fun b hb => hb.elim), fun q e => ?_⟩
  · rcases hS3 b hb with hb | hb
    · exact h.sl b hb
    · right; omega
  · rcases hv4 with hv4 | ⟨u, hv4, hu⟩
    · have e2 := hv4.symm.trans e
      exact ⟨(h.ob q e2).1, (hfar q e2).1, (hfar q e2).2⟩
    · rw [hv4] at e
      injection e with e
      subst e
      exact ⟨by omega, fun h => by have := (hL3.row _ h).2.1; omega, fun h => by have := hL3.ok _ h; omega⟩
theorem KS.cast {am : List (Int × List (Int × Int))} {M K mp : Nat} {av : Value} {p p' : Nat × List (List Int) × List Int} {r : Option Nat} {S : Nat → Prop} {W1 : World} {o : Value} {r' : Option Nat} {S' : Nat → Prop} {wr : World} (h : KS am M K mp av p r S W1 o r' S' wr) (e : p = p') : KS am M K mp av p' r S W1 o r' S' wr := e ▸ h
/-- What is at the end: the variable counted, the clauses added. -/
def XEnd (M K mp : Nat) (av : Value) (r : Option Nat) (S : Nat → Prop) (w : World) (N' : Nat) (cl' : List (List Int)) (w' : World) : Prop := ∃ S', (∀ b, S' b → S b ∨ w.heap.size ≤ b) ∧ LTo M K mp av N' cl' r S' w w'
theorem XEnd.of {M K mp : Nat} {av : Value} {r r' : Option Nat} {S S' S2 : Nat → Prop} {w wr w2 : World} {N' : Nat} {cl' : List (List Int)} (hr : r' = r ∨ ∃ q, r' = some q ∧ w.heap.size ≤ q) (hk : Pak.KeptW M r w wr) (hs : ∀ b, S' b → S b ∨ w.heap.size ≤ b) (hs2 : ∀ b, S2 b → S' b ∨ wr.heap.size ≤ b) (h : LTo M K mp av N' cl' r' S2 wr w2) : XEnd M K mp av r S w N' cl' w2 :=
  ⟨S2, fun b hb => by
    rcases hs2 b hb with hb | hb
    · exact hs b hb
    · exact .inr (Nat.le_trans hk.size hb), h.trans hr hk⟩
theorem ownC_0 (v : Int) (ls : List Int) : ownC 0 v ls = [[v]] := by unfold ownC; rw [if_pos rfl]
theorem ownC_1 (v : Int) (ls : List Int) : ownC 1 v ls = [[-v]] := by unfold ownC; rw [if_neg (by decide), if_pos rfl]
theorem ownC_5 (v : Int) (ls : List Int) : ownC 5 v ls = joinL v 1 ls := by unfold ownC; rw [if_neg (by decide), if_neg (by decide), if_pos rfl]
theorem ownC_6 (v : Int) (ls : List Int) : ownC 6 v ls = joinL (-v) (-1) ls := by unfold ownC; rw [if_neg (by decide), if_neg (by decide), if_neg (by decide), if_pos rfl]
set_option maxHeartbeats 16000000 in
theorem lit_x (am : List (Int × List (Int × Int))) (B M K mp : Nat) (av : Value) (hB : B ≤ M) (hmp : mp < M) (n : Nat) (IH : LitSaid am B M K mp av n) (f : FT) (cs : List Value) (N : Nat) (cl : List (List Int)) (r : Option Nat) (S : Nat → Prop) (w : World) (h : FLies B w (n + 1) f cs) (hm : madeF (n + 1) f = true) (hS : LS M K mp av N cl r S w) (hp : Places am mp w) (ht : Tens M w) (hb1 : am.length + N + siz (n + 1) f ≤ 100000) (hb2 : cl.length + 2 * siz (n + 1) f ≤ 1000000) (hk : f.kind = 0 ∨ f.kind = 1 ∨ f.kind = 5 ∨ f.kind = 6) :
    Calls Tryd.prog 24 #[.pointer (some ⟨M, 0, none⟩), .agg cs.toArray] w fun e w' => e = .returned (.int .i64 (mkF am (n + 1) f N cl).lit) ∧ XEnd M K mp av r S w (mkF am (n + 1) f N cl).n (mkF am (n + 1) f N cl).cl w' := by
  obtain ⟨ta, tcap, ka, kcap, rfl, hT, hl1, hl2, hks⟩ := h
  rw [mkF_x ⟨by omega, by omega⟩]
  have hMw := hS.size
  have hA : Below w.heap.size w (w.alloc (.cells #[.int .i64 f.kind, .int .i64 f.c, .slice ta f.t.length tcap, .slice ka f.ks.length kcap] 27)) := (Below.refl _ w).alloc (Nat.le_refl _) _
  have HB := box_start w f.kind f.c ta ka f.t.length tcap f.ks.length kcap
  have HM := Lib.hid (made_kids hm)
  have HTF := Lib.hid (mkTo_fits am n f.ks N cl (made_kids hm))
  have HLZ := Lib.hid (len_siz n f.ks (made_kids hm) f.ks.length (Nat.le_refl _))
  have HLS := Lib.hid (hS.below hA)
  have HI := Lib.hid IH
  have HK := Lib.hid hks
  have HP := Lib.hid hp
  have HT := Lib.hid ht
  have HSZ := Lib.hid hA.size
  have HMW := Lib.hid hMw
  have HMP := Lib.hid hmp
  have HBM := Lib.hid hB
  have HA := Lib.hid hA
  have HBX := Lib.hid HB
  have hsz := sizTo_len n f
  rw [hsz] at hb1 hb2
  have HB1 := Lib.hid hb1
  have HB2 := Lib.hid hb2
  have HS1 := Lib.hid (KS.start (am := am) (hS.below hA))
  have b0 := HB.c0
  have b3 := HB.c3
  have HQ : Hid (r ≠ some w.heap.size) := Lib.hid fun e => by have := (hS.row _ e).2.1; omega
  have hq1 : w.heap.size < (w.alloc (.cells #[.int .i64 f.kind, .int .i64 f.c, .slice ta f.t.length tcap, .slice ka f.ks.length kcap] 27)).heap.size := by simp
  have HQ1 := Lib.hid hq1
  clear IH hks hT hS hp ht hA HB hm hsz hb1 hb2 hB hmp hMw hq1 hl1
  have hkd := hk
  generalize f.kind = fk at *
  generalize f.c = fc at *
  generalize f.t.length = ft at *
  generalize hlen : f.ks.length = len at *
  have HLEN := Lib.hid hlen
  clear hlen hk
  go_enter Tryd.func24, Tryd.ntmps24
  have k2 : (fk == 2) = false := by simp; omega
  have k4 : (fk == 4) = false := by simp; omega
  go_wp2_with fail
  clear b0 b3
  generalize w.alloc (.cells #[.int .i64 fk, .int .i64 fc, .slice ta ft tcap, .slice ka len kcap] 27) = W1 at *
  go_loopw [5, 32] (fun o i wr => ∃ k : Nat, i = .int .i64 k ∧ k ≤ len ∧ ∃ r' S', Hid (KS am M K mp av (mkTo am n f.ks N cl k) r S W1 o r' S' wr)) (fun _ i _ => len - (intOf i).toNat)
  case atStart => exact ⟨0, rfl, Nat.zero_le _, r, S, HS1⟩
  case round =>
    clear HS1
    obtain ⟨k, rfl, hk, r1, S1, hS⟩ := hrel
    by_cases hlt : k < len
    · have hlti : (k : Int) < (len : Int) := by omega
      have hkl : k < f.ks.length := by rw [HLEN.out]; exact hlt
      have hM1 : Below M W1 wr := HLS.out.low hS.out.kp
      have hMw : Below M w wr := (HA.out.mono (Nat.le_of_lt HMW.out)).trans hM1
      obtain ⟨b, off, c0, c1, c2, c3, rfl, hbl, g0, g1, g2, g3, hf⟩ := HK.out k hlt
      have hblM : b < M := Nat.lt_of_lt_of_le hbl HBM.out
      rw [← hMw.cell (p := ⟨b, _, none⟩) hblM] at g0 g1 g2 g3
      obtain ⟨ck, cc, cta, ctn, ctcap, cka, ckn, ckcap, rfl, rfl, rfl, rfl⟩ := hf.form
      have hA2 : Below wr.heap.size wr (wr.alloc (.cells #[.int .i64 ck, .int .i64 cc, .slice cta ctn ctcap, .slice cka ckn ckcap] 27)) := (Below.refl _ _).alloc (Nat.le_refl _) _
      have hMwr : M ≤ wr.heap.size := Nat.le_of_lt hS.out.ls.size
      have hMa : Below M w (wr.alloc (.cells #[.int .i64 ck, .int .i64 cc, .slice cta ctn ctcap, .slice cka ckn ckcap] 27)) := hMw.trans (hA2.mono hMwr)
      have hmk := HM.out k hlt
      obtain ⟨⟨f1, f2, _⟩, f4, _⟩ := HTF.out k (Nat.le_of_lt hlt)
      have hs1 := sizTo_succ n f.ks k hkl
      have hs2 := sizTo_mono n f.ks (i := k + 1) (j := f.ks.length) hkl
      have hb1 := HB1.out
      have hb2 := HB2.out
      have hlz := HLZ.out
      have hl := HLEN.out
      rw [hl] at hs2
      have hih := HI.out (f.ks.getD k default) _ (mkTo am n f.ks N cl k).1 (mkTo am n f.ks N cl k).2.1 r1 S1 _ (hf.below (hMa.mono HBM.out)) hmk (hS.out.ls.below hA2) (HP.out.keep (hMa.block mp HMP.out)) (HT.out.low hMa) (by omega) (by omega)
      have hfar := mkF_far (am := am) (n := n) (f := f.ks.getD k default) (N := (mkTo am n f.ks N cl k).1) (cl := (mkTo am n f.ks N cl k).2.1) hmk (by omega)
      have HSTEP := Lib.hid (fun N3 cl3 w3 S3 hS3 hL3 => hS.out.step hA2 (N3 := N3) (cl3 := cl3) (w3 := w3) (S3 := S3) hS3 hL3 (by omega) (x := (mkF am n (f.ks.getD k default) (mkTo am n f.ks N cl k).1 (mkTo am n f.ks N cl k).2.1).lit) (by omega))
      have HSU := Lib.hid (mkTo_succ am n f.ks N cl k hkl)
      have HIH := Lib.hid hih
      clear hM1 hMw hf hA2 hMa hmk f1 f2 f4 hs1 hs2 hb1 hb2 hlz hl hih hfar hS hkl hblM hMwr
      generalize (mkF am n (f.ks.getD k default) (mkTo am n f.ks N cl k).1 (mkTo am n f.ks N cl k).2.1).lit = x at *
      go_wp2_with fail
      clear g0 g1 g2 g3
      refine HIH.out.mono ?_
      rintro e w3 ⟨rfl, S3, hS3, hL3⟩
      obtain ⟨a4, n4, c4, w4, r4, hr4, hk4⟩ := HSTEP.out _ _ w3 S3 hS3 hL3
      have HK4 := Lib.hid (hk4.cast HSU.out.symm)
      clear hS3 hL3 hk4 HSTEP HIH HSU
      go_wp2_with (at_builtin; refine Lib.wpList_append_run _ rfl _ _ _ _ rfl _ _ rfl rfl _ _ (hr4 _) ?_)
      go_roundw
      case rel => exact ⟨k + 1, by go_num, by omega, r4, S3, HK4⟩
      case measure => simp [intOf]; omega
    · have hlti : ¬ (k : Int) < (len : Int) := by omega
      obtain rfl : k = len := by omega
      obtain ⟨⟨f1, f2, _⟩, f4, f5⟩ := HTF.out k (Nat.le_refl _)
      have hb1 := HB1.out
      have hb2 := HB2.out
      have hlz := HLZ.out
      have HF5 := Lib.hid f5
      obtain ⟨p, hpp⟩ : ∃ p, mkTo am n f.ks N cl k = p := ⟨_, rfl⟩
      have HPP := Lib.hid hpp
      have hsz1 : sizTo n f.ks k ≤ 100000 := by omega
      have hams : am.length + N + sizTo n f.ks k ≤ 100000 := by omega
      rw [hpp] at hS f1 f2 f4 HF5
      clear f5 hpp
      obtain ⟨m, hmm⟩ : ∃ m : Nat, m = p.1 + 1 := ⟨_, rfl⟩
      have hwm : IntKind.i64.wrap ((p.1 : Int) + 1) = (m : Int) := by rw [hmm]; exact IntWalk.i64_in _ (by omega)
      have hwn : IntKind.i64.wrap (-(m : Int)) = -(m : Int) := IntWalk.i64_in _ (by omega)
      have hmB : m ≤ 200000 := by omega
      have hclB : p.2.1.length ≤ 1000000 := by omega
      have hlitB : p.2.2.length ≤ 100000 := by omega
      have HMM := Lib.hid hmm
      have hMs := hS.out.ls.size
      have hKs := hS.out.ls.lt
      obtain ⟨r2, hL2, hr2, hK2⟩ := hS.out.ls.count m
      have hsz2 : (wr.setCell ⟨M, 0, none⟩ (.int .i64 m)).heap.size = wr.heap.size := by simp [World.setCell]
      have c0 := hS.out.ls.c0
      have fz := hS.out.ls.fz 0
      have hcell : ∀ j, wr.cell? ⟨w.heap.size, j, none⟩ = W1.cell? ⟨w.heap.size, j, none⟩ := fun j => World.cell?_of_block (a := ⟨w.heap.size, j, none⟩) (hS.out.kp.block w.heap.size HQ1.out (fun e => by have := HMW.out; omega) (fun e => HQ.out e.symm))
      have x0 := (hcell 0).trans HBX.out.c0
      have hne : M ≠ w.heap.size := by have := HMW.out; omega
      have hO2 := hS.out.ow.grown (grown_set (M := M) (j := 0) (.int .i64 m)) (fun q e => by
        injection e with e
        subst e
        exact ⟨fun h => h, fun e2 => by have := (hS.out.ow.lt _ e2).1; omega⟩)
      have hfar2 : ∀ q, r2 = some q → r1 = some q ∨ wr.heap.size ≤ q := fun q e => by
        rcases hr2 with rfl | ⟨u, rfl, hu⟩
        · exact .inl e
        · injection e with e; subst e; exact .inr hu
      have HEND := Lib.hid (fun (S2 : Nat → Prop) N' cl' w2 hs2 (h : LTo M K mp av N' cl' r1 S2 wr w2) => XEnd.of (w := w) (next_trans (.inl rfl) HSZ.out hS.out.rr) (keptW_trans (.inl rfl) (.of_below HA.out) hS.out.kp) (fun b hb => (hS.out.sl b hb).imp id (fun h => Nat.le_trans HSZ.out h)) hs2 h)
      have HK2 := Lib.hid hK2
      have HR2 := Lib.hid hr2
      have HL2 := Lib.hid hL2
      have HO2 := Lib.hid hO2
      have HOB := Lib.hid hS.out.ob
      have HOL := Lib.hid hS.out.ow.lt
      have HFR := Lib.hid hfar2
      have HSM := Lib.hid (And.intro hMs (And.intro hKs hsz2))
      clear hK2 hr2 hL2 hO2 hfar2 hsz2 hMs hKs hcell hmm hS HB1 HB2 HTF HLZ HK HM HI HP HT hb1 hb2 hlz f1 f2
      rcases hkd with rfl | rfl | rfl | rfl
      · have hA3 : Below (wr.setCell ⟨M, 0, none⟩ (.int .i64 m)).heap.size (wr.setCell ⟨M, 0, none⟩ (.int .i64 m)) ((wr.setCell ⟨M, 0, none⟩ (.int .i64 m)).alloc (.cells #[.int .i64 (m : Int)] 3)) := (Below.refl _ _).alloc (Nat.le_refl _) _
        have hI := ints_new (wr.setCell ⟨M, 0, none⟩ (.int .i64 m)) [(m : Int)] (fun y hy => by
          rw [List.mem_singleton] at hy
          subst hy; omega) (by simp)
        have HC := clause_any M K mp av m p.2.1 r2 _ _ 1 1 [(m : Int)] S1 _ (HL2.out.below hA3) (by omega) rfl hI (fun b hb => by
          subst hb
          have h3 := HSM.out
          refine ⟨by omega, by simp [World.setCell], fun e => ?_⟩
          have := (HL2.out.row _ e).2.1
          omega) (fun b hb o => by
          subst hb
          exact frozen_of_row _ _ _ _ _ (heap_alloc_new _ _))
        rw [HSM.out.2.2] at HC
        have HCC := Lib.hid HC
        have HA3 := Lib.hid hA3
        clear hA3 hI HC
        go_wp2_with fail
        refine HCC.out.mono ?_
        rintro e w4 ⟨rfl, r4, hL4, hr4, hK4⟩
        have cM := hL4.c0
        have HE := Lib.hid (HEND.out _ _ _ w4 (fun b hb => hb.imp id (fun e => by omega)) (LTo.trans HR2.out HK2.out (LTo.trans (.inl rfl) (.of_below HA3.out) ⟨r4, hL4, hr4, hK4⟩)))
        clear hL4 hr4 hK4 HCC HA3 HEND HOB HOL
        go_wp2_with fail
        go_ret
        rw [HPP.out, ← HMM.out, ownC_0]
        exact ⟨rfl, HE.out⟩
      · have hA3 : Below (wr.setCell ⟨M, 0, none⟩ (.int .i64 m)).heap.size (wr.setCell ⟨M, 0, none⟩ (.int .i64 m)) ((wr.setCell ⟨M, 0, none⟩ (.int .i64 m)).alloc (.cells #[.int .i64 (-(m : Int))] 3)) := (Below.refl _ _).alloc (Nat.le_refl _) _
        have hI := ints_new (wr.setCell ⟨M, 0, none⟩ (.int .i64 m)) [(-(m : Int))] (fun y hy => by
          rw [List.mem_singleton] at hy
          subst hy; omega) (by simp)
        have HC := clause_any M K mp av m p.2.1 r2 _ _ 1 1 [(-(m : Int))] S1 _ (HL2.out.below hA3) (by omega) rfl hI (fun b hb => by
          subst hb
          have h3 := HSM.out
          refine ⟨by omega, by simp [World.setCell], fun e => ?_⟩
          have := (HL2.out.row _ e).2.1
          omega) (fun b hb o => by
          subst hb
          exact frozen_of_row _ _ _ _ _ (heap_alloc_new _ _))
        rw [HSM.out.2.2] at HC
        have HCC := Lib.hid HC
        have HA3 := Lib.hid hA3
        clear hA3 hI HC
        go_wp2_with fail
        refine HCC.out.mono ?_
        rintro e w4 ⟨rfl, r4, hL4, hr4, hK4⟩
        have cM := hL4.c0
        have HE := Lib.hid (HEND.out _ _ _ w4 (fun b hb => hb.imp id (fun e => by omega)) (LTo.trans HR2.out HK2.out (LTo.trans (.inl rfl) (.of_below HA3.out) ⟨r4, hL4, hr4, hK4⟩)))
        clear hL4 hr4 hK4 HCC HA3 HEND HOB HOL
        go_wp2_with fail
        go_ret
        rw [HPP.out, ← HMM.out, ownC_1]
        exact ⟨rfl, HE.out⟩
      · obtain ⟨a9, c9, e9, hs9⟩ := HO2.out.slot (by omega)
        have HC := join_any M K mp av m p.2.1 r2 S1 _ (wr.setCell ⟨M, 0, none⟩ (.int .i64 m)) (m : Int) 1 a9 p.2.2.length c9 p.2.2 HL2.out (by omega) rfl hs9 (fun b hb => by
          rcases hb with hb | hb
          · exact hb.elim
          · have h1 := HOL.out b hb
            have h2 := HOB.out b hb
            have h3 := HSM.out
            refine ⟨by rw [h3.2.2]; omega, by omega, fun e => ?_⟩
            rcases HFR.out b e with h | h
            · exact h2.2.1 h
            · omega) (by unfold sm; omega) (by omega) (fun x hx => by
          have := HF5.out x hx
          unfold sm; omega)
        have HCC := Lib.hid HC
        clear HC hs9 f4 hlitB
        subst e9
        generalize p.2.2.length = n9 at *
        go_wp2_with fail
        refine HCC.out.mono ?_
        rintro e w4 ⟨rfl, S4, hS4, r4, hL4, hr4, hK4⟩
        have cM := hL4.c0
        have HE := Lib.hid (HEND.out _ _ _ w4 (fun b hb => (hS4 b hb).imp id (fun e => by have := HSM.out; omega)) (LTo.trans HR2.out HK2.out ⟨r4, hL4, hr4, hK4⟩))
        clear hS4 hL4 hr4 hK4 HCC HEND HOB HOL
        go_wp2_with fail
        go_ret
        rw [HPP.out, ← HMM.out, ownC_5]
        exact ⟨rfl, HE.out⟩
      · obtain ⟨a9, c9, e9, hs9⟩ := HO2.out.slot (by omega)
        have HC := join_any M K mp av m p.2.1 r2 S1 _ (wr.setCell ⟨M, 0, none⟩ (.int .i64 m)) (-(m : Int)) (-1) a9 p.2.2.length c9 p.2.2 HL2.out (by omega) rfl hs9 (fun b hb => by
          rcases hb with hb | hb
          · exact hb.elim
          · have h1 := HOL.out b hb
            have h2 := HOB.out b hb
            have h3 := HSM.out
            refine ⟨by rw [h3.2.2]; omega, by omega, fun e => ?_⟩
            rcases HFR.out b e with h | h
            · exact h2.2.1 h
            · omega) (by unfold sm; omega) (by omega) (fun x hx => by
          have := HF5.out x hx
          unfold sm; omega)
        have HCC := Lib.hid HC
        clear HC hs9 f4 hlitB
        subst e9
        generalize p.2.2.length = n9 at *
        go_wp2_with fail
        refine HCC.out.mono ?_
        rintro e w4 ⟨rfl, S4, hS4, r4, hL4, hr4, hK4⟩
        have cM := hL4.c0
        have HE := Lib.hid (HEND.out _ _ _ w4 (fun b hb => (hS4 b hb).imp id (fun e => by have := HSM.out; omega)) (LTo.trans HR2.out HK2.out ⟨r4, hL4, hr4, hK4⟩))
        clear hS4 hL4 hr4 hK4 HCC HEND HOB HOL
        go_wp2_with fail
        go_ret
        rw [HPP.out, ← HMM.out, ownC_6]
        exact ⟨rfl, HE.out⟩
end Go.Proofs.YtelndcmfddbgiaaDoor
