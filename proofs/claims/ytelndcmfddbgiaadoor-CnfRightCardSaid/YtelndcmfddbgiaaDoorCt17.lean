/- The maker: gather of what is no atom; gather, literal of any formula. cnf.Make. The statements' own weighing of a formula: what is light has few parts. formula.value, kind by kind. formula.value, kind by kind. formula.value, kind by kind. formula.value. formula.Value. Clauses mean what the formula means. -/
import Derived.Test.YtelndcmfddbgiaaDoorCt07
import Derived.Test.YtelndcmfddbgiaaDoorCt13
import Derived.Test.YtelndcmfddbgiaaDoorCt14
import Derived.Test.YtelndcmfddbgiaaDoorCt15
import Derived.Test.YtelndcmfddbgiaaDoorCt16
import Derived.Lib.QuietBelow
import Derived.BigQuiet
set_option linter.unusedVariables false
set_option linter.unusedSimpArgs false
set_option linter.unusedVariables false
set_option linter.unusedSimpArgs false
namespace Go.Proofs.YtelndcmfddbgiaaDoor
set_option maxRecDepth 100000
open Go.RowKit

theorem gat_snd {n : Nat} {f : FT} {am : List (Int × List (Int × Int))} (h : f.kind ≠ 2) : gatF (n + 1) f am = gatTo n f.ks am f.ks.length := by rw [gatTo_len, if_neg h]
set_option maxHeartbeats 16000000 in
theorem gat_x (B M K mp : Nat) (hB : B ≤ mp) (n : Nat) (IH : GatSaid B M K mp n) (f : FT) (cs : List Value) (am : List (Int × List (Int × Int))) (r : Option Nat) (S : Nat → Prop) (w : World) (h : FLies B w (n + 1) f cs) (hm : madeF (n + 1) f = true) (hS : GS M K mp am r S w) (ht : Tens mp w) (hb : am.length + siz (n + 1) f ≤ 100000) (h2 : f.kind ≠ 2) :
    Calls Tryd.prog 22 #[.pointer (some ⟨M, 0, none⟩), .agg cs.toArray] w fun e w' => e = .returned (.tuple #[]) ∧ GEnd M K mp (gatF (n + 1) f am) r S w w' := by
  obtain ⟨ta, tcap, ka, kcap, rfl, hT, hl1, hl2, hks⟩ := h
  rw [gat_snd h2]
  have hlt := hS.lt
  have hMw := hS.size
  have hA : Below w.heap.size w (w.alloc (.cells #[.int .i64 f.kind, .int .i64 f.c, .slice ta f.t.length tcap, .slice ka f.ks.length kcap] 27)) := (Below.refl _ w).alloc (Nat.le_refl _) _
  have HB := box_start w f.kind f.c ta ka f.t.length tcap f.ks.length kcap
  have HM := Lib.hid (made_kids hm)
  have HTF := Lib.hid (fun i (hi : i ≤ f.ks.length) => gatTo_le n f.ks am i hi)
  have HS1 := Lib.hid (hS.below hA)
  have HI := Lib.hid IH
  have HK := Lib.hid hks
  have HT := Lib.hid ht
  have HA := Lib.hid hA
  have HLT := Lib.hid hlt
  have HBM := Lib.hid hB
  have hsz := sizTo_len n f
  rw [hsz] at hb
  have HB1 := Lib.hid hb
  have HBX := Lib.hid HB
  have hq1 : w.heap.size < (w.alloc (.cells #[.int .i64 f.kind, .int .i64 f.c, .slice ta f.t.length tcap, .slice ka f.ks.length kcap] 27)).heap.size := by simp
  have HQ1 := Lib.hid hq1
  have HQ : Hid (r ≠ some w.heap.size) := Lib.hid fun e => by have := (hS.row _ e).2.1; omega
  have b0 := HB.c0
  have b3 := HB.c3
  have hk2 : (f.kind == 2) = false := by simp [h2]
  clear IH hks hT hS ht hA HB hm hsz hb hB hMw hlt hq1 hl1
  generalize f.kind = fk at *
  generalize f.c = fc at *
  generalize f.t.length = ft at *
  generalize hlen : f.ks.length = len at *
  have HLEN := Lib.hid hlen
  clear hlen
  go_enter Tryd.func22, Tryd.ntmps22
  go_wp2_with fail
  clear b0 b3
  generalize w.alloc (.cells #[.int .i64 fk, .int .i64 fc, .slice ta ft tcap, .slice ka len kcap] 27) = W1 at *
  go_loopw [10] (fun i wr => ∃ k : Nat, i = .int .i64 k ∧ k ≤ len ∧ Hid (∃ S', (∀ b, S' b → S b ∨ W1.heap.size ≤ b) ∧ GTo M K mp (gatTo n f.ks am k) r S' W1 wr)) (fun i _ => len - (intOf i).toNat)
  case atStart => exact ⟨0, rfl, Nat.zero_le _, ⟨S, fun b hb => .inl hb, .refl HS1.out⟩⟩
  case round =>
    obtain ⟨k, rfl, hk, hS⟩ := hrel
    obtain ⟨S1, hs1, r1, hG, hr1, hK1⟩ := hS.out
    have HS1' := Lib.hid hs1
    have HG1 := Lib.hid hG
    have HR1 := Lib.hid hr1
    have HK1 := Lib.hid hK1
    have hw1 : Below mp W1 wr := HS1.out.low hK1
    have hMw : Below mp w wr := (HA.out.mono (by have := HLT.out; omega)).trans hw1
    have HMW := Lib.hid hMw
    have HSZ := Lib.hid hK1.size
    clear hS hs1 hG hr1 hK1 hw1 hMw
    by_cases hlt : k < len
    · have hlti : (k : Int) < (len : Int) := by omega
      have hkl : k < f.ks.length := by rw [HLEN.out]; exact hlt
      obtain ⟨b, off, c0, c1, c2, c3, rfl, hbl, g0, g1, g2, g3, hf⟩ := HK.out k hlt
      have hblM : b < mp := Nat.lt_of_lt_of_le hbl HBM.out
      rw [← HMW.out.cell (p := ⟨b, _, none⟩) hblM] at g0 g1 g2 g3
      obtain ⟨ck, cc, cta, ctn, ctcap, cka, ckn, ckcap, rfl, rfl, rfl, rfl⟩ := hf.form
      have hA2 : Below wr.heap.size wr (wr.alloc (.cells #[.int .i64 ck, .int .i64 cc, .slice cta ctn ctcap, .slice cka ckn ckcap] 27)) := (Below.refl _ _).alloc (Nat.le_refl _) _
      have hgl := HG1.out.lt
      have hMa : Below mp w (wr.alloc (.cells #[.int .i64 ck, .int .i64 cc, .slice cta ctn ctcap, .slice cka ckn ckcap] 27)) := HMW.out.trans (hA2.mono (by omega))
      have hmk := HM.out k hlt
      have f1 := HTF.out k (by omega)
      have hs1 := sizTo_succ n f.ks k hkl
      have hs2 := sizTo_mono n f.ks (i := k + 1) (j := f.ks.length) hkl
      have hb1 := HB1.out
      have hl := HLEN.out
      rw [hl] at hs2
      have hih := HI.out (f.ks.getD k default) _ (gatTo n f.ks am k) r1 S1 _ (hf.below (hMa.mono HBM.out)) hmk (HG1.out.below hA2) (HT.out.up hMa (Nat.le_refl _)) (by omega)
      have HIH := Lib.hid hih
      have HA2 := Lib.hid hA2
      have HGT := Lib.hid (gatTo_succ n f.ks am k hkl)
      clear hA2 hMa hmk f1 hs1 hs2 hb1 hl hih hf hbl hblM hgl
      go_wp2_with fail
      clear g0 g1 g2 g3
      generalize wr.alloc (.cells #[.int .i64 ck, .int .i64 cc, .slice cta ctn ctcap, .slice cka ckn ckcap] 27) = wa at *
      refine HIH.out.mono ?_
      rintro e w3 ⟨rfl, S3, hS3, r3, hG3, hr3, hK3⟩
      have HE : Hid (∃ S', (∀ b, S' b → S b ∨ W1.heap.size ≤ b) ∧ GTo M K mp (gatTo n f.ks am (k + 1)) r S' W1 w3) := Lib.hid (by
        refine ⟨S3, fun b hb => ?_, r3, by rw [HGT.out]; exact hG3, next_trans HR1.out (Nat.le_trans HSZ.out HA2.out.size) hr3, keptG_trans HR1.out HK1.out (keptG_trans (.inl rfl) (.of_below HA2.out) hK3)⟩
        rcases hS3 b hb with hb | hb
        · exact HS1'.out b hb
        · exact .inr (Nat.le_trans (Nat.le_trans HSZ.out HA2.out.size) hb))
      clear hS3 hG3 hr3 hK3
      go_wp2_with fail
      go_roundw
      case rel => exact ⟨k + 1, by go_num, by omega, HE⟩
      case measure => simp [intOf]; omega
    · have hlti : ¬ (k : Int) < (len : Int) := by omega
      obtain rfl : k = len := by omega
      have HE : Hid (GEnd M K mp (gatTo n f.ks am k) r S w wr) := Lib.hid ⟨S1, fun b hb => (HS1'.out b hb).imp id (fun h => Nat.le_trans HA.out.size h), r1, HG1.out, next_trans (.inl rfl) HA.out.size HR1.out, keptG_trans (.inl rfl) (.of_below HA.out) HK1.out⟩
      have x0 : wr.cell? ⟨w.heap.size, 0, none⟩ = some (.int .i64 fk) := (World.cell?_of_block (a := ⟨w.heap.size, 0, none⟩) (HK1.out.block w.heap.size HQ1.out (fun e => by have := HLT.out; omega) (fun e => by have := HLT.out; omega) (fun e => HQ.out e.symm))).trans HBX.out.c0
      clear HK1 HR1 HG1 HMW
      go_wp2_with fail
      refine bodyPost_ret (results_none rfl _ _ _) rfl ?_
      exact ⟨rfl, HE.out⟩
theorem gat_any (B M K mp : Nat) (hB : B ≤ mp) : ∀ n, GatSaid B M K mp n
  | 0 => fun f cs am r S w h => h.elim
  | n + 1 => fun f cs am r S w h hm hS ht hb => by
    by_cases h2 : f.kind = 2
    · exact gat_2 B M K mp hB n f cs am r S w h hm hS ht hb h2
    · exact gat_x B M K mp hB n (gat_any B M K mp hB n) f cs am r S w h hm hS ht hb h2
theorem lit_any (am : List (Int × List (Int × Int))) (B M K mp : Nat) (av : Value) (hB : B ≤ M) (hmp : mp < M) : ∀ n, LitSaid am B M K mp av n
  | 0 => fun f cs N cl r S w h => h.elim
  | n + 1 => fun f cs N cl r S w h hm hS hp ht hb1 hb2 => by
    rcases made_kind hm with hk | hk | hk | hk | hk | hk
    · exact lit_x am B M K mp av hB hmp n (lit_any am B M K mp av hB hmp n) f cs N cl r S w h hm hS hp ht hb1 hb2 (by omega)
    · exact lit_x am B M K mp av hB hmp n (lit_any am B M K mp av hB hmp n) f cs N cl r S w h hm hS hp ht hb1 hb2 (by omega)
    · exact lit_2 am B M K mp av hB hmp n f cs N cl r S w h hm hS hp ht hk
    · exact lit_4 am B M K mp av hB hmp n (lit_any am B M K mp av hB hmp n) f cs N cl r S w h hm hS hp ht hb1 hb2 hk
    · exact lit_x am B M K mp av hB hmp n (lit_any am B M K mp av hB hmp n) f cs N cl r S w h hm hS hp ht hb1 hb2 (by omega)
    · exact lit_x am B M K mp av hB hmp n (lit_any am B M K mp av hB hmp n) f cs N cl r S w h hm hS hp ht hb1 hb2 (by omega)
end Go.Proofs.YtelndcmfddbgiaaDoor

set_option linter.unusedVariables false
set_option linter.unusedSimpArgs false
namespace Go.Proofs.YtelndcmfddbgiaaDoor
set_option maxRecDepth 100000
open Go.RowKit

/-! What Make answers. -/
def atomsF (n : Nat) (f : FT) : List (Int × List (Int × Int)) := gatF n f []
def makF (n : Nat) (f : FT) : MkR := mkF (atomsF n f) n f (atomsF n f).length []
def clsF (n : Nat) (f : FT) : List (List Int) := (makF n f).cl ++ [[(makF n f).lit]]
def cnfK (n : Nat) (f : FT) : Int := if isF n f = false then 5 else if 8192 < (makF n f).n ∨ Prp.chkK (makF n f).n (clsF n f) ≠ 0 then 2 else 0
/-- Atoms and clauses, in blocks of their own. -/
def CnfOk (n : Nat) (f : FT) (B : Nat) (w' : World) (av cv : Value) : Prop :=
  ∃ (K : Nat) (Sa Sc : Nat → Prop), B ≤ K ∧ K ≤ w'.heap.size ∧ OwnP linSh 24 B Sa (atomsF n f) av w' ∧ (∀ b, Sa b → B ≤ b ∧ b < K) ∧ (∀ q, av.ownBlock = some q → q < K) ∧ OwnP Pak.clauseSh 45 K Sc (clsF n f) cv w' ∧ (∀ b, Sc b → K ≤ b) ∧ (∀ b, (Sa b ∨ Sc b) → ∀ o, w'.frozen? ⟨b, o, none⟩ = false)
def CnfEnd (n : Nat) (f : FT) (w : World) (e : Ending) (w' : World) : Prop :=
  (cnfK n f ≠ 0 → e = .returned (.tuple #[.agg #[.int .i64 0, .slice none 0 0, .slice none 0 0], .iface 43 (.int .i64 (cnfK n f))])) ∧ (cnfK n f = 0 → ∃ av cv, e = .returned (.tuple #[.agg #[.int .i64 (makF n f).n, av, cv], .nilIface]) ∧ CnfOk n f w.heap.size w' av cv) ∧ Below w.heap.size w w'
/-- The cell of the result. -/
structure RC (W : World) (No : Nat) : Prop where
  r0 : W.cell? ⟨No, 0, none⟩ = some (.int .i64 0)
  r1 : W.cell? ⟨No, 1, none⟩ = some (.slice none 0 0)
  r2 : W.cell? ⟨No, 2, none⟩ = some (.slice none 0 0)
  fz : ∀ o, W.frozen? ⟨No, o, none⟩ = false
theorem RC.keep {W W' : World} {M : Nat} (h : RC W M) (hb : W'.heap[M]? = W.heap[M]?) : RC W' M := by
  have c := fun j => World.cell?_of_block (a := ⟨M, j, none⟩) hb
  exact ⟨(c 0).trans h.r0, (c 1).trans h.r1, (c 2).trans h.r2, fun o => (World.frozen?_of_block (a := ⟨M, o, none⟩) hb).trans (h.fz o)⟩
theorem rc_new (W : World) (N : Nat) (hN : W.heap.size = N) : RC (W.alloc (.cells #[.int .i64 0, .slice none 0 0, .slice none 0 0] 33)) N := by
  subst hN
  have hb := heap_alloc_new W (.cells #[.int .i64 0, .slice none 0 0, .slice none 0 0] 33)
  exact ⟨by rw [cell_of_row _ _ _ _ _ _ hb]; rfl, by rw [cell_of_row _ _ _ _ _ _ hb]; rfl, by rw [cell_of_row _ _ _ _ _ _ hb]; rfl, fun o => frozen_of_row _ _ _ _ _ hb⟩
theorem res3 {W : World} {No : Nat} (h : RC W No) (x0 x1 x2 : Value) :
    let W' := ((W.setCell ⟨No, 0, none⟩ x0).setCell ⟨No, 1, none⟩ x1).setCell ⟨No, 2, none⟩ x2
    W'.cell? ⟨No, 0, none⟩ = some x0 ∧ W'.cell? ⟨No, 1, none⟩ = some x1 ∧ W'.cell? ⟨No, 2, none⟩ = some x2 := by
  refine ⟨?_, ?_, ?_⟩
  · rw [World.cell?_setCell_other _ _ _ _ (by simp), World.cell?_setCell_other _ _ _ _ (by simp)]
    exact World.cell?_setCell_same _ _ _ h.r0
  · rw [World.cell?_setCell_other _ _ _ _ (by simp)]
    refine World.cell?_setCell_same _ _ _ (u := .slice none 0 0) ?_
    rw [World.cell?_setCell_other _ _ _ _ (by simp)]; exact h.r1
  · refine World.cell?_setCell_same _ _ _ (u := .slice none 0 0) ?_
    rw [World.cell?_setCell_other _ _ _ _ (by simp), World.cell?_setCell_other _ _ _ _ (by simp)]; exact h.r2
theorem below3 {w W : World} {B No : Nat} (h : Below B w W) (hB : B ≤ No) (x0 x1 x2 : Value) : Below B w (((W.setCell ⟨No, 0, none⟩ x0).setCell ⟨No, 1, none⟩ x1).setCell ⟨No, 2, none⟩ x2) :=
  ((h.setCell (p := ⟨No, 0, none⟩) hB _).setCell (p := ⟨No, 1, none⟩) hB _).setCell (p := ⟨No, 2, none⟩) hB _
theorem cnfOk_set {n : Nat} {f : FT} {B No : Nat} {W : World} {av cv : Value} (h : CnfOk n f B W av cv) (hN : No < B) (x0 x1 x2 : Value) : CnfOk n f B (((W.setCell ⟨No, 0, none⟩ x0).setCell ⟨No, 1, none⟩ x1).setCell ⟨No, 2, none⟩ x2) av cv := by
  obtain ⟨K, Sa, Sc, h1, h2, h3, h4, h5, h6, h7, h8⟩ := h
  have hsz : (((W.setCell ⟨No, 0, none⟩ x0).setCell ⟨No, 1, none⟩ x1).setCell ⟨No, 2, none⟩ x2).heap.size = W.heap.size := by simp [World.setCell]
  have hk : ∀ q, B ≤ q → (((W.setCell ⟨No, 0, none⟩ x0).setCell ⟨No, 1, none⟩ x1).setCell ⟨No, 2, none⟩ x2).heap[q]? = W.heap[q]? := fun q hq => by
    rw [Below.heap_setCell _ _ _ _ (show q ≠ No by omega), Below.heap_setCell _ _ _ _ (show q ≠ No by omega), Below.heap_setCell _ _ _ _ (show q ≠ No by omega)]
  refine ⟨K, Sa, Sc, h1, by rw [hsz]; exact h2, h3.keep (Nat.le_of_eq hsz.symm) (fun q hq => hk q ?_), h4, h5, h6.keep (Nat.le_of_eq hsz.symm) (fun q hq => hk q ?_), h7, fun b hb o => by rw [World.frozen?_setCell, World.frozen?_setCell, World.frozen?_setCell]; exact h8 b hb o⟩
  · rcases hq with hq | hq
    · exact (h4 q hq).1
    · exact (h3.lt q hq).1
  · rcases hq with hq | hq
    · exact Nat.le_trans h1 (h7 q hq)
    · exact Nat.le_trans h1 (h6.lt q hq).1
theorem cls_len {n : Nat} {f : FT} (h : isF n f = true) : 2 * (atomsF n f).length + siz n f ≤ 100000 ∧ (makF n f).n ≤ 60000 ∧ (clsF n f).length ≤ 60000 ∧ ∀ c ∈ clsF n f, c.length ≤ 60000 := by
  unfold isF at h
  simp only [Bool.and_eq_true, decide_eq_true_eq] at h
  obtain ⟨_, h1, h2⟩ := h
  have ha := gatF_le n f []
  have hf := (mkF_fits (atomsF n f) n f (atomsF n f).length [] h2).1
  have e : (atomsF n f).length ≤ siz n f := by have := ha.2; simp at this; exact this
  refine ⟨by omega, by have := hf.n; unfold makF; omega, ?_, fun c hc => ?_⟩
  · have := hf.c
    unfold clsF makF
    rw [List.length_append]
    simp at this ⊢
    omega
  · unfold clsF at hc
    rcases List.mem_append.1 hc with hc | hc
    · rcases hf.l c hc with h | h
      · cases h
      · omega
    · rw [List.mem_singleton] at hc
      subst hc
      simp
end Go.Proofs.YtelndcmfddbgiaaDoor

namespace Go.Proofs.YtelndcmfddbgiaaDoor
open Go.RowKit

/-- Few parts at each place. -/
def litF : Nat → FT → Prop
  | 0, _ => False
  | n + 1, f => f.t.length ≤ 1048576 ∧ f.ks.length ≤ 1048576 ∧ ∀ i, i < f.ks.length → litF n (f.ks.getD i default)
/-- An answer that is some number from -1 up to a bound; from 0 on the formula has few parts. -/
def SomeL (L : Prop) (B : Nat) (m : Int) (w : World) (e : Ending) (w' : World) : Prop := ∃ v : Int, e = .returned (.int .i64 v) ∧ -1 ≤ v ∧ v ≤ m ∧ (0 ≤ v → L) ∧ Below B w w'

set_option maxRecDepth 100000 in
set_option maxHeartbeats 1600000 in
theorem litn_any : ∀ (n : Nat) (f : FT) (cs : List Value) (m d : Int) (w : World), 0 ≤ m → m ≤ 1048576 → 0 ≤ d → d ≤ 1048576 → FLies w.heap.size w n f cs →
    Calls Tryd.prog 20 #[.agg cs.toArray, .int .i64 m, .int .i64 d] w (SomeL (litF n f) w.heap.size m w)
  | 0, _, _, _, _, _, _, _, _, _, h => h.elim
  | n + 1, f, cs, m, d, w, h0, h1, d0, d1, h => by
    have IH := litn_any n
    obtain ⟨ta, tcap, ka, kcap, rfl, _, ht4, hk4, hks⟩ := h
    have HI := Lib.hid IH
    have HK := Lib.hid hks
    have B0 := Lib.hid (box_start w f.kind f.c ta ka f.t.length tcap f.ks.length kcap)
    have HLT : Hid (f.t.length ≤ 1048576 → f.ks.length ≤ 1048576 → (∀ i, i < f.ks.length → litF n (f.ks.getD i default)) → litF (n + 1) f) := fun h1 h2 h3 => ⟨h1, h2, h3⟩
    clear IH hks
    generalize f.kind = fk at B0
    generalize f.c = fc at B0
    generalize f.t.length = ft at B0 ht4 HLT
    generalize hl : f.ks.length = len at B0 HK hk4 HLT
    clear hl
    have hno : ∀ r : Int, r = -1 → Hid (SomeL (litF (n + 1) f) w.heap.size m w (.returned (.int .i64 r)) (w.alloc (.cells #[.int .i64 fk, .int .i64 fc, .slice ta ft tcap, .slice ka len kcap] 27))) := fun r hr => ⟨r, rfl, by omega, by omega, fun h => by omega, B0.out.bel⟩
    by_cases hd : d = 0
    · have e1 : (d == 0) = true := by simpa using hd
      have hn := hno _ rfl
      clear hno HI HK hd
      go_enter Tryd.func20, Tryd.ntmps20
      go_wp2_with fail
      go_ret
      exact hn.out
    · have e1 : (d == 0) = false := by simpa using hd
      by_cases hm : m = 0
      · have e2 : decide (m - 1 < 0) = true := by simp; omega
        have hn := hno _ rfl
        clear hno HI HK hd
        go_enter Tryd.func20, Tryd.ntmps20
        go_wp2_with fail
        go_ret
        exact hn.out
      · have e2 : ¬ m - 1 < 0 := by omega
        by_cases ht : m - 1 < (ft : Int)
        · have hn := hno _ rfl
          clear hno HI HK hd
          go_enter Tryd.func20, Tryd.ntmps20
          go_wp2_with fail
          go_ret
          exact hn.out
        · by_cases hk : m - 1 < (len : Int)
          · have hn := hno _ rfl
            clear hno HI HK hd
            go_enter Tryd.func20, Tryd.ntmps20
            go_wp2_with fail
            go_ret
            exact hn.out
          · clear hno
            go_enter Tryd.func20, Tryd.ntmps20
            go_wp2_with fail
            go_loopw [1, 7] (fun s i wr => ∃ (k : Nat) (v : Int), k ≤ len ∧ i = .int .i64 k ∧ s = .int .i64 v ∧ 0 ≤ v ∧ v ≤ m - 1 ∧ Hid (∀ j, j < k → litF n (f.ks.getD j default)) ∧ Hid (Box w wr w.heap.size fk fc ta ft tcap ka len kcap)) (fun _ i _ => len - (intOf i).toNat)
            case atStart => exact ⟨0, m - 1 - ft, Nat.zero_le _, rfl, rfl, by omega, by omega, fun j hj => absurd hj (Nat.not_lt_zero j), B0⟩
            case round =>
              obtain ⟨k, v, hkk, rfl, rfl, hv1, hv2, hlit, hbx⟩ := hrel
              obtain ⟨bz, _, _, _, q3, hb⟩ := hbx.out
              by_cases hlt : k < len
              · obtain ⟨b, off, c0, c1, c2, c3, rfl, hblt, g0, g1, g2, g3, hf⟩ := HK.out k hlt
                rw [← hb.cell (p := ⟨b, _, none⟩) hblt] at g0 g1 g2 g3
                obtain ⟨ck, cc, cta, ctn, ctcap, cka, ckn, ckcap, rfl, rfl, rfl, rfl⟩ := hf.form
                have hih := HI.out (f.ks.getD k default) _ v (d - 1) wr (by omega) (by omega) (by omega) (by omega) ((hf.below hb).mono hb.size)
                clear hf
                go_wp2_with fail
                refine hih.mono ?_
                rintro e w1 ⟨u, rfl, hu1, hu2, hul, hb1⟩
                have HB1 := Lib.hid (hbx.out.below hb1 bz)
                clear g0 g1 g2 g3 hih hb1 hb hbx q3
                by_cases hun : u < 0
                · go_wp2_with fail
                  go_ret
                  exact ⟨-1, rfl, by omega, by omega, fun h => by omega, HB1.out.bel⟩
                · have hlit2 : Hid (∀ j, j < k + 1 → litF n (f.ks.getD j default)) := fun j hj => by
                    by_cases ej : j = k
                    · rw [ej]; exact hul (by omega)
                    · exact hlit.out j (by omega)
                  clear hul hlit
                  go_wp2_with fail
                  go_roundw
                  case rel => exact ⟨k + 1, u, by omega, by go_num, rfl, by omega, by omega, hlit2, HB1⟩
                  case measure => simp [intOf]; omega
              · clear HI HK
                go_wp2_with fail
                go_ret
                exact ⟨v, rfl, by omega, by omega, fun _ => HLT.out (by omega) (by omega) (fun i hi => hlit.out i (by omega)), hb⟩


end Go.Proofs.YtelndcmfddbgiaaDoor

namespace Go.Proofs.YtelndcmfddbgiaaDoor
open Go.RowKit

end Go.Proofs.YtelndcmfddbgiaaDoor

namespace Go.Proofs.YtelndcmfddbgiaaDoor
open Go.RowKit

end Go.Proofs.YtelndcmfddbgiaaDoor

namespace Go.Proofs.YtelndcmfddbgiaaDoor
open Go.RowKit

end Go.Proofs.YtelndcmfddbgiaaDoor

namespace Go.Proofs.YtelndcmfddbgiaaDoor
open Go.RowKit
end Go.Proofs.YtelndcmfddbgiaaDoor

namespace Go.Proofs.YtelndcmfddbgiaaDoor
open Go.RowKit

theorem cc_snd {n : Nat} {f : FT} (h : cc n f = 0) : sndF n f = true := by
  unfold cc ccV at h
  cases hb : sndF n f with
  | true => rfl
  | false => rw [hb] at h; split at h <;> (try split at h) <;> cases h
/-- What formula.Value answers: a number of an error, or the value. -/
def fvN (zs : List Int) (n : Nat) (f : FT) : Bool × Int := if cc n f = 0 then (if (vOf zs n f).2 = true then ((vOf zs n f).1, 0) else (false, 1)) else (false, cc n f)

end Go.Proofs.YtelndcmfddbgiaaDoor

set_option linter.unusedVariables false
set_option linter.unusedSimpArgs false
namespace Go.Proofs.YtelndcmfddbgiaaDoor
set_option maxRecDepth 100000

/-- The values of all variables. -/
def valsF (zs : List Int) (n : Nat) (f : FT) : List Bool := (atomsF n f).map (leB zs) ++ (tF zs n f).1
theorem cnf_right (zs : List Int) (n : Nat) (f : FT) (hm : madeF n f = true) : (valsF zs n f).length = (makF n f).n ∧ Prp.valB (makF n f).cl (valsF zs n f) = true ∧ Prp.valB [[(makF n f).lit]] (valsF zs n f) = (tF zs n f).2 := by
  have hA : ∀ k (h : k < (atomsF n f).length), (valsF zs n f)[k]? = some (leB zs (atomsF n f)[k]) := fun k h => by
    unfold valsF
    rw [List.getElem?_append_left (by rw [List.length_map]; exact h)]
    simp [h]
  have hv : Agr (valsF zs n f) (atomsF n f).length (tF zs n f).1 := fun i hi => by
    unfold valsF
    rw [List.getElem?_append_right (by rw [List.length_map]; omega), List.length_map, show (atomsF n f).length + i - (atomsF n f).length = i by omega]
  obtain ⟨t1, t2, t3, t4⟩ := ts (atomsF n f) zs (valsF zs n f) hA n f (atomsF n f).length [] hm (gat_has n f [] hm) hv
  refine ⟨?_, ?_, ?_⟩
  · show _ = (mkF (atomsF n f) n f (atomsF n f).length []).n
    rw [t1]
    unfold valsF
    rw [List.length_append, List.length_map]
  · refine List.all_eq_true.2 fun c hc => ?_
    rcases t4 c hc with h | h
    · cases h
    · exact h
  · show Prp.valB [[(mkF (atomsF n f) n f (atomsF n f).length []).lit]] _ = _
    unfold Prp.valB
    simp only [List.all_cons, List.all_nil, Bool.and_true, any_one]
    exact t2
theorem vTo_all {zs : List Int} {n : Nat} {b : Bool} {ks : List FT} : ∀ k, k ≤ ks.length → (vTo zs n b ks k).2 = true → ∀ i, i < k → (vOf zs n (ks.getD i default)).2 = true
  | 0, _, _, i, hi => absurd hi (Nat.not_lt_zero i)
  | k + 1, hk, h, i, hi => by
    rw [vTo_succ zs n b ks k hk] at h
    have h : ((vTo zs n b ks k).2 && (vOf zs n (ks.getD k default)).2) = true := h
    rw [Bool.and_eq_true] at h
    by_cases e : i = k
    · subst e; exact h.2
    · exact vTo_all k (by omega) h.1 i (by omega)
theorem vOf_x {zs : List Int} {n : Nat} {f : FT} (h : f.kind = 5 ∨ f.kind = 6) : vOf zs (n + 1) f = vTo zs n (f.kind == 5) f.ks f.ks.length := by
  rw [vOf, if_neg (by omega), if_neg (by omega), if_neg (by omega), if_neg (by omega)]
  unfold vTo
  rw [List.take_length]
theorem tF_val (zs : List Int) : ∀ (n : Nat) (f : FT), madeF n f = true → (vOf zs n f).2 = true → (tF zs n f).2 = (vOf zs n f).1
  | 0, f, hm, _ => by cases hm
  | n + 1, f, hm, hv => by
    have hmk := made_kids hm
    rcases made_kind hm with hk | hk | hk | hk | hk | hk
    · rw [tF, if_pos hk, vOf, if_pos hk]
    · rw [tF, if_neg (by omega), if_pos hk, vOf, if_neg (by omega), if_pos hk]
    · rw [tF_2 hk]
      rw [vOf, if_neg (by omega), if_neg (by omega), if_pos (.inl hk)] at hv ⊢
      split at hv
      · rename_i hn
        rw [if_pos hn]
        unfold leB rvI
        rw [if_pos hn, decide_eq_true hk, Bool.and_true]
        show decide (sAt f.c f.t zs f.t.length ≤ 0) = (decide _ || decide _)
        by_cases h1 : sAt f.c f.t zs f.t.length = 0
        · rw [decide_eq_true h1, decide_eq_true (by omega)]; rfl
        · by_cases h2 : sAt f.c f.t zs f.t.length < 0
          · rw [decide_eq_false h1, decide_eq_true h2, decide_eq_true (by omega)]; rfl
          · rw [decide_eq_false h1, decide_eq_false h2, decide_eq_false (by omega)]; rfl
      · cases hv
    · rw [tF_4 hk]
      rw [vOf, if_neg (by omega), if_neg (by omega), if_neg (by omega), if_pos hk] at hv ⊢
      have hl := (made_not hm hk).1
      show (!(tF zs n (f.ks.getD 0 default)).2) = !_
      rw [tF_val zs n _ (hmk 0 (by omega)) hv]
    all_goals
      rw [tF_x (by omega)]
      rw [vOf_x (by omega)] at hv ⊢
      have hall := vTo_all f.ks.length (Nat.le_refl _) hv
    · simp only [hk, if_true]
      have : ∀ k, k ≤ f.ks.length → (tTo zs n f.ks k).2.1 = (vTo zs n true f.ks k).1 := fun k => by
        induction k with
        | zero => exact fun _ => rfl
        | succ k ih =>
          intro hk2
          rw [tTo_succ zs n f.ks k hk2, vTo_succ zs n true f.ks k hk2]
          show ((tTo zs n f.ks k).2.1 && (tF zs n (f.ks.getD k default)).2) = if ((vOf zs n (f.ks.getD k default)).1 != true) = true then !true else (vTo zs n true f.ks k).1
          rw [tF_val zs n _ (hmk k hk2) (hall k hk2), ih (by omega)]
          cases (vOf zs n (f.ks.getD k default)).1 <;> simp
      exact this _ (Nat.le_refl _)
    · simp only [hk, show ¬ ((6 : Int) = 5) by decide, if_false]
      have : ∀ k, k ≤ f.ks.length → (tTo zs n f.ks k).2.2 = (vTo zs n false f.ks k).1 := fun k => by
        induction k with
        | zero => exact fun _ => rfl
        | succ k ih =>
          intro hk2
          rw [tTo_succ zs n f.ks k hk2, vTo_succ zs n false f.ks k hk2]
          show ((tTo zs n f.ks k).2.2 || (tF zs n (f.ks.getD k default)).2) = if ((vOf zs n (f.ks.getD k default)).1 != false) = true then !false else (vTo zs n false f.ks k).1
          rw [tF_val zs n _ (hmk k hk2) (hall k hk2), ih (by omega)]
          cases (vOf zs n (f.ks.getD k default)).1 <;> simp
      exact this _ (Nat.le_refl _)
/-- What is sound and not too great has few parts at each place. -/
theorem lit_of {B : Nat} {w : World} : ∀ {n : Nat} {f : FT} {cs : List Value}, FLies B w n f cs → sndF n f = true → siz n f ≤ 4096 → litF n f
  | 0, _, _, h, _, _ => h.elim
  | n + 1, f, cs, h, hs, hz => by
    obtain ⟨ta, tcap, ka, kcap, _, _, _, _, hks⟩ := h
    obtain ⟨ho, hk⟩ := sndF_split hs
    have hsz := sizTo_len n f
    have hpos : ∀ i, i < f.ks.length → 1 ≤ siz n (f.ks.getD i default) := fun i hi => by
      obtain ⟨_, _, _, _, _, _, _, _, _, _, _, _, hf⟩ := hks i hi
      cases n with
      | zero => exact hf.elim
      | succ n => exact siz_pos n _
    have hle : ∀ i, i ≤ f.ks.length → i ≤ sizTo n f.ks i := fun i => by
      induction i with
      | zero => exact fun _ => Nat.zero_le _
      | succ i ih =>
        intro hi
        have h1 := ih (by omega)
        have h2 := hpos i hi
        rw [sizTo_succ n f.ks i hi]
        omega
    have hl := hle f.ks.length (Nat.le_refl _)
    refine ⟨?_, by omega, fun i hi => ?_⟩
    · rcases ownF_kind ho with h0 | h0 | h0 | h0 | h0 | h0
      · unfold ownF ownV at ho
        rw [if_pos (.inl h0)] at ho
        simp at ho
        first | omega | simp [ho]
      · unfold ownF ownV at ho
        rw [if_pos (.inr h0)] at ho
        simp at ho
        first | omega | simp [ho]
      · have := (snd_iff.1 (ownF_form ho h0)).2.1
        omega
      · unfold ownF ownV at ho
        rw [if_neg (by omega), if_neg (by omega), if_pos h0] at ho
        simp at ho
        first | omega | simp [ho]
      · unfold ownF ownV at ho
        rw [if_neg (by omega), if_neg (by omega), if_neg (by omega), if_pos (.inl h0)] at ho
        simp at ho
        first | omega | simp [ho]
      · unfold ownF ownV at ho
        rw [if_neg (by omega), if_neg (by omega), if_neg (by omega), if_pos (.inr h0)] at ho
        simp at ho
        first | omega | simp [ho]
    · obtain ⟨_, _, _, _, _, _, _, _, _, _, _, _, hf⟩ := hks i hi
      have h1 := sizTo_succ n f.ks i hi
      have h2 := sizTo_mono n f.ks (i := i + 1) (j := f.ks.length) hi
      exact lit_of hf (hk i hi) (by omega)
end Go.Proofs.YtelndcmfddbgiaaDoor
