/- The document's atoms. The document's atoms: of what is no atom; of any formula. The document's clauses: what the walk stands on; of an atom, of an opposite. -/
import Derived.Test.YtelndcmfddbgiaaDoorCs12
import Derived.Test.YtelndcmfddbgiaaDoorCs16
set_option linter.unusedVariables false
set_option linter.unusedSimpArgs false
set_option linter.unusedVariables false
set_option linter.unusedSimpArgs false
namespace Go.Proofs.YtelndcmfddbgiaaDoor
set_option maxRecDepth 100000
open Go.RowKit

theorem grown_trans {r r' : Option Nat} {w w1 w2 : World} (hr : r' = r ∨ ∃ q, r' = some q ∧ w.heap.size ≤ q) (h : w.grownBy w1 r) (k : w1.grownBy w2 r') : w.grownBy w2 r :=
  ⟨k.os.trans h.os, k.tape.trans h.tape, k.output.trans h.output, Nat.le_trans h.size k.size, fun q hq hn => (k.block q (Nat.lt_of_lt_of_le hq h.size) (fun e => by
    rcases hr with rfl | ⟨p, rfl, hp⟩
    · exact hn e
    · injection e with e; omega)).trans (h.block q hq hn)⟩
theorem grown_of {r : Option Nat} {w w' : World} (h : Below w.heap.size w w') : w.grownBy w' r := ⟨h.os, h.tape, h.output, h.size, fun q hq _ => h.block q hq⟩
/-- What lies below the rows stands. -/
theorem grown_low {r : Option Nat} {w w' : World} {K : Nat} (h : w.grownBy w' r) (hK : K ≤ w.heap.size) (hr : ∀ q, r = some q → K ≤ q) : Below K w w' := ⟨h.os, h.tape, h.output, h.size, fun q hq => h.block q (by omega) (fun e => by have := hr q e.symm; omega)⟩
/-- A row that an append has told. -/
def RowTo {T : Type} (sh : Pak.Sh T) (ty : TypeId) (K : Nat) (S : Nat → Prop) (xs : List T) (v : Value) (w : World) (v' : Value) (w' : World) : Prop :=
  OwnP sh ty K S xs v' w' ∧ w.grownBy w' v.ownBlock ∧ (v'.ownBlock = v.ownBlock ∨ ∃ q, v'.ownBlock = some q ∧ w.heap.size ≤ q)
theorem RowTo.refl {T : Type} {sh : Pak.Sh T} {ty : TypeId} {K : Nat} {S : Nat → Prop} {xs : List T} {v : Value} {w : World} (h : OwnP sh ty K S xs v w) : RowTo sh ty K S xs v w v w := ⟨h, grown_of (Below.refl _ _), .inl rfl⟩
theorem RowTo.of {T : Type} {sh : Pak.Sh T} {ty : TypeId} {K : Nat} {S1 S2 : Nat → Prop} {xs xs1 : List T} {v v1 v2 : Value} {w w1 w2 : World} (h : RowTo sh ty K S1 xs1 v w v1 w1) (k : RowTo sh ty K S2 xs v1 w1 v2 w2) : RowTo sh ty K S2 xs v w v2 w2 :=
  ⟨k.1, grown_trans h.2.2 h.2.1 k.2.1, next_trans h.2.2 h.2.1.size k.2.2⟩
theorem RowTo.after {T : Type} {sh : Pak.Sh T} {ty : TypeId} {K : Nat} {S1 : Nat → Prop} {xs1 : List T} {v v1 : Value} {w w1 w2 : World} (h : RowTo sh ty K S1 xs1 v w v1 w1) (hb : Below w1.heap.size w1 w2) : RowTo sh ty K S1 xs1 v w v1 w2 :=
  ⟨h.1.below hb, grown_trans (.inl rfl) h.2.1 (grown_of hb), h.2.2⟩
theorem RowTo.before {T : Type} {sh : Pak.Sh T} {ty : TypeId} {K : Nat} {S1 : Nat → Prop} {xs1 : List T} {v v1 : Value} {w w1 w2 : World} (hb : Below w.heap.size w w1) (h : RowTo sh ty K S1 xs1 v w1 v1 w2) : RowTo sh ty K S1 xs1 v w v1 w2 :=
  ⟨h.1, grown_trans (.inl rfl) (grown_of hb) h.2.1, h.2.2.imp id (fun ⟨q, e, hq⟩ => ⟨q, e, Nat.le_trans hb.size hq⟩)⟩
abbrev ARow (B K : Nat) (am : List (Int × List (Int × Int))) (v : Value) (w : World) : Prop := OwnP linSh 24 K (fun b => b < B) am v w
def AEnd (B K : Nat) (am : List (Int × List (Int × Int))) (v : Value) (w : World) (e : Ending) (w' : World) : Prop := ∃ v', e = .returned v' ∧ RowTo linSh 24 K (fun b => b < B) am v w v' w'
def short (am : List (Int × List (Int × Int))) : Prop := ∀ y ∈ am, y.2.length ≤ 64
/-- What atoms says of formulas of n layers. -/
def RAtSaid (B K : Nat) (n : Nat) : Prop :=
  ∀ (f : FT) (cs : List Value) (am : List (Int × List (Int × Int))) (v : Value) (w : World), FLies B w n f cs → madeF n f = true → ARow B K am v w → K ≤ w.heap.size → short am → am.length + siz n f ≤ 100000 →
    Calls Tryd.prog 27 #[.agg cs.toArray, v] w (AEnd B K (gatF n f am) v w)
theorem short_gat : ∀ (n : Nat) (f : FT) (am : List (Int × List (Int × Int))), madeF n f = true → short am → short (gatF n f am)
  | 0, f, am, hm, _ => by cases hm
  | n + 1, f, am, hm, h => by
    have hto : ∀ i, i ≤ f.ks.length → short (gatTo n f.ks am i) := fun i => by
      induction i with
      | zero => exact fun _ => h
      | succ i ih =>
        intro hi
        rw [gatTo_succ n f.ks am i hi]
        exact short_gat n _ _ (made_kids hm i hi) (ih (by omega))
    rw [gatTo_len]
    split
    · rename_i h2
      unfold addA
      split
      · intro y hy
        rcases List.mem_append.1 hy with hy | hy
        · exact hto _ (Nat.le_refl _) y hy
        · rw [List.mem_singleton] at hy
          subst hy
          exact (snd_iff.1 (made_snd hm h2).1).2.1
      · exact hto _ (Nat.le_refl _)
    · exact hto _ (Nat.le_refl _)
theorem short_to (n : Nat) (ks : List FT) (am : List (Int × List (Int × Int))) (hm : ∀ i, i < ks.length → madeF n (ks.getD i default) = true) (h : short am) : ∀ i, i ≤ ks.length → short (gatTo n ks am i)
  | 0, _ => h
  | i + 1, hi => by
    rw [gatTo_succ n ks am i hi]
    exact short_gat n _ _ (hm i hi) (short_to n ks am hm h i (by omega))
set_option maxHeartbeats 16000000 in
theorem rat_2 (B K : Nat) (hB : B ≤ K) (n : Nat) (f : FT) (cs : List Value) (am : List (Int × List (Int × Int))) (v : Value) (w : World) (h : FLies B w (n + 1) f cs) (hm : madeF (n + 1) f = true) (hv : ARow B K am v w) (hK : K ≤ w.heap.size) (hsh : short am) (hb : am.length + siz (n + 1) f ≤ 100000) (h2 : f.kind = 2) :
    Calls Tryd.prog 27 #[.agg cs.toArray, v] w (AEnd B K (gatF (n + 1) f am) v w) := by
  obtain ⟨ta, tcap, ka, kcap, rfl, hT, _, _, _⟩ := h
  obtain ⟨hsn, hk0⟩ := made_snd hm h2
  have HG : gatF (n + 1) f am = addA am (f.c, f.t) := by rw [gatTo_len, if_pos h2, hk0, gatTo_zero]
  rw [HG]
  have ht64 := (snd_iff.1 hsn).2.1
  have hA : Below w.heap.size w (w.alloc (.cells #[.int .i64 f.kind, .int .i64 f.c, .slice ta f.t.length tcap, .slice ka f.ks.length kcap] 27)) := (Below.refl _ w).alloc (Nat.le_refl _) _
  have HB := box_start w f.kind f.c ta ka f.t.length tcap f.ks.length kcap
  obtain ⟨va, vc, hvf⟩ := hv.form
  obtain ⟨va', vc', hvf', hsit⟩ := (hv.below hA).slot (by omega)
  have hok := (hv.below hA).ok
  have hvl := (hv.below hA).lt
  have HAT := Lib.hid (at_any _ va' am.length vc' am f.c ta f.t.length tcap f.t _ hsit (fun b hb => by
    rcases hb with hb | hb
    · exact (hok b hb).1
    · exact (hvl b hb).2) rfl (fun y hy => by have := hsh y hy; omega) ((hT.below (hA.mono (by omega))).mono (Nat.le_trans (show B ≤ w.heap.size by omega) hA.size)) rfl (by omega))
  rw [← hvf'] at HAT
  have HV := Lib.hid hv
  have HA := Lib.hid hA
  have HT := Lib.hid hT
  have HBK := Lib.hid (And.intro hB hK)
  have hq1 : w.heap.size < (w.alloc (.cells #[.int .i64 f.kind, .int .i64 f.c, .slice ta f.t.length tcap, .slice ka f.ks.length kcap] 27)).heap.size := by simp
  have HQ1 := Lib.hid hq1
  have HAM := Lib.hid (show am.length ≤ 4194304 by omega)
  have b0 := HB.c0
  have b1 := HB.c1
  have b2 := HB.c2
  have b3 := HB.c3
  rw [h2] at *
  rw [hk0] at *
  clear h2 hk0 hsn hT hv hA HB hm hsh hB hb hq1 HG hok hvl hsit hvf' hK
  subst hvf
  generalize f.c = c at *
  generalize f.t = t at *
  generalize f.ks = fks at *
  go_enter Tryd.func27, Tryd.ntmps27
  go_wp2_with fail
  generalize w.alloc (.cells #[.int .i64 2, .int .i64 c, .slice ta t.length tcap, .slice ka 0 kcap] 27) = W1 at *
  refine HAT.out.mono ?_
  rintro e w2 ⟨rfl, hb2⟩
  have hk := fun j => hb2.cell (p := ⟨w.heap.size, j, none⟩) HQ1.out
  have c1 := (hk 1).trans b1
  have c2 := (hk 2).trans b2
  have c3 := (hk 3).trans b3
  have HB2 := Lib.hid (HA.out.trans (hb2.mono HA.out.size))
  clear hb2 hk b0 b1 b2 b3 HAT
  by_cases h0 : atN am (c, t) = 0
  · rw [h0]
    have hv2 := HV.out.below HB2.out
    obtain ⟨v6, w6, hr6, h6, g6, n6⟩ := hv2.put (P := Tryd.prog) (t := 30) (x := (c, t)) (cs := [.int .i64 c, .slice ta t.length tcap]) (Sx := fun b => b < B) Tryd.underlying30 (by' := 32) (by kernel_rfl) (by decide) (by decide) HAM.out (Nat.le_trans HBK.out.2 HB2.out.size) ⟨ta, tcap, rfl, (HT.out.below (HB2.out.mono (Nat.le_trans HBK.out.1 HBK.out.2))).liesS⟩ (fun b hb => ⟨by have := HBK.out; have := HB2.out.size; omega, fun e => by have := (hv2.lt b e).1; have := HBK.out; omega⟩)
    have HE : Hid (AEnd B K (addA am (c, t)) (.slice va am.length vc) w (.returned v6) w6) := Lib.hid ⟨v6, rfl, RowTo.before HB2.out ⟨by unfold addA; rw [if_pos h0]; exact h6.more (fun b hb => by rcases hb with hb | hb <;> exact hb) (fun b hb => h6.ok b (.inl hb)), g6, n6⟩⟩
    obtain ⟨x6, y6, e6⟩ := h6.form
    generalize (am ++ [(c, t)]).length = l6 at e6
    subst e6
    clear h6 g6 n6 hv2
    generalize am.length = al at *
    go_wp2_with (at_builtin; refine Lib.wpList_append_run _ rfl _ _ _ _ rfl _ _ rfl rfl _ _ (hr6 _) ?_)
    go_ret
    exact HE.out
  · have h01 : (((atN am (c, t) : Nat) : Int) == 0) = false := by simp [h0]
    have HE : Hid (AEnd B K (addA am (c, t)) (.slice va am.length vc) w (.returned (.slice va am.length vc)) w2) := Lib.hid ⟨_, rfl, by unfold addA; rw [if_neg h0]; exact (RowTo.refl HV.out).after HB2.out⟩
    clear h0
    generalize ((atN am (c, t) : Nat) : Int) = z at *
    generalize am.length = al at *
    go_wp2_with fail
    go_loopw [1, 5] (fun v i wr => v = .slice va al vc ∧ i = .int .i64 0 ∧ Hid (wr = w2)) (fun _ _ _ => 0)
    case atStart => exact ⟨rfl, rfl, rfl⟩
    case round =>
      obtain ⟨rfl, rfl, hw⟩ := hrel
      obtain rfl := hw.out
      clear hw
      go_wp2_with fail
      go_ret
      exact HE.out
end Go.Proofs.YtelndcmfddbgiaaDoor

set_option linter.unusedVariables false
set_option linter.unusedSimpArgs false
namespace Go.Proofs.YtelndcmfddbgiaaDoor
set_option maxRecDepth 100000
open Go.RowKit

set_option maxHeartbeats 16000000 in
theorem rat_x (B K : Nat) (hB : B ≤ K) (n : Nat) (IH : RAtSaid B K n) (f : FT) (cs : List Value) (am : List (Int × List (Int × Int))) (v : Value) (w : World) (h : FLies B w (n + 1) f cs) (hm : madeF (n + 1) f = true) (hv : ARow B K am v w) (hK : K ≤ w.heap.size) (hsh : short am) (hb : am.length + siz (n + 1) f ≤ 100000) (h2 : f.kind ≠ 2) :
    Calls Tryd.prog 27 #[.agg cs.toArray, v] w (AEnd B K (gatF (n + 1) f am) v w) := by
  obtain ⟨ta, tcap, ka, kcap, rfl, hT, hl1, hl2, hks⟩ := h
  rw [gat_snd h2]
  have hA : Below w.heap.size w (w.alloc (.cells #[.int .i64 f.kind, .int .i64 f.c, .slice ta f.t.length tcap, .slice ka f.ks.length kcap] 27)) := (Below.refl _ w).alloc (Nat.le_refl _) _
  have HB := box_start w f.kind f.c ta ka f.t.length tcap f.ks.length kcap
  have HM := Lib.hid (made_kids hm)
  have HTF := Lib.hid (fun i (hi : i ≤ f.ks.length) => gatTo_le n f.ks am i hi)
  have HSH := Lib.hid (short_to n f.ks am (made_kids hm) hsh)
  have HI := Lib.hid IH
  have HK := Lib.hid hks
  have HA := Lib.hid hA
  have HBK := Lib.hid (And.intro hB hK)
  have hsz := sizTo_len n f
  rw [hsz] at hb
  have HB1 := Lib.hid hb
  have HBX := Lib.hid HB
  have hq1 : w.heap.size < (w.alloc (.cells #[.int .i64 f.kind, .int .i64 f.c, .slice ta f.t.length tcap, .slice ka f.ks.length kcap] 27)).heap.size := by simp
  have HQ1 := Lib.hid hq1
  have HQ : Hid (v.ownBlock ≠ some w.heap.size) := Lib.hid fun e => by have := (hv.lt _ e).2; omega
  have HVL := Lib.hid (fun q (e : v.ownBlock = some q) => (hv.lt q e).1)
  have HR1 := Lib.hid (RowTo.refl (hv.below hA))
  have b0 := HB.c0
  have b3 := HB.c3
  obtain ⟨va, vc, hvf⟩ := hv.form
  have hk2 : (f.kind == 2) = false := by simp [h2]
  clear IH hks hT hv hA HB hm hsz hb hB hq1 hl1 hsh hK
  subst hvf
  generalize f.kind = fk at *
  generalize f.c = fc at *
  generalize f.t.length = ft at *
  generalize hlen : f.ks.length = len at *
  have HLEN := Lib.hid hlen
  clear hlen
  obtain ⟨al, hal⟩ : ∃ al, al = am.length := ⟨_, rfl⟩
  rw [← hal] at HQ HVL HR1 HB1 HTF ⊢
  clear hal
  go_enter Tryd.func27, Tryd.ntmps27
  go_wp2_with fail
  clear b0
  generalize w.alloc (.cells #[.int .i64 fk, .int .i64 fc, .slice ta ft tcap, .slice ka len kcap] 27) = W1 at *
  go_loopw [1, 5] (fun o i wr => ∃ (k ol oc : Nat) (oa : Option Addr), i = .int .i64 k ∧ k ≤ len ∧ o = .slice oa ol oc ∧ Hid (RowTo linSh 24 K (fun b => b < B) (gatTo n f.ks am k) (.slice va al vc) W1 (.slice oa ol oc) wr)) (fun _ i _ => len - (intOf i).toNat)
  case atStart => exact ⟨0, al, vc, va, rfl, Nat.zero_le _, rfl, HR1.out⟩
  case round =>
    clear HR1
    obtain ⟨k, ol, oc, oa, rfl, hk, rfl, hS⟩ := hrel
    have hg := hS.out.2.1
    have hbk := HBK.out
    have hMw : Below K w wr := (HA.out.mono hbk.2).trans (grown_low hg (Nat.le_trans hbk.2 HA.out.size) HVL.out)
    have HMW := Lib.hid hMw
    have hc := fun j => World.cell?_of_block (a := ⟨w.heap.size, j, none⟩) (hg.block w.heap.size HQ1.out (fun e => HQ.out e.symm))
    have x3 := (hc 3).trans b3
    clear hg hMw hc
    by_cases hlt : k < len
    · have hlti : (k : Int) < (len : Int) := by omega
      have hkl : k < f.ks.length := by rw [HLEN.out]; exact hlt
      obtain ⟨b, off, c0, c1, c2, c3, rfl, hbl, g0, g1, g2, g3, hf⟩ := HK.out k hlt
      have hblM : b < K := by omega
      rw [← HMW.out.cell (p := ⟨b, _, none⟩) hblM] at g0 g1 g2 g3
      obtain ⟨ck, cc, cta, ctn, ctcap, cka, ckn, ckcap, rfl, rfl, rfl, rfl⟩ := hf.form
      have hmk := HM.out k hlt
      have f1 := HTF.out k (by omega)
      have hs1 := sizTo_succ n f.ks k hkl
      have hs2 := sizTo_mono n f.ks (i := k + 1) (j := f.ks.length) hkl
      have hb1 := HB1.out
      have hl := HLEN.out
      rw [hl] at hs2
      have hih := HI.out (f.ks.getD k default) _ (gatTo n f.ks am k) _ wr (hf.below (HMW.out.mono hbk.1)) hmk hS.out.1 (Nat.le_trans hbk.2 HMW.out.size) (HSH.out k (by omega)) (by omega)
      have HIH := Lib.hid hih
      have HGT := Lib.hid (gatTo_succ n f.ks am k hkl)
      clear hmk f1 hs1 hs2 hb1 hl hih hf hbl hblM hbk
      go_wp2_with fail
      clear g0 g1 g2 g3
      refine HIH.out.mono ?_
      rintro e w3 ⟨v3, rfl, hR3⟩
      have HR3 : Hid (RowTo linSh 24 K (fun b => b < B) (gatTo n f.ks am (k + 1)) (.slice va al vc) W1 v3 w3) := Lib.hid (by
        rw [HGT.out]
        exact hS.out.of hR3)
      obtain ⟨a3, c3', e3⟩ := hR3.1.form
      generalize (gatF n (f.ks.getD k default) (gatTo n f.ks am k)).length = l3 at e3
      subst e3
      clear hR3 HIH hS
      go_wp2_with fail
      go_roundw
      case rel => exact ⟨k + 1, l3, c3', a3, by go_num, by omega, rfl, HR3⟩
      case measure => simp [intOf]; omega
    · have hlti : ¬ (k : Int) < (len : Int) := by omega
      obtain rfl : k = len := by omega
      have HE : Hid (AEnd B K (gatTo n f.ks am k) (.slice va al vc) w (.returned (.slice oa ol oc)) wr) := Lib.hid ⟨_, rfl, hS.out.before HA.out⟩
      clear hS hbk
      go_wp2_with fail
      go_ret
      exact HE.out
theorem rat_any (B K : Nat) (hB : B ≤ K) : ∀ n, RAtSaid B K n
  | 0 => fun f cs am v w h => h.elim
  | n + 1 => fun f cs am v w h hm hv hK hsh hb => by
    by_cases h2 : f.kind = 2
    · exact rat_2 B K hB n f cs am v w h hm hv hK hsh hb h2
    · exact rat_x B K hB n (rat_any B K hB n) f cs am v w h hm hv hK hsh hb h2
end Go.Proofs.YtelndcmfddbgiaaDoor

set_option linter.unusedVariables false
set_option linter.unusedSimpArgs false
namespace Go.Proofs.YtelndcmfddbgiaaDoor
set_option maxRecDepth 100000
open Go.RowKit

theorem RowTo.other {T : Type} {sh : Pak.Sh T} {ty : TypeId} {K : Nat} {S1 : Nat → Prop} {xs1 : List T} {v v1 : Value} {w w1 w2 : World} {r : Option Nat} (h : RowTo sh ty K S1 xs1 v w v1 w1) (g : w1.grownBy w2 r) (hr : ∀ q, r = some q → w.heap.size ≤ q ∧ ¬ S1 q ∧ v1.ownBlock ≠ some q) : RowTo sh ty K S1 xs1 v w v1 w2 :=
  ⟨h.1.grown g (fun q e => (hr q e).2), ⟨g.os.trans h.2.1.os, g.tape.trans h.2.1.tape, g.output.trans h.2.1.output, Nat.le_trans h.2.1.size g.size, fun q hq hn => (g.block q (Nat.lt_of_lt_of_le hq h.2.1.size) (fun e => by have := (hr q e.symm).1; omega)).trans (h.2.1.block q hq hn)⟩, h.2.2⟩
abbrev CRow (K : Nat) (S : Nat → Prop) (cl : List (List Int)) (v : Value) (w : World) : Prop := OwnP Pak.clauseSh 45 K S cl v w
abbrev CTo (K : Nat) (S : Nat → Prop) (cl : List (List Int)) (v : Value) (w : World) (v' : Value) (w' : World) : Prop := RowTo Pak.clauseSh 45 K S cl v w v' w'
abbrev IRow (K : Nat) (xs : List Int) (v : Value) (w : World) : Prop := OwnP Pak.intSh 3 K (fun _ => False) xs v w
def RMEnd (K : Nat) (p : MkR) (S : Nat → Prop) (v : Value) (w : World) (e : Ending) (w' : World) : Prop :=
  ∃ v' S', e = .returned (.tuple #[v', .int .i64 p.n, .int .i64 p.lit]) ∧ (∀ b, S' b → S b ∨ w.heap.size ≤ b) ∧ CTo K S' p.cl v w v' w'
/-- What make1 says of formulas of n layers. -/
def RMkSaid (am : List (Int × List (Int × Int))) (B K : Nat) (la : Option Addr) (lc : Nat) (n : Nat) : Prop :=
  ∀ (f : FT) (cs : List Value) (N : Nat) (cl : List (List Int)) (S : Nat → Prop) (v : Value) (w : World), FLies B w n f cs → madeF n f = true → Pak.Sits linSh (Pak.Lo K) w la am → CRow K S cl v w → K ≤ w.heap.size → am.length + N + siz n f ≤ 100000 → cl.length + 2 * siz n f ≤ 1000000 →
    Calls Tryd.prog 28 #[.agg cs.toArray, .slice la am.length lc, .int .i64 N, v] w (RMEnd K (mkF am n f N cl) S v w)
set_option maxHeartbeats 16000000 in
theorem rmk_2 (am : List (Int × List (Int × Int))) (B K : Nat) (la : Option Addr) (lc : Nat) (hB : B ≤ K) (hsh : short am) (n : Nat) (f : FT) (cs : List Value) (N : Nat) (cl : List (List Int)) (S : Nat → Prop) (v : Value) (w : World) (h : FLies B w (n + 1) f cs) (hm : madeF (n + 1) f = true) (hl : Pak.Sits linSh (Pak.Lo K) w la am) (hv : CRow K S cl v w) (hK : K ≤ w.heap.size) (h2 : f.kind = 2) :
    Calls Tryd.prog 28 #[.agg cs.toArray, .slice la am.length lc, .int .i64 N, v] w (RMEnd K (mkF am (n + 1) f N cl) S v w) := by
  obtain ⟨ta, tcap, ka, kcap, rfl, hT, _, _, _⟩ := h
  obtain ⟨hsn, hk0⟩ := made_snd hm h2
  rw [mkF_2 h2]
  have ht64 := (snd_iff.1 hsn).2.1
  have hA : Below w.heap.size w (w.alloc (.cells #[.int .i64 f.kind, .int .i64 f.c, .slice ta f.t.length tcap, .slice ka f.ks.length kcap] 27)) := (Below.refl _ w).alloc (Nat.le_refl _) _
  have HB := box_start w f.kind f.c ta ka f.t.length tcap f.ks.length kcap
  have HAT := Lib.hid (at_any _ la am.length lc am f.c ta f.t.length tcap f.t _ (hl.up (hA.mono hK)) (fun b (hb : b < K) => by simp; omega) rfl (fun y hy => by have := hsh y hy; omega) ((hT.below (hA.mono (by omega))).mono (Nat.le_trans (show B ≤ w.heap.size by omega) hA.size)) rfl (by omega))
  have HV := Lib.hid hv
  have HA := Lib.hid hA
  have b0 := HB.c0
  have b1 := HB.c1
  have b2 := HB.c2
  obtain ⟨va, vc, hvf⟩ := hv.form
  rw [h2] at *
  clear h2 hk0 hsn hT hv hA HB hm hsh hB hK hl
  subst hvf
  generalize cl.length = cll at *
  generalize atN am (f.c, f.t) = z at *
  generalize f.c = c at *
  generalize f.t.length = tl at *
  generalize f.ks.length = kl at *
  generalize am.length = al at *
  go_enter Tryd.func28, Tryd.ntmps28
  go_wp2_with fail
  clear b0 b1 b2
  refine HAT.out.mono ?_
  rintro e w2 ⟨rfl, hb2⟩
  have HE : Hid (RMEnd K ⟨N, cl, z⟩ S (.slice va cll vc) w (.returned (.tuple #[.slice va cll vc, .int .i64 N, .int .i64 z])) w2) := Lib.hid ⟨_, S, rfl, fun b hb => .inl hb, ((RowTo.refl HV.out).after (HA.out.trans (hb2.mono HA.out.size)))⟩
  clear hb2 HAT
  go_wp2_with fail
  go_ret3
  exact HE.out
set_option maxHeartbeats 16000000 in
theorem rmk_4 (am : List (Int × List (Int × Int))) (B K : Nat) (la : Option Addr) (lc : Nat) (hB : B ≤ K) (n : Nat) (IH : RMkSaid am B K la lc n) (f : FT) (cs : List Value) (N : Nat) (cl : List (List Int)) (S : Nat → Prop) (v : Value) (w : World) (h : FLies B w (n + 1) f cs) (hm : madeF (n + 1) f = true) (hl : Pak.Sits linSh (Pak.Lo K) w la am) (hv : CRow K S cl v w) (hK : K ≤ w.heap.size) (hb1 : am.length + N + siz (n + 1) f ≤ 100000) (hb2 : cl.length + 2 * siz (n + 1) f ≤ 1000000) (h4 : f.kind = 4) :
    Calls Tryd.prog 28 #[.agg cs.toArray, .slice la am.length lc, .int .i64 N, v] w (RMEnd K (mkF am (n + 1) f N cl) S v w) := by
  obtain ⟨ta, tcap, ka, kcap, rfl, hT, hl1, hl2, hks⟩ := h
  obtain ⟨hk1, hkk⟩ := made_not hm h4
  have hs0 : siz n (f.ks.getD 0 default) ≤ siz (n + 1) f := by
    have e1 := sizTo_succ n f.ks 0 (by omega)
    have e2 := sizTo_len n f
    rw [hk1] at e2
    rw [sizTo_zero, show (0 : Nat) + 1 = 1 from rfl] at e1
    omega
  rw [mkF_4 h4]
  have hmk := made_kids hm 0 (by omega)
  have hfar := mkF_far (cl := cl) hmk (show am.length + N + siz n (f.ks.getD 0 default) ≤ 100000 by omega)
  obtain ⟨b, off, c0, c1, c2, c3, rfl, hbl, g0, g1, g2, g3, hf⟩ := hks 0 (by omega)
  obtain ⟨ck, cc, cta, ctn, ctcap, cka, ckn, ckcap, rfl, rfl, rfl, rfl⟩ := hf.form
  have hA : Below w.heap.size w (w.alloc (.cells #[.int .i64 f.kind, .int .i64 f.c, .slice ta f.t.length tcap, .slice (some ⟨b, off, none⟩) f.ks.length kcap] 27)) := (Below.refl _ w).alloc (Nat.le_refl _) _
  have hih := IH (f.ks.getD 0 default) _ N cl S v _ (hf.below (hA.mono (by omega))) hmk (hl.up (hA.mono hK)) (hv.below hA) (Nat.le_trans hK hA.size) (by omega) (by omega)
  have HB := box_start w f.kind f.c ta (some ⟨b, off, none⟩) f.t.length tcap f.ks.length kcap
  have b0 := HB.c0
  have b3 := HB.c3
  have hbw : b < w.heap.size := by omega
  rw [← hA.cell (p := ⟨b, _, none⟩) hbw] at g0 g1 g2 g3
  obtain ⟨va, vc, hvf⟩ := hv.form
  have HA := Lib.hid hA
  have HIH := Lib.hid hih
  clear hks hT hmk hf hih IH hv HB hA hs0 hb1 hb2 hm hl1 hl2 hkk hl hB hK
  rw [h4] at *
  rw [hk1] at *
  clear hk1 h4
  generalize mkF am n (f.ks.getD 0 default) N cl = q at *
  have hw : IntKind.i64.wrap (-q.lit) = -q.lit := IntWalk.i64_in _ (by omega)
  simp only [Nat.zero_mul, Nat.add_zero] at g0 g1 g2 g3
  subst hvf
  generalize cl.length = cll at *
  generalize am.length = al at *
  generalize f.c = fc at *
  generalize f.t.length = ft at *
  go_enter Tryd.func28, Tryd.ntmps28
  go_wp2_with fail
  generalize w.alloc (.cells #[.int .i64 4, .int .i64 fc, .slice ta ft tcap, .slice (some ⟨b, off, none⟩) 1 kcap] 27) = W1 at *
  refine HIH.out.mono ?_
  rintro e w2 ⟨v2, S2, rfl, hS2, hR2⟩
  obtain ⟨a2, c2', e2⟩ := hR2.1.form
  generalize q.cl.length = ql at e2
  subst e2
  have HE : Hid (RMEnd K ⟨q.n, q.cl, -q.lit⟩ S (.slice va cll vc) w (.returned (.tuple #[.slice a2 ql c2', .int .i64 q.n, .int .i64 (-q.lit)])) w2) := Lib.hid ⟨_, S2, rfl, fun b hb => (hS2 b hb).imp id (fun h => Nat.le_trans HA.out.size h), hR2.before HA.out⟩
  clear hS2 hR2 HIH HA g0 g1 g2 g3 b0 b3
  go_wp2_with fail
  go_ret3
  exact HE.out
end Go.Proofs.YtelndcmfddbgiaaDoor
