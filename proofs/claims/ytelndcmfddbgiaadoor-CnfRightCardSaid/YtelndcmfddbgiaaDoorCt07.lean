/- The statements' own helpers: which number an error has; whether two forms are the same. formula.sound. formula.Check, formula.Size. norm.bare, norm.canonical, norm.made. -/
import Derived.Test.YtelndcmfddbgiaaDoorCt03
import Derived.Test.YtelndcmfddbgiaaDoorCt06
import Derived.LaidEql
set_option linter.unusedVariables false
set_option linter.unusedSimpArgs false
namespace Go.Proofs.YtelndcmfddbgiaaDoor
open Go.RowKit

theorem Tryd.eqIfaceNil (k : Int) (w : World) : (binOp .eql 35 (.iface 43 (.int .i64 k)) .nilIface).run Tryd.prog w = .ok (.bool false) w := by simp [go_sem]

set_option maxHeartbeats 400000 in
theorem code_nil (w : World) : Calls Tryd.prog 11 #[.nilIface] w fun e w' => e = .returned (.int .i64 0) ∧ w = w' := by
  go_enter Tryd.func11, Tryd.ntmps11
  go_wp2
  go_ret
  exact ⟨rfl, rfl⟩

set_option maxHeartbeats 800000 in
theorem code_k (k : Int) (w : World) (h1 : 1 ≤ k) (h2 : k ≤ 16) : Calls Tryd.prog 11 #[.iface 43 (.int .i64 k)] w fun e w' => e = .returned (.int .i64 k) ∧ w = w' := by
  have heq := fun (j : Int) W => Tryd.eqCode k j W
  go_enter Tryd.func11, Tryd.ntmps11
  go_wp2
  go_loop [3] (fun c => ∃ j : Int, 1 ≤ j ∧ j ≤ k ∧ c = .int .i64 j) (fun c => (k - intOf c).toNat)
  case atStart => exact ⟨1, by omega, h1, rfl⟩
  case round =>
    obtain ⟨j, hj1, hj2, rfl⟩ := hrel
    by_cases e : j = k
    · subst e
      have hb : (j == j) = true := by simp
      go_wp2
      go_ret
      exact ⟨rfl, rfl⟩
    · have hb : (k == j) = false := by simp; omega
      go_wp2
      go_round
      case rel => exact ⟨j + 1, by omega, by omega, rfl⟩
      case measure => simp [intOf]; omega

/-- Whether two forms are the same. -/
def same (c d : Int) (l m : List (Int × Int)) : Bool := decide (c = d) && decide (l = m)

theorem list_eq_of {l m : List (Int × Int)} (hl : l.length = m.length) (h : ∀ i, i < l.length → l.getD i (0, 0) = m.getD i (0, 0)) : l = m := by
  apply List.ext_getElem hl
  intro i h1 h2
  have := h i h1
  rw [List.getD_eq_getElem?_getD, List.getElem?_eq_getElem h1, List.getD_eq_getElem?_getD, List.getElem?_eq_getElem h2] at this
  simpa using this

theorem Tryd.neMono (x y u v : Int) (w : World) : (binOp .neq 57 (.agg #[.int .i64 x, .int .i64 y]) (.agg #[.int .i64 u, .int .i64 v])).run Tryd.prog w = .ok (.bool (!(x == u && y == v))) w := by
  simp [go_sem]
  by_cases h1 : x = u <;> by_cases h2 : y = v <;> simp [h1, h2]

set_option maxHeartbeats 1000000 in
theorem same_any (c d : Int) (a b : Option Addr) (na nb capa capb : Nat) (l m : List (Int × Int)) (w : World) (hna : l.length = na) (hnb : m.length = nb) (hma : na ≤ 9223372036854775807) (hmb : nb ≤ 9223372036854775807) (hla : Lies w.heap.size w a l) (hlb : Lies w.heap.size w b m) :
    Calls Tryd.prog 30 #[.agg #[.int .i64 c, .slice a na capa], .agg #[.int .i64 d, .slice b nb capb]] w fun e w' => e = .returned (.bool (same c d l m)) ∧ Below w.heap.size w w' := by
  have HB0 : Hid (Below w.heap.size w ((w.alloc (.cells #[.int .i64 c, .slice a na capa] 24)).alloc (.cells #[.int .i64 d, .slice b nb capb] 24))) := ((Below.refl _ w).alloc (Nat.le_refl _) _).alloc (by simp) _
  by_cases hcd : c = d
  · subst hcd
    have hcc : (c != c) = false := by simp
    by_cases hnn : na = nb
    · subst hnn
      have hnn' : ((na : Int) != (na : Int)) = false := by simp
      have HS : Hid (∀ r, (r = true ↔ ∀ i, i < na → l.getD i (0, 0) = m.getD i (0, 0)) → same c c l m = r) := fun r hr => by
        unfold same
        rw [decide_eq_true rfl, Bool.true_and, Bool.eq_iff_iff, hr]
        simp only [decide_eq_true_eq]
        exact ⟨fun h i _ => by rw [h], fun h => list_eq_of (by omega) (fun i hi => h i (by omega))⟩
      have HNA := Lib.hid hna
      have HNB := Lib.hid hnb
      have HLA := Lib.hid hla
      have HLB := Lib.hid hlb
      clear hna hnb hla hlb
      go_enter Tryd.func30, Tryd.ntmps30
      go_wp2
      go_loopw [5] (fun i wr => ∃ k : Nat, k ≤ na ∧ i = .int .i64 k ∧ Hid (∀ j, j < k → l.getD j (0, 0) = m.getD j (0, 0)) ∧ Hid (∃ q, wr = ((w.alloc (.cells #[.int .i64 c, .slice a na capa] 24)).alloc (.cells #[.int .i64 c, .slice b na capb] 24)).drewN q)) (fun i _ => na - (intOf i).toNat)
      case atStart => exact ⟨0, Nat.zero_le _, rfl, fun j hj => absurd hj (Nat.not_lt_zero j), 0, rfl⟩
      case round =>
        obtain ⟨k, hk, rfl, hok, hw⟩ := hrel
        obtain ⟨q, hw⟩ := hw.out
        subst hw
        by_cases hlt : k < na
        · obtain ⟨ab, aoff, rfl, hab, a1, a2⟩ := (HLA.out.below HB0.out) k (by rw [HNA.out]; exact hlt)
          obtain ⟨bb, boff, rfl, hbb, b1, b2⟩ := (HLB.out.below HB0.out) k (by rw [HNB.out]; exact hlt)
          have a1' : ∀ q, (((w.alloc (.cells #[.int .i64 c, .slice (some ⟨ab, aoff, none⟩) na capa] 24)).alloc (.cells #[.int .i64 c, .slice (some ⟨bb, boff, none⟩) na capb] 24)).drewN q).cell? ⟨ab, aoff + k * 2, none⟩ = some (.int .i64 (l.getD k (0, 0)).1) := fun _ => a1
          by_cases e : l.getD k (0, 0) = m.getD k (0, 0)
          · have hok2 : Hid (∀ j, j < k + 1 → l.getD j (0, 0) = m.getD j (0, 0)) := fun j hj => by
              by_cases ej : j = k
              · rw [ej]; exact e
              · exact hok.out j (by omega)
            rw [← e] at b1 b2
            generalize l.getD k (0, 0) = p at a1 a2 b1 b2 e a1'
            obtain ⟨v, u⟩ := p
            clear e
            have hne : ∀ W, (binOp .neq 57 (.agg #[.int .i64 v, .int .i64 u]) (.agg #[.int .i64 v, .int .i64 u])).run Tryd.prog W = .ok (.bool false) W := fun W => by rw [Tryd.neMono]; simp
            have hbw1 : ab < w.heap.size := hab
            have hbw2 : bb < w.heap.size := hbb
            go_wp2_with fail
            go_quiet (fail)
            go_wp2
            go_roundw
            case rel => exact ⟨k + 1, by omega, by go_num, hok2, ⟨_, rfl⟩⟩
            case measure => simp [intOf]; omega
          · have hF := Lib.hid (HS.out false ⟨fun h => absurd h (by decide), fun h => absurd (h k hlt) e⟩)
            generalize l.getD k (0, 0) = p at a1 a2 e a1'
            generalize m.getD k (0, 0) = p' at b1 b2 e
            obtain ⟨v, u⟩ := p
            obtain ⟨v', u'⟩ := p'
            have hne : ∀ W, (binOp .neq 57 (.agg #[.int .i64 v, .int .i64 u]) (.agg #[.int .i64 v', .int .i64 u'])).run Tryd.prog W = .ok (.bool true) W := fun W => by
              rw [Tryd.neMono]
              have : (v == v' && u == u') = false := by
                rw [Bool.eq_false_iff]
                intro h
                simp only [Bool.and_eq_true, beq_iff_eq] at h
                exact e (by rw [h.1, h.2])
              rw [this]; rfl
            clear e
            have hbw1 : ab < w.heap.size := hab
            have hbw2 : bb < w.heap.size := hbb
            go_wp2_with fail
            go_quiet (fail)
            go_wp2
            go_ret
            exact ⟨ret_bool hF.out.symm, below_drewN (below_drewN HB0.out q) nq⟩
        · have HF := Lib.hid (HS.out true ⟨fun _ i hi => hok.out i (by omega), fun _ => rfl⟩)
          go_wp2
          go_ret
          exact ⟨ret_bool HF.out.symm, below_drewN HB0.out q⟩
    · have hnn' : ((na : Int) != (nb : Int)) = true := by simp; omega
      have HS : Hid (same c c l m = false) := by
        show _ = _
        unfold same
        rw [decide_eq_false (p := l = m) (fun h => by subst h; omega)]; simp
      clear hna hnb hla hlb
      go_enter Tryd.func30, Tryd.ntmps30
      go_wp2
      go_ret
      exact ⟨ret_bool HS.out.symm, HB0.out⟩
  · have hcc : (c != d) = true := by simpa using hcd
    have HS : Hid (same c d l m = false) := by
      show _ = _
      unfold same
      rw [decide_eq_false hcd]; rfl
    clear hna hnb hla hlb
    go_enter Tryd.func30, Tryd.ntmps30
    go_wp2
    go_ret
    exact ⟨ret_bool HS.out.symm, HB0.out⟩
end Go.Proofs.YtelndcmfddbgiaaDoor

namespace Go.Proofs.YtelndcmfddbgiaaDoor
open Go.RowKit

theorem Tryd.eqNil (w : World) : (binOp .eql 35 .nilIface .nilIface).run Tryd.prog w = .ok (.bool true) w := by simp [go_sem]

/-- lin.Check's answer. -/
def errV (b : Bool) : Value := if b then .nilIface else .iface 43 (.int .i64 5)
theorem lcheck_any (c : Int) (a : Option Addr) (n cap : Nat) (l : List (Int × Int)) (w : World) (hn : l.length = n) (hm : n ≤ 9223372036854775807) (hl : Lies w.heap.size w a l) :
    Calls Tryd.prog 67 #[.agg #[.int .i64 c, .slice a n cap]] w fun e w' => e = .returned (errV (snd c l)) ∧ Below w.heap.size w w' := by
  by_cases hs : snd c l = true
  · rw [hs]; exact check_yes c a n cap l w hn hl hs
  · have hs' : snd c l = false := by simpa using hs
    rw [hs']; exact check_no c a n cap l w hn hm hl hs'

set_option maxRecDepth 100000 in
set_option maxHeartbeats 4000000 in
theorem sound_any : ∀ (n : Nat) (f : FT) (cs : List Value) (w : World), FLies w.heap.size w n f cs →
    Calls Tryd.prog 54 #[.agg cs.toArray] w fun e w' => e = .returned (.bool (sndF n f)) ∧ Below w.heap.size w w'
  | 0, _, _, _, h => h.elim
  | n + 1, f, cs, w, h => by
    have IH := sound_any n
    obtain ⟨ta, tcap, ka, kcap, rfl, hlt, ht4, hk4, hks⟩ := h
    have HC := Lib.hid (fun W (hb : Below w.heap.size w W) => lcheck_any f.c ta f.t.length tcap f.t W rfl ht4 ((hlt.below hb).mono hb.size))
    have HI := Lib.hid IH
    have HK := Lib.hid hks
    have HNO := Lib.hid (fun i => sndF_no (n := n) (f := f) (i := i))
    have HYES := Lib.hid (fun h => (sndF_yes (n := n) (f := f) h).trans rfl)
    have HB0 : Hid (Below (w.heap.size + 1) (w.alloc (.cells #[.int .i64 f.kind, .int .i64 f.c, .slice ta f.t.length tcap, .slice ka f.ks.length kcap] 27)) (w.alloc (.cells #[.int .i64 f.kind, .int .i64 f.c, .slice ta f.t.length tcap, .slice ka f.ks.length kcap] 27))) := Below.refl _ _
    unfold ownF at HYES
    clear IH hks hlt
    generalize sndF (n + 1) f = r at HNO HYES
    generalize snd f.c f.t = sn at HC HYES
    generalize f.kind = fk at HB0 HYES
    generalize f.c = fc at HB0 HC HYES
    generalize f.t.length = ft at HB0 HC HYES ht4
    generalize hl : f.ks.length = len at HB0 HK hk4 HNO HYES
    clear hl
    go_enter Tryd.func54, Tryd.ntmps54
    go_wp2
    go_loopw [9] (fun i wr => ∃ k : Nat, k ≤ len ∧ i = .int .i64 k ∧ Hid (∀ j, j < k → sndF n (f.ks.getD j default) = true) ∧ Below (w.heap.size + 1) (w.alloc (.cells #[.int .i64 fk, .int .i64 fc, .slice ta ft tcap, .slice ka len kcap] 27)) wr) (fun i _ => len - (intOf i).toNat)
    case atStart => exact ⟨0, Nat.zero_le _, rfl, fun j hj => absurd hj (Nat.not_lt_zero j), HB0.out⟩
    case round =>
      obtain ⟨k, hk, rfl, hyes, hbx⟩ := hrel
      have hb : Below w.heap.size w wr := ((Below.refl _ w).alloc (Nat.le_refl _) _).trans (hbx.mono (by omega))
      have bz : w.heap.size < wr.heap.size := by have := hbx.size; simp at this; omega
      by_cases hlt : k < len
      · obtain ⟨b, off, c0, c1, c2, c3, rfl, hblt, g0, g1, g2, g3, hf⟩ := HK.out k hlt
        rw [← hb.cell (p := ⟨b, _, none⟩) hblt] at g0 g1 g2 g3
        obtain ⟨ck, cc, cta, ctn, ctcap, cka, ckn, ckcap, rfl, rfl, rfl, rfl⟩ := hf.form
        have hb2 := hb.alloc hb.size (.cells #[.int .i64 ck, .int .i64 cc, .slice cta ctn ctcap, .slice cka ckn ckcap] 27)
        have hbx2 := hbx.alloc (show w.heap.size + 1 ≤ wr.heap.size by omega) (.cells #[.int .i64 ck, .int .i64 cc, .slice cta ctn ctcap, .slice cka ckn ckcap] 27)
        have hih := HI.out (f.ks.getD k default) _ _ ((hf.below hb2).mono hb2.size)
        by_cases hd : sndF n (f.ks.getD k default) = true
        · rw [hd] at hih
          have hyes2 : Hid (∀ j, j < k + 1 → sndF n (f.ks.getD j default) = true) := fun j hj => by
            by_cases ej : j = k
            · rw [ej]; exact hd
            · exact hyes.out j (by omega)
          clear hd hf hyes
          go_wp2_with fail
          refine hih.mono ?_
          rintro e w1 ⟨rfl, hb1⟩
          have HB1 := Lib.hid (hbx2.trans (hb1.mono (by simp; omega)))
          clear g0 g1 g2 g3 hih hb1 hb2 hbx2
          go_wp2
          go_roundw
          case rel => exact ⟨k + 1, by omega, by go_num, hyes2, HB1.out⟩
          case measure => simp [intOf]; omega
        · have hd' : sndF n (f.ks.getD k default) = false := by simpa using hd
          have hr : r = false := HNO.out k hlt hd'
          rw [hd'] at hih
          subst hr
          clear hd hd' hf hyes
          go_wp2_with fail
          refine hih.mono ?_
          rintro e w1 ⟨rfl, hb1⟩
          have HB1 := Lib.hid (hb2.trans (hb1.mono hb2.size))
          clear g0 g1 g2 g3 hih hb1 hb2 hbx2
          go_wp2
          go_ret
          exact ⟨rfl, HB1.out⟩
      · have hr : Hid (r = ownV fk fc ft len sn) := HYES.out (fun i hi => hyes.out i (by omega))
        have q0 : wr.cell? ⟨w.heap.size, 0, none⟩ = some (.int .i64 fk) := by rw [hbx.cell (p := ⟨w.heap.size, 0, none⟩) (by simp)]; simp
        have q1 : wr.cell? ⟨w.heap.size, 1, none⟩ = some (.int .i64 fc) := by rw [hbx.cell (p := ⟨w.heap.size, 1, none⟩) (by simp)]; simp
        have q2 : wr.cell? ⟨w.heap.size, 2, none⟩ = some (.slice ta ft tcap) := by rw [hbx.cell (p := ⟨w.heap.size, 2, none⟩) (by simp)]; simp
        have q3 : wr.cell? ⟨w.heap.size, 3, none⟩ = some (.slice ka len kcap) := by rw [hbx.cell (p := ⟨w.heap.size, 3, none⟩) (by simp)]; simp
        have HCW := Lib.hid (HC.out wr hb)
        have HBW := Lib.hid hb
        clear hyes HYES HNO HI HK hbx hb HB0 HC
        have hkk : fk = 0 ∨ fk = 1 ∨ fk = 2 ∨ fk = 3 ∨ fk = 4 ∨ fk = 5 ∨ fk = 6 ∨ ((fk == 0) = false ∧ (fk == 1) = false ∧ (fk == 2) = false ∧ (fk == 3) = false ∧ (fk == 4) = false ∧ (fk == 5) = false ∧ (fk == 6) = false) := by
          simp only [beq_eq_false_iff_ne, ne_eq]; omega
        rcases hkk with rfl | rfl | rfl | rfl | rfl | rfl | rfl | ⟨k0, k1, k2, k3, k4, k5, k6⟩
        · cases h1 : (fc == 0) <;> cases h2 : ((ft : Int) == 0) <;> cases h3 : ((len : Int) == 0)
          all_goals
            go_wp2_with fail
            go_ret
            exact ⟨ret_bool (by rw [hr.out]; simp_all [ownV]), HBW.out⟩
        · cases h1 : (fc == 0) <;> cases h2 : ((ft : Int) == 0) <;> cases h3 : ((len : Int) == 0)
          all_goals
            go_wp2_with fail
            go_ret
            exact ⟨ret_bool (by rw [hr.out]; simp_all [ownV]), HBW.out⟩
        · have hcw := HCW.out
          have en := fun W => Tryd.eqNil W
          have ei := fun W => Tryd.eqIfaceNil 5 W
          cases h1 : (fc == 0) <;> cases h2 : ((ft : Int) == 0) <;> cases h3 : ((len : Int) == 0) <;> cases sn
          all_goals
            simp only [errV] at hcw
            go_wp2_with fail
            refine hcw.mono ?_
            rintro e w1 ⟨rfl, hb1⟩
            have HB1 := Lib.hid (HBW.out.trans (hb1.mono HBW.out.size))
            have q31 : w1.cell? ⟨w.heap.size, 3, none⟩ = some (.slice ka len kcap) := (hb1.cell (p := ⟨w.heap.size, 3, none⟩) bz).trans q3
            have bz1 : w.heap.size < w1.heap.size := by have := hb1.size; omega
            clear hb1 hcw
            go_wp2_with fail
            go_ret
            exact ⟨ret_bool (by rw [hr.out]; simp_all [ownV]), HB1.out⟩
        · have hcw := HCW.out
          have en := fun W => Tryd.eqNil W
          have ei := fun W => Tryd.eqIfaceNil 5 W
          cases h1 : (fc == 0) <;> cases h2 : ((ft : Int) == 0) <;> cases h3 : ((len : Int) == 0) <;> cases sn
          all_goals
            simp only [errV] at hcw
            go_wp2_with fail
            refine hcw.mono ?_
            rintro e w1 ⟨rfl, hb1⟩
            have HB1 := Lib.hid (HBW.out.trans (hb1.mono HBW.out.size))
            have q31 : w1.cell? ⟨w.heap.size, 3, none⟩ = some (.slice ka len kcap) := (hb1.cell (p := ⟨w.heap.size, 3, none⟩) bz).trans q3
            have bz1 : w.heap.size < w1.heap.size := by have := hb1.size; omega
            clear hb1 hcw
            go_wp2_with fail
            go_ret
            exact ⟨ret_bool (by rw [hr.out]; simp_all [ownV]), HB1.out⟩
        · cases h1 : (fc == 0) <;> cases h2 : ((ft : Int) == 0) <;> cases h3 : ((len : Int) == 1)
          all_goals
            go_wp2_with fail
            go_ret
            exact ⟨ret_bool (by rw [hr.out]; simp_all [ownV]), HBW.out⟩
        · cases h1 : (fc == 0) <;> cases h2 : ((ft : Int) == 0)
          all_goals
            go_wp2_with fail
            go_ret
            exact ⟨ret_bool (by rw [hr.out]; simp_all [ownV]), HBW.out⟩
        · cases h1 : (fc == 0) <;> cases h2 : ((ft : Int) == 0)
          all_goals
            go_wp2_with fail
            go_ret
            exact ⟨ret_bool (by rw [hr.out]; simp_all [ownV]), HBW.out⟩
        · cases h1 : (fc == 0) <;> cases h2 : ((ft : Int) == 0)
          all_goals
            go_wp2_with fail
            go_ret
            exact ⟨ret_bool (by rw [hr.out]; simp_all [ownV]), HBW.out⟩
end Go.Proofs.YtelndcmfddbgiaaDoor

namespace Go.Proofs.YtelndcmfddbgiaaDoor
open Go.RowKit

/-- What is amiss with a formula: an error's number. -/
def ccV (d s : Nat) (b : Bool) : Int := if 64 < d then 4 else if 4096 < s then 2 else if b then 0 else 5
def cc (n : Nat) (f : FT) : Int := ccV (dep n f) (siz n f) (sndF n f)
/-- An error of a number. -/
def codeV (k : Int) : Value := if k = 0 then .nilIface else .iface 43 (.int .i64 k)

/-- A formula's own box. -/
structure Box (w W : World) (N : Nat) (k c : Int) (ta : Option Addr) (tn tcap : Nat) (ka : Option Addr) (kn kcap : Nat) : Prop where
  lt : N < W.heap.size
  c0 : W.cell? ⟨N, 0, none⟩ = some (.int .i64 k)
  c1 : W.cell? ⟨N, 1, none⟩ = some (.int .i64 c)
  c2 : W.cell? ⟨N, 2, none⟩ = some (.slice ta tn tcap)
  c3 : W.cell? ⟨N, 3, none⟩ = some (.slice ka kn kcap)
  bel : Below N w W
theorem Box.below {w W W' : World} {N B : Nat} {k c : Int} {ta ka : Option Addr} {tn tcap kn kcap : Nat} (h : Box w W N k c ta tn tcap ka kn kcap) (hb : Below B W W') (hB : N < B) : Box w W' N k c ta tn tcap ka kn kcap :=
  ⟨Nat.lt_of_lt_of_le h.lt hb.size, (hb.cell (p := ⟨N, 0, none⟩) hB).trans h.c0, (hb.cell (p := ⟨N, 1, none⟩) hB).trans h.c1, (hb.cell (p := ⟨N, 2, none⟩) hB).trans h.c2, (hb.cell (p := ⟨N, 3, none⟩) hB).trans h.c3, h.bel.trans (hb.mono (by omega))⟩
theorem box_start (w : World) (k c : Int) (ta ka : Option Addr) (tn tcap kn kcap : Nat) : Box w (w.alloc (.cells #[.int .i64 k, .int .i64 c, .slice ta tn tcap, .slice ka kn kcap] 27)) w.heap.size k c ta tn tcap ka kn kcap :=
  ⟨by simp, by simp, by simp, by simp, by simp, (Below.refl _ w).alloc (Nat.le_refl _) _⟩

set_option maxHeartbeats 800000 in
theorem fcheck_any (n : Nat) (f : FT) (cs : List Value) (w : World) (h : FLies w.heap.size w n f cs) :
    Calls Tryd.prog 31 #[.agg cs.toArray] w fun e w' => e = .returned (codeV (cc n f)) ∧ Below w.heap.size w w' := by
  have FL := fun W (hb : Below w.heap.size w W) => (h.below hb).mono hb.size
  cases n with
  | zero => exact h.elim
  | succ n =>
    obtain ⟨ta, tcap, ka, kcap, rfl, _⟩ := h
    have hd := Lib.hid (fun W hb => deeper_any (n + 1) f _ 64 W (by omega) (by omega) (FL W hb))
    have hc := Lib.hid (fun W hb => count_any (n + 1) f _ 4096 W (by omega) (by omega) (FL W hb))
    have hs := Lib.hid (fun W hb => sound_any (n + 1) f _ W (FL W hb))
    have T0 := Lib.hid (box_start w f.kind f.c ta ka f.t.length tcap f.ks.length kcap)
    unfold cc
    clear FL
    generalize dep (n + 1) f = d at hd
    generalize siz (n + 1) f = s at hc
    generalize sndF (n + 1) f = b at hs
    generalize f.kind = fk at T0 hd hc hs
    generalize f.c = fc at T0 hd hc hs
    generalize f.t.length = ft at T0 hd hc hs
    generalize f.ks.length = fl at T0 hd hc hs
    by_cases h1 : 64 < d
    · have e1 : decide ((64 : Int) < (d : Int)) = true := by simp; omega
      have er : codeV (ccV d s b) = .iface 43 (.int .i64 4) := by unfold ccV; rw [if_pos h1]; rfl
      rw [er]
      rw [e1] at hd
      clear er e1 h1 hc hs
      go_enter Tryd.func31, Tryd.ntmps31
      go_wp2_with fail
      refine (hd.out _ T0.out.bel).mono ?_
      rintro e w1 ⟨rfl, hb1⟩
      have T1 := Lib.hid (T0.out.below hb1 T0.out.lt)
      clear hb1
      go_wp2_with fail
      go_ret
      exact ⟨rfl, T1.out.bel⟩
    · have e1 : decide ((64 : Int) < (d : Int)) = false := by simp; omega
      rw [e1] at hd
      by_cases h2 : 4096 < s
      · have er : codeV (ccV d s b) = .iface 43 (.int .i64 2) := by unfold ccV; rw [if_neg h1, if_pos h2]; rfl
        have e2 : cnt s 4096 = 4097 := by unfold cnt; rw [if_neg (by omega)]; rfl
        rw [er]
        rw [e2] at hc
        clear er e1 e2 h1 h2 hs
        go_enter Tryd.func31, Tryd.ntmps31
        go_wp2_with fail
        refine (hd.out _ T0.out.bel).mono ?_
        rintro e w1 ⟨rfl, hb1⟩
        have T1 := Lib.hid (T0.out.below hb1 T0.out.lt)
        clear hb1
        obtain ⟨l1, p0, p1, p2, p3, _⟩ := T1.out
        go_wp2_with fail
        refine (hc.out _ T1.out.bel).mono ?_
        rintro e w2 ⟨rfl, hb2⟩
        have T2 := Lib.hid (T1.out.below hb2 T1.out.lt)
        clear hb2 l1 p0 p1 p2 p3
        go_wp2_with fail
        go_ret
        exact ⟨rfl, T2.out.bel⟩
      · have e2 : cnt s 4096 = s := by unfold cnt; rw [if_pos (by omega)]
        have er : codeV (ccV d s b) = errV b := by unfold ccV; rw [if_neg h1, if_neg h2]; cases b <;> rfl
        have hs4 : (s : Int) ≤ 4096 := by omega
        rw [er]
        rw [e2] at hc
        clear er e1 e2 h1 h2
        go_enter Tryd.func31, Tryd.ntmps31
        go_wp2_with fail
        refine (hd.out _ T0.out.bel).mono ?_
        rintro e w1 ⟨rfl, hb1⟩
        have T1 := Lib.hid (T0.out.below hb1 T0.out.lt)
        clear hb1
        obtain ⟨l1, p0, p1, p2, p3, _⟩ := T1.out
        go_wp2_with fail
        refine (hc.out _ T1.out.bel).mono ?_
        rintro e w2 ⟨rfl, hb2⟩
        have T2 := Lib.hid (T1.out.below hb2 T1.out.lt)
        clear hb2 l1 p0 p1 p2 p3
        obtain ⟨l2, p0, p1, p2, p3, _⟩ := T2.out
        go_wp2_with fail
        refine (hs.out _ T2.out.bel).mono ?_
        rintro e w3 ⟨rfl, hb3⟩
        have T3 := Lib.hid (T2.out.below hb3 T2.out.lt)
        clear hb3 l2 p0 p1 p2 p3
        cases b with
        | true =>
          go_wp2_with fail
          go_ret
          exact ⟨rfl, T3.out.bel⟩
        | false =>
          go_wp2_with fail
          go_ret
          exact ⟨rfl, T3.out.bel⟩

theorem Tryd.neNil (w : World) : (binOp .neq 35 .nilIface .nilIface).run Tryd.prog w = .ok (.bool false) w := by simp [go_sem]
theorem Tryd.neCode (k : Int) (w : World) : (binOp .neq 35 (.iface 43 (.int .i64 k)) .nilIface).run Tryd.prog w = .ok (.bool true) w := by simp [go_sem]

end Go.Proofs.YtelndcmfddbgiaaDoor

namespace Go.Proofs.YtelndcmfddbgiaaDoor
open Go.RowKit

theorem len0 (a : Nat) : ((a : Int) == 0) = decide (a = 0) := by rw [Bool.eq_iff_iff]; simp
theorem len1 (a : Nat) : ((a : Int) == 1) = decide (a = 1) := by rw [Bool.eq_iff_iff]; simp; omega
def bareF (f : FT) : Bool := decide (f.c = 0) && decide (f.t.length = 0)
def canF (c : Int) (l : List (Int × Int)) : Bool := snd c l && (decide (gAt l l.length = 1) && decide (0 < (l.getD 0 (0, 0)).2))
/-- Is a formula made of literals, and, or? -/
def madeF : Nat → FT → Bool
  | 0, _ => false
  | n + 1, f =>
    if f.kind = 0 ∨ f.kind = 1 then bareF f && decide (f.ks.length = 0)
    else if f.kind = 2 then canF f.c f.t && decide (f.ks.length = 0)
    else if f.kind = 4 then bareF f && (decide (f.ks.length = 1) && (decide ((f.ks.getD 0 default).kind = 2) && madeF n (f.ks.getD 0 default)))
    else if f.kind = 5 ∨ f.kind = 6 then decide (∀ i, i < f.ks.length → madeF n (f.ks.getD i default) = true) && bareF f
    else false
theorem madeF_0 {n : Nat} {f : FT} (h : f.kind = 0 ∨ f.kind = 1) : madeF (n + 1) f = (bareF f && decide (f.ks.length = 0)) := by
  show (if f.kind = 0 ∨ f.kind = 1 then _ else _) = _
  rw [if_pos h]
theorem madeF_2 {n : Nat} {f : FT} (h : f.kind = 2) : madeF (n + 1) f = (canF f.c f.t && decide (f.ks.length = 0)) := by
  show (if f.kind = 0 ∨ f.kind = 1 then _ else if f.kind = 2 then _ else _) = _
  rw [if_neg (by omega), if_pos h]
theorem madeF_4 {n : Nat} {f : FT} (h : f.kind = 4) : madeF (n + 1) f = (bareF f && (decide (f.ks.length = 1) && (decide ((f.ks.getD 0 default).kind = 2) && madeF n (f.ks.getD 0 default)))) := by
  show (if f.kind = 0 ∨ f.kind = 1 then _ else if f.kind = 2 then _ else if f.kind = 4 then _ else _) = _
  rw [if_neg (by omega), if_neg (by omega), if_pos h]
theorem madeF_5 {n : Nat} {f : FT} (h : f.kind = 5 ∨ f.kind = 6) : madeF (n + 1) f = (decide (∀ i, i < f.ks.length → madeF n (f.ks.getD i default) = true) && bareF f) := by
  show (if f.kind = 0 ∨ f.kind = 1 then _ else if f.kind = 2 then _ else if f.kind = 4 then _ else if f.kind = 5 ∨ f.kind = 6 then _ else _) = _
  rw [if_neg (by omega), if_neg (by omega), if_neg (by omega), if_pos h]
theorem madeF_x {n : Nat} {f : FT} (h : ¬ (f.kind = 0 ∨ f.kind = 1) ∧ f.kind ≠ 2 ∧ f.kind ≠ 4 ∧ ¬ (f.kind = 5 ∨ f.kind = 6)) : madeF (n + 1) f = false := by
  show (if f.kind = 0 ∨ f.kind = 1 then _ else if f.kind = 2 then _ else if f.kind = 4 then _ else if f.kind = 5 ∨ f.kind = 6 then _ else _) = _
  rw [if_neg h.1, if_neg h.2.1, if_neg h.2.2.1, if_neg h.2.2.2]

theorem bare_any (n : Nat) (f : FT) (cs : List Value) (w : World) (h : FLies w.heap.size w n f cs) :
    Calls Tryd.prog 62 #[.agg cs.toArray] w fun e w' => e = .returned (.bool (bareF f)) ∧ Below w.heap.size w w' := by
  cases n with
  | zero => exact h.elim
  | succ n =>
    obtain ⟨ta, tcap, ka, kcap, rfl, _⟩ := h
    have B0 := Lib.hid (box_start w f.kind f.c ta ka f.t.length tcap f.ks.length kcap)
    unfold bareF
    generalize f.kind = fk at B0
    generalize f.c = fc at B0
    generalize f.t.length = ft at B0
    generalize f.ks.length = len at B0
    by_cases hc : fc = 0
    · subst hc
      go_enter Tryd.func62, Tryd.ntmps62
      go_wp2
      go_ret
      exact ⟨ret_bool (by rw [len0]; simp), B0.out.bel⟩
    · have hc2 : (fc == 0) = false := by simpa using hc
      go_enter Tryd.func62, Tryd.ntmps62
      go_wp2
      go_ret
      exact ⟨ret_bool (by simp [hc]), B0.out.bel⟩

set_option maxHeartbeats 1000000 in
theorem canonical_any (c : Int) (a : Option Addr) (n cap : Nat) (l : List (Int × Int)) (w : World) (hn : l.length = n) (hm : n ≤ 9223372036854775807) (hl : Lies w.heap.size w a l) :
    Calls Tryd.prog 63 #[.agg #[.int .i64 c, .slice a n cap]] w fun e w' => e = .returned (.bool (canF c l)) ∧ Below w.heap.size w w' := by
  have hb0 : Below w.heap.size w (w.alloc (.cells #[.int .i64 c, .slice a n cap] 24)) := (Below.refl _ w).alloc (Nat.le_refl _) _
  have HB := Lib.hid hb0
  cases hs : snd c l with
  | false =>
    have hg := Lib.hid (gcd_no c a n cap l _ hn hm ((hl.below hb0).mono hb0.size) hs)
    have hr : canF c l = false := by unfold canF; rw [hs]; rfl
    rw [hr]
    clear hb0 hs hl hr hn
    go_enter Tryd.func63, Tryd.ntmps63
    go_wp2_with fail
    refine hg.out.mono ?_
    rintro e w1 ⟨rfl, hb1⟩
    go_wp2_with fail
    go_ret
    exact ⟨rfl, HB.out.trans (hb1.mono (by simp))⟩
  | true =>
    have hg := Lib.hid (gcd_yes c a n cap l _ hn ((hl.below hb0).mono hb0.size) hs)
    have hr : canF c l = (decide (gAt l n = 1) && decide (0 < (l.getD 0 (0, 0)).2)) := by unfold canF; rw [hs, hn]; rfl
    rw [hr]
    by_cases h1 : gAt l n = 1
    · have h0 : 0 < n := by
        by_cases h0 : n = 0
        · rw [h0] at h1; cases h1
        · omega
      obtain ⟨b, off, rfl, hblt, c1, c2⟩ := (hl.below hb0) 0 (by omega)
      rw [h1] at hg ⊢
      simp only [Nat.zero_mul, Nat.add_zero] at c1 c2
      have HC2 := Lib.hid c2
      generalize (l.getD 0 (0, 0)).2 = K at c2 HC2
      clear c1 c2 hr hs hl hn h1 hb0
      go_enter Tryd.func63, Tryd.ntmps63
      go_wp2_with fail
      refine hg.out.mono ?_
      rintro e w1 ⟨rfl, hb1⟩
      have hz1 : w.heap.size < w1.heap.size := by have := hb1.size; simp at this; omega
      have d1 : w1.cell? ⟨b, off + 1, none⟩ = some (.int .i64 K) := (hb1.cell (p := ⟨b, off + 1, none⟩) (by simp; omega)).trans HC2.out
      have e0 : w1.cell? ⟨w.heap.size, 0, none⟩ = some (.int .i64 c) := by rw [hb1.cell (p := ⟨w.heap.size, 0, none⟩) (by simp)]; simp
      have e1 : w1.cell? ⟨w.heap.size, 1, none⟩ = some (.slice (some ⟨b, off, none⟩) n cap) := by rw [hb1.cell (p := ⟨w.heap.size, 1, none⟩) (by simp)]; simp
      have HB1 := Lib.hid (HB.out.trans (hb1.mono (by simp)))
      clear hb1 HC2
      go_wp2_with fail
      go_ret
      exact ⟨rfl, HB1.out⟩
    · have h2 : (gAt l n == 1) = false := by simpa using h1
      rw [decide_eq_false h1, Bool.false_and]
      generalize gAt l n = g at hg h2
      clear hr hs hl hn h1 hb0
      go_enter Tryd.func63, Tryd.ntmps63
      go_wp2_with fail
      refine hg.out.mono ?_
      rintro e w1 ⟨rfl, hb1⟩
      go_wp2_with fail
      go_ret
      exact ⟨rfl, HB.out.trans (hb1.mono (by simp))⟩
end Go.Proofs.YtelndcmfddbgiaaDoor
