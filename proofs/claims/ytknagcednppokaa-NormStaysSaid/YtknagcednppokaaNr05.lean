/- formula.sound. formula.Check, formula.Size. norm.bare, norm.canonical, norm.made. Lists of terms that the call itself makes: slices.Clone, lin.drop. -/
import Derived.Test.YtknagcednppokaaNr03
import Derived.Test.YtknagcednppokaaNr04
set_option linter.unusedVariables false
set_option linter.unusedSimpArgs false
namespace Go.Proofs.Ytknagcednppokaa
open Go.RowKit

theorem Try.eqNil (w : World) : (binOp .eql 30 .nilIface .nilIface).run Try.prog w = .ok (.bool true) w := by simp [go_sem]

/-- lin.Check's answer. -/
def errV (b : Bool) : Value := if b then .nilIface else .iface 53 (.int .i64 5)
theorem lcheck_any (c : Int) (a : Option Addr) (n cap : Nat) (l : List (Int × Int)) (w : World) (hn : l.length = n) (hm : n ≤ 9223372036854775807) (hl : Lies w.heap.size w a l) :
    Calls Try.prog 24 #[.agg #[.int .i64 c, .slice a n cap]] w fun e w' => e = .returned (errV (snd c l)) ∧ Below w.heap.size w w' := by
  by_cases hs : snd c l = true
  · rw [hs]; exact check_yes c a n cap l w hn hl hs
  · have hs' : snd c l = false := by simpa using hs
    rw [hs']; exact check_no c a n cap l w hn hm hl hs'

set_option maxRecDepth 100000 in
set_option maxHeartbeats 4000000 in
theorem sound_any : ∀ (n : Nat) (f : FT) (cs : List Value) (w : World), FLies w.heap.size w n f cs →
    Calls Try.prog 56 #[.agg cs.toArray] w fun e w' => e = .returned (.bool (sndF n f)) ∧ Below w.heap.size w w'
  | 0, _, _, _, h => h.elim
  | n + 1, f, cs, w, h => by
    have IH := sound_any n
    obtain ⟨ta, tcap, ka, kcap, rfl, hlt, ht4, hk4, hks⟩ := h
    have HC := Lib.hid (fun W (hb : Below w.heap.size w W) => lcheck_any f.c ta f.t.length tcap f.t W rfl ht4 ((hlt.below hb).mono hb.size))
    have HI := Lib.hid IH
    have HK := Lib.hid hks
    have HNO := Lib.hid (fun i => sndF_no (n := n) (f := f) (i := i))
    have HYES := Lib.hid (fun h => (sndF_yes (n := n) (f := f) h).trans rfl)
    have HB0 : Hid (Below (w.heap.size + 1) (w.alloc (.cells #[.int .i64 f.kind, .int .i64 f.c, .slice ta f.t.length tcap, .slice ka f.ks.length kcap] 28)) (w.alloc (.cells #[.int .i64 f.kind, .int .i64 f.c, .slice ta f.t.length tcap, .slice ka f.ks.length kcap] 28))) := Below.refl _ _
    unfold ownF at HYES
    clear IH hks hlt
    generalize sndF (n + 1) f = r at HNO HYES
    generalize snd f.c f.t = sn at HC HYES
    generalize f.kind = fk at HB0 HYES
    generalize f.c = fc at HB0 HC HYES
    generalize f.t.length = ft at HB0 HC HYES ht4
    generalize hl : f.ks.length = len at HB0 HK hk4 HNO HYES
    clear hl
    go_enter Try.func56, Try.ntmps56
    go_wp2
    go_loopw [9] (fun i wr => ∃ k : Nat, k ≤ len ∧ i = .int .i64 k ∧ Hid (∀ j, j < k → sndF n (f.ks.getD j default) = true) ∧ Below (w.heap.size + 1) (w.alloc (.cells #[.int .i64 fk, .int .i64 fc, .slice ta ft tcap, .slice ka len kcap] 28)) wr) (fun i _ => len - (intOf i).toNat)
    case atStart => exact ⟨0, Nat.zero_le _, rfl, fun j hj => absurd hj (Nat.not_lt_zero j), HB0.out⟩
    case round =>
      obtain ⟨k, hk, rfl, hyes, hbx⟩ := hrel
      have hb : Below w.heap.size w wr := ((Below.refl _ w).alloc (Nat.le_refl _) _).trans (hbx.mono (by omega))
      have bz : w.heap.size < wr.heap.size := by have := hbx.size; simp at this; omega
      by_cases hlt : k < len
      · obtain ⟨b, off, c0, c1, c2, c3, rfl, hblt, g0, g1, g2, g3, hf⟩ := HK.out k hlt
        rw [← hb.cell (p := ⟨b, _, none⟩) hblt] at g0 g1 g2 g3
        obtain ⟨ck, cc, cta, ctn, ctcap, cka, ckn, ckcap, rfl, rfl, rfl, rfl⟩ := hf.form
        have hb2 := hb.alloc hb.size (.cells #[.int .i64 ck, .int .i64 cc, .slice cta ctn ctcap, .slice cka ckn ckcap] 28)
        have hbx2 := hbx.alloc (show w.heap.size + 1 ≤ wr.heap.size by omega) (.cells #[.int .i64 ck, .int .i64 cc, .slice cta ctn ctcap, .slice cka ckn ckcap] 28)
        have hih := HI.out (f.ks.getD k default) _ _ ((hf.below hb2).mono hb2.size)
        by_cases hd : sndF n (f.ks.getD k default) = true
        · rw [hd] at hih
          have hyes2 : Hid (∀ j, j < k + 1 → sndF n (f.ks.getD j default) = true) := fun j hj => by
            by_cases ej : j = k
            · rw [ej]; exact hd
            · exact hyes.out j (by omega)
          clear hd hf hyes
          go_wp2_with fail
          refine hih.mono ?_
          rintro e w1 ⟨rfl, hb1⟩
          have HB1 := Lib.hid (hbx2.trans (hb1.mono (by simp; omega)))
          clear g0 g1 g2 g3 hih hb1 hb2 hbx2
          go_wp2
          go_roundw
          case rel => exact ⟨k + 1, by omega, by go_num, hyes2, HB1.out⟩
          case measure => simp [intOf]; omega
        · have hd' : sndF n (f.ks.getD k default) = false := by simpa using hd
          have hr : r = false := HNO.out k hlt hd'
          rw [hd'] at hih
          subst hr
          clear hd hd' hf hyes
          go_wp2_with fail
          refine hih.mono ?_
          rintro e w1 ⟨rfl, hb1⟩
          have HB1 := Lib.hid (hb2.trans (hb1.mono hb2.size))
          clear g0 g1 g2 g3 hih hb1 hb2 hbx2
          go_wp2
          go_ret
          exact ⟨rfl, HB1.out⟩
      · have hr : Hid (r = ownV fk fc ft len sn) := HYES.out (fun i hi => hyes.out i (by omega))
        have q0 : wr.cell? ⟨w.heap.size, 0, none⟩ = some (.int .i64 fk) := by rw [hbx.cell (p := ⟨w.heap.size, 0, none⟩) (by simp)]; simp
        have q1 : wr.cell? ⟨w.heap.size, 1, none⟩ = some (.int .i64 fc) := by rw [hbx.cell (p := ⟨w.heap.size, 1, none⟩) (by simp)]; simp
        have q2 : wr.cell? ⟨w.heap.size, 2, none⟩ = some (.slice ta ft tcap) := by rw [hbx.cell (p := ⟨w.heap.size, 2, none⟩) (by simp)]; simp
        have q3 : wr.cell? ⟨w.heap.size, 3, none⟩ = some (.slice ka len kcap) := by rw [hbx.cell (p := ⟨w.heap.size, 3, none⟩) (by simp)]; simp
        have HCW := Lib.hid (HC.out wr hb)
        have HBW := Lib.hid hb
        clear hyes HYES HNO HI HK hbx hb HB0 HC
        have hkk : fk = 0 ∨ fk = 1 ∨ fk = 2 ∨ fk = 3 ∨ fk = 4 ∨ fk = 5 ∨ fk = 6 ∨ ((fk == 0) = false ∧ (fk == 1) = false ∧ (fk == 2) = false ∧ (fk == 3) = false ∧ (fk == 4) = false ∧ (fk == 5) = false ∧ (fk == 6) = false) := by
          simp only [beq_eq_false_iff_ne, ne_eq]; omega
        rcases hkk with rfl | rfl | rfl | rfl | rfl | rfl | rfl | ⟨k0, k1, k2, k3, k4, k5, k6⟩
        · cases h1 : (fc == 0) <;> cases h2 : ((ft : Int) == 0) <;> cases h3 : ((len : Int) == 0)
          all_goals
            go_wp2_with fail
            go_ret
            exact ⟨ret_bool (by rw [hr.out]; simp_all [ownV]), HBW.out⟩
        · cases h1 : (fc == 0) <;> cases h2 : ((ft : Int) == 0) <;> cases h3 : ((len : Int) == 0)
          all_goals
            go_wp2_with fail
            go_ret
            exact ⟨ret_bool (by rw [hr.out]; simp_all [ownV]), HBW.out⟩
        · have hcw := HCW.out
          have en := fun W => Try.eqNil W
          have ei := fun W => Try.eqIfaceNil 5 W
          cases h1 : (fc == 0) <;> cases h2 : ((ft : Int) == 0) <;> cases h3 : ((len : Int) == 0) <;> cases sn
          all_goals
            simp only [errV] at hcw
            go_wp2_with fail
            refine hcw.mono ?_
            rintro e w1 ⟨rfl, hb1⟩
            have HB1 := Lib.hid (HBW.out.trans (hb1.mono HBW.out.size))
            have q31 : w1.cell? ⟨w.heap.size, 3, none⟩ = some (.slice ka len kcap) := (hb1.cell (p := ⟨w.heap.size, 3, none⟩) bz).trans q3
            have bz1 : w.heap.size < w1.heap.size := by have := hb1.size; omega
            clear hb1 hcw
            go_wp2_with fail
            go_ret
            exact ⟨ret_bool (by rw [hr.out]; simp_all [ownV]), HB1.out⟩
        · have hcw := HCW.out
          have en := fun W => Try.eqNil W
          have ei := fun W => Try.eqIfaceNil 5 W
          cases h1 : (fc == 0) <;> cases h2 : ((ft : Int) == 0) <;> cases h3 : ((len : Int) == 0) <;> cases sn
          all_goals
            simp only [errV] at hcw
            go_wp2_with fail
            refine hcw.mono ?_
            rintro e w1 ⟨rfl, hb1⟩
            have HB1 := Lib.hid (HBW.out.trans (hb1.mono HBW.out.size))
            have q31 : w1.cell? ⟨w.heap.size, 3, none⟩ = some (.slice ka len kcap) := (hb1.cell (p := ⟨w.heap.size, 3, none⟩) bz).trans q3
            have bz1 : w.heap.size < w1.heap.size := by have := hb1.size; omega
            clear hb1 hcw
            go_wp2_with fail
            go_ret
            exact ⟨ret_bool (by rw [hr.out]; simp_all [ownV]), HB1.out⟩
        · cases h1 : (fc == 0) <;> cases h2 : ((ft : Int) == 0) <;> cases h3 : ((len : Int) == 1)
          all_goals
            go_wp2_with fail
            go_ret
            exact ⟨ret_bool (by rw [hr.out]; simp_all [ownV]), HBW.out⟩
        · cases h1 : (fc == 0) <;> cases h2 : ((ft : Int) == 0)
          all_goals
            go_wp2_with fail
            go_ret
            exact ⟨ret_bool (by rw [hr.out]; simp_all [ownV]), HBW.out⟩
        · cases h1 : (fc == 0) <;> cases h2 : ((ft : Int) == 0)
          all_goals
            go_wp2_with fail
            go_ret
            exact ⟨ret_bool (by rw [hr.out]; simp_all [ownV]), HBW.out⟩
        · cases h1 : (fc == 0) <;> cases h2 : ((ft : Int) == 0)
          all_goals
            go_wp2_with fail
            go_ret
            exact ⟨ret_bool (by rw [hr.out]; simp_all [ownV]), HBW.out⟩
end Go.Proofs.Ytknagcednppokaa

namespace Go.Proofs.Ytknagcednppokaa
open Go.RowKit

/-- What is amiss with a formula: an error's number. -/
def ccV (d s : Nat) (b : Bool) : Int := if 64 < d then 4 else if 4096 < s then 2 else if b then 0 else 5
def cc (n : Nat) (f : FT) : Int := ccV (dep n f) (siz n f) (sndF n f)
/-- An error of a number. -/
def codeV (k : Int) : Value := if k = 0 then .nilIface else .iface 53 (.int .i64 k)

/-- A formula's own box. -/
structure Box (w W : World) (N : Nat) (k c : Int) (ta : Option Addr) (tn tcap : Nat) (ka : Option Addr) (kn kcap : Nat) : Prop where
  lt : N < W.heap.size
  c0 : W.cell? ⟨N, 0, none⟩ = some (.int .i64 k)
  c1 : W.cell? ⟨N, 1, none⟩ = some (.int .i64 c)
  c2 : W.cell? ⟨N, 2, none⟩ = some (.slice ta tn tcap)
  c3 : W.cell? ⟨N, 3, none⟩ = some (.slice ka kn kcap)
  bel : Below N w W
theorem Box.below {w W W' : World} {N B : Nat} {k c : Int} {ta ka : Option Addr} {tn tcap kn kcap : Nat} (h : Box w W N k c ta tn tcap ka kn kcap) (hb : Below B W W') (hB : N < B) : Box w W' N k c ta tn tcap ka kn kcap :=
  ⟨Nat.lt_of_lt_of_le h.lt hb.size, (hb.cell (p := ⟨N, 0, none⟩) hB).trans h.c0, (hb.cell (p := ⟨N, 1, none⟩) hB).trans h.c1, (hb.cell (p := ⟨N, 2, none⟩) hB).trans h.c2, (hb.cell (p := ⟨N, 3, none⟩) hB).trans h.c3, h.bel.trans (hb.mono (by omega))⟩
theorem box_start (w : World) (k c : Int) (ta ka : Option Addr) (tn tcap kn kcap : Nat) : Box w (w.alloc (.cells #[.int .i64 k, .int .i64 c, .slice ta tn tcap, .slice ka kn kcap] 28)) w.heap.size k c ta tn tcap ka kn kcap :=
  ⟨by simp, by simp, by simp, by simp, by simp, (Below.refl _ w).alloc (Nat.le_refl _) _⟩

set_option maxHeartbeats 800000 in
theorem fcheck_any (n : Nat) (f : FT) (cs : List Value) (w : World) (h : FLies w.heap.size w n f cs) :
    Calls Try.prog 34 #[.agg cs.toArray] w fun e w' => e = .returned (codeV (cc n f)) ∧ Below w.heap.size w w' := by
  have FL := fun W (hb : Below w.heap.size w W) => (h.below hb).mono hb.size
  cases n with
  | zero => exact h.elim
  | succ n =>
    obtain ⟨ta, tcap, ka, kcap, rfl, _⟩ := h
    have hd := Lib.hid (fun W hb => deeper_any (n + 1) f _ 64 W (by omega) (by omega) (FL W hb))
    have hc := Lib.hid (fun W hb => count_any (n + 1) f _ 4096 W (by omega) (by omega) (FL W hb))
    have hs := Lib.hid (fun W hb => sound_any (n + 1) f _ W (FL W hb))
    have T0 := Lib.hid (box_start w f.kind f.c ta ka f.t.length tcap f.ks.length kcap)
    unfold cc
    clear FL
    generalize dep (n + 1) f = d at hd
    generalize siz (n + 1) f = s at hc
    generalize sndF (n + 1) f = b at hs
    generalize f.kind = fk at T0 hd hc hs
    generalize f.c = fc at T0 hd hc hs
    generalize f.t.length = ft at T0 hd hc hs
    generalize f.ks.length = fl at T0 hd hc hs
    by_cases h1 : 64 < d
    · have e1 : decide ((64 : Int) < (d : Int)) = true := by simp; omega
      have er : codeV (ccV d s b) = .iface 53 (.int .i64 4) := by unfold ccV; rw [if_pos h1]; rfl
      rw [er]
      rw [e1] at hd
      clear er e1 h1 hc hs
      go_enter Try.func34, Try.ntmps34
      go_wp2_with fail
      refine (hd.out _ T0.out.bel).mono ?_
      rintro e w1 ⟨rfl, hb1⟩
      have T1 := Lib.hid (T0.out.below hb1 T0.out.lt)
      clear hb1
      go_wp2_with fail
      go_ret
      exact ⟨rfl, T1.out.bel⟩
    · have e1 : decide ((64 : Int) < (d : Int)) = false := by simp; omega
      rw [e1] at hd
      by_cases h2 : 4096 < s
      · have er : codeV (ccV d s b) = .iface 53 (.int .i64 2) := by unfold ccV; rw [if_neg h1, if_pos h2]; rfl
        have e2 : cnt s 4096 = 4097 := by unfold cnt; rw [if_neg (by omega)]; rfl
        rw [er]
        rw [e2] at hc
        clear er e1 e2 h1 h2 hs
        go_enter Try.func34, Try.ntmps34
        go_wp2_with fail
        refine (hd.out _ T0.out.bel).mono ?_
        rintro e w1 ⟨rfl, hb1⟩
        have T1 := Lib.hid (T0.out.below hb1 T0.out.lt)
        clear hb1
        obtain ⟨l1, p0, p1, p2, p3, _⟩ := T1.out
        go_wp2_with fail
        refine (hc.out _ T1.out.bel).mono ?_
        rintro e w2 ⟨rfl, hb2⟩
        have T2 := Lib.hid (T1.out.below hb2 T1.out.lt)
        clear hb2 l1 p0 p1 p2 p3
        go_wp2_with fail
        go_ret
        exact ⟨rfl, T2.out.bel⟩
      · have e2 : cnt s 4096 = s := by unfold cnt; rw [if_pos (by omega)]
        have er : codeV (ccV d s b) = errV b := by unfold ccV; rw [if_neg h1, if_neg h2]; cases b <;> rfl
        have hs4 : (s : Int) ≤ 4096 := by omega
        rw [er]
        rw [e2] at hc
        clear er e1 e2 h1 h2
        go_enter Try.func34, Try.ntmps34
        go_wp2_with fail
        refine (hd.out _ T0.out.bel).mono ?_
        rintro e w1 ⟨rfl, hb1⟩
        have T1 := Lib.hid (T0.out.below hb1 T0.out.lt)
        clear hb1
        obtain ⟨l1, p0, p1, p2, p3, _⟩ := T1.out
        go_wp2_with fail
        refine (hc.out _ T1.out.bel).mono ?_
        rintro e w2 ⟨rfl, hb2⟩
        have T2 := Lib.hid (T1.out.below hb2 T1.out.lt)
        clear hb2 l1 p0 p1 p2 p3
        obtain ⟨l2, p0, p1, p2, p3, _⟩ := T2.out
        go_wp2_with fail
        refine (hs.out _ T2.out.bel).mono ?_
        rintro e w3 ⟨rfl, hb3⟩
        have T3 := Lib.hid (T2.out.below hb3 T2.out.lt)
        clear hb3 l2 p0 p1 p2 p3
        cases b with
        | true =>
          go_wp2_with fail
          go_ret
          exact ⟨rfl, T3.out.bel⟩
        | false =>
          go_wp2_with fail
          go_ret
          exact ⟨rfl, T3.out.bel⟩

theorem Try.neNil (w : World) : (binOp .neq 30 .nilIface .nilIface).run Try.prog w = .ok (.bool false) w := by simp [go_sem]
theorem Try.neCode (k : Int) (w : World) : (binOp .neq 30 (.iface 53 (.int .i64 k)) .nilIface).run Try.prog w = .ok (.bool true) w := by simp [go_sem]

end Go.Proofs.Ytknagcednppokaa

namespace Go.Proofs.Ytknagcednppokaa
open Go.RowKit

theorem len0 (a : Nat) : ((a : Int) == 0) = decide (a = 0) := by rw [Bool.eq_iff_iff]; simp
theorem len1 (a : Nat) : ((a : Int) == 1) = decide (a = 1) := by rw [Bool.eq_iff_iff]; simp; omega
def bareF (f : FT) : Bool := decide (f.c = 0) && decide (f.t.length = 0)
def canF (c : Int) (l : List (Int × Int)) : Bool := snd c l && (decide (gAt l l.length = 1) && decide (0 < (l.getD 0 (0, 0)).2))
/-- Is a formula made of literals, and, or? -/
def madeF : Nat → FT → Bool
  | 0, _ => false
  | n + 1, f =>
    if f.kind = 0 ∨ f.kind = 1 then bareF f && decide (f.ks.length = 0)
    else if f.kind = 2 then canF f.c f.t && decide (f.ks.length = 0)
    else if f.kind = 4 then bareF f && (decide (f.ks.length = 1) && (decide ((f.ks.getD 0 default).kind = 2) && madeF n (f.ks.getD 0 default)))
    else if f.kind = 5 ∨ f.kind = 6 then decide (∀ i, i < f.ks.length → madeF n (f.ks.getD i default) = true) && bareF f
    else false
theorem madeF_0 {n : Nat} {f : FT} (h : f.kind = 0 ∨ f.kind = 1) : madeF (n + 1) f = (bareF f && decide (f.ks.length = 0)) := by
  show (if f.kind = 0 ∨ f.kind = 1 then _ else _) = _
  rw [if_pos h]
theorem madeF_2 {n : Nat} {f : FT} (h : f.kind = 2) : madeF (n + 1) f = (canF f.c f.t && decide (f.ks.length = 0)) := by
  show (if f.kind = 0 ∨ f.kind = 1 then _ else if f.kind = 2 then _ else _) = _
  rw [if_neg (by omega), if_pos h]
theorem madeF_4 {n : Nat} {f : FT} (h : f.kind = 4) : madeF (n + 1) f = (bareF f && (decide (f.ks.length = 1) && (decide ((f.ks.getD 0 default).kind = 2) && madeF n (f.ks.getD 0 default)))) := by
  show (if f.kind = 0 ∨ f.kind = 1 then _ else if f.kind = 2 then _ else if f.kind = 4 then _ else _) = _
  rw [if_neg (by omega), if_neg (by omega), if_pos h]
theorem madeF_5 {n : Nat} {f : FT} (h : f.kind = 5 ∨ f.kind = 6) : madeF (n + 1) f = (decide (∀ i, i < f.ks.length → madeF n (f.ks.getD i default) = true) && bareF f) := by
  show (if f.kind = 0 ∨ f.kind = 1 then _ else if f.kind = 2 then _ else if f.kind = 4 then _ else if f.kind = 5 ∨ f.kind = 6 then _ else _) = _
  rw [if_neg (by omega), if_neg (by omega), if_neg (by omega), if_pos h]
theorem madeF_x {n : Nat} {f : FT} (h : ¬ (f.kind = 0 ∨ f.kind = 1) ∧ f.kind ≠ 2 ∧ f.kind ≠ 4 ∧ ¬ (f.kind = 5 ∨ f.kind = 6)) : madeF (n + 1) f = false := by
  show (if f.kind = 0 ∨ f.kind = 1 then _ else if f.kind = 2 then _ else if f.kind = 4 then _ else if f.kind = 5 ∨ f.kind = 6 then _ else _) = _
  rw [if_neg h.1, if_neg h.2.1, if_neg h.2.2.1, if_neg h.2.2.2]

theorem bare_any (n : Nat) (f : FT) (cs : List Value) (w : World) (h : FLies w.heap.size w n f cs) :
    Calls Try.prog 63 #[.agg cs.toArray] w fun e w' => e = .returned (.bool (bareF f)) ∧ Below w.heap.size w w' := by
  cases n with
  | zero => exact h.elim
  | succ n =>
    obtain ⟨ta, tcap, ka, kcap, rfl, _⟩ := h
    have B0 := Lib.hid (box_start w f.kind f.c ta ka f.t.length tcap f.ks.length kcap)
    unfold bareF
    generalize f.kind = fk at B0
    generalize f.c = fc at B0
    generalize f.t.length = ft at B0
    generalize f.ks.length = len at B0
    by_cases hc : fc = 0
    · subst hc
      go_enter Try.func63, Try.ntmps63
      go_wp2
      go_ret
      exact ⟨ret_bool (by rw [len0]; simp), B0.out.bel⟩
    · have hc2 : (fc == 0) = false := by simpa using hc
      go_enter Try.func63, Try.ntmps63
      go_wp2
      go_ret
      exact ⟨ret_bool (by simp [hc]), B0.out.bel⟩

set_option maxHeartbeats 1000000 in
theorem canonical_any (c : Int) (a : Option Addr) (n cap : Nat) (l : List (Int × Int)) (w : World) (hn : l.length = n) (hm : n ≤ 9223372036854775807) (hl : Lies w.heap.size w a l) :
    Calls Try.prog 64 #[.agg #[.int .i64 c, .slice a n cap]] w fun e w' => e = .returned (.bool (canF c l)) ∧ Below w.heap.size w w' := by
  have hb0 : Below w.heap.size w (w.alloc (.cells #[.int .i64 c, .slice a n cap] 24)) := (Below.refl _ w).alloc (Nat.le_refl _) _
  have HB := Lib.hid hb0
  cases hs : snd c l with
  | false =>
    have hg := Lib.hid (gcd_no c a n cap l _ hn hm ((hl.below hb0).mono hb0.size) hs)
    have hr : canF c l = false := by unfold canF; rw [hs]; rfl
    rw [hr]
    clear hb0 hs hl hr hn
    go_enter Try.func64, Try.ntmps64
    go_wp2_with fail
    refine hg.out.mono ?_
    rintro e w1 ⟨rfl, hb1⟩
    go_wp2_with fail
    go_ret
    exact ⟨rfl, HB.out.trans (hb1.mono (by simp))⟩
  | true =>
    have hg := Lib.hid (gcd_yes c a n cap l _ hn ((hl.below hb0).mono hb0.size) hs)
    have hr : canF c l = (decide (gAt l n = 1) && decide (0 < (l.getD 0 (0, 0)).2)) := by unfold canF; rw [hs, hn]; rfl
    rw [hr]
    by_cases h1 : gAt l n = 1
    · have h0 : 0 < n := by
        by_cases h0 : n = 0
        · rw [h0] at h1; cases h1
        · omega
      obtain ⟨b, off, rfl, hblt, c1, c2⟩ := (hl.below hb0) 0 (by omega)
      rw [h1] at hg ⊢
      simp only [Nat.zero_mul, Nat.add_zero] at c1 c2
      have HC2 := Lib.hid c2
      generalize (l.getD 0 (0, 0)).2 = K at c2 HC2
      clear c1 c2 hr hs hl hn h1 hb0
      go_enter Try.func64, Try.ntmps64
      go_wp2_with fail
      refine hg.out.mono ?_
      rintro e w1 ⟨rfl, hb1⟩
      have hz1 : w.heap.size < w1.heap.size := by have := hb1.size; simp at this; omega
      have d1 : w1.cell? ⟨b, off + 1, none⟩ = some (.int .i64 K) := (hb1.cell (p := ⟨b, off + 1, none⟩) (by simp; omega)).trans HC2.out
      have e0 : w1.cell? ⟨w.heap.size, 0, none⟩ = some (.int .i64 c) := by rw [hb1.cell (p := ⟨w.heap.size, 0, none⟩) (by simp)]; simp
      have e1 : w1.cell? ⟨w.heap.size, 1, none⟩ = some (.slice (some ⟨b, off, none⟩) n cap) := by rw [hb1.cell (p := ⟨w.heap.size, 1, none⟩) (by simp)]; simp
      have HB1 := Lib.hid (HB.out.trans (hb1.mono (by simp)))
      clear hb1 HC2
      go_wp2_with fail
      go_ret
      exact ⟨rfl, HB1.out⟩
    · have h2 : (gAt l n == 1) = false := by simpa using h1
      rw [decide_eq_false h1, Bool.false_and]
      generalize gAt l n = g at hg h2
      clear hr hs hl hn h1 hb0
      go_enter Try.func64, Try.ntmps64
      go_wp2_with fail
      refine hg.out.mono ?_
      rintro e w1 ⟨rfl, hb1⟩
      go_wp2_with fail
      go_ret
      exact ⟨rfl, HB.out.trans (hb1.mono (by simp))⟩
end Go.Proofs.Ytknagcednppokaa

namespace Go.Proofs.Ytknagcednppokaa
open Go.RowKit

/-- The cells of a list of terms. -/
def flat (l : List (Int × Int)) : List Value := l.flatMap fun m => [.int .i64 m.1, .int .i64 m.2]
theorem flat_len (l : List (Int × Int)) : (flat l).length = l.length * 2 := by
  induction l with
  | nil => rfl
  | cons a r ih => simp [flat] at ih ⊢; omega
theorem flat_append (l r : List (Int × Int)) : flat (l ++ r) = flat l ++ flat r := by simp [flat]
theorem flat_one (v k : Int) : flat [(v, k)] = [.int .i64 v, .int .i64 k] := rfl
theorem flat_get : ∀ (l : List (Int × Int)) (i : Nat), i < l.length → (flat l)[i * 2]? = some (.int .i64 (l.getD i (0, 0)).1) ∧ (flat l)[i * 2 + 1]? = some (.int .i64 (l.getD i (0, 0)).2)
  | a :: r, 0, _ => ⟨rfl, rfl⟩
  | a :: r, i + 1, h => by
    have := flat_get r i (by simpa using h)
    have e : flat (a :: r) = .int .i64 a.1 :: .int .i64 a.2 :: flat r := rfl
    rw [e, show (i + 1) * 2 = i * 2 + 1 + 1 by omega]
    simpa using this

/-- A result that is a list of the call's own. -/
def Row (B : Nat) (l : List (Int × Int)) (v : Value) (w : World) : Prop := w.ownsRow B 51 2 v l.length (flat l)

theorem Row.lies {B : Nat} {l : List (Int × Int)} {v : Value} {w : World} (h : Row B l v w) : ∃ a cap, v = .slice a l.length cap ∧ Lies w.heap.size w a l ∧ (a = none → l.length = 0 ∧ cap = 0) := by
  have hc := fun g => World.ownsRow.cells h (g := g)
  have hlt := World.ownsRow.lt h
  obtain ⟨_, h1 | ⟨g, cap, cur, hv, h2⟩⟩ := h
  · refine ⟨none, 0, by rw [h1.1, h1.2], fun i hi => by omega, fun _ => ⟨h1.2, rfl⟩⟩
  · subst hv
    refine ⟨some ⟨g, 0, none⟩, cap, rfl, fun i hi => ⟨g, 0, rfl, (hlt g rfl).2, ?_, ?_⟩, fun e => by cases e⟩
    · have := hc g rfl (i * 2) _ (flat_get l i hi).1
      rwa [show (⟨g, 0, none⟩ : Addr).add (i * 2) = ⟨g, 0 + i * 2, none⟩ by unfold Addr.add; split <;> simp_all] at this
    · have := hc g rfl (i * 2 + 1) _ (flat_get l i hi).2
      rwa [show (⟨g, 0, none⟩ : Addr).add (i * 2 + 1) = ⟨g, 0 + i * 2 + 1, none⟩ by unfold Addr.add; simp] at this

theorem Try.infoMono : (Try.prog.info? 51).map (fun i => (i.zero, i.size, i.bytes)) = some (some (.agg #[.int .i64 0, .int .i64 0]), 2, 16) := by kernel_rfl

/-- The cells of a list that lies in memory, one behind the other. -/
theorem Lies.news {B : Nat} {w : World} {a : Addr} {l : List (Int × Int)} (h : Lies B w (some a) l) : ∀ j u, (flat l)[j]? = some u → w.cell? (a.add j) = some u := by
  intro j u hj
  have hjl : j < l.length * 2 := by rw [← flat_len]; exact (List.getElem?_eq_some_iff.1 hj).1
  obtain ⟨b, off, ha, _, h1, h2⟩ := h (j / 2) (by omega)
  injection ha with ha
  subst ha
  have hg := flat_get l (j / 2) (by omega)
  rcases Nat.mod_two_eq_zero_or_one j with hm | hm
  · have e : j / 2 * 2 = j := by omega
    rw [e] at hg h1
    rw [hg.1] at hj
    injection hj with hj
    subst hj
    unfold Addr.add
    split
    · rename_i h0; subst h0; simpa using h1
    · exact h1
  · have e : j / 2 * 2 + 1 = j := by omega
    rw [Nat.add_assoc, e] at h2
    rw [e] at hg
    rw [hg.2] at hj
    injection hj with hj
    subst hj
    unfold Addr.add
    rw [if_neg (by omega)]
    exact h2
theorem flat_cells (l : List (Int × Int)) : ∀ u ∈ flat l, u.oneCell' = true := by
  intro u hu
  simp only [flat, List.mem_flatMap] at hu
  obtain ⟨m, _, hm⟩ := hu
  simp at hm
  rcases hm with rfl | rfl <;> rfl

def RowEnd (B : Nat) (l : List (Int × Int)) (w : World) (e : Ending) (w' : World) : Prop := ∃ v, e = .returned v ∧ Row B l v w' ∧ Below B w w'

theorem take_snoc (l : List (Int × Int)) (k : Nat) (h : k < l.length) : l.take (k + 1) = l.take k ++ [l.getD k (0, 0)] := by
  rw [List.take_succ_eq_append_getElem h]
  simp [List.getD_eq_getElem?_getD, h]

theorem Row.alloc {B : Nat} {l : List (Int × Int)} {v : Value} {w : World} (h : Row B l v w) (o : Obj) : Row B l v (w.alloc o) := World.ownsRow.alloc h o

/-- A new block of a term's two cells. -/
theorem cell_two_new' (w : World) (x y : Value) (t : TypeId) : ∀ j u, [x, y][j]? = some u → (w.alloc (.cells #[x, y] t)).cell? ((⟨w.heap.size, 0, none⟩ : Addr).add j) = some u := by
  intro j u hj
  match j, hj with
  | 0, hj => simp at hj; subst hj; simp [Addr.add]
  | 1, hj => simp at hj; subst hj; simp [Addr.add]

set_option maxHeartbeats 800000 in
theorem drop_any (a : Option Addr) (n cap : Nat) (l : List (Int × Int)) (w : World) (hn : l.length = n) (hm : n ≤ 8192) (hl : Lies w.heap.size w a l) :
    Calls Try.prog 71 #[.slice a n cap] w (RowEnd w.heap.size (l.filter fun m => m.2 != 0) w) := by
  obtain ⟨i0, hi, hz0, hz1, hz2⟩ := info_parts Try.infoMono
  have HN := Lib.hid hn
  have HL := Lib.hid hl
  clear hn hl
  go_enter Try.func71, Try.ntmps71
  go_wp2
  go_loopw [3, 8] (fun s i wr => ∃ k : Nat, k ≤ n ∧ i = .int .i64 k ∧ Hid (Row w.heap.size ((l.take k).filter fun m => m.2 != 0) s wr) ∧ Below w.heap.size w wr) (fun _ i _ => n - (intOf i).toNat)
  case atStart => exact ⟨0, Nat.zero_le _, rfl, World.ownsRow_nil _ _ _ _, Below.refl _ _⟩
  case round =>
    obtain ⟨k, hk, rfl, hrow, hb⟩ := hrel
    by_cases hlt : k < n
    · obtain ⟨b, off, rfl, hblt, c1, c2⟩ := (HL.out.below hb) k (by rw [HN.out]; exact hlt)
      have hts := take_snoc l k (by rw [HN.out]; exact hlt)
      have hlen : ((l.take k).filter fun m => m.2 != 0).length ≤ k := Nat.le_trans (List.length_filter_le _ _) (by rw [List.length_take]; omega)
      generalize hg : l.getD k (0, 0) = m at c1 c2 hts
      obtain ⟨v, u⟩ := m
      by_cases hu : u = 0
      · have HT : Hid ((l.take (k + 1)).filter (fun m => m.2 != 0) = (l.take k).filter fun m => m.2 != 0) := by
          show _ = _; rw [hts, List.filter_append]; simp [hu]
        subst hu
        clear hts hg
        have hrow2 : Hid (Row w.heap.size ((l.take (k + 1)).filter fun m => m.2 != 0) u3 wr) := by show Row _ _ _ _; rw [HT.out]; exact hrow.out
        go_wp2
        go_roundw
        case rel => exact ⟨k + 1, by omega, by go_num, hrow2.out.alloc _, hb.alloc hb.size _⟩
        case measure => simp [intOf]; omega
      · have hu2 : (u != 0) = true := by simpa using hu
        have HT : Hid ((l.take (k + 1)).filter (fun m => m.2 != 0) = ((l.take k).filter fun m => m.2 != 0) ++ [(v, u)]) := by
          show _ = _; rw [hts, List.filter_append]; simp [hu]
        generalize (l.take k).filter (fun m => m.2 != 0) = r at hrow hlen HT
        clear hts hg
        go_wp2_with (at_builtin; refine wpList_append_own _ rfl _ _ 22 rfl w.heap.size 51 i0 _ 2 16 Try.underlying22 hi hz0 hz1 hz2 rfl (by decide) u3 r.length (flat r) rfl ((hrow.out.alloc _).alloc _) ⟨wr.heap.size + 1, 0, none⟩ 1 1 [.int .i64 v, .int .i64 u] rfl rfl ?c2 ?c3 ?c4 ?c5 ?c6 ?_)
        case c3 => exact ⟨rfl, rfl⟩
        case c4 => unfold maxLen; omega
        case c5 => omega
        case c6 => have := hb.size; simp; omega
        intro v' w1 hown' hgrow _
        have HO : Hid (Row w.heap.size ((l.take (k + 1)).filter fun m => m.2 != 0) v' w1) := by
          show Row _ _ _ _
          rw [HT.out]
          unfold Row
          rw [List.length_append, flat_append]
          exact hown'
        have HB : Below w.heap.size w w1 := ((hb.alloc hb.size _).alloc (by have := hb.size; simp; omega) _).grown hgrow (by have := hb.size; simp; omega) (fun k hk => (World.ownsRow.lt hrow.out k hk).1)
        clear hown' hgrow hrow
        go_wp2
        go_roundw
        case rel => exact ⟨k + 1, by omega, by go_num, HO, HB⟩
        case measure => simp [intOf]; omega
    · have HT : Hid (Row w.heap.size (l.filter fun m => m.2 != 0) u3 wr) := by
        have := hrow.out
        rwa [List.take_of_length_le (by rw [HN.out]; omega)] at this
      clear hrow
      go_wp2
      go_ret
      exact ⟨_, rfl, HT.out, hb⟩
end Go.Proofs.Ytknagcednppokaa
